/- Texts put together: PlMake, PlDecl, PlBad, PlEach, VlOps, Same, Few, Copied, Copies, VlSum, VlParts, VlParts2, VlRow, VlEvalErr, VlMaker, VlOps2, HalfTrim, Split, DivShort, Join, TimesPlus, TimesHalves, TimesWalk, DivSmall, Times, VlOps3, VlOps4. -/
import Derived.Test.YtckkpolikdnilaaGreatDoorValueEvalsCardM2
import Derived.Deep.DeepCutAuto
import Derived.Deep.RegionHeld3
import Derived.Deep.AppendLies
import Derived.BigQuiet
import Derived.Deep.QuietTactic
import Derived.Laws.BitsAll
/- (*pool.Pool).Make: the rows then, and the term's number. -/
namespace Go.Proofs.YtckkpolikdnilaaGreatDoor
open Go.RowKit Big Go.WideMaps

/-- a row of one item in a block of its own, that is none of S -/
def wRow {S : Nat → Prop} (c : List Value) (t : TypeId) : WFact S := ⟨fun v w => ∃ gg, v = .slice (some ⟨gg, 0, none⟩) 1 1 ∧ w.heap[gg]? = some (.cells c.toArray t (0, 0)) ∧ ¬ S gg,
  fun _ _ _ ⟨gg, h1, h2, h3⟩ hb => ⟨gg, h1, (hb.block gg (lt_of_block h2) h3).trans h2, h3⟩⟩
theorem cells_at {w : World} {g : Nat} {t : TypeId} {c : List Value} (h : w.heap[g]? = some (.cells c.toArray t (0, 0))) : ∀ j u, c[j]? = some u → w.cell? ((⟨g, 0, none⟩ : Addr).add j) = some u := by
  intro j u hj
  rw [Go.WideShapes.add_plain, cell_of_row w g _ _ t (0, 0) h, Nat.zero_add]
  simpa using hj
/-- a row that an append has answered: in the block of the row that was there, or in a new one -/
def RowJ (e : TypeId) (size n : Nat) (xs : List Value) (vo : Value) (N : Nat) (v : Value) (w : World) : Prop := w.ownsRow 0 e size v n xs ∧ (v.ownBlock = vo.ownBlock ∨ ∀ k, v.ownBlock = some k → N ≤ k)
theorem RowJ.below {e : TypeId} {size n N : Nat} {xs : List Value} {vo v : Value} {w w' : World} (h : RowJ e size n xs vo N v w) (hb : Below w.heap.size w w') : RowJ e size n xs vo N v w' := ⟨ownsRow_later h.1 hb, h.2⟩
theorem infoTerm : (Tryz.prog.info? 71).map (fun i => (i.zero, i.size, i.bytes)) = some (some (.agg #[.int .i64 0, .slice none 0 0, .bool false, .slice none 0 0, .int .i64 0]), 5, 72) := by kernel_rfl
def RMk (S : Nat → Prop) (g : Nat) (r : Po × Int × Int) (w : World) (e : Ending) (w' : World) : Prop := e = .returned (.tuple #[.int .i64 r.2.1, .int .i64 r.2.2]) ∧ ∃ S', PoAt w' S' g r.1 ∧ (∀ k, S' k → S k ∨ w.heap.size ≤ k) ∧ Apart S w w'
theorem five_all {w : World} {g : Nat} {a b c d e : Value} {t : TypeId} (h : w.heap[g]? = some (.cells #[a, b, c, d, e] t (0, 0))) :
    (w.cell? ⟨g, 0, none⟩ = some a ∧ w.cell? ⟨g, 1, none⟩ = some b ∧ w.cell? ⟨g, 2, none⟩ = some c ∧ w.cell? ⟨g, 3, none⟩ = some d ∧ w.cell? ⟨g, 4, none⟩ = some e) ∧ ((∀ j, w.frozen? ⟨g, j, none⟩ = false) ∧ True) :=
  ⟨five_cells h, fun j => frozen_of_row w g j _ _ h, trivial⟩
theorem set5_heap {w : World} {g b : Nat} (hb : b ≠ g) {u0 u1 u2 u3 u4 : Value} : (((((w.setCell ⟨g, 0, none⟩ u0).setCell ⟨g, 1, none⟩ u1).setCell ⟨g, 2, none⟩ u2).setCell ⟨g, 3, none⟩ u3).setCell ⟨g, 4, none⟩ u4).heap[b]? = w.heap[b]? := by
  rw [heap_setCell_other _ ⟨g, 4, none⟩ b _ hb, heap_setCell_other _ ⟨g, 3, none⟩ b _ hb, heap_setCell_other _ ⟨g, 2, none⟩ b _ hb, heap_setCell_other _ ⟨g, 1, none⟩ b _ hb, heap_setCell_other _ ⟨g, 0, none⟩ b _ hb]
theorem set5_same {w : World} {g : Nat} {a b c d e : Value} {t : TypeId} (h : w.heap[g]? = some (.cells #[a, b, c, d, e] t (0, 0))) (u0 u1 u2 u3 u4 : Value) :
    (((((w.setCell ⟨g, 0, none⟩ u0).setCell ⟨g, 1, none⟩ u1).setCell ⟨g, 2, none⟩ u2).setCell ⟨g, 3, none⟩ u3).setCell ⟨g, 4, none⟩ u4).heap[g]? = some (.cells #[u0, u1, u2, u3, u4] t (0, 0)) := by
  have := heap_setCell_same _ g 4 _ _ u4 (heap_setCell_same _ g 3 _ _ u3 (heap_setCell_same _ g 2 _ _ u2 (heap_setCell_same _ g 1 _ _ u1 (heap_setCell_same w g 0 _ _ u0 h))))
  simpa using this
theorem Tb.at {B : Nat} {w w' : World} (h : Tb B w) (hb : Below B w w') (hB : B ≤ w'.heap.size) : Tb w'.heap.size w' := fun w2 h2 => h w2 (hb.trans (h2.mono hB))

set_option maxRecDepth 100000 in
set_option maxHeartbeats 12800000 in
theorem Make_any (B : Nat) (S : Nat → Prop) (g : Nat) (p : Po) (t : Tm) (v : Value) (w : World) (h : PoAt w S g p) (hB : B ≤ w.heap.size) (htab : Tb B w) (ht : TmRaw w v t) (hla : t.args.length ≤ 1099511627776) :
    Calls Tryz.prog 72 #[.pointer (some ⟨g, 0, none⟩), v] w (RMk S g (plMake p t) w) := by
  have Hpt := hid ht
  have Hpo := hid h
  have Htab := hid htab
  have hszt : sz W t.num.natAbs ≤ 1099511627776 := by obtain ⟨pa, ca, b, pm, nm, cm, -, -, hr⟩ := ht; exact hr.sz
  obtain ⟨pa, ca, b, pm, nm, cm, rfl, -, -⟩ := ht
  have bx := heap_alloc_new w (.cells #[.int .i64 t.op, .slice pa t.args.length ca, .bool b, .slice pm nm cm, .int .i64 t.sym] 71)
  have b0 := below1 w (.cells #[.int .i64 t.op, .slice pa t.args.length ca, .bool b, .slice pm nm cm, .int .i64 t.sym] 71)
  have q0 := cell_new5 w (.int .i64 t.op) (.slice pa t.args.length ca) (.bool b) (.slice pm nm cm) (.int .i64 t.sym) 71
  have hs0 := size_alloc w (.cells #[.int .i64 t.op, .slice pa t.args.length ca, .bool b, .slice pm nm cm, .int .i64 t.sym] 71)
  obtain ⟨r, hr⟩ : ∃ r, r = plMake p t := ⟨_, rfl⟩
  rw [← hr]
  have Hr := hid hr
  have hw := fun w' hb => wrong_any g p t _ w' (Hpo.out.rd.below (w' := w') hb) (Hpt.out.below hb)
  generalize her : plWrong p t = er at hw
  have Her := hid her
  have Hw := hid hw
  clear h hr hw her htab
  go_enter Tryz.func72, Tryz.ntmps72
  go_wp2_with fail
  generalize hW : (w.alloc (.cells #[.int .i64 t.op, .slice pa t.args.length ca, .bool b, .slice pm nm cm, .int .i64 t.sym] 71)) = W0 at *
  clear hW
  refine (Hw.out _ b0).mono ?_
  rintro e w1 ⟨rfl, b1⟩
  have bw1 := bel_go b1 b0
  cases hx : (er != 0)
  case true =>
    have Hx := hid hx
    clear q0 bx
    go_wp2
    go_ret2
    have hne : plWrong p t ≠ 0 := by rw [Her.out]; simpa using Hx.out
    exact ⟨by rw [Hr.out, plMake_bad hne, Her.out]; rfl, S, by rw [Hr.out, plMake_bad hne]; exact Hpo.out.below bw1, fun k h => .inl h, Apart.of_below bw1⟩
  case false =>
    have hz : plWrong p t = 0 := by rw [Her.out]; simpa using hx
    have Hz := hid hz
    have bx1 := (b1.block w.heap.size (by omega)).trans bx
    have q1 := five_cells bx1
    have hz1 := b1.size
    have Hown := hid (ownTerm_any t _ w1 (Hpt.out.below bw1) hla)
    clear q0 bx hz Hw
    obtain ⟨x0, x1, x2, x3, x4⟩ := q1
    go_wp2_with fail
    refine Hown.out.mono ?_
    rintro e w2 ⟨v2, rfl, hT, b2⟩
    obtain ⟨pa2, ca2, pm2, nm2, cm2, rfl, ho2, hn2⟩ := hT
    have bx2 := (b2.block w.heap.size (by omega)).trans bx1
    have q2 := five_all bx2
    obtain ⟨⟨x0, x1, x2, x3, x4⟩, fz, -⟩ := q2
    have f0 := fz 0; have f1 := fz 1; have f2 := fz 2; have f3 := fz 3; have f4 := fz 4
    clear fz Hown
    go_upto_region 7 with fail
    clear x0 x1 x2 x3 x4 f0 f1 f2 f3 f4
    have bx3 := set5_same bx2 (.int .i64 t.op) (.slice pa2 t.args.length ca2) (.bool (decide (t.num < 0))) (.slice pm2 nm2 cm2) (.int .i64 t.sym)
    have E3 : ∀ k, k ≠ w.heap.size → (((((w2.setCell ⟨w.heap.size, 0, none⟩ (.int .i64 t.op)).setCell ⟨w.heap.size, 1, none⟩ (.slice pa2 t.args.length ca2)).setCell ⟨w.heap.size, 2, none⟩ (.bool (decide (t.num < 0)))).setCell ⟨w.heap.size, 3, none⟩ (.slice pm2 nm2 cm2)).setCell ⟨w.heap.size, 4, none⟩ (.int .i64 t.sym)).heap[k]? = w2.heap[k]? := fun k hk => set5_heap hk
    have b3 : Below w.heap.size w (((((w2.setCell ⟨w.heap.size, 0, none⟩ (.int .i64 t.op)).setCell ⟨w.heap.size, 1, none⟩ (.slice pa2 t.args.length ca2)).setCell ⟨w.heap.size, 2, none⟩ (.bool (decide (t.num < 0)))).setCell ⟨w.heap.size, 3, none⟩ (.slice pm2 nm2 cm2)).setCell ⟨w.heap.size, 4, none⟩ (.int .i64 t.sym)) := (((((bel_go b2 bw1).setCell (p := ⟨w.heap.size, 0, none⟩) (Nat.le_refl _) _).setCell (p := ⟨w.heap.size, 1, none⟩) (Nat.le_refl _) _).setCell (p := ⟨w.heap.size, 2, none⟩) (Nat.le_refl _) _).setCell (p := ⟨w.heap.size, 3, none⟩) (Nat.le_refl _) _).setCell (p := ⟨w.heap.size, 4, none⟩) (Nat.le_refl _) _
    have hz3 : (((((w2.setCell ⟨w.heap.size, 0, none⟩ (.int .i64 t.op)).setCell ⟨w.heap.size, 1, none⟩ (.slice pa2 t.args.length ca2)).setCell ⟨w.heap.size, 2, none⟩ (.bool (decide (t.num < 0)))).setCell ⟨w.heap.size, 3, none⟩ (.slice pm2 nm2 cm2)).setCell ⟨w.heap.size, 4, none⟩ (.int .i64 t.sym)).heap.size = w2.heap.size := by simp [World.setCell]
    generalize hW3 : (((((w2.setCell ⟨w.heap.size, 0, none⟩ (.int .i64 t.op)).setCell ⟨w.heap.size, 1, none⟩ (.slice pa2 t.args.length ca2)).setCell ⟨w.heap.size, 2, none⟩ (.bool (decide (t.num < 0)))).setCell ⟨w.heap.size, 3, none⟩ (.slice pm2 nm2 cm2)).setCell ⟨w.heap.size, 4, none⟩ (.int .i64 t.sym)) = W3 at *
    have hlow : w.heap.size < w1.heap.size := by omega
    have ho3 : W3.ownsRow w1.heap.size 3 1 (.slice pa2 t.args.length ca2) t.args.length (zints t.args) := row_stays ho2 fun k hk => E3 k (by have := (World.ownsRow.lt ho2 k hk).1; omega)
    have hn3 : Own W3 w1.heap.size 94 .u64 (.slice pm2 nm2 cm2) (dig W t.num.natAbs) := row_stays hn2 fun k hk => E3 k (by have := (World.ownsRow.lt hn2 k hk).1; omega)
    have hT3 : TmTold w1.heap.size W3 (.agg #[.int .i64 t.op, .slice pa2 t.args.length ca2, .bool (decide (t.num < 0)), .slice pm2 nm2 cm2, .int .i64 t.sym]) t := ⟨pa2, ca2, pm2, nm2, cm2, rfl, ho3, hn3⟩
    have htx := textOf_any w1.heap.size t _ W3 hT3 hla hszt (Htab.out.at (b3.mono hB) (Nat.le_trans hB b3.size)) (fields_range Hpo.out.2.1 Hz.out hszt)
    have Htx := hid htx
    have q3 := five_cells bx3
    have Ho3 := hid ho3; have Hn3 := hid hn3
    clear htx hT3 bx2 bx1 ho2 hn2 hW3 E3 ho3 hn3
    obtain ⟨x0, x1, x2, x3, x4⟩ := q3
    go_wp2_with fail
    refine Htx.out.mono ?_
    rintro e w4 ⟨rfl, b4⟩
    clear x0 x1 x2 x3 x4 Htx
    have bw4 := bel_go b4 b3
    have hsb := b2.size
    have bx4 := (b4.block w.heap.size (by omega)).trans bx3
    have Ho4 := hid (ownsRow_later Ho3.out b4); have Hn4 := hid (Hn3.out.kept b4)
    have h4 := Hpo.out.below bw4
    obtain ⟨⟨vs, vt, vo, mn, mk, cs, H4⟩, hok, hSlt⟩ := h4
    have HH4 := hid H4
    have Hok := hid hok
    have HS4 := hid Hpo.out.2.2
    have hTx : (plText t).length ≤ maxLen := by
      have := plText_len t hla hszt (fields_range hok Hz.out hszt)
      unfold maxLen; omega
    have hhas := fun w' hb => has_any 0 mk (plTexts p) (plText t) w' (H4.texts.1.below (w' := w') hb) hTx
    rw [texts_contains] at hhas
    have Hhas := hid hhas
    have q4 := five_cells H4.cell
    have HTx := hid hTx
    have hz4 := b4.size
    clear b4 b3 Ho3 Hn3 bx3 hhas H4 hok hSlt hTx
    obtain ⟨x0, x1, x2, x3, x4⟩ := q4
    cases hf : plFind p.terms t with
    | some k =>
      have Hf := hid hf
      rw [hf] at Hhas
      simp only [Option.isSome_some] at Hhas
      have hkk := plFind_some hf
      obtain ⟨hk, hke⟩ := hkk
      have hkt : k < (plTexts p).length := by simp [plTexts]; exact hk
      have hkx : (plTexts p)[k] = plText t := by simp [plTexts, hke]
      have hlook : (Instr.lookup 117 (.map mk) (.string ⟨(plText t).toArray⟩) false).run Tryz.prog w4 = .ok (.int .i64 (k : Nat)) w4 := by
        rcases HH4.out.texts.1 with ⟨-, h2⟩ | ⟨b', rfl, -, hm⟩
        · rw [h2] at hkt; simp at hkt
        · obtain ⟨c, hrun, hat, -⟩ := hm.lookup_int (Maps.string_keyed Tryz.underlying9) Tryz.underlying117 Tryz.underlying3 (zeroInt _) (key_of (plText t) HTx.out)
          rw [← hkx, mapD_at _ (texts_nodup Hok.out) k hkt] at hat
          injection hat with hat
          injection hat with _ hat
          rw [hat]; exact hrun
      clear hf hkx hkt hke hk
      go_wp2_with (refine (Hhas.out _ (Below.refl _ _)).mono ?_; rintro e w4 ⟨rfl, rfl⟩)
      go_ret2
      exact ⟨by rw [Hr.out, plMake_there Hz.out Hf.out]; rfl, S, by rw [Hr.out, plMake_there Hz.out Hf.out]; exact Hpo.out.below bw4, fun k h => .inl h, Apart.of_below bw4⟩
    | none =>
      have Hf := hid hf
      rw [hf] at Hhas
      simp only [Option.isSome_none] at Hhas
      obtain ⟨pt, cpt, evt⟩ := ownsRow_shape HH4.out.terms
      cases hfull : ((p.terms.length : Int) == 4096)
      case true =>
        have Hfl := hid (show p.terms.length = 4096 by simp at hfull; omega)
        subst evt
        clear hf
        go_wp2_with (refine (Hhas.out _ (Below.refl _ _)).mono ?_; rintro e w4 ⟨rfl, rfl⟩)
        go_ret2
        exact ⟨by rw [Hr.out, plMake_full Hz.out Hf.out Hfl.out]; rfl, S, by rw [Hr.out, plMake_full Hz.out Hf.out Hfl.out]; exact Hpo.out.below bw4, fun k h => .inl h, Apart.of_below bw4⟩
      case false =>
        have hfl : p.terms.length ≠ 4096 := by simp at hfull; omega
        have Hfl := hid hfl
        have Hevt := hid evt
        subst evt
        clear hf hfl
        go_upto_region 13 with (refine (Hhas.out _ (Below.refl _ _)).mono ?_; rintro e w4 ⟨rfl, rfl⟩)
        clear x0 x1 x2 x3 x4 hfull
        have S5 : PoParts w4 (Wide S w.heap.size) g p (plNames p) (plTexts p) vs (.slice pt p.terms.length cpt) vo mn mk cs := HH4.out.stays (fun k h => .inl h) (fun _ _ _ => rfl)
        have HS5 := hid S5
        have Hvlt : Hid (∀ k, vo.ownBlock = some k → k < w4.heap.size) := hid fun k hk => (World.ownsRow.lt S5.sorts k hk).2
        have Hrow := hid S5.sorts
        have hvN : vo.ownBlock ≠ some w.heap.size := fun e => tag_ne bx4 (row_tag S5.sorts _ e).choose_spec (by decide) rfl
        have hvg : vo.ownBlock ≠ some g := fun e => row_ne S5.sorts S5.cell (by decide) g e rfl
        have HS : Hid (∀ w', Apart (fun k => vo.ownBlock = some k) w4 w' → (w'.cell? ⟨g, 0, none⟩ = some vs ∧ w'.cell? ⟨g, 1, none⟩ = some (.slice pt p.terms.length cpt) ∧ w'.cell? ⟨g, 2, none⟩ = some vo ∧ w'.cell? ⟨g, 3, none⟩ = some (.map mn) ∧ w'.cell? ⟨g, 4, none⟩ = some (.map mk)) ∧ ((∀ j, w'.frozen? ⟨g, j, none⟩ = false) ∧ True) ∧
            (w'.cell? ⟨w.heap.size, 0, none⟩ = some (.int .i64 t.op) ∧ w'.cell? ⟨w.heap.size, 1, none⟩ = some (.slice pa2 t.args.length ca2) ∧ w'.cell? ⟨w.heap.size, 2, none⟩ = some (.bool (decide (t.num < 0))) ∧ w'.cell? ⟨w.heap.size, 3, none⟩ = some (.slice pm2 nm2 cm2) ∧ w'.cell? ⟨w.heap.size, 4, none⟩ = some (.int .i64 t.sym))) := fun w' ha => by
          have h1 := five_all ((ha.block g S5.lt hvg).trans S5.cell)
          exact ⟨h1.1, h1.2, five_cells ((ha.block w.heap.size (lt_of_block bx4) hvN).trans bx4)⟩
        have hszn : p.sorts.length ≤ 4096 := by have := Hok.out.sorts; have := Hok.out.terms; omega
        have Hrd := hid (S5.rd Hok.out.terms Hok.out.syms Hok.out.sorts)
        have hraw4 : TmRaw w4 (.agg #[.int .i64 t.op, .slice pa2 t.args.length ca2, .bool (decide (t.num < 0)), .slice pm2 nm2 cm2, .int .i64 t.sym]) t := ⟨pa2, ca2, _, pm2, nm2, cm2, rfl, IAt.own (ownsRow_mono Ho4.out (Nat.zero_le _)), IntAt.raw ⟨_, rfl, Hn4.out.at⟩ hszt⟩
        have Hraw := hid hraw4
        obtain ⟨i0, hii, hiz0, hiz1, hiz2⟩ := elemInts.row
        have hns := (plWrong_zero Hz.out).2.1
        have Hns := hid hns
        have Hite := hid (iteIn_of p t (plWrong_zero Hz.out).2.2.1 (plWrong_zero Hz.out).2.2.2.1)
        have Hb4 := hid bx4; have Hbw4 := hid bw4
        clear S5 hvN hvg hraw4 hns Hhas bx4 bw4
        refine wp_region_write (w0 := w4) 12 1 [44, 45, 46, 47, 48, 49, 50, 51, 52, 53, 54, 55] [undef, undef, undef, undef, undef, undef, undef, undef, undef, undef, undef, undef] (S := (fun k => vo.ownBlock = some k))
          (fun i => match i with | 0 => wEq (.pointer (some ⟨g, 0, none⟩)) | 1 => wEq (.pointer (some ⟨g, 0, none⟩)) | 2 => wEq (.pointer (some ⟨g, 0, none⟩)) | 3 => wEq (.pointer (some ⟨g, 2, none⟩)) | 4 => wEq vo | 5 => wEq (.pointer (some ⟨g, 0, none⟩)) | 6 => wEq (.agg #[.int .i64 t.op, .slice pa2 t.args.length ca2, .bool (decide (t.num < 0)), .slice pm2 nm2 cm2, .int .i64 t.sym]) | 7 => wEq (.int .i64 (plSort p t)) | 8 => wRow [.int .i64 (plSort p t)] 3 | 9 => wAny | 10 => wEq (.pointer (some ⟨g, 0, none⟩)) | _ => wEq (.pointer (some ⟨g, 2, none⟩))) 9 (RowJ 3 1 (p.sorts.length + 1) ((zints p.sorts) ++ [.int .i64 (plSort p t)]) vo w4.heap.size) (fun _ _ _ h hb => h.below hb) (by kernel_rfl) (by kernel_rfl) (by kernel_rfl) (by kernel_rfl) (by decide) rfl (by kernel_rfl) rfl (by decide) ?he1 ?_ ?_
        case he1 => simp only [putAll, Act.put, List.setIfInBounds_toArray, List.set_cons_zero, List.set_cons_succ]
        · intro i o hi ho vs wx hvl hb hB hdep K hK
          have hvs := vlen12 hvl
          obtain ⟨s44, s45, s46, s47, s48, s49, s50, s51, s52, s53, s54, s55, rfl⟩ := hvs
          clear hvl
          have hk := HS.out wx hb
          obtain ⟨⟨q0, q1, q2, q3, q4⟩, -, hbox⟩ := hk
          go_split_ands
          rcases i with _ | _ | _ | _ | _ | _ | _ | _ | _ | _ | _ | _ | i
          all_goals (simp only [List.getElem?_toArray, List.getElem?_cons_zero, List.getElem?_cons_succ, Option.some.injEq] at ho)
          all_goals try (subst ho)
          all_goals try simp only [putAll, Act.put, List.setIfInBounds_toArray, List.set_cons_zero, List.set_cons_succ]
          · go_simp
            have hK' := hK.out
            simp only [putAll, Act.put, List.setIfInBounds_toArray, List.set_cons_zero, List.set_cons_succ] at hK'
            exact hK' _ _ rfl (fun _ => Below.refl _ _) (fun h => absurd h (by decide))
          · go_simp
            have hK' := hK.out
            simp only [putAll, Act.put, List.setIfInBounds_toArray, List.set_cons_zero, List.set_cons_succ] at hK'
            exact hK' _ _ rfl (fun _ => Below.refl _ _) (fun h => absurd h (by decide))
          · have e1 : s45 = _ := hdep ⟨1, .data⟩ (by simp) rfl
            have e1 := e1.symm
            subst e1
            go_simp
            have hK' := hK.out
            simp only [putAll, Act.put, List.setIfInBounds_toArray, List.set_cons_zero, List.set_cons_succ] at hK'
            exact hK' _ _ rfl (fun _ => Below.refl _ _) (fun h => absurd h (by decide))
          · have e2 : s46 = _ := hdep ⟨2, .data⟩ (by simp) rfl
            have e2 := e2.symm
            subst e2
            go_simp
            have hK' := hK.out
            simp only [putAll, Act.put, List.setIfInBounds_toArray, List.set_cons_zero, List.set_cons_succ] at hK'
            exact hK' _ _ rfl (fun _ => Below.refl _ _) (fun h => absurd h (by decide))
          · have e3 : s47 = _ := hdep ⟨3, .data⟩ (by simp) rfl
            have e3 := e3.symm
            subst e3
            go_simp
            have hK' := hK.out
            simp only [putAll, Act.put, List.setIfInBounds_toArray, List.set_cons_zero, List.set_cons_succ] at hK'
            exact hK' _ _ rfl (fun _ => Below.refl _ _) (fun h => absurd h (by decide))
          · go_simp
            have hK' := hK.out
            simp only [putAll, Act.put, List.setIfInBounds_toArray, List.set_cons_zero, List.set_cons_succ] at hK'
            exact hK' _ _ rfl (fun _ => Below.refl _ _) (fun h => absurd h (by decide))
          · go_simp
            have hK' := hK.out
            simp only [putAll, Act.put, List.setIfInBounds_toArray, List.set_cons_zero, List.set_cons_succ] at hK'
            exact hK' _ _ rfl (fun _ => Below.refl _ _) (fun h => absurd h (by decide))
          · have e5 : s49 = _ := hdep ⟨5, .data⟩ (by simp) rfl
            have e5 := e5.symm
            subst e5
            have e6 : s50 = _ := hdep ⟨6, .data⟩ (by simp) rfl
            have e6 := e6.symm
            subst e6
            have hbB := hB (Or.inr (by kernel_rfl))
            go_simp
            refine (sortOf_any g p t _ _ (Hrd.out.below hbB) (Hraw.out.below hbB) Hns.out Hite.out).mono ?_
            rintro e wy ⟨rfl, hby⟩
            go_wp2_with fail
            have hK' := hK.out
            simp only [putAll, Act.put, List.setIfInBounds_toArray, List.set_cons_zero, List.set_cons_succ] at hK'
            exact hK' _ _ rfl (fun _ => hby) (fun h => absurd h (by decide))
          · have e7 : s51 = _ := hdep ⟨7, .data⟩ (by simp) rfl
            have e7 := e7.symm
            subst e7
            go_simp
            have hK' := hK.out
            simp only [putAll, Act.put, List.setIfInBounds_toArray, List.set_cons_zero, List.set_cons_succ] at hK'
            exact hK' _ _ ⟨_, rfl, heap_alloc_new _ _, fun e => by have := Hvlt.out _ e; have := hb.size; omega⟩ (fun _ => below1 _ _) (fun h => absurd h (by decide))
          · have e4 : s48 = _ := hdep ⟨4, .data⟩ (by simp) rfl
            have e4 := e4.symm
            subst e4
            have e8 : (wRow [.int .i64 (plSort p t)] 3).P s52 wx := hdep ⟨8, .data⟩ (by simp) rfl
            have hbB := hB (Or.inl rfl)
            obtain ⟨gg, e8, hg8, -⟩ := e8
            subst e8
            have hrow : wx.ownsRow 0 3 1 vo p.sorts.length (zints p.sorts) := row_stays Hrow.out fun k hk => hbB.block k (Hvlt.out k hk)
            have hK' := hK.out
            simp only [putAll, Act.put, List.setIfInBounds_toArray, List.set_cons_zero, List.set_cons_succ] at hK'
            rw [if_pos (by rfl)]
            refine step_append (.tmp 48) (.tmp 52) 69 ?ho 0 3 i0 (.int .i64 0) 1 8 elemInts.und hii hiz0 hiz1 hiz2 rfl (by decide) vo p.sorts.length (zints p.sorts) ?hs hrow ⟨gg, 0, none⟩ 1 1 [.int .i64 (plSort p t)] ?hx rfl ?c1 ?c2 ?c3 ?c4 (Nat.zero_le _) ?_
            case ho => rfl
            case hs => rfl
            case hx => rfl
            case c1 => exact cells_at hg8
            case c2 => intro u hu; simp at hu; (subst hu; rfl)
            case c3 => simp [maxLen]; omega
            case c4 => omega
            intro v' w' hown' hgrow hat
            refine hK' _ _ trivial (fun h => absurd rfl h) (fun _ => ⟨(Apart.refl _ _).grown hgrow (fun k e => e), hown', ?_⟩)
            rcases hat with hat | hat
            · exact .inl hat
            · exact .inr fun k hk => by rw [hat] at hk; cases hk; exact hbB.size
          · have e0 : s44 = _ := hdep ⟨0, .data⟩ (by simp) rfl
            have e0 := e0.symm
            subst e0
            go_simp
            have hK' := hK.out
            simp only [putAll, Act.put, List.setIfInBounds_toArray, List.set_cons_zero, List.set_cons_succ] at hK'
            exact hK' _ _ rfl (fun _ => Below.refl _ _) (fun h => absurd h (by decide))
          · have e10 : s54 = _ := hdep ⟨10, .data⟩ (by simp) rfl
            have e10 := e10.symm
            subst e10
            go_simp
            have hK' := hK.out
            simp only [putAll, Act.put, List.setIfInBounds_toArray, List.set_cons_zero, List.set_cons_succ] at hK'
            exact hK' _ _ rfl (fun _ => Below.refl _ _) (fun h => absurd h (by decide))
          · omega
        · intro vs wx hvl hb hf hJw
          have hvs := vlen12 hvl
          obtain ⟨s44, s45, s46, s47, s48, s49, s50, s51, s52, s53, s54, s55, rfl⟩ := hvs
          have fp : s55 = .pointer (some ⟨g, 2, none⟩) := hf 11 (by decide)
          subst fp
          have hJw : RowJ 3 1 (p.sorts.length + 1) ((zints p.sorts) ++ [.int .i64 (plSort p t)]) vo w4.heap.size s53 wx := hJw
          obtain ⟨hj1, hj2⟩ := hJw
          obtain ⟨pv, cv, ev⟩ := ownsRow_shape hj1
          subst ev
          clear hf hvl
          have hk := HS.out wx hb
          obtain ⟨⟨q0, q1, q2, q3, q4⟩, ⟨fz, -⟩, -⟩ := hk
          refine wpAny_one (i := 12) (by kernel_rfl) rfl ?_
          intro K hK
          simp only [putAll, Act.put, List.setIfInBounds_toArray, List.set_cons_zero, List.set_cons_succ]
          have hK' := hK.out
          have fzz := fz 2
          go_simp
          apply hK'
          clear hK hK' q0 q1 q2 q3 q4 fz fzz
          refine wpAny_done (by kernel_rfl) ?_ _
          try simp only [putAll, Act.put, List.setIfInBounds_toArray, List.set_cons_zero, List.set_cons_succ]
          have S6 := HS5.out.sort (plSort p t) hb hj1 hj2 (fun k hk => .inr (Nat.le_trans Hbw4.out.size hk))
          have A6 : Apart S w4 (wx.setCell ⟨g, 2, none⟩ (.slice pv (p.sorts.length + 1) cv)) := (hb.mono fun k hk => HH4.out.sortsIn k hk).setCell (p := ⟨g, 2, none⟩) HH4.out.own _
          have E6 : ∀ k, k < w4.heap.size → k ≠ g → vo.ownBlock ≠ some k → (wx.setCell ⟨g, 2, none⟩ (.slice pv (p.sorts.length + 1) cv)).heap[k]? = w4.heap[k]? := fun k h1 h2 h3 => (Below.heap_setCell _ _ _ _ h2).trans (hb.block k h1 h3)
          have hvs : ∀ k, vo.ownBlock = some k → k < w.heap.size := fun k hk => HS4.out k (HH4.out.sortsIn k hk)
          have hgs : g < w.heap.size := HS4.out g HH4.out.own
          have hz4w := Hbw4.out.size
          have eA : ∀ k, (Value.slice pa2 t.args.length ca2).ownBlock = some k → (wx.setCell ⟨g, 2, none⟩ (.slice pv (p.sorts.length + 1) cv)).heap[k]? = w4.heap[k]? := fun k hk => by
            have h1 := World.ownsRow.lt Ho4.out k hk
            exact E6 k h1.2 (by omega) (fun e => by have := hvs k e; omega)
          have eN : ∀ k, (Value.slice pm2 nm2 cm2).ownBlock = some k → (wx.setCell ⟨g, 2, none⟩ (.slice pv (p.sorts.length + 1) cv)).heap[k]? = w4.heap[k]? := fun k hk => by
            have h1 := World.ownsRow.lt Hn4.out k hk
            exact E6 k h1.2 (by omega) (fun e => by have := hvs k e; omega)
          have htm : TmIn (wx.setCell ⟨g, 2, none⟩ (.slice pv (p.sorts.length + 1) cv)) (Wide S w.heap.size) (.slice pv (p.sorts.length + 1) cv) t [.int .i64 t.op, .slice pa2 t.args.length ca2, .bool (decide (t.num < 0)), .slice pm2 nm2 cm2, .int .i64 t.sym] :=
            ⟨_, _, rfl, ownsRow_mono (row_stays Ho4.out eA) (Nat.zero_le _), Own.mono (row_stays Hn4.out eN) (Nat.zero_le _), fun k hk => .inr (by have := (World.ownsRow.lt Ho4.out k hk).1; omega), fun k hk => .inr (by have := (World.ownsRow.lt Hn4.out k hk).1; omega),
             fun k hk e => by
               have h1 := World.ownsRow.lt Ho4.out k hk
               rcases hj2 with h | h
               · rw [h] at e; have := hvs k e; omega
               · have := h k e; omega⟩
          have bx6 : (wx.setCell ⟨g, 2, none⟩ (.slice pv (p.sorts.length + 1) cv)).heap[w.heap.size]? = _ := (E6 w.heap.size (lt_of_block Hb4.out) (by omega) (fun e => by have := hvs _ e; omega)).trans Hb4.out
          generalize hW6 : (wx.setCell ⟨g, 2, none⟩ (.slice pv (p.sorts.length + 1) cv)) = w6 at *
          clear hW6 E6 eA eN hb hj1 hj2 Hvlt Hrow HS Hrd Hraw Hns Hite HS5 Hb4 Ho4 Hn4
          have HS6 := hid S6
          have Htm := hid htm
          have HA6 := hid A6
          have Hvlt : Hid (∀ k, (Value.slice pt p.terms.length cpt).ownBlock = some k → k < w6.heap.size) := hid fun k hk => (World.ownsRow.lt S6.terms k hk).2
          have Hrow := hid S6.terms
          have hvN : (Value.slice pt p.terms.length cpt).ownBlock ≠ some w.heap.size := fun e => by have := HS4.out _ (HH4.out.termsIn _ e); omega
          have hvg : (Value.slice pt p.terms.length cpt).ownBlock ≠ some g := fun e => row_ne S6.terms S6.cell (by decide) g e rfl
          have HS : Hid (∀ w', Apart (fun k => (Value.slice pt p.terms.length cpt).ownBlock = some k) w6 w' → (w'.cell? ⟨g, 0, none⟩ = some vs ∧ w'.cell? ⟨g, 1, none⟩ = some (.slice pt p.terms.length cpt) ∧ w'.cell? ⟨g, 2, none⟩ = some (.slice pv (p.sorts.length + 1) cv) ∧ w'.cell? ⟨g, 3, none⟩ = some (.map mn) ∧ w'.cell? ⟨g, 4, none⟩ = some (.map mk)) ∧ ((∀ j, w'.frozen? ⟨g, j, none⟩ = false) ∧ True) ∧
              (w'.cell? ⟨w.heap.size, 0, none⟩ = some (.int .i64 t.op) ∧ w'.cell? ⟨w.heap.size, 1, none⟩ = some (.slice pa2 t.args.length ca2) ∧ w'.cell? ⟨w.heap.size, 2, none⟩ = some (.bool (decide (t.num < 0))) ∧ w'.cell? ⟨w.heap.size, 3, none⟩ = some (.slice pm2 nm2 cm2) ∧ w'.cell? ⟨w.heap.size, 4, none⟩ = some (.int .i64 t.sym))) := fun w' ha => by
            have h1 := five_all ((ha.block g S6.lt hvg).trans S6.cell)
            exact ⟨h1.1, h1.2, five_cells ((ha.block w.heap.size (lt_of_block bx6) hvN).trans bx6)⟩
          have htn := Hok.out.terms
          obtain ⟨i1, hij, hjz0, hjz1, hjz2⟩ := info_parts infoTerm
          have hz46 := A6.size
          clear S6 htm A6 hvN hvg bx6 hvs
          go_upto_region 14 with fail
          refine wp_region_write (w0 := w6) 10 1 [56, 57, 58, 59, 60, 61, 62, 63, 64, 65] [undef, undef, undef, undef, undef, undef, undef, undef, undef, undef] (S := (fun k => (Value.slice pt p.terms.length cpt).ownBlock = some k))
            (fun i => match i with | 0 => wEq (.pointer (some ⟨g, 0, none⟩)) | 1 => wEq (.pointer (some ⟨g, 0, none⟩)) | 2 => wEq (.pointer (some ⟨g, 0, none⟩)) | 3 => wEq (.pointer (some ⟨g, 1, none⟩)) | 4 => wEq (Value.slice pt p.terms.length cpt) | 5 => wEq (.agg #[.int .i64 t.op, .slice pa2 t.args.length ca2, .bool (decide (t.num < 0)), .slice pm2 nm2 cm2, .int .i64 t.sym]) | 6 => wRow [.int .i64 t.op, .slice pa2 t.args.length ca2, .bool (decide (t.num < 0)), .slice pm2 nm2 cm2, .int .i64 t.sym] 71 | 7 => wAny | 8 => wEq (.pointer (some ⟨g, 0, none⟩)) | _ => wEq (.pointer (some ⟨g, 1, none⟩))) 7 (RowJ 71 5 (p.terms.length + 1) (cs ++ [.int .i64 t.op, .slice pa2 t.args.length ca2, .bool (decide (t.num < 0)), .slice pm2 nm2 cm2, .int .i64 t.sym]) (Value.slice pt p.terms.length cpt) w6.heap.size) (fun _ _ _ h hb => h.below hb) (by kernel_rfl) (by kernel_rfl) (by kernel_rfl) (by kernel_rfl) (by decide) rfl (by kernel_rfl) rfl (by decide) ?he2 ?_ ?_
          case he2 => simp only [putAll, Act.put, List.setIfInBounds_toArray, List.set_cons_zero, List.set_cons_succ]
          · intro i o hi ho vs wx hvl hb hB hdep K hK
            have hvs := vlen10 hvl
            obtain ⟨s56, s57, s58, s59, s60, s61, s62, s63, s64, s65, rfl⟩ := hvs
            clear hvl
            have hk := HS.out wx hb
            obtain ⟨⟨q0, q1, q2, q3, q4⟩, -, hbox⟩ := hk
            go_split_ands
            rcases i with _ | _ | _ | _ | _ | _ | _ | _ | _ | _ | i
            all_goals (simp only [List.getElem?_toArray, List.getElem?_cons_zero, List.getElem?_cons_succ, Option.some.injEq] at ho)
            all_goals try (subst ho)
            all_goals try simp only [putAll, Act.put, List.setIfInBounds_toArray, List.set_cons_zero, List.set_cons_succ]
            · go_simp
              have hK' := hK.out
              simp only [putAll, Act.put, List.setIfInBounds_toArray, List.set_cons_zero, List.set_cons_succ] at hK'
              exact hK' _ _ rfl (fun _ => Below.refl _ _) (fun h => absurd h (by decide))
            · go_simp
              have hK' := hK.out
              simp only [putAll, Act.put, List.setIfInBounds_toArray, List.set_cons_zero, List.set_cons_succ] at hK'
              exact hK' _ _ rfl (fun _ => Below.refl _ _) (fun h => absurd h (by decide))
            · have e1 : s57 = _ := hdep ⟨1, .data⟩ (by simp) rfl
              have e1 := e1.symm
              subst e1
              go_simp
              have hK' := hK.out
              simp only [putAll, Act.put, List.setIfInBounds_toArray, List.set_cons_zero, List.set_cons_succ] at hK'
              exact hK' _ _ rfl (fun _ => Below.refl _ _) (fun h => absurd h (by decide))
            · have e2 : s58 = _ := hdep ⟨2, .data⟩ (by simp) rfl
              have e2 := e2.symm
              subst e2
              go_simp
              have hK' := hK.out
              simp only [putAll, Act.put, List.setIfInBounds_toArray, List.set_cons_zero, List.set_cons_succ] at hK'
              exact hK' _ _ rfl (fun _ => Below.refl _ _) (fun h => absurd h (by decide))
            · have e3 : s59 = _ := hdep ⟨3, .data⟩ (by simp) rfl
              have e3 := e3.symm
              subst e3
              go_simp
              have hK' := hK.out
              simp only [putAll, Act.put, List.setIfInBounds_toArray, List.set_cons_zero, List.set_cons_succ] at hK'
              exact hK' _ _ rfl (fun _ => Below.refl _ _) (fun h => absurd h (by decide))
            · go_simp
              have hK' := hK.out
              simp only [putAll, Act.put, List.setIfInBounds_toArray, List.set_cons_zero, List.set_cons_succ] at hK'
              exact hK' _ _ rfl (fun _ => Below.refl _ _) (fun h => absurd h (by decide))
            · have e5 : s61 = _ := hdep ⟨5, .data⟩ (by simp) rfl
              have e5 := e5.symm
              subst e5
              go_simp
              have hK' := hK.out
              simp only [putAll, Act.put, List.setIfInBounds_toArray, List.set_cons_zero, List.set_cons_succ] at hK'
              exact hK' _ _ ⟨_, rfl, heap_alloc_new _ _, fun e => by have := Hvlt.out _ e; have := hb.size; omega⟩ (fun _ => below1 _ _) (fun h => absurd h (by decide))
            · have e4 : s60 = _ := hdep ⟨4, .data⟩ (by simp) rfl
              have e4 := e4.symm
              subst e4
              have e6 : (wRow [.int .i64 t.op, .slice pa2 t.args.length ca2, .bool (decide (t.num < 0)), .slice pm2 nm2 cm2, .int .i64 t.sym] 71).P s62 wx := hdep ⟨6, .data⟩ (by simp) rfl
              have hbB := hB (Or.inl rfl)
              obtain ⟨gg, e8, hg8, -⟩ := e6
              subst e8
              have hrow : wx.ownsRow 0 71 5 (Value.slice pt p.terms.length cpt) p.terms.length cs := row_stays Hrow.out fun k hk => hbB.block k (Hvlt.out k hk)
              have hK' := hK.out
              simp only [putAll, Act.put, List.setIfInBounds_toArray, List.set_cons_zero, List.set_cons_succ] at hK'
              rw [if_pos (by rfl)]
              refine step_append (.tmp 60) (.tmp 62) 23 ?ho 0 71 i1 (.agg #[.int .i64 0, .slice none 0 0, .bool false, .slice none 0 0, .int .i64 0]) 5 72 Tryz.underlying23 hij hjz0 hjz1 hjz2 rfl (by decide) (Value.slice pt p.terms.length cpt) p.terms.length cs ?hs hrow ⟨gg, 0, none⟩ 1 1 [.int .i64 t.op, .slice pa2 t.args.length ca2, .bool (decide (t.num < 0)), .slice pm2 nm2 cm2, .int .i64 t.sym] ?hx rfl ?c1 ?c2 ?c3 ?c4 (Nat.zero_le _) ?_
              case ho => rfl
              case hs => rfl
              case hx => rfl
              case c1 => exact cells_at hg8
              case c2 => intro u hu; simp at hu; (rcases hu with rfl | rfl | rfl | rfl | rfl <;> rfl)
              case c3 => simp [maxLen]; omega
              case c4 => omega
              intro v' w' hown' hgrow hat
              refine hK' _ _ trivial (fun h => absurd rfl h) (fun _ => ⟨(Apart.refl _ _).grown hgrow (fun k e => e), hown', ?_⟩)
              rcases hat with hat | hat
              · exact .inl hat
              · exact .inr fun k hk => by rw [hat] at hk; cases hk; exact hbB.size
            · have e0 : s56 = _ := hdep ⟨0, .data⟩ (by simp) rfl
              have e0 := e0.symm
              subst e0
              go_simp
              have hK' := hK.out
              simp only [putAll, Act.put, List.setIfInBounds_toArray, List.set_cons_zero, List.set_cons_succ] at hK'
              exact hK' _ _ rfl (fun _ => Below.refl _ _) (fun h => absurd h (by decide))
            · have e8 : s64 = _ := hdep ⟨8, .data⟩ (by simp) rfl
              have e8 := e8.symm
              subst e8
              go_simp
              have hK' := hK.out
              simp only [putAll, Act.put, List.setIfInBounds_toArray, List.set_cons_zero, List.set_cons_succ] at hK'
              exact hK' _ _ rfl (fun _ => Below.refl _ _) (fun h => absurd h (by decide))
            · omega
          · intro vs wx hvl hb hf hJw
            have hvs := vlen10 hvl
            obtain ⟨s56, s57, s58, s59, s60, s61, s62, s63, s64, s65, rfl⟩ := hvs
            have fp : s65 = .pointer (some ⟨g, 1, none⟩) := hf 9 (by decide)
            subst fp
            have hJw : RowJ 71 5 (p.terms.length + 1) (cs ++ [.int .i64 t.op, .slice pa2 t.args.length ca2, .bool (decide (t.num < 0)), .slice pm2 nm2 cm2, .int .i64 t.sym]) (Value.slice pt p.terms.length cpt) w6.heap.size s63 wx := hJw
            obtain ⟨hj1, hj2⟩ := hJw
            obtain ⟨pv2, cv2, ev⟩ := ownsRow_shape hj1
            subst ev
            clear hf hvl
            have hk := HS.out wx hb
            obtain ⟨⟨q0, q1, q2, q3, q4⟩, ⟨fz, -⟩, -⟩ := hk
            refine wpAny_one (i := 10) (by kernel_rfl) rfl ?_
            intro K hK
            simp only [putAll, Act.put, List.setIfInBounds_toArray, List.set_cons_zero, List.set_cons_succ]
            have hK' := hK.out
            have fzz := fz 1
            go_simp
            apply hK'
            clear hK hK' q0 q1 q2 q3 q4 fz fzz
            refine wpAny_done (by kernel_rfl) ?_ _
            try simp only [putAll, Act.put, List.setIfInBounds_toArray, List.set_cons_zero, List.set_cons_succ]
            have S7 := HS6.out.term t Htm.out hb hj1 hj2 (fun k hk => .inr (by omega))
            have A7 : Apart S w4 (wx.setCell ⟨g, 1, none⟩ (.slice pv2 (p.terms.length + 1) cv2)) := HA6.out.go ((hb.mono fun k hk => HH4.out.termsIn k hk).setCell (p := ⟨g, 1, none⟩) HH4.out.own _)
            generalize hW7 : (wx.setCell ⟨g, 1, none⟩ (.slice pv2 (p.terms.length + 1) cv2)) = w7 at *
            have HS7 := hid S7
            have HA7 := hid A7
            have q7 := five_all S7.cell
            obtain ⟨⟨x0, x1, x2, x3, x4⟩, -⟩ := q7
            have hlt7 : (plTexts p).length = p.terms.length := by simp [plTexts]
            have hwith := with_any 0 mk (plTexts p) (plText t) w7 S7.texts.1 HTx.out (by rw [hlt7]; omega) (Nat.zero_le _)
            rw [hlt7] at hwith
            have Hwith := hid hwith
            clear hW7 hb hj1 hj2 Hvlt Hrow HS HS6 Htm HA6 S7 A7 hlt7 hwith
            go_wp2_with fail
            refine Hwith.out.mono ?_
            rintro e w8 ⟨m', rfl, hm8, hg8, hv8⟩
            have hmg : mk ≠ some g := fun e => by obtain ⟨es, cl, ht⟩ := HS7.out.texts.tag g e; exact map_ne ht HS7.out.cell rfl
            have hcell8 := (hg8.block g HS7.out.lt (fun e => hmg e.symm)).trans HS7.out.cell
            have q8 := five_all hcell8
            obtain ⟨⟨y0, y1, y2, y3, y4⟩, fz, -⟩ := q8
            have fz4 := fz 4
            have hA8 : Apart (fun k => mk = some k) w7 w8 := (Apart.refl _ _).grown hg8 (fun k e => e)
            have S9 := hid (HS7.out.text hA8 hm8 hv8 (fun k hk => .inr (by have := HA7.out.size; omega)))
            have A9 : Hid (Apart S w4 (w8.setCell ⟨g, 4, none⟩ (.map m'))) := hid (HA7.out.go ((hA8.mono fun k hk => HH4.out.texts.2 k hk).setCell (p := ⟨g, 4, none⟩) HH4.out.own _))
            clear x0 x1 x2 x3 x4 hm8 hg8 hv8 hcell8 fz hA8 hmg Hwith
            go_wp2
            go_ret2
            have hfin := plMake_new Hz.out Hf.out Hfl.out
            have hlt : p.terms.length < 4096 := by have := Hfl.out; omega
            refine ⟨by rw [Hr.out, hfin]; rfl, fun k => Wide S w.heap.size k ∧ k < (w8.setCell ⟨g, 4, none⟩ (.map m')).heap.size, ?_, ?_, (Apart.of_below Hbw4.out).go A9.out⟩
            · rw [Hr.out, hfin]
              have hb9 := S9.out.bound
              refine ⟨⟨vs, _, _, mn, m', _, by rw [plTexts_snoc]; exact hb9⟩, Hok.out.make Hf.out hlt hla hszt, fun k hk => hk.2⟩
            · intro k hk
              rcases hk.1 with h | h
              · exact .inl h
              · exact .inr h
end Go.Proofs.YtckkpolikdnilaaGreatDoor
/- (*pool.Pool).Declare: the rows then, and the symbol's number. -/
namespace Go.Proofs.YtckkpolikdnilaaGreatDoor
open Go.RowKit Big Go.WideMaps

theorem three_cells {w : World} {g : Nat} {a b c : Value} {t : TypeId} (h : w.heap[g]? = some (.cells #[a, b, c] t (0, 0))) :
    w.cell? ⟨g, 0, none⟩ = some a ∧ w.cell? ⟨g, 1, none⟩ = some b ∧ w.cell? ⟨g, 2, none⟩ = some c := by
  simp [World.cell?, h]
theorem three_all {w : World} {g : Nat} {a b c : Value} {t : TypeId} (h : w.heap[g]? = some (.cells #[a, b, c] t (0, 0))) :
    (w.cell? ⟨g, 0, none⟩ = some a ∧ w.cell? ⟨g, 1, none⟩ = some b ∧ w.cell? ⟨g, 2, none⟩ = some c) ∧ ((∀ j, w.frozen? ⟨g, j, none⟩ = false) ∧ True) :=
  ⟨three_cells h, fun j => frozen_of_row w g j _ _ h, trivial⟩
theorem set3_heap {w : World} {g b : Nat} (hb : b ≠ g) {u0 u1 u2 : Value} : (((w.setCell ⟨g, 0, none⟩ u0).setCell ⟨g, 1, none⟩ u1).setCell ⟨g, 2, none⟩ u2).heap[b]? = w.heap[b]? := by
  rw [heap_setCell_other _ ⟨g, 2, none⟩ b _ hb, heap_setCell_other _ ⟨g, 1, none⟩ b _ hb, heap_setCell_other _ ⟨g, 0, none⟩ b _ hb]
theorem set3_same {w : World} {g : Nat} {a b c : Value} {t : TypeId} (h : w.heap[g]? = some (.cells #[a, b, c] t (0, 0))) (u0 u1 u2 : Value) :
    (((w.setCell ⟨g, 0, none⟩ u0).setCell ⟨g, 1, none⟩ u1).setCell ⟨g, 2, none⟩ u2).heap[g]? = some (.cells #[u0, u1, u2] t (0, 0)) := by
  have := heap_setCell_same _ g 2 _ _ u2 (heap_setCell_same _ g 1 _ _ u1 (heap_setCell_same w g 0 _ _ u0 h))
  simpa using this
/-- a map that a call has answered: the one that was there, or a new one -/
def MapJ (l : List (List UInt8)) (mo : Option Nat) (N : Nat) (v : Value) (w : World) : Prop := ∃ m', v = .map m' ∧ MpAt 0 w m' l ∧ (m' = mo ∨ ∀ b, m' = some b → N ≤ b)
theorem MapJ.below {l : List (List UInt8)} {mo : Option Nat} {N : Nat} {v : Value} {w w' : World} (h : MapJ l mo N v w) (hb : Below w.heap.size w w') : MapJ l mo N v w' := by
  obtain ⟨m', h1, h2, h3⟩ := h
  exact ⟨m', h1, h2.below hb, h3⟩
def eqD (v0 : Value) : SFact := ⟨fun v _ => v = v0, fun _ _ _ h _ => h⟩
theorem plDeclare_form {p : Po} {s : Sy} (h : plBadSym s = true) : plDeclare p s = (p, 0, 6) := by unfold plDeclare; rw [if_pos h]
theorem plDeclare_name {p : Po} {s : Sy} (h : plBadSym s = false) (h1 : p.syms.any (fun x => x.name == s.name) = true) : plDeclare p s = (p, 0, 7) := by unfold plDeclare; rw [if_neg (by simp [h]), if_pos h1]
theorem plDeclare_long {p : Po} {s : Sy} (h : plBadSym s = false) (h1 : p.syms.any (fun x => x.name == s.name) = false) (h2 : p.syms.length = 256) : plDeclare p s = (p, 0, 11) := by unfold plDeclare; rw [if_neg (by simp [h]), if_neg (by rw [h1]; decide), if_pos h2]
theorem plDeclare_new {p : Po} {s : Sy} (h : plBadSym s = false) (h1 : p.syms.any (fun x => x.name == s.name) = false) (h2 : p.syms.length ≠ 256) : plDeclare p s = (⟨p.syms ++ [s], p.terms, p.sorts⟩, ((p.syms.length : Nat) : Int), 0) := by
  unfold plDeclare; rw [if_neg (by simp [h]), if_neg (by rw [h1]; decide), if_neg h2]

set_option maxRecDepth 100000 in
set_option maxHeartbeats 12800000 in
theorem Declare_any (S : Nat → Prop) (g : Nat) (p : Po) (s : Sy) (w : World) (h : PoAt w S g p) (hnl : s.name.length ≤ 281474976710656) :
    Calls Tryz.prog 71 #[.pointer (some ⟨g, 0, none⟩), s.val] w (RMk S g (plDeclare p s) w) := by
  have Hpo := hid h
  obtain ⟨r, hr⟩ : ∃ r, r = plDeclare p s := ⟨_, rfl⟩
  rw [← hr]
  have Hr := hid hr
  have Hbs := hid (isNoSymbol_any s)
  have Hos := hid (fun W => ownSym_any s W (by unfold maxLen; omega) (fun W' => Clone_any s.name hnl W'))
  generalize hbad : plBadSym s = bad at Hbs
  have Hbad := hid hbad
  obtain ⟨sd, hsd⟩ : ∃ sd, s = sd := ⟨_, rfl⟩
  rw [hsd] at Hr Hbad
  have Hsd := hid hsd
  obtain ⟨nm, ar, so⟩ := s
  have hsv : Sy.val ⟨nm, ar, so⟩ = .agg #[.string ⟨nm.toArray⟩, .int .i64 ar, .int .i64 so] := rfl
  rw [hsv] at Hbs Hos ⊢
  dsimp only at hnl
  have bx := heap_alloc_new w (.cells #[.string ⟨nm.toArray⟩, .int .i64 ar, .int .i64 so] 39)
  have b0 := below1 w (.cells #[.string ⟨nm.toArray⟩, .int .i64 ar, .int .i64 so] 39)
  have hs0 := size_alloc w (.cells #[.string ⟨nm.toArray⟩, .int .i64 ar, .int .i64 so] 39)
  clear h hr hsv hbad hsd
  go_enter Tryz.func71, Tryz.ntmps71
  go_wp2_with fail
  generalize hW : (w.alloc (.cells #[.string ⟨nm.toArray⟩, .int .i64 ar, .int .i64 so] 39)) = W0 at *
  clear hW
  refine (Hbs.out _).mono ?_
  rintro e w1 ⟨rfl, b1⟩
  have bw1 := bel_go b1 b0
  cases bad
  case true =>
    go_wp2
    go_ret2
    exact ⟨by rw [Hr.out, plDeclare_form Hbad.out]; rfl, S, by rw [Hr.out, plDeclare_form Hbad.out]; exact Hpo.out.below bw1, fun k h => .inl h, Apart.of_below bw1⟩
  case false =>
    have hnm : sd.name = nm := by rw [← Hsd.out]
    have hz1 := b1.size
    have bx1 := (b1.block w.heap.size (by omega)).trans bx
    have h1 := Hpo.out.below bw1
    obtain ⟨⟨vs, vt, vo, mn, mk, cs, H1⟩, hok, hSlt⟩ := h1
    have hhas := fun w' hb => has_any 0 mn (plNames p) nm w' (H1.names.1.below (w' := w') hb) (by show nm.length ≤ maxLen; unfold maxLen; omega)
    have hcon : (plNames p).contains nm = p.syms.any (fun x => x.name == sd.name) := by rw [← hnm]; exact names_contains p sd
    rw [hcon] at hhas
    have Hhas := hid hhas
    have HH1 := hid H1
    have Hok := hid hok
    have HS4 := hid Hpo.out.2.2
    have HS : Hid (∀ w', Below w1.heap.size w1 w' → w'.cell? ⟨g, 3, none⟩ = some (.map mn) ∧ w'.cell? ⟨w.heap.size, 0, none⟩ = some (.string ⟨nm.toArray⟩)) := hid fun w' hb => ⟨(five_cells ((hb.block g H1.lt).trans H1.cell)).2.2.2.1, (three_cells ((hb.block w.heap.size (by omega)).trans bx1)).1⟩
    generalize hany : p.syms.any (fun x => x.name == sd.name) = any at *
    have Hany := hid hany
    clear hany hcon hhas H1 hok hSlt bx
    go_upto_region 5 with fail
    refine wp_region_facts (w0 := w1) 8 0 [14, 15, 16, 17, 18, 19, 20, 13] [undef, undef, undef, undef, undef, undef, undef, undef]
      (fun i => match i with | 0 => eqD (.pointer (some ⟨g, 0, none⟩)) | 1 => eqD (.pointer (some ⟨g, 0, none⟩)) | 2 => eqD (.pointer (some ⟨g, 3, none⟩)) | 3 => eqD (.map mn) | 4 => eqD (.pointer (some ⟨w.heap.size, 0, none⟩)) | 5 => eqD (.string ⟨nm.toArray⟩) | 6 => eqD (.bool any) | _ => eqD (.bool any)) [] (by kernel_rfl) (by kernel_rfl) (by kernel_rfl) (by kernel_rfl) (by decide) rfl (by kernel_rfl) rfl (by simp) ?he1 ?_ ?_ ?_
    case he1 => simp only [putAll, Act.put, List.setIfInBounds_toArray, List.set_cons_zero, List.set_cons_succ]
    · intro i hi; simp at hi
    · intro i o hi ho vs wx hvl hb hdep K hK
      have hvs := vlen8 hvl
      obtain ⟨s14, s15, s16, s17, s18, s19, s20, s13, rfl⟩ := hvs
      clear hvl
      have hk := HS.out wx hb
      go_split_ands
      rcases i with _ | _ | _ | _ | _ | _ | _ | _ | i
      all_goals (simp only [List.getElem?_toArray, List.getElem?_cons_zero, List.getElem?_cons_succ, Option.some.injEq] at ho)
      all_goals try (subst ho)
      all_goals try simp only [putAll, Act.put, List.setIfInBounds_toArray, List.set_cons_zero, List.set_cons_succ]
      · go_simp
        have hK' := hK.out
        simp only [putAll, Act.put, List.setIfInBounds_toArray, List.set_cons_zero, List.set_cons_succ] at hK'
        exact hK' _ _ rfl (Below.refl _ _) (by simp)
      · have e0 : s14 = _ := hdep ⟨0, .data⟩ (by simp) rfl
        have e0 := e0.symm
        subst e0
        go_simp
        have hK' := hK.out
        simp only [putAll, Act.put, List.setIfInBounds_toArray, List.set_cons_zero, List.set_cons_succ] at hK'
        exact hK' _ _ rfl (Below.refl _ _) (by simp)
      · have e1 : s15 = _ := hdep ⟨1, .data⟩ (by simp) rfl
        have e1 := e1.symm
        subst e1
        go_simp
        have hK' := hK.out
        simp only [putAll, Act.put, List.setIfInBounds_toArray, List.set_cons_zero, List.set_cons_succ] at hK'
        exact hK' _ _ rfl (Below.refl _ _) (by simp)
      · have e2 : s16 = _ := hdep ⟨2, .data⟩ (by simp) rfl
        have e2 := e2.symm
        subst e2
        go_simp
        have hK' := hK.out
        simp only [putAll, Act.put, List.setIfInBounds_toArray, List.set_cons_zero, List.set_cons_succ] at hK'
        exact hK' _ _ rfl (Below.refl _ _) (by simp)
      · go_simp
        have hK' := hK.out
        simp only [putAll, Act.put, List.setIfInBounds_toArray, List.set_cons_zero, List.set_cons_succ] at hK'
        exact hK' _ _ rfl (Below.refl _ _) (by simp)
      · have e4 : s18 = _ := hdep ⟨4, .data⟩ (by simp) rfl
        have e4 := e4.symm
        subst e4
        go_simp
        have hK' := hK.out
        simp only [putAll, Act.put, List.setIfInBounds_toArray, List.set_cons_zero, List.set_cons_succ] at hK'
        exact hK' _ _ rfl (Below.refl _ _) (by simp)
      · have e3 : s17 = _ := hdep ⟨3, .data⟩ (by simp) rfl
        have e3 := e3.symm
        subst e3
        have e5 : s19 = _ := hdep ⟨5, .data⟩ (by simp) rfl
        have e5 := e5.symm
        subst e5
        go_simp
        go_simp
        refine (Hhas.out _ hb).mono ?_
        rintro e wx ⟨rfl, rfl⟩
        go_wp2_with fail
        have hK' := hK.out
        simp only [putAll, Act.put, List.setIfInBounds_toArray, List.set_cons_zero, List.set_cons_succ] at hK'
        exact hK' _ _ rfl (Below.refl _ _) (by simp)
      · have e6 : s20 = _ := hdep ⟨6, .data⟩ (by simp) rfl
        have e6 := e6.symm
        subst e6
        go_simp
        have hK' := hK.out
        simp only [putAll, Act.put, List.setIfInBounds_toArray, List.set_cons_zero, List.set_cons_succ] at hK'
        exact hK' _ _ rfl (Below.refl _ _) (by simp)
      · omega
    · intro vs wx hvl hb hf hdist
      have hvs := vlen8 hvl
      obtain ⟨s14, s15, s16, s17, s18, s19, s20, s13, rfl⟩ := hvs
      have f7 : s13 = .bool any := hf 7 (by decide)
      subst f7
      clear hf hdist hvl
      refine wpAny_done (by kernel_rfl) ?_ _
      simp only [putAll, Act.put, List.setIfInBounds_toArray, List.set_cons_zero, List.set_cons_succ]
      have bw1 := bel_go hb bw1
      have bx1 := (hb.block w.heap.size (by omega)).trans bx1
      have hzx := hb.size
      have S1 := HH1.out.stays (S' := S) (fun _ h => h) (fun k _ hk => hb.block k hk)
      have HH1 := hid S1
      have q1 := five_cells S1.cell
      obtain ⟨x0, x1, x2, x3, x4⟩ := q1
      clear HS Hhas hb b1 S1 Hbs
      cases any
      case true =>
        go_wp2
        go_ret2
        exact ⟨by rw [Hr.out, plDeclare_name Hbad.out Hany.out]; rfl, S, by rw [Hr.out, plDeclare_name Hbad.out Hany.out]; exact Hpo.out.below bw1, fun k h => .inl h, Apart.of_below bw1⟩
      case false =>
      obtain ⟨ps, cps, evs⟩ := ownsRow_shape HH1.out.syms
      subst evs
      cases hfull : ((p.syms.length : Int) == 256)
      case true =>
        have Hfl := hid (show p.syms.length = 256 by simp at hfull; omega)
        go_wp2
        go_ret2
        exact ⟨by rw [Hr.out, plDeclare_long Hbad.out Hany.out Hfl.out]; rfl, S, by rw [Hr.out, plDeclare_long Hbad.out Hany.out Hfl.out]; exact Hpo.out.below bw1, fun k h => .inl h, Apart.of_below bw1⟩
      case false =>
      have Hfl := hid (show p.syms.length ≠ 256 by simp at hfull; omega)
      have c1 := three_cells bx1
      obtain ⟨z0, z1, z2⟩ := c1
      go_upto_region 10 with fail
      clear x0 x1 x2 x3 x4 hfull
      go_wp2_with fail
      refine (Hos.out _).mono ?_
      rintro e w2 ⟨rfl, b2⟩
      have bx2 := (b2.block w.heap.size (by omega)).trans bx1
      have c2 := three_all bx2
      clear z0 z1 z2
      obtain ⟨⟨z0, z1, z2⟩, fz, -⟩ := c2
      have f0 := fz 0; have f1 := fz 1; have f2 := fz 2
      clear fz
      go_upto_region 11 with fail
      clear z0 z1 z2 f0 f1 f2
      have bx3 := set3_same bx2 (.string ⟨nm.toArray⟩) (.int .i64 ar) (.int .i64 so)
      have E3 : ∀ k, k ≠ w.heap.size → (((w2.setCell ⟨w.heap.size, 0, none⟩ (.string ⟨nm.toArray⟩)).setCell ⟨w.heap.size, 1, none⟩ (.int .i64 ar)).setCell ⟨w.heap.size, 2, none⟩ (.int .i64 so)).heap[k]? = w2.heap[k]? := fun k hk => set3_heap hk
      have b3 : Below w.heap.size w (((w2.setCell ⟨w.heap.size, 0, none⟩ (.string ⟨nm.toArray⟩)).setCell ⟨w.heap.size, 1, none⟩ (.int .i64 ar)).setCell ⟨w.heap.size, 2, none⟩ (.int .i64 so)) := (((bel_go b2 bw1).setCell (p := ⟨w.heap.size, 0, none⟩) (Nat.le_refl _) _).setCell (p := ⟨w.heap.size, 1, none⟩) (Nat.le_refl _) _).setCell (p := ⟨w.heap.size, 2, none⟩) (Nat.le_refl _) _
      generalize hW3 : (((w2.setCell ⟨w.heap.size, 0, none⟩ (.string ⟨nm.toArray⟩)).setCell ⟨w.heap.size, 1, none⟩ (.int .i64 ar)).setCell ⟨w.heap.size, 2, none⟩ (.int .i64 so)) = w4 at *
      have S5 : PoParts w4 (Wide S w.heap.size) g p (plNames p) (plTexts p) (Value.slice ps p.syms.length cps) vt vo mn mk cs := HH1.out.stays (fun k h => .inl h) (fun k hk _ => (E3 k (by have := HS4.out k hk; omega)).trans (b2.block k (by have := HS4.out k hk; omega)))
      have HS5 := hid S5
      have Hvlt : Hid (∀ k, (Value.slice ps p.syms.length cps).ownBlock = some k → k < w4.heap.size) := hid fun k hk => (World.ownsRow.lt S5.syms k hk).2
      have Hrow := hid S5.syms
      have hvN : (Value.slice ps p.syms.length cps).ownBlock ≠ some w.heap.size := fun e => by have := HS4.out _ (HH1.out.symsIn _ e); omega
      have hvg : (Value.slice ps p.syms.length cps).ownBlock ≠ some g := fun e => row_ne S5.syms S5.cell (by decide) g e rfl
      have HS : Hid (∀ w', Apart (fun k => (Value.slice ps p.syms.length cps).ownBlock = some k) w4 w' → (w'.cell? ⟨g, 0, none⟩ = some (Value.slice ps p.syms.length cps) ∧ w'.cell? ⟨g, 1, none⟩ = some vt ∧ w'.cell? ⟨g, 2, none⟩ = some vo ∧ w'.cell? ⟨g, 3, none⟩ = some (.map mn) ∧ w'.cell? ⟨g, 4, none⟩ = some (.map mk)) ∧ ((∀ j, w'.frozen? ⟨g, j, none⟩ = false) ∧ True) ∧
          (w'.cell? ⟨w.heap.size, 0, none⟩ = some (.string ⟨nm.toArray⟩) ∧ w'.cell? ⟨w.heap.size, 1, none⟩ = some (.int .i64 ar) ∧ w'.cell? ⟨w.heap.size, 2, none⟩ = some (.int .i64 so))) := fun w' ha => by
        have h1 := five_all ((ha.block g S5.lt hvg).trans S5.cell)
        exact ⟨h1.1, h1.2, three_cells ((ha.block w.heap.size (lt_of_block bx3) hvN).trans bx3)⟩
      have htn := Hok.out.syms
      obtain ⟨i1, hij, hjz0, hjz1, hjz2⟩ := info_parts infoSym
      have Hb4 := hid bx3; have Hbw4 := hid b3
      clear S5 hvN hvg bx3 b3 bx2 bx1 bw1 b2 hW3 E3 Hos
      refine wp_region_write (w0 := w4) 10 1 [35, 36, 37, 38, 39, 40, 41, 42, 43, 44] [undef, undef, undef, undef, undef, undef, undef, undef, undef, undef] (S := (fun k => (Value.slice ps p.syms.length cps).ownBlock = some k))
        (fun i => match i with | 0 => wEq (.pointer (some ⟨g, 0, none⟩)) | 1 => wEq (.pointer (some ⟨g, 0, none⟩)) | 2 => wEq (.pointer (some ⟨g, 0, none⟩)) | 3 => wEq (.pointer (some ⟨g, 0, none⟩)) | 4 => wEq (Value.slice ps p.syms.length cps) | 5 => wEq (.agg #[.string ⟨nm.toArray⟩, .int .i64 ar, .int .i64 so]) | 6 => wRow [.string ⟨nm.toArray⟩, .int .i64 ar, .int .i64 so] 39 | 7 => wAny | 8 => wEq (.pointer (some ⟨g, 0, none⟩)) | _ => wEq (.pointer (some ⟨g, 0, none⟩))) 7 (RowJ 39 3 (p.syms.length + 1) ((syCells p.syms) ++ [.string ⟨nm.toArray⟩, .int .i64 ar, .int .i64 so]) (Value.slice ps p.syms.length cps) w4.heap.size) (fun _ _ _ h hb => h.below hb) (by kernel_rfl) (by kernel_rfl) (by kernel_rfl) (by kernel_rfl) (by decide) rfl (by kernel_rfl) rfl (by decide) ?he2 ?_ ?_
      case he2 => simp only [putAll, Act.put, List.setIfInBounds_toArray, List.set_cons_zero, List.set_cons_succ]
      · intro i o hi ho vs wx hvl hb hB hdep K hK
        have hvs := vlen10 hvl
        obtain ⟨s35, s36, s37, s38, s39, s40, s41, s42, s43, s44, rfl⟩ := hvs
        clear hvl
        have hk := HS.out wx hb
        obtain ⟨⟨q0, q1, q2, q3, q4⟩, -, hbox⟩ := hk
        go_split_ands
        rcases i with _ | _ | _ | _ | _ | _ | _ | _ | _ | _ | i
        all_goals (simp only [List.getElem?_toArray, List.getElem?_cons_zero, List.getElem?_cons_succ, Option.some.injEq] at ho)
        all_goals try (subst ho)
        all_goals try simp only [putAll, Act.put, List.setIfInBounds_toArray, List.set_cons_zero, List.set_cons_succ]
        · go_simp
          have hK' := hK.out
          simp only [putAll, Act.put, List.setIfInBounds_toArray, List.set_cons_zero, List.set_cons_succ] at hK'
          exact hK' _ _ rfl (fun _ => Below.refl _ _) (fun h => absurd h (by decide))
        · go_simp
          have hK' := hK.out
          simp only [putAll, Act.put, List.setIfInBounds_toArray, List.set_cons_zero, List.set_cons_succ] at hK'
          exact hK' _ _ rfl (fun _ => Below.refl _ _) (fun h => absurd h (by decide))
        · have e1 : s36 = _ := hdep ⟨1, .data⟩ (by simp) rfl
          have e1 := e1.symm
          subst e1
          go_simp
          have hK' := hK.out
          simp only [putAll, Act.put, List.setIfInBounds_toArray, List.set_cons_zero, List.set_cons_succ] at hK'
          exact hK' _ _ rfl (fun _ => Below.refl _ _) (fun h => absurd h (by decide))
        · have e2 : s37 = _ := hdep ⟨2, .data⟩ (by simp) rfl
          have e2 := e2.symm
          subst e2
          go_simp
          have hK' := hK.out
          simp only [putAll, Act.put, List.setIfInBounds_toArray, List.set_cons_zero, List.set_cons_succ] at hK'
          exact hK' _ _ rfl (fun _ => Below.refl _ _) (fun h => absurd h (by decide))
        · have e3 : s38 = _ := hdep ⟨3, .data⟩ (by simp) rfl
          have e3 := e3.symm
          subst e3
          go_simp
          have hK' := hK.out
          simp only [putAll, Act.put, List.setIfInBounds_toArray, List.set_cons_zero, List.set_cons_succ] at hK'
          exact hK' _ _ rfl (fun _ => Below.refl _ _) (fun h => absurd h (by decide))
        · go_simp
          have hK' := hK.out
          simp only [putAll, Act.put, List.setIfInBounds_toArray, List.set_cons_zero, List.set_cons_succ] at hK'
          exact hK' _ _ rfl (fun _ => Below.refl _ _) (fun h => absurd h (by decide))
        · have e5 : s40 = _ := hdep ⟨5, .data⟩ (by simp) rfl
          have e5 := e5.symm
          subst e5
          go_simp
          have hK' := hK.out
          simp only [putAll, Act.put, List.setIfInBounds_toArray, List.set_cons_zero, List.set_cons_succ] at hK'
          exact hK' _ _ ⟨_, rfl, heap_alloc_new _ _, fun e => by have := Hvlt.out _ e; have := hb.size; omega⟩ (fun _ => below1 _ _) (fun h => absurd h (by decide))
        · have e4 : s39 = _ := hdep ⟨4, .data⟩ (by simp) rfl
          have e4 := e4.symm
          subst e4
          have e6 : (wRow [.string ⟨nm.toArray⟩, .int .i64 ar, .int .i64 so] 39).P s41 wx := hdep ⟨6, .data⟩ (by simp) rfl
          have hbB := hB (Or.inl rfl)
          obtain ⟨gg, e8, hg8, -⟩ := e6
          subst e8
          have hrow : wx.ownsRow 0 39 3 (Value.slice ps p.syms.length cps) p.syms.length (syCells p.syms) := row_stays Hrow.out fun k hk => hbB.block k (Hvlt.out k hk)
          have hK' := hK.out
          simp only [putAll, Act.put, List.setIfInBounds_toArray, List.set_cons_zero, List.set_cons_succ] at hK'
          rw [if_pos (by rfl)]
          refine step_append (.tmp 39) (.tmp 41) 22 ?ho 0 39 i1 (.agg #[.string ⟨#[]⟩, .int .i64 0, .int .i64 0]) 3 32 Tryz.underlying22 hij hjz0 hjz1 hjz2 rfl (by decide) (Value.slice ps p.syms.length cps) p.syms.length (syCells p.syms) ?hs hrow ⟨gg, 0, none⟩ 1 1 [.string ⟨nm.toArray⟩, .int .i64 ar, .int .i64 so] ?hx rfl ?c1 ?c2 ?c3 ?c4 (Nat.zero_le _) ?_
          case ho => rfl
          case hs => rfl
          case hx => rfl
          case c1 => exact cells_at hg8
          case c2 => intro u hu; simp at hu; (rcases hu with rfl | rfl | rfl <;> rfl)
          case c3 => simp [maxLen]; omega
          case c4 => omega
          intro v' w' hown' hgrow hat
          refine hK' _ _ trivial (fun h => absurd rfl h) (fun _ => ⟨(Apart.refl _ _).grown hgrow (fun k e => e), hown', ?_⟩)
          rcases hat with hat | hat
          · exact .inl hat
          · exact .inr fun k hk => by rw [hat] at hk; cases hk; exact hbB.size
        · have e0 : s35 = _ := hdep ⟨0, .data⟩ (by simp) rfl
          have e0 := e0.symm
          subst e0
          go_simp
          have hK' := hK.out
          simp only [putAll, Act.put, List.setIfInBounds_toArray, List.set_cons_zero, List.set_cons_succ] at hK'
          exact hK' _ _ rfl (fun _ => Below.refl _ _) (fun h => absurd h (by decide))
        · have e8 : s43 = _ := hdep ⟨8, .data⟩ (by simp) rfl
          have e8 := e8.symm
          subst e8
          go_simp
          have hK' := hK.out
          simp only [putAll, Act.put, List.setIfInBounds_toArray, List.set_cons_zero, List.set_cons_succ] at hK'
          exact hK' _ _ rfl (fun _ => Below.refl _ _) (fun h => absurd h (by decide))
        · omega
      · intro vs wx hvl hb hf hJw
        have hvs := vlen10 hvl
        obtain ⟨s35, s36, s37, s38, s39, s40, s41, s42, s43, s44, rfl⟩ := hvs
        have fp : s44 = .pointer (some ⟨g, 0, none⟩) := hf 9 (by decide)
        subst fp
        have hJw : RowJ 39 3 (p.syms.length + 1) ((syCells p.syms) ++ [.string ⟨nm.toArray⟩, .int .i64 ar, .int .i64 so]) (Value.slice ps p.syms.length cps) w4.heap.size s42 wx := hJw
        obtain ⟨hj1, hj2⟩ := hJw
        obtain ⟨pv, cv, ev⟩ := ownsRow_shape hj1
        subst ev
        clear hf hvl
        have hk := HS.out wx hb
        obtain ⟨⟨q0, q1, q2, q3, q4⟩, ⟨fz, -⟩, -⟩ := hk
        refine wpAny_one (i := 10) (by kernel_rfl) rfl ?_
        intro K hK
        simp only [putAll, Act.put, List.setIfInBounds_toArray, List.set_cons_zero, List.set_cons_succ]
        have hK' := hK.out
        have fzz := fz 0
        go_simp
        apply hK'
        clear hK hK' q0 q1 q2 q3 q4 fz fzz
        refine wpAny_done (by kernel_rfl) ?_ _
        try simp only [putAll, Act.put, List.setIfInBounds_toArray, List.set_cons_zero, List.set_cons_succ]
        have S6 := HS5.out.sym ⟨nm, ar, so⟩ hb hj1 hj2 (fun k hk => .inr (by have := Hbw4.out.size; omega))
        have A6 : Apart S w4 (wx.setCell ⟨g, 0, none⟩ (.slice pv (p.syms.length + 1) cv)) := (hb.mono fun k hk => HH1.out.symsIn k hk).setCell (p := ⟨g, 0, none⟩) HH1.out.own _
        have hgs : g < w.heap.size := HS4.out g HH1.out.own
        have hz4w := Hbw4.out.size
        have bx6 : (wx.setCell ⟨g, 0, none⟩ (.slice pv (p.syms.length + 1) cv)).heap[w.heap.size]? = _ := ((Below.heap_setCell wx ⟨g, 0, none⟩ (.slice pv (p.syms.length + 1) cv) w.heap.size (by show w.heap.size ≠ g; omega)).trans (hb.block w.heap.size (lt_of_block Hb4.out) (fun e => by have := HS4.out _ (HH1.out.symsIn _ e); omega))).trans Hb4.out
        generalize hW6 : (wx.setCell ⟨g, 0, none⟩ (.slice pv (p.syms.length + 1) cv)) = w6 at *
        clear hW6 hb hj1 hj2 Hvlt Hrow HS HS5 Hb4
        have HS6 := hid S6
        have HA6 := hid A6
        have hz46 := A6.size
        have hvN : mn ≠ some w.heap.size := fun e => by have := HS4.out _ (HH1.out.names.2 _ e); omega
        have hvg : mn ≠ some g := fun e => by obtain ⟨es, cl, ht⟩ := HH1.out.names.tag g e; exact map_ne ht HH1.out.cell rfl
        have HS : Hid (∀ w', Apart (fun k => mn = some k) w6 w' → (w'.cell? ⟨g, 0, none⟩ = some (.slice pv (p.syms.length + 1) cv) ∧ w'.cell? ⟨g, 1, none⟩ = some vt ∧ w'.cell? ⟨g, 2, none⟩ = some vo ∧ w'.cell? ⟨g, 3, none⟩ = some (.map mn) ∧ w'.cell? ⟨g, 4, none⟩ = some (.map mk)) ∧ ((∀ j, w'.frozen? ⟨g, j, none⟩ = false) ∧ True) ∧
            (w'.cell? ⟨w.heap.size, 0, none⟩ = some (.string ⟨nm.toArray⟩) ∧ w'.cell? ⟨w.heap.size, 1, none⟩ = some (.int .i64 ar) ∧ w'.cell? ⟨w.heap.size, 2, none⟩ = some (.int .i64 so))) := fun w' ha => by
          have h1 := five_all ((ha.block g S6.lt hvg).trans S6.cell)
          exact ⟨h1.1, h1.2, three_cells ((ha.block w.heap.size (lt_of_block bx6) hvN).trans bx6)⟩
        have hnl' : (plNames p).length = p.syms.length := by simp [plNames]
        have hwith := fun w' hb => with_any 0 mn (plNames p) nm w' (S6.names.1.below (w' := w') hb) (by show nm.length ≤ maxLen; unfold maxLen; omega) (by rw [hnl']; omega) (Nat.zero_le _)
        rw [hnl'] at hwith
        have Hwith := hid hwith
        clear S6 A6 hvN hvg bx6 hnl' hwith
        go_upto_region 12 with fail
        refine wp_region_write (w0 := w6) 11 1 [45, 46, 47, 48, 49, 50, 51, 52, 53, 54, 55] [undef, undef, undef, undef, undef, undef, undef, undef, undef, undef, undef] (S := (fun k => mn = some k))
          (fun i => match i with | 0 => wEq (.pointer (some ⟨g, 0, none⟩)) | 1 => wEq (.pointer (some ⟨g, 0, none⟩)) | 2 => wEq (.pointer (some ⟨g, 0, none⟩)) | 3 => wEq (.pointer (some ⟨g, 3, none⟩)) | 4 => wEq (.map mn) | 5 => wEq (.pointer (some ⟨w.heap.size, 0, none⟩)) | 6 => wEq (.string ⟨nm.toArray⟩) | 7 => wEq (.int .i64 (p.syms.length : Nat)) | 8 => wAny | 9 => wEq (.pointer (some ⟨g, 0, none⟩)) | _ => wEq (.pointer (some ⟨g, 3, none⟩))) 8 (MapJ (plNames p ++ [nm]) mn w6.heap.size) (fun _ _ _ h hb => h.below hb) (by kernel_rfl) (by kernel_rfl) (by kernel_rfl) (by kernel_rfl) (by decide) rfl (by kernel_rfl) rfl (by decide) ?he3 ?_ ?_
        case he3 => simp only [putAll, Act.put, List.setIfInBounds_toArray, List.set_cons_zero, List.set_cons_succ]
        · intro i o hi ho vs wx hvl hb hB hdep K hK
          have hvs := vlen11 hvl
          obtain ⟨s45, s46, s47, s48, s49, s50, s51, s52, s53, s54, s55, rfl⟩ := hvs
          clear hvl
          have hk := HS.out wx hb
          obtain ⟨⟨q0, q1, q2, q3, q4⟩, -, hbox⟩ := hk
          go_split_ands
          rcases i with _ | _ | _ | _ | _ | _ | _ | _ | _ | _ | _ | i
          all_goals (simp only [List.getElem?_toArray, List.getElem?_cons_zero, List.getElem?_cons_succ, Option.some.injEq] at ho)
          all_goals try (subst ho)
          all_goals try simp only [putAll, Act.put, List.setIfInBounds_toArray, List.set_cons_zero, List.set_cons_succ]
          · go_simp
            have hK' := hK.out
            simp only [putAll, Act.put, List.setIfInBounds_toArray, List.set_cons_zero, List.set_cons_succ] at hK'
            exact hK' _ _ rfl (fun _ => Below.refl _ _) (fun h => absurd h (by decide))
          · go_simp
            have hK' := hK.out
            simp only [putAll, Act.put, List.setIfInBounds_toArray, List.set_cons_zero, List.set_cons_succ] at hK'
            exact hK' _ _ rfl (fun _ => Below.refl _ _) (fun h => absurd h (by decide))
          · have e1 : s46 = _ := hdep ⟨1, .data⟩ (by simp) rfl
            have e1 := e1.symm
            subst e1
            go_simp
            have hK' := hK.out
            simp only [putAll, Act.put, List.setIfInBounds_toArray, List.set_cons_zero, List.set_cons_succ] at hK'
            exact hK' _ _ rfl (fun _ => Below.refl _ _) (fun h => absurd h (by decide))
          · have e2 : s47 = _ := hdep ⟨2, .data⟩ (by simp) rfl
            have e2 := e2.symm
            subst e2
            go_simp
            have hK' := hK.out
            simp only [putAll, Act.put, List.setIfInBounds_toArray, List.set_cons_zero, List.set_cons_succ] at hK'
            exact hK' _ _ rfl (fun _ => Below.refl _ _) (fun h => absurd h (by decide))
          · have e3 : s48 = _ := hdep ⟨3, .data⟩ (by simp) rfl
            have e3 := e3.symm
            subst e3
            go_simp
            have hK' := hK.out
            simp only [putAll, Act.put, List.setIfInBounds_toArray, List.set_cons_zero, List.set_cons_succ] at hK'
            exact hK' _ _ rfl (fun _ => Below.refl _ _) (fun h => absurd h (by decide))
          · go_simp
            have hK' := hK.out
            simp only [putAll, Act.put, List.setIfInBounds_toArray, List.set_cons_zero, List.set_cons_succ] at hK'
            exact hK' _ _ rfl (fun _ => Below.refl _ _) (fun h => absurd h (by decide))
          · have e5 : s50 = _ := hdep ⟨5, .data⟩ (by simp) rfl
            have e5 := e5.symm
            subst e5
            go_simp
            have hK' := hK.out
            simp only [putAll, Act.put, List.setIfInBounds_toArray, List.set_cons_zero, List.set_cons_succ] at hK'
            exact hK' _ _ rfl (fun _ => Below.refl _ _) (fun h => absurd h (by decide))
          · go_simp
            have hK' := hK.out
            simp only [putAll, Act.put, List.setIfInBounds_toArray, List.set_cons_zero, List.set_cons_succ] at hK'
            exact hK' _ _ rfl (fun _ => Below.refl _ _) (fun h => absurd h (by decide))
          · have e4 : s49 = _ := hdep ⟨4, .data⟩ (by simp) rfl
            have e4 := e4.symm
            subst e4
            have e6 : s51 = _ := hdep ⟨6, .data⟩ (by simp) rfl
            have e6 := e6.symm
            subst e6
            have e7 : s52 = _ := hdep ⟨7, .data⟩ (by simp) rfl
            have e7 := e7.symm
            subst e7
            have hbB := hB (Or.inl rfl)
            go_simp
            refine (Hwith.out _ hbB).mono ?_
            rintro e wy ⟨m', rfl, hm, hg, hv⟩
            go_wp2_with fail
            have hK' := hK.out
            simp only [putAll, Act.put, List.setIfInBounds_toArray, List.set_cons_zero, List.set_cons_succ] at hK'
            exact hK' _ _ trivial (fun h => absurd rfl h) (fun _ => ⟨(Apart.refl _ _).grown hg (fun k e => e), m', rfl, hm, hv.imp id fun h b e => Nat.le_trans hbB.size (h b e)⟩)
          · have e0 : s45 = _ := hdep ⟨0, .data⟩ (by simp) rfl
            have e0 := e0.symm
            subst e0
            go_simp
            have hK' := hK.out
            simp only [putAll, Act.put, List.setIfInBounds_toArray, List.set_cons_zero, List.set_cons_succ] at hK'
            exact hK' _ _ rfl (fun _ => Below.refl _ _) (fun h => absurd h (by decide))
          · have e9 : s54 = _ := hdep ⟨9, .data⟩ (by simp) rfl
            have e9 := e9.symm
            subst e9
            go_simp
            have hK' := hK.out
            simp only [putAll, Act.put, List.setIfInBounds_toArray, List.set_cons_zero, List.set_cons_succ] at hK'
            exact hK' _ _ rfl (fun _ => Below.refl _ _) (fun h => absurd h (by decide))
          · omega
        · intro vs wx hvl hb hf hJw
          have hvs := vlen11 hvl
          obtain ⟨s45, s46, s47, s48, s49, s50, s51, s52, s53, s54, s55, rfl⟩ := hvs
          have fp : s55 = .pointer (some ⟨g, 3, none⟩) := hf 10 (by decide)
          subst fp
          have hJw : MapJ (plNames p ++ [nm]) mn w6.heap.size s53 wx := hJw
          obtain ⟨m', ev, hj1, hj2⟩ := hJw
          subst ev
          clear hf hvl
          have hk := HS.out wx hb
          obtain ⟨⟨q0, q1, q2, q3, q4⟩, ⟨fz, -⟩, -⟩ := hk
          refine wpAny_one (i := 11) (by kernel_rfl) rfl ?_
          intro K hK
          simp only [putAll, Act.put, List.setIfInBounds_toArray, List.set_cons_zero, List.set_cons_succ]
          have hK' := hK.out
          have fzz := fz 3
          go_simp
          apply hK'
          clear hK hK' q0 q1 q2 q3 q4 fz fzz
          refine wpAny_done (by kernel_rfl) ?_ _
          try simp only [putAll, Act.put, List.setIfInBounds_toArray, List.set_cons_zero, List.set_cons_succ]
          have S9 := hid (HS6.out.name hb hj1 hj2 (fun k hk => .inr (by omega)))
          have A9 : Hid (Apart S w4 (wx.setCell ⟨g, 3, none⟩ (.map m'))) := hid (HA6.out.go ((hb.mono fun k hk => HH1.out.names.2 k hk).setCell (p := ⟨g, 3, none⟩) HH1.out.own _))
          clear hb hj1 hj2 HS Hwith HS6 HA6
          go_wp2
          go_ret2
          have hfin := plDeclare_new (p := p) (s := sd) Hbad.out Hany.out Hfl.out
          have hlt : p.syms.length < 256 := by have := Hfl.out; omega
          refine ⟨by rw [Hr.out, hfin]; rfl, fun k => Wide S w.heap.size k ∧ k < (wx.setCell ⟨g, 3, none⟩ (.map m')).heap.size, ?_, ?_, (Apart.of_below Hbw4.out).go A9.out⟩
          · rw [Hr.out, hfin]
            have hb9 := S9.out.bound
            rw [Hsd.out] at hb9
            refine ⟨⟨_, vt, vo, m', mk, _, by rw [plNames_snoc]; exact hnm ▸ hb9⟩, Hok.out.declare Hany.out hlt (by rw [hnm]; exact hnl), fun k hk => hk.2⟩
          · intro k hk
            rcases hk.1 with h | h
            · exact .inl h
            · exact .inr h
end Go.Proofs.YtckkpolikdnilaaGreatDoor
/- slices.IndexFunc, ContainsFunc of symbols with isNoSymbol. -/
namespace Go.Proofs.YtckkpolikdnilaaGreatDoor
open Go.RowKit Big Go.WideMaps

/-- symbols that are handed in -/
def SyIn (w : World) (v : Value) (l : List Sy) : Prop :=
  ∃ p cap, v = .slice p l.length cap ∧ l.length ≤ cap ∧ cap ≤ maxLen ∧ (p = none → cap = 0) ∧
    (0 < l.length → ∃ b off, p = some ⟨b, off, none⟩ ∧ b < w.heap.size ∧ ∀ i (h : i < l.length), w.cell? ⟨b, off + i * 3, none⟩ = some (.string ⟨l[i].name.toArray⟩) ∧ w.cell? ⟨b, off + i * 3 + 1, none⟩ = some (.int .i64 l[i].arity) ∧ w.cell? ⟨b, off + i * 3 + 2, none⟩ = some (.int .i64 l[i].sort))
theorem SyIn.stays {w w' : World} {v : Value} {l : List Sy} (h : SyIn w v l) (hz : w.heap.size ≤ w'.heap.size) (hb : ∀ k, v.ownBlock = some k → w'.heap[k]? = w.heap[k]?) : SyIn w' v l := by
  obtain ⟨p, cap, rfl, h1, h2, h3, h4⟩ := h
  refine ⟨p, cap, rfl, h1, h2, h3, fun hp => ?_⟩
  obtain ⟨b, off, rfl, h6, h7⟩ := h4 hp
  have e := hb b rfl
  have c : ∀ o, w'.cell? ⟨b, o, none⟩ = w.cell? ⟨b, o, none⟩ := fun o => World.cell?_of_block (w := w) e
  exact ⟨b, off, rfl, Nat.lt_of_lt_of_le h6 hz, fun i hi => by rw [c, c, c]; exact h7 i hi⟩
theorem SyIn.below {w w' : World} {v : Value} {l : List Sy} (h : SyIn w v l) (hb : Below w.heap.size w w') : SyIn w' v l := by
  obtain ⟨p, cap, rfl, h1, h2, h3, h4⟩ := h
  refine ⟨p, cap, rfl, h1, h2, h3, fun hp => ?_⟩
  obtain ⟨b, off, h5, h6, h7⟩ := h4 hp
  exact ⟨b, off, h5, Nat.lt_of_lt_of_le h6 hb.size, fun i hi => ⟨(hb.cell (p := ⟨b, off + i * 3, none⟩) h6).trans (h7 i hi).1, (hb.cell (p := ⟨b, off + i * 3 + 1, none⟩) h6).trans (h7 i hi).2.1, (hb.cell (p := ⟨b, off + i * 3 + 2, none⟩) h6).trans (h7 i hi).2.2⟩⟩
theorem SyAt.handed {w : World} {v : Value} {l : List Sy} (h : SyAt w v l) : SyIn w v l := by
  obtain ⟨p, cap, hv, h1, h2, h3, h4⟩ := h
  refine ⟨p, cap, hv, h1, h2, h3, fun hp => ?_⟩
  obtain ⟨b, h5, h6, h7⟩ := h4 hp
  exact ⟨b, 0, h5, h6, fun i hi => by simpa using h7 i hi⟩

set_option maxRecDepth 100000 in
set_option maxHeartbeats 3200000 in
theorem indexBadSym_any (v : Value) (l : List Sy) (w : World) (hl : SyIn w v l) :
    Calls Tryz.prog 95 #[v, .func (.func 69) #[] #[]] w (RIx (l.any plBadSym) w) := by
  obtain ⟨pa, ca, rfl, i1, i2, i3, i4⟩ := hl
  have Hi := hid i4
  unfold maxLen at i2
  clear i4 i3
  go_enter Tryz.func95, Tryz.ntmps95
  go_wp2_with fail
  go_loopw [8] (fun i wr => ∃ k : Nat, k ≤ l.length ∧ i = .int .i64 (k : Nat) ∧ Hid ((l.take k).any plBadSym = false) ∧ Hid (Below w.heap.size w wr)) (fun i _ => l.length - (intOf i).toNat)
  case atStart => exact ⟨0, Nat.zero_le _, rfl, by unfold Hid; rfl, by unfold Hid; exact Below.refl _ _⟩
  case round =>
    obtain ⟨k, hk, rfl, hany, hb⟩ := hrel
    by_cases hlt : k < l.length
    · have hlt' : (k : Int) < (l.length : Nat) := by omega
      obtain ⟨bb, off, rfl, j1, j2⟩ := Hi.out (by omega)
      obtain ⟨m0, m1, m2⟩ := j2 k hlt
      have m0 := (hb.out.cell (p := ⟨bb, off + k * 3, none⟩) j1).trans m0
      have m1 := (hb.out.cell (p := ⟨bb, off + k * 3 + 1, none⟩) j1).trans m1
      have m2 := (hb.out.cell (p := ⟨bb, off + k * 3 + 2, none⟩) j1).trans m2
      have hc := isNoSymbol_any l[k] wr
      have hs1 := any_take_succ plBadSym l k hlt hany.out
      have hs2 := any_of_at plBadSym l k hlt
      generalize l[k] = x at *
      generalize plBadSym x = r at *
      unfold Sy.val at hc
      have Hs1 := hid hs1; have Hs2 := hid hs2; have Hc := hid hc
      clear j2 hs1 hs2 hc hany Hi
      obtain ⟨nm, ar, so⟩ := x
      dsimp only at *
      cases r
      · go_wp2_with (refine Hc.out.mono ?_; rintro e w1 ⟨rfl, b1⟩)
        go_roundw
        case rel => exact ⟨k + 1, by omega, rfl, by unfold Hid; exact Hs1.out (by trivial), by unfold Hid; exact hb.out.trans (b1.mono hb.out.size)⟩
        case measure => simp [intOf]; omega
      · go_wp2_with (refine Hc.out.mono ?_; rintro e w1 ⟨rfl, b1⟩)
        go_ret
        exact ⟨_, rfl, by rw [Hs2.out (by trivial)]; simp, hb.out.trans (b1.mono hb.out.size)⟩
    · have hkk : k = l.length := by omega
      subst hkk
      have ha : l.any plBadSym = false := by have := hany.out; rwa [List.take_length] at this
      have Ha := hid ha
      clear ha hany
      go_wp2_with fail
      go_ret
      exact ⟨_, rfl, by rw [Ha.out]; simp, hb.out⟩

set_option maxRecDepth 100000 in
set_option maxHeartbeats 1600000 in
theorem containsBadSym_any (v : Value) (l : List Sy) (w : World) (hl : SyIn w v l) :
    Calls Tryz.prog 68 #[v, .func (.func 69) #[] #[]] w (RBool (l.any plBadSym) w) := by
  have hc := fun w' hb => indexBadSym_any v l w' (hl.below (w' := w') hb)
  have Hc := hid hc
  obtain ⟨pa, ca, rfl, i1, i2, i3, i4⟩ := hl
  clear hc i4
  generalize l.any plBadSym = f at *
  go_enter Tryz.func68, Tryz.ntmps68
  go_wp2_with fail
  refine (Hc.out _ (Below.refl _ _)).mono ?_
  rintro e w1 ⟨z, rfl, hz, b1⟩
  go_wp2
  go_ret
  exact ⟨rfl, b1⟩
end Go.Proofs.YtckkpolikdnilaaGreatDoor
/- (*pool.Pool).makeNew; pool.each of symbols and of terms; New, Check. -/
namespace Go.Proofs.YtckkpolikdnilaaGreatDoor
open Go.RowKit Big Go.WideMaps

/-- terms that are handed in -/
def TmsIn (w : World) (v : Value) (l : List Tm) : Prop :=
  ∃ p cap, v = .slice p l.length cap ∧ l.length ≤ cap ∧ cap ≤ maxLen ∧ (p = none → cap = 0) ∧
    (0 < l.length → ∃ b off, p = some ⟨b, off, none⟩ ∧ b < w.heap.size ∧ ∀ i (h : i < l.length), ∃ c0 c1 c2 c3 c4, w.cell? ⟨b, off + i * 5, none⟩ = some c0 ∧ w.cell? ⟨b, off + i * 5 + 1, none⟩ = some c1 ∧ w.cell? ⟨b, off + i * 5 + 2, none⟩ = some c2 ∧ w.cell? ⟨b, off + i * 5 + 3, none⟩ = some c3 ∧ w.cell? ⟨b, off + i * 5 + 4, none⟩ = some c4 ∧
      TmRaw w (.agg #[c0, c1, c2, c3, c4]) l[i])
theorem TmsIn.below {w w' : World} {v : Value} {l : List Tm} (h : TmsIn w v l) (hb : Below w.heap.size w w') : TmsIn w' v l := by
  obtain ⟨p, cap, rfl, h1, h2, h3, h4⟩ := h
  refine ⟨p, cap, rfl, h1, h2, h3, fun hp => ?_⟩
  obtain ⟨b, off, h5, h6, h7⟩ := h4 hp
  refine ⟨b, off, h5, Nat.lt_of_lt_of_le h6 hb.size, fun i hi => ?_⟩
  obtain ⟨c0, c1, c2, c3, c4, e0, e1, e2, e3, e4, ht⟩ := h7 i hi
  have c : ∀ o, w'.cell? ⟨b, o, none⟩ = w.cell? ⟨b, o, none⟩ := fun o => hb.cell (p := ⟨b, o, none⟩) h6
  exact ⟨c0, c1, c2, c3, c4, (c _).trans e0, (c _).trans e1, (c _).trans e2, (c _).trans e3, (c _).trans e4, ht.below hb⟩

def plNew (p : Po) (t : Tm) : Po × Int × Int := if (plMake p t).2.2 = 0 ∧ (plMake p t).2.1 < (p.terms.length : Nat) then ((plMake p t).1, 0, 6) else plMake p t
def plDecls : Po → List Sy → Po × Int
  | p, [] => (p, 0)
  | p, s :: l => if (plDeclare p s).2.2 ≠ 0 then ((plDeclare p s).1, (plDeclare p s).2.2) else plDecls (plDeclare p s).1 l
def plNews : Po → List Tm → Po × Int
  | p, [] => (p, 0)
  | p, t :: l => if (plNew p t).2.2 ≠ 0 then ((plNew p t).1, (plNew p t).2.2) else plNews (plNew p t).1 l

set_option maxRecDepth 100000 in
set_option maxHeartbeats 6400000 in
theorem makeNew_any (B : Nat) (S : Nat → Prop) (g : Nat) (p : Po) (t : Tm) (v : Value) (w : World) (h : PoAt w S g p) (hB : B ≤ w.heap.size) (htab : Tb B w) (ht : TmRaw w v t) (hla : t.args.length ≤ 1099511627776) :
    Calls Tryz.prog 50 #[.pointer (some ⟨g, 0, none⟩), v] w (RMk S g (plNew p t) w) := by
  have Hpt := hid ht
  have Hpo := hid h
  have Htab := hid htab
  obtain ⟨pa, ca, b, pm, nm, cm, rfl, -, -⟩ := ht
  have bx := heap_alloc_new w (.cells #[.int .i64 t.op, .slice pa t.args.length ca, .bool b, .slice pm nm cm, .int .i64 t.sym] 71)
  have b0 := below1 w (.cells #[.int .i64 t.op, .slice pa t.args.length ca, .bool b, .slice pm nm cm, .int .i64 t.sym] 71)
  have hmk := Make_any B S g p t _ _ (Hpo.out.below b0) (Nat.le_trans hB b0.size) (Htab.out.on (b0.mono hB)) (Hpt.out.below b0) hla
  have h1 := Hpo.out.below b0
  obtain ⟨⟨vs, vt, vo, mn, mk, cs, H1⟩, -, -⟩ := h1
  obtain ⟨pt, cpt, evt⟩ := ownsRow_shape H1.terms
  subst evt
  have q1 := five_cells H1.cell
  have q0 := five_cells bx
  generalize hr : plMake p t = r at hmk
  have Hr := hid hr
  obtain ⟨p', n, er⟩ := r
  have Hmk := hid hmk
  obtain ⟨x0, x1, x2, x3, x4⟩ := q0
  obtain ⟨y0, y1, y2, y3, y4⟩ := q1
  generalize hL : p.terms.length = L at *
  have HL := hid hL
  clear h htab hmk bx H1 hr hL y0 y2 y3 y4
  go_enter Tryz.func50, Tryz.ntmps50
  go_wp2_with fail
  generalize hW : (w.alloc (.cells #[.int .i64 t.op, .slice pa t.args.length ca, .bool b, .slice pm nm cm, .int .i64 t.sym] 71)) = W0 at *
  refine Hmk.out.mono ?_
  rintro e w1 ⟨rfl, S', hp', hS', hA⟩
  have Hp' := hid hp'; have HS' := hid hS'; have HA := hid hA
  clear x0 x1 x2 x3 x4 y1 hp' hS' hA hW Hmk
  cases he : (er == 0)
  case false =>
    have hne : er ≠ 0 := by simpa using he
    have Hne := hid hne
    clear hne
    go_wp2
    go_ret2
    have hp : plNew p t = (p', n, er) := by unfold plNew; rw [Hr.out, if_neg (fun h => Hne.out h.1)]
    exact ⟨by rw [hp]; rfl, S', by rw [hp]; exact Hp'.out, fun k hk => (HS'.out k hk).imp id (Nat.le_trans b0.size), (Apart.of_below b0).go HA.out⟩
  case true =>
    have hez : er = 0 := by simpa using he
    subst hez
    clear he
    cases hlt : decide (n < (L : Int))
    case true =>
      have Hlt := hid (of_decide_eq_true hlt)
      go_wp2
      go_ret2
      have hp : plNew p t = (p', 0, 6) := by unfold plNew; rw [Hr.out, if_pos ⟨rfl, by rw [HL.out]; exact Hlt.out⟩]
      exact ⟨by rw [hp]; rfl, S', by rw [hp]; exact Hp'.out, fun k hk => (HS'.out k hk).imp id (Nat.le_trans b0.size), (Apart.of_below b0).go HA.out⟩
    case false =>
      have Hlt := hid (of_decide_eq_false hlt)
      go_wp2
      go_ret2
      have hp : plNew p t = (p', n, 0) := by unfold plNew; rw [Hr.out, if_neg (fun h => by have h2 := h.2; rw [HL.out] at h2; dsimp only at h2; have := Hlt.out; omega)]
      exact ⟨by rw [hp]; rfl, S', by rw [hp]; exact Hp'.out, fun k hk => (HS'.out k hk).imp id (Nat.le_trans b0.size), (Apart.of_below b0).go HA.out⟩

def REach (S : Nat → Prop) (g : Nat) (r : Po × Int) (w : World) (e : Ending) (w' : World) : Prop := e = .returned (.int .i64 r.2) ∧ ∃ S', PoAt w' S' g r.1 ∧ (∀ k, S' k → S k ∨ w.heap.size ≤ k) ∧ Apart S w w'
/-- where a loop over items stands -/
def EachAt {α : Type} (f : Po → List α → Po × Int) (l : List α) (p : Po) (S : Nat → Prop) (g : Nat) (w : World) (k : Nat) (wr : World) : Prop :=
  ∃ pk Sk, f p l = f pk (l.drop k) ∧ PoAt wr Sk g pk ∧ (∀ i, Sk i → S i ∨ w.heap.size ≤ i) ∧ Apart S w wr
theorem grow_wide {S S' S'' : Nat → Prop} {n m : Nat} (h : ∀ k, S' k → S k ∨ n ≤ k) (h' : ∀ k, S'' k → S' k ∨ m ≤ k) (hm : n ≤ m) : ∀ k, S'' k → S k ∨ n ≤ k := fun k hk => by
  rcases h' k hk with h1 | h1
  · exact h k h1
  · exact .inr (Nat.le_trans hm h1)
set_option maxRecDepth 100000 in
set_option maxHeartbeats 6400000 in
theorem eachSyms_any (S : Nat → Prop) (g : Nat) (p : Po) (v : Value) (l : List Sy) (w : World) (h : PoAt w S g p) (hl : SyIn w v l) (hv : ∀ k, 0 < l.length → v.ownBlock = some k → ¬ S k) (hn : ∀ s ∈ l, s.name.length ≤ 281474976710656) :
    Calls Tryz.prog 70 #[v, .func (.func 71) #[.pointer (some ⟨g, 0, none⟩)] #[]] w (REach S g (plDecls p l) w) := by
  obtain ⟨pa, ca, rfl, i1, i2, i3, i4⟩ := hl
  have Hi := hid i4
  have Hn := hid hn
  have Hv := hid hv
  have Hpo := hid h
  unfold maxLen at i2
  clear i4 i3 hn h hv
  go_enter Tryz.func70, Tryz.ntmps70
  go_wp2_with fail
  go_loopw [11] (fun i wr => ∃ k : Nat, k ≤ l.length ∧ i = .int .i64 (k : Nat) ∧ Hid (EachAt plDecls l p S g w k wr)) (fun i _ => l.length - (intOf i).toNat)
  case atStart => exact ⟨0, Nat.zero_le _, rfl, hid ⟨p, S, by rw [List.drop_zero], Hpo.out, fun k h => .inl h, Apart.refl _ _⟩⟩
  case round =>
    obtain ⟨k, hk, rfl, Hb⟩ := hrel
    by_cases hlt : k < l.length
    · have hlt' : (k : Int) < (l.length : Nat) := by omega
      obtain ⟨bb, off, rfl, j1, j2⟩ := Hi.out (by omega)
      have hb := Hb.out
      obtain ⟨pk, Sk, hf, hp, hS, hA⟩ := hb
      have hbb : ∀ o, wr.cell? ⟨bb, o, none⟩ = w.cell? ⟨bb, o, none⟩ := fun o => hA.cell (p := ⟨bb, o, none⟩) j1 (Hv.out bb (by omega) rfl)
      obtain ⟨m0, m1, m2⟩ := j2 k hlt
      have m0 := (hbb _).trans m0
      have m1 := (hbb _).trans m1
      have m2 := (hbb _).trans m2
      have hns := Hn.out l[k] (List.getElem_mem hlt)
      have hdr : plDecls pk (l.drop k) = if (plDeclare pk l[k]).2.2 ≠ 0 then ((plDeclare pk l[k]).1, (plDeclare pk l[k]).2.2) else plDecls (plDeclare pk l[k]).1 (l.drop (k + 1)) := by
        rw [List.drop_eq_getElem_cons hlt]; rfl
      have hdc := fun W (hw : Below wr.heap.size wr W) => Declare_any Sk g pk l[k] W (hp.below hw) hns
      generalize l[k] = x at *
      generalize hrr : plDeclare pk x = rr at *
      obtain ⟨p2, n2, er⟩ := rr
      dsimp only at *
      unfold Sy.val at hdc
      obtain ⟨nm, ar, so⟩ := x
      dsimp only at *
      have Hdc := hid hdc; have Hdr := hid hdr; have Hf := hid hf; have HS := hid hS; have HA := hid hA
      have bx := below1 wr (.cells #[.string ⟨nm.toArray⟩, .int .i64 ar, .int .i64 so] 39)
      clear hbb j2 hns hdr hdc hf hp hS hA Hb Hi Hn hrr
      go_wp2_with fail
      refine (Hdc.out _ bx).mono ?_
      rintro e w3 ⟨rfl, S3, hp3, hS3, hA3⟩
      have Hp3 := hid hp3
      have HS3 := hid (grow_wide HS.out (fun k hk => (hS3 k hk).imp id (Nat.le_trans bx.size)) HA.out.size)
      have HA3 := hid (HA.out.trans ((Apart.of_below (S := Sk) bx).go hA3) HS.out)
      clear hp3 hS3 hA3 bx
      cases he : (er != 0)
      · have Her := hid (show er = 0 by simpa using he)
        go_wp2_with fail
        go_roundw
        case rel => exact ⟨k + 1, by omega, rfl, hid ⟨p2, S3, by rw [Hf.out, Hdr.out, if_neg (by simp [Her.out])], Hp3.out, HS3.out, HA3.out⟩⟩
        case measure => simp [intOf]; omega
      · have Her := hid (show er ≠ 0 by simpa using he)
        go_wp2_with fail
        go_ret
        have hfin : plDecls p l = (p2, er) := by rw [Hf.out, Hdr.out, if_pos Her.out]
        exact ⟨by rw [hfin]; rfl, S3, by rw [hfin]; exact Hp3.out, HS3.out, HA3.out⟩
    · have hkk : k = l.length := by omega
      subst hkk
      go_wp2_with fail
      go_ret
      obtain ⟨pk, Sk, hf, hp, hS, hA⟩ := Hb.out
      rw [List.drop_length] at hf
      have hfin : plDecls p l = (pk, 0) := hf
      exact ⟨by rw [hfin]; rfl, Sk, by rw [hfin]; exact hp, hS, hA⟩
set_option maxRecDepth 100000 in
set_option maxHeartbeats 6400000 in
theorem eachTerms_any (B : Nat) (S : Nat → Prop) (g : Nat) (p : Po) (v : Value) (l : List Tm) (w : World) (h : PoAt w S g p) (hS0 : ∀ k, S k → B ≤ k) (hB : B ≤ w.heap.size) (htab : Tb B w) (hl : TmsIn w v l) (hlow : ∀ W, Apart S w W → TmsIn W v l) (hn : ∀ t ∈ l, t.args.length ≤ 1099511627776) :
    Calls Tryz.prog 49 #[v, .func (.func 50) #[.pointer (some ⟨g, 0, none⟩)] #[]] w (REach S g (plNews p l) w) := by
  obtain ⟨pa, ca, rfl, i1, i2, i3, i4⟩ := hl
  have Hi := hid i4
  have Hn := hid hn
  have Hlow := hid hlow
  have Htab := hid htab
  have HSB := hid hS0
  have Hpo := hid h
  unfold maxLen at i2
  clear i4 i3 hn h hlow htab hS0
  go_enter Tryz.func49, Tryz.ntmps49
  go_wp2_with fail
  go_loopw [11] (fun i wr => ∃ k : Nat, k ≤ l.length ∧ i = .int .i64 (k : Nat) ∧ Hid (EachAt plNews l p S g w k wr)) (fun i _ => l.length - (intOf i).toNat)
  case atStart => exact ⟨0, Nat.zero_le _, rfl, hid ⟨p, S, by rw [List.drop_zero], Hpo.out, fun k h => .inl h, Apart.refl _ _⟩⟩
  case round =>
    obtain ⟨k, hk, rfl, Hb⟩ := hrel
    by_cases hlt : k < l.length
    · have hlt' : (k : Int) < (l.length : Nat) := by omega
      have hb := Hb.out
      obtain ⟨pk, Sk, hf, hp, hS, hA⟩ := hb
      obtain ⟨_, _, e5, -, -, -, hc⟩ := Hlow.out wr hA
      cases e5
      obtain ⟨bb, off, rfl, j1, j2⟩ := hc (by omega)
      obtain ⟨c0, c1, c2, c3, c4, m0, m1, m2, m3, m4, hraw⟩ := j2 k hlt
      have hns := Hn.out l[k] (List.getElem_mem hlt)
      have hdr : plNews pk (l.drop k) = if (plNew pk l[k]).2.2 ≠ 0 then ((plNew pk l[k]).1, (plNew pk l[k]).2.2) else plNews (plNew pk l[k]).1 (l.drop (k + 1)) := by
        rw [List.drop_eq_getElem_cons hlt]; rfl
      have htb : Tb B wr := Htab.out.on (hA.below hB HSB.out)
      have hBr := Nat.le_trans hB hA.size
      have hdc := fun W (hw : Below wr.heap.size wr W) => makeNew_any B Sk g pk l[k] _ W (hp.below hw) (Nat.le_trans hBr hw.size) (htb.on (hw.mono hBr)) (hraw.below hw) hns
      generalize l[k] = x at *
      generalize hrr : plNew pk x = rr at *
      obtain ⟨p2, n2, er⟩ := rr
      dsimp only at *
      obtain ⟨pa, ca', b, pm, nm, cm, ea, -, -⟩ := hraw
      cases ea
      have Hdc := hid hdc; have Hdr := hid hdr; have Hf := hid hf; have HS := hid hS; have HA := hid hA
      have bx := below1 wr (.cells #[.int .i64 x.op, .slice pa x.args.length ca', .bool b, .slice pm nm cm, .int .i64 x.sym] 71)
      clear j2 hns hdr hdc hf hp hS hA Hb Hi Hn hrr Hlow htb
      go_wp2_with fail
      refine (Hdc.out _ bx).mono ?_
      rintro e w3 ⟨rfl, S3, hp3, hS3, hA3⟩
      have Hp3 := hid hp3
      have HS3 := hid (grow_wide HS.out (fun k hk => (hS3 k hk).imp id (Nat.le_trans bx.size)) HA.out.size)
      have HA3 := hid (HA.out.trans ((Apart.of_below (S := Sk) bx).go hA3) HS.out)
      clear hp3 hS3 hA3 bx
      cases he : (er != 0)
      · have Her := hid (show er = 0 by simpa using he)
        go_wp2_with fail
        go_roundw
        case rel => exact ⟨k + 1, by omega, rfl, hid ⟨p2, S3, by rw [Hf.out, Hdr.out, if_neg (by simp [Her.out])], Hp3.out, HS3.out, HA3.out⟩⟩
        case measure => simp [intOf]; omega
      · have Her := hid (show er ≠ 0 by simpa using he)
        go_wp2_with fail
        go_ret
        have hfin : plNews p l = (p2, er) := by rw [Hf.out, Hdr.out, if_pos Her.out]
        exact ⟨by rw [hfin]; rfl, S3, by rw [hfin]; exact Hp3.out, HS3.out, HA3.out⟩
    · have hkk : k = l.length := by omega
      subst hkk
      go_wp2_with fail
      go_ret
      obtain ⟨pk, Sk, hf, hp, hS, hA⟩ := Hb.out
      rw [List.drop_length] at hf
      have hfin : plNews p l = (pk, 0) := hf
      exact ⟨by rw [hfin]; rfl, Sk, by rw [hfin]; exact hp, hS, hA⟩

def plNewErr (l : List Sy) : Int := if 256 < l.length then 11 else if l.any plBadSym then 6 else (plDecls ⟨[], [], []⟩ l).2
def plCheck (syms : List Sy) (terms : List Tm) : Int := if plNewErr syms ≠ 0 then plNewErr syms else (plNews ⟨syms, [], []⟩ terms).2
theorem plDeclare_ok {p : Po} {s : Sy} (h : (plDeclare p s).2.2 = 0) : (plDeclare p s).1 = ⟨p.syms ++ [s], p.terms, p.sorts⟩ := by
  unfold plDeclare at h ⊢
  split at h
  · simp at h
  · split at h
    · simp at h
    · split at h
      · simp at h
      · rename_i h1 h2 h3
        rw [if_neg h1, if_neg h2, if_neg h3]
theorem plDecls_ok : ∀ (l : List Sy) (p : Po), (plDecls p l).2 = 0 → (plDecls p l).1 = ⟨p.syms ++ l, p.terms, p.sorts⟩
  | [], p, _ => by simp [plDecls]
  | s :: l, p, h => by
    unfold plDecls at h ⊢
    by_cases h0 : (plDeclare p s).2.2 = 0
    · rw [if_neg (by simp [h0])] at h ⊢
      have := plDecls_ok l _ h
      rw [this, plDeclare_ok h0]
      simp
    · rw [if_pos h0] at h
      exact absurd h h0
theorem PoAt.empty {w : World} {g : Nat} (h : w.heap[g]? = some (.cells #[.slice none 0 0, .slice none 0 0, .slice none 0 0, .map none, .map none] 119 (0, 0))) : PoAt w (fun k => k = g) g ⟨[], [], []⟩ := by
  refine ⟨⟨_, _, _, none, none, [], ⟨rfl, h, World.ownsRow_nil _ _ _ _, fun k hk => by simp [Value.ownBlock] at hk, World.ownsRow_nil _ _ _ _, fun k hk => by simp [Value.ownBlock] at hk, World.ownsRow_nil _ _ _ _, fun k hk => by simp [Value.ownBlock] at hk, rfl, ⟨.inl ⟨rfl, rfl⟩, fun b e => by cases e⟩, ⟨.inl ⟨rfl, rfl⟩, fun b e => by cases e⟩, fun b e => by cases e⟩⟩, ?_, fun k hk => by subst hk; exact lt_of_block h⟩
  exact ⟨by simp, by simp, rfl, by simp, by simp, by simp, by simp⟩
def RNew (l : List Sy) (w : World) (e : Ending) (w' : World) : Prop := (plNewErr l ≠ 0 → e = .returned (.tuple #[.pointer none, .int .i64 (plNewErr l)])) ∧
  (plNewErr l = 0 → ∃ g S, e = .returned (.tuple #[.pointer (some ⟨g, 0, none⟩), .int .i64 0]) ∧ PoAt w' S g ⟨l, [], []⟩ ∧ ∀ k, S k → w.heap.size ≤ k) ∧ Below w.heap.size w w'
set_option maxRecDepth 100000 in
set_option maxHeartbeats 6400000 in
theorem New_any (v : Value) (l : List Sy) (w : World) (hl : SyIn w v l) (hn : ∀ s ∈ l, s.name.length ≤ 281474976710656) : Calls Tryz.prog 48 #[v] w (RNew l w) := by
  have Hl := hid hl
  have Hn := hid hn
  have Hc := hid (fun w' hb => containsBadSym_any v l w' (hl.below (w' := w') hb))
  obtain ⟨pa, ca, rfl, i1, i2, -, i4⟩ := hl
  have Hi := hid i4
  unfold maxLen at i2
  clear hn i4
  cases hlong : decide ((256 : Int) < (l.length : Nat))
  case true =>
    have he : plNewErr l = 11 := by unfold plNewErr; rw [if_pos (by have := of_decide_eq_true hlong; omega)]
    have He := hid he
    clear he
    go_enter Tryz.func48, Tryz.ntmps48
    go_wp2
    go_ret2
    exact ⟨fun _ => by rw [He.out]; rfl, (fun h => by rw [He.out] at h; cases h), Below.refl _ _⟩
  case false =>
    have hle : ¬ 256 < l.length := by have := of_decide_eq_false hlong; omega
    generalize hbad : l.any plBadSym = bad at Hc
    have Hbad := hid hbad
    clear hbad
    cases bad
    case true =>
      have He := hid (show plNewErr l = 6 by unfold plNewErr; rw [if_neg hle, Hbad.out]; rfl)
      go_enter Tryz.func48, Tryz.ntmps48
      go_wp2_with (refine (Hc.out _ (Below.refl _ _)).mono ?_; rintro e w1 ⟨rfl, b1⟩)
      go_ret2
      exact ⟨fun _ => by rw [He.out]; rfl, (fun h => by rw [He.out] at h; cases h), b1⟩
    case false =>
      have He := hid (show plNewErr l = (plDecls ⟨[], [], []⟩ l).2 by unfold plNewErr; rw [if_neg hle, Hbad.out]; rfl)
      go_enter Tryz.func48, Tryz.ntmps48
      go_wp2_with fail
      refine (Hc.out _ (Below.refl _ _)).mono ?_
      rintro e w1 ⟨rfl, b1⟩
      have bx := heap_alloc_new w1 (.cells #[.slice none 0 0, .slice none 0 0, .slice none 0 0, .map none, .map none] 119)
      have b2 := bel_go (below1 w1 (.cells #[.slice none 0 0, .slice none 0 0, .slice none 0 0, .map none, .map none] 119)) b1
      have hz1 := b1.size
      have hea := eachSyms_any (fun k => k = w1.heap.size) w1.heap.size ⟨[], [], []⟩ _ l _ (PoAt.empty bx) (Hl.out.below b2) (fun k h0 hk e => by
        obtain ⟨bb, off, rfl, j1, -⟩ := Hi.out h0
        cases hk
        have e' : bb = w1.heap.size := e
        omega) Hn.out
      have Hea := hid hea
      have Hb2 := hid b2
      generalize hrr : plDecls ⟨[], [], []⟩ l = rr at He Hea
      obtain ⟨p2, er⟩ := rr
      have Hrr := hid hrr
      clear hea b2 bx hrr Hc Hi Hn
      go_wp2_with fail
      refine Hea.out.mono ?_
      rintro e w3 ⟨rfl, S3, hp3, hS3, hA3⟩
      have hb3 := Hb2.out.trans (hA3.below (B := w.heap.size) Hb2.out.size (fun i hi => by subst hi; exact hz1))
      have Hp3 := hid hp3; have HS3 := hid hS3; have Hb3 := hid hb3
      clear hp3 hS3 hA3 hb3
      cases he : (er != 0)
      case true =>
        have Her := hid (show er ≠ 0 by simpa using he)
        go_wp2
        go_ret2
        exact ⟨fun _ => by rw [He.out]; rfl, fun h => absurd (by rw [He.out] at h; exact h) Her.out, Hb3.out⟩
      case false =>
        have Her := hid (show er = 0 by simpa using he)
        go_wp2
        go_ret2
        refine ⟨fun h => absurd (by rw [He.out]; exact Her.out) h, fun _ => ⟨w1.heap.size, S3, rfl, ?_, fun k hk => ?_⟩, Hb3.out⟩
        · have h1 := plDecls_ok l ⟨[], [], []⟩ (by rw [Hrr.out]; exact Her.out)
          rw [Hrr.out] at h1
          simp only [List.nil_append] at h1
          have h2 := Hp3.out
          rw [h1] at h2
          exact h2
        · rcases HS3.out k hk with h | h
          · omega
          · have := Hb2.out.size; omega
set_option maxRecDepth 100000 in
set_option maxHeartbeats 6400000 in
theorem Check_any (B : Nat) (vs vt : Value) (syms : List Sy) (terms : List Tm) (w : World) (hB : B ≤ w.heap.size) (htab : Tb B w) (hs : SyIn w vs syms) (ht : TmsIn w vt terms) (hn : ∀ s ∈ syms, s.name.length ≤ 281474976710656) (ha : ∀ t ∈ terms, t.args.length ≤ 1099511627776) :
    Calls Tryz.prog 27 #[.agg #[vs, vt]] w (RNum .i64 (plCheck syms terms) w) := by
  have Hs := hid hs; have Ht := hid ht; have Hn := hid hn; have Ha := hid ha; have Htab := hid htab
  obtain ⟨ps, cps, rfl, -, -, -, -⟩ := hs
  obtain ⟨pt, cpt, rfl, -, -, -, -⟩ := ht
  have bx := heap_alloc_new w (.cells #[.slice ps syms.length cps, .slice pt terms.length cpt] 25)
  have b0 := below1 w (.cells #[.slice ps syms.length cps, .slice pt terms.length cpt] 25)
  have hs0 := size_alloc w (.cells #[.slice ps syms.length cps, .slice pt terms.length cpt] 25)
  have x := two_cells bx
  obtain ⟨x0, x1, -, -⟩ := x
  have Hnew := hid (New_any _ syms _ (Hs.out.below b0) Hn.out)
  clear hn ha htab
  go_enter Tryz.func27, Tryz.ntmps27
  go_wp2_with fail
  generalize hW : (w.alloc (.cells #[.slice ps syms.length cps, .slice pt terms.length cpt] 25)) = W0 at *
  refine Hnew.out.mono ?_
  rintro e w1 ⟨hbad, hok, b1⟩
  have bw1 := bel_go b1 b0
  have Hb1 := hid bw1
  clear hW
  by_cases he : plNewErr syms = 0
  · obtain ⟨g, S, rfl, hp, hS⟩ := hok he
    have He := hid he
    have x1 := ((b1.cell (p := ⟨w.heap.size, 1, none⟩) (by dsimp only; omega)).trans x1)
    have hlt := b1.size
    have hSw : ∀ k, S k → w.heap.size ≤ k := fun k hk => by have := hS k hk; omega
    have hea := eachTerms_any B S g ⟨syms, [], []⟩ _ terms w1 hp (fun k hk => by have := hSw k hk; omega) (Nat.le_trans hB bw1.size) (Htab.out.on (bw1.mono hB)) (Ht.out.below bw1)
      (fun W hA => Ht.out.below (bw1.trans (hA.below (B := w.heap.size) bw1.size hSw))) Ha.out
    have Hea := hid hea
    have HSw := hid hSw
    clear hbad hok he hp hS hea hSw bx x0 Hnew
    go_wp2_with fail
    refine Hea.out.mono ?_
    rintro e w3 ⟨rfl, S3, -, -, hA3⟩
    have Hb3 := hid (Hb1.out.trans (hA3.below (B := w.heap.size) Hb1.out.size HSw.out))
    clear hA3 x1
    go_wp2_with fail
    go_ret
    have hfin : plCheck syms terms = (plNews ⟨syms, [], []⟩ terms).2 := by unfold plCheck; rw [if_neg (by simp [He.out])]
    exact ⟨by rw [hfin]; rfl, Hb3.out⟩
  · obtain rfl := hbad he
    have He := hid (show plCheck syms terms = plNewErr syms by unfold plCheck; rw [if_pos he])
    have hnz : (plNewErr syms != 0) = true := by simpa using he
    generalize plNewErr syms = er at *
    clear hok he bx x0 x1 Hnew
    go_wp2_with fail
    go_ret
    exact ⟨by rw [He.out]; rfl, Hb1.out⟩
end Go.Proofs.YtckkpolikdnilaaGreatDoor
/- The methods of value.meaning that draw no order. -/
namespace Go.Proofs.YtckkpolikdnilaaGreatDoor
open Go.RowKit Big Go.WideMaps

/-- a meaning: its block, and what its cells read as -/
def MeanAt (w : World) (g : Nat) (syms : List Sy) (ts : List Tb5) (t : Tm) (l : List Int) : Prop :=
  ∃ vs vt va nn ns vp, w.heap[g]? = some (.cells #[vs, vt, .int .i64 t.op, va, .bool nn, ns, .int .i64 t.sym, vp] 80 (0, 0)) ∧
    SyIn w vs syms ∧ TabsIn w vt ts ∧ RawAt w (.agg #[.bool nn, ns]) t.num ∧ NumsIn w vp l
theorem MeanAt.below {w w' : World} {g : Nat} {syms : List Sy} {ts : List Tb5} {t : Tm} {l : List Int} (h : MeanAt w g syms ts t l) (hb : Below w.heap.size w w') : MeanAt w' g syms ts t l := by
  obtain ⟨vs, vt, va, nn, ns, vp, h0, h1, h2, h3, h4⟩ := h
  exact ⟨vs, vt, va, nn, ns, vp, (hb.block g (Array.getElem?_eq_some_iff.1 h0).1).trans h0, h1.below hb, h2.below hb, h3.below hb, h4.below hb⟩
theorem rec8_cells {w : World} {g : Nat} {a0 a1 a2 a3 a4 a5 a6 a7 : Value} {t : TypeId} (h : w.heap[g]? = some (.cells #[a0, a1, a2, a3, a4, a5, a6, a7] t (0, 0))) : w.cell? ⟨g, 0, none⟩ = some a0 ∧ w.cell? ⟨g, 1, none⟩ = some a1 ∧ w.cell? ⟨g, 2, none⟩ = some a2 ∧ w.cell? ⟨g, 4, none⟩ = some a4 ∧ w.cell? ⟨g, 5, none⟩ = some a5 ∧ w.cell? ⟨g, 6, none⟩ = some a6 ∧ w.cell? ⟨g, 7, none⟩ = some a7 := by
  simp [World.cell?, h]
theorem NumsIn.at {w : World} {v : Value} {l : List Int} (h : NumsIn w v l) (i : Nat) (hi : i < l.length) : ∃ b o c x q d g, v = .slice (some ⟨b, o, none⟩) l.length c ∧ b < w.heap.size ∧ w.cell? ⟨b, o + i * 2, none⟩ = some (.bool x) ∧ w.cell? ⟨b, o + i * 2 + 1, none⟩ = some (.slice q d g) ∧ RawAt w (.agg #[.bool x, .slice q d g]) l[i] := by
  obtain ⟨p, c, rfl, -, -, -, h4⟩ := h
  obtain ⟨b, o, rfl, hb, hc⟩ := h4 (by omega)
  obtain ⟨x, s, k0, k1, hr⟩ := hc i hi
  obtain ⟨q, d, g, rfl⟩ := hr.shape
  exact ⟨b, o, c, x, q, d, g, rfl, hb, k0, k1, hr⟩
theorem all_not (l : List Int) : (!l.any (fun z : Int => z == 0)) = l.all (fun z => z != 0) := by
  induction l with
  | nil => rfl
  | cons x l ih => simp only [List.any_cons, List.all_cons, ← ih, Bool.not_or]; rfl
set_option maxRecDepth 100000 in
set_option maxHeartbeats 3200000 in
theorem mall_any (g : Nat) (w : World) (syms : List Sy) (ts : List Tb5) (t : Tm) (l : List Int) (h : MeanAt w g syms ts t l) :
    Calls Tryz.prog 73 #[.pointer (some ⟨g, 0, none⟩)] w (RInt (vlTruth (l.all (fun z => z != 0))) w) := by
  have b0 := below1 w (.cells #[.bool false, .slice none 0 0] 44)
  have hp : Pair (w.alloc (.cells #[.bool false, .slice none 0 0] 44)) w.heap.size 44 := Pair.new ..
  have hm := h.below b0
  obtain ⟨vs, vt, va, nn, ns, vp, h0, h1, h2, h3, h4⟩ := hm
  obtain ⟨x0, x1, x2, x4, x5, x6, x7⟩ := rec8_cells h0
  generalize hW : w.alloc (.cells #[.bool false, .slice none 0 0] 44) = W at *
  have G : Hid (g < W.heap.size) := hid (Array.getElem?_eq_some_iff.1 h0).1
  clear h h0
  have Hc := hid (containsFalse_any vp l W h4)
  have Ht := hid (fun w' => truth_any (!l.any (fun z : Int => z == 0)) w')
  have hbb : l.all (fun z => z != 0) = !l.any (fun z : Int => z == 0) := (all_not l).symm
  rw [hbb]
  clear hbb h1 h2 h3
  obtain ⟨pp, cp, rfl, -⟩ := h4
  generalize l.any (fun z : Int => z == 0) = r at *
  have hp := hid hp; have b0 := hid b0
  go_enter Tryz.func73, Tryz.ntmps73
  go_wp2_with fail
  clear hW
  refine Hc.out.mono ?_
  rintro e w2 ⟨rfl, b2⟩
  have B2 := hid b2
  clear Hc b2
  have Hc := hid (Ht.out w2)
  clear Ht
  go_wp2_with fail
  refine Hc.out.mono ?_
  rintro e w3 ⟨v3, rfl, hi, b3⟩
  obtain ⟨p, l0, c, rfl, hi⟩ := hi.shape
  have hpr := hid (hp.out.below (bel_go b3 B2.out))
  have hq := hpr.out.cells
  obtain ⟨_, _, q0, q1, q2, q3⟩ := hq
  have Hi := hid hi; have Hb := hid (bel_go (bel_go b3 B2.out) b0.out)
  clear hi b3 Hc
  go_wp2
  exact bodyPost_ret (v := .agg #[.bool (decide (vlTruth (!r) < 0)), .slice p l0 c]) (by simp [results, Tryz.results73, go_sem, q0, q1]) rfl ⟨_, rfl, Hi.out.stored hpr.out _ _ _ _, Below.stored Hb.out (by omega) _ _⟩
set_option maxRecDepth 100000 in
set_option maxHeartbeats 3200000 in
theorem msome_any (g : Nat) (w : World) (syms : List Sy) (ts : List Tb5) (t : Tm) (l : List Int) (h : MeanAt w g syms ts t l) :
    Calls Tryz.prog 74 #[.pointer (some ⟨g, 0, none⟩)] w (RInt (vlTruth (l.any (fun z : Int => z != 0))) w) := by
  have b0 := below1 w (.cells #[.bool false, .slice none 0 0] 44)
  have hp : Pair (w.alloc (.cells #[.bool false, .slice none 0 0] 44)) w.heap.size 44 := Pair.new ..
  have hm := h.below b0
  obtain ⟨vs, vt, va, nn, ns, vp, h0, h1, h2, h3, h4⟩ := hm
  obtain ⟨x0, x1, x2, x4, x5, x6, x7⟩ := rec8_cells h0
  generalize hW : w.alloc (.cells #[.bool false, .slice none 0 0] 44) = W at *
  have G : Hid (g < W.heap.size) := hid (Array.getElem?_eq_some_iff.1 h0).1
  clear h h0
  have Hc := hid (containsTrue_any vp l W h4)
  have Ht := hid (fun w' => truth_any (l.any (fun z : Int => z != 0)) w')
  have hbb : l.any (fun z : Int => z != 0) = l.any (fun z : Int => z != 0) := rfl
  rw [hbb]
  clear hbb h1 h2 h3
  obtain ⟨pp, cp, rfl, -⟩ := h4
  generalize l.any (fun z : Int => z != 0) = r at *
  have hp := hid hp; have b0 := hid b0
  go_enter Tryz.func74, Tryz.ntmps74
  go_wp2_with fail
  clear hW
  refine Hc.out.mono ?_
  rintro e w2 ⟨rfl, b2⟩
  have B2 := hid b2
  clear Hc b2
  have Hc := hid (Ht.out w2)
  clear Ht
  go_wp2_with fail
  refine Hc.out.mono ?_
  rintro e w3 ⟨v3, rfl, hi, b3⟩
  obtain ⟨p, l0, c, rfl, hi⟩ := hi.shape
  have hpr := hid (hp.out.below (bel_go b3 B2.out))
  have hq := hpr.out.cells
  obtain ⟨_, _, q0, q1, q2, q3⟩ := hq
  have Hi := hid hi; have Hb := hid (bel_go (bel_go b3 B2.out) b0.out)
  clear hi b3 Hc
  go_wp2
  exact bodyPost_ret (v := .agg #[.bool (decide (vlTruth (r) < 0)), .slice p l0 c]) (by simp [results, Tryz.results74, go_sem, q0, q1]) rfl ⟨_, rfl, Hi.out.stored hpr.out _ _ _ _, Below.stored Hb.out (by omega) _ _⟩
set_option maxRecDepth 100000 in
set_option maxHeartbeats 3200000 in
theorem mnot_any (g : Nat) (w : World) (syms : List Sy) (ts : List Tb5) (t : Tm) (l : List Int) (h : MeanAt w g syms ts t l) (hl : 1 ≤ l.length) :
    Calls Tryz.prog 77 #[.pointer (some ⟨g, 0, none⟩)] w (RInt (vlTruth (vlAt l 0 == 0)) w) := by
  have b0 := below1 w (.cells #[.bool false, .slice none 0 0] 44)
  have hp : Pair (w.alloc (.cells #[.bool false, .slice none 0 0] 44)) w.heap.size 44 := Pair.new ..
  have hm := h.below b0
  obtain ⟨vs, vt, va, nn, ns, vp, h0, h1, h2, h3, h4⟩ := hm
  obtain ⟨x0, x1, x2, x4, x5, x6, x7⟩ := rec8_cells h0
  generalize hW : w.alloc (.cells #[.bool false, .slice none 0 0] 44) = W at *
  have G : Hid (g < W.heap.size) := hid (Array.getElem?_eq_some_iff.1 h0).1
  clear h h0
  obtain ⟨m0, o0, c0, n0, q0, d0, g0, e0, M0, y0, z0, r0⟩ := h4.at 0 (by omega)
  rw [e0] at x7
  have M := hid M0
  clear M0
  have hv : vlAt l 0 = l[0] := by unfold vlAt; simp [show (0 : Int).toNat = 0 from rfl, List.getElem?_eq_getElem (show 0 < l.length by omega)]
  rw [hv]
  have Hc := hid (isFalse_any _ _ W r0)
  have Ht := hid (fun w' => truth_any (l[0] == 0) w')
  have y0 : W.cell? ⟨m0, o0, none⟩ = some (.bool n0) := y0
  have z0 : W.cell? ⟨m0, o0 + 1, none⟩ = some (.slice q0 d0 g0) := (congrArg (fun k => W.cell? ⟨m0, k, none⟩) (by omega)).trans z0
  clear hv h1 h2 h3 h4 r0 e0
  generalize (l[0] == 0) = r at *
  have hp := hid hp; have b0 := hid b0
  go_enter Tryz.func77, Tryz.ntmps77
  go_wp2_with fail
  clear hW
  refine Hc.out.mono ?_
  rintro e w2 ⟨rfl, b2⟩
  have B2 := hid b2
  clear Hc b2
  have Hc := hid (Ht.out w2)
  clear Ht
  go_wp2_with fail
  refine Hc.out.mono ?_
  rintro e w3 ⟨v3, rfl, hi, b3⟩
  obtain ⟨p, l0, c, rfl, hi⟩ := hi.shape
  have hpr := hid (hp.out.below (bel_go b3 B2.out))
  have hq := hpr.out.cells
  obtain ⟨_, _, q0, q1, q2, q3⟩ := hq
  have Hi := hid hi; have Hb := hid (bel_go (bel_go b3 B2.out) b0.out)
  clear hi b3 Hc
  go_wp2
  exact bodyPost_ret (v := .agg #[.bool (decide (vlTruth r < 0)), .slice p l0 c]) (by simp [results, Tryz.results77, go_sem, q0, q1]) rfl ⟨_, rfl, Hi.out.stored hpr.out _ _ _ _, Below.stored Hb.out (by omega) _ _⟩
set_option maxRecDepth 100000 in
set_option maxHeartbeats 3200000 in
theorem mnumber_any (g : Nat) (w : World) (syms : List Sy) (ts : List Tb5) (t : Tm) (l : List Int) (h : MeanAt w g syms ts t l) :
    Calls Tryz.prog 75 #[.pointer (some ⟨g, 0, none⟩)] w (RInt (t.num) w) := by
  have b0 := below1 w (.cells #[.bool false, .slice none 0 0] 44)
  have hp : Pair (w.alloc (.cells #[.bool false, .slice none 0 0] 44)) w.heap.size 44 := Pair.new ..
  have hm := h.below b0
  obtain ⟨vs, vt, va, nn, ns, vp, h0, h1, h2, h3, h4⟩ := hm
  obtain ⟨x0, x1, x2, x4, x5, x6, x7⟩ := rec8_cells h0
  generalize hW : w.alloc (.cells #[.bool false, .slice none 0 0] 44) = W at *
  have G : Hid (g < W.heap.size) := hid (Array.getElem?_eq_some_iff.1 h0).1
  clear h h0
  have hs := h3.shape
  obtain ⟨q, d, k, rfl⟩ := hs
  have Hc := hid (Norm_any _ _ W h3)
  clear h1 h2 h3 h4
  have hp := hid hp; have b0 := hid b0
  go_enter Tryz.func75, Tryz.ntmps75
  go_wp2_with fail
  clear hW
  refine Hc.out.mono ?_
  rintro e w3 ⟨v3, rfl, hi, b3⟩
  obtain ⟨p, l0, c, rfl, hi⟩ := hi.shape
  have hpr := hid (hp.out.below b3)
  have hq := hpr.out.cells
  obtain ⟨_, _, q0, q1, q2, q3⟩ := hq
  have Hi := hid hi; have Hb := hid (bel_go b3 b0.out)
  clear hi b3 Hc
  go_wp2
  exact bodyPost_ret (v := .agg #[.bool (decide (t.num < 0)), .slice p l0 c]) (by simp [results, Tryz.results75, go_sem, q0, q1]) rfl ⟨_, rfl, Hi.out.stored hpr.out _ _ _ _, Below.stored Hb.out (by omega) _ _⟩
set_option maxRecDepth 100000 in
set_option maxHeartbeats 3200000 in
theorem mchosen_any (g : Nat) (w : World) (syms : List Sy) (ts : List Tb5) (t : Tm) (l : List Int) (h : MeanAt w g syms ts t l) (hl : 3 ≤ l.length) :
    Calls Tryz.prog 79 #[.pointer (some ⟨g, 0, none⟩)] w (RInt (if vlAt l 0 ≠ 0 then vlAt l 1 else vlAt l 2) w) := by
  have b0 := below1 w (.cells #[.bool false, .slice none 0 0] 44)
  have hp : Pair (w.alloc (.cells #[.bool false, .slice none 0 0] 44)) w.heap.size 44 := Pair.new ..
  have hm := h.below b0
  obtain ⟨vs, vt, va, nn, ns, vp, h0, h1, h2, h3, h4⟩ := hm
  obtain ⟨x0, x1, x2, x4, x5, x6, x7⟩ := rec8_cells h0
  generalize hW : w.alloc (.cells #[.bool false, .slice none 0 0] 44) = W at *
  have G : Hid (g < W.heap.size) := hid (Array.getElem?_eq_some_iff.1 h0).1
  clear h h0
  obtain ⟨m0, o0, c0, n0, q0, d0, g0, e0, M0, y0, z0, r0⟩ := h4.at 0 (by omega)
  obtain ⟨m1, o1, c1, n1, q1, d1, g1, e1, M1, y1, z1, r1⟩ := h4.at 1 (by omega)
  obtain ⟨m2, o2, c2, n2, q2, d2, g2, e2, M2, y2, z2, r2⟩ := h4.at 2 (by omega)
  rw [e0] at x7
  have M := hid M0
  clear M0
  clear M1
  clear M2
  rw [e0] at e1
  injection e1 with ea1
  injection ea1 with ea1
  injection ea1 with eb1 ec1
  subst eb1 ec1
  rw [e0] at e2
  injection e2 with ea2
  injection ea2 with ea2
  injection ea2 with eb2 ec2
  subst eb2 ec2
  have hv : vlAt l 0 = l[0] ∧ vlAt l 1 = l[1] ∧ vlAt l 2 = l[2] := by
    refine ⟨?_, ?_, ?_⟩ <;> unfold vlAt
    · simp [show (0 : Int).toNat = 0 from rfl, List.getElem?_eq_getElem (show 0 < l.length by omega)]
    · simp [show (1 : Int).toNat = 1 from rfl, List.getElem?_eq_getElem (show 1 < l.length by omega)]
    · simp [show (2 : Int).toNat = 2 from rfl, List.getElem?_eq_getElem (show 2 < l.length by omega)]
  obtain ⟨hv0, hv1, hv2⟩ := hv
  rw [hv0, hv1, hv2]
  have Hc0 := hid (isTrue_any _ _ W r0)
  have H1 := hid r1; have H2 := hid r2
  have y0 : W.cell? ⟨m0, o0, none⟩ = some (.bool n0) := y0
  have z0 : W.cell? ⟨m0, o0 + 1, none⟩ = some (.slice q0 d0 g0) := (congrArg (fun k => W.cell? ⟨m0, k, none⟩) (by omega)).trans z0
  have y1 : W.cell? ⟨m0, o0 + 2, none⟩ = some (.bool n1) := y1
  have z1 : W.cell? ⟨m0, o0 + 3, none⟩ = some (.slice q1 d1 g1) := z1
  have y2 : W.cell? ⟨m0, o0 + 4, none⟩ = some (.bool n2) := y2
  have z2 : W.cell? ⟨m0, o0 + 5, none⟩ = some (.slice q2 d2 g2) := z2
  clear hv0 hv1 hv2 h1 h2 h3 h4 r0 r1 r2 e0
  generalize hb : (l[0] != 0) = r at Hc0
  generalize l[1] = a1 at *
  generalize l[2] = a2 at *
  cases r
  · rw [if_neg (by simpa using hb)]
    clear hb
    have hp := hid hp; have b0 := hid b0
    go_enter Tryz.func79, Tryz.ntmps79
    go_wp2_with fail
    clear hW
    refine Hc0.out.mono ?_
    rintro e w2 ⟨rfl, b2⟩
    have B2 := hid b2
    have x7 := (b2.cell (p := ⟨g, 7, none⟩) (by have := G.out; omega)).trans x7
    have y2 := (b2.cell (p := ⟨m0, o0 + 4, none⟩) (by have := M.out; omega)).trans y2
    have z2 := (b2.cell (p := ⟨m0, o0 + 5, none⟩) (by have := M.out; omega)).trans z2
    have Hc := hid (Norm_any _ _ _ (H2.out.below b2))
    clear Hc0 b2
    go_wp2_with fail
    refine Hc.out.mono ?_
    rintro e w3 ⟨v3, rfl, hi, b3⟩
    obtain ⟨p, l0, c, rfl, hi⟩ := hi.shape
    have hpr := hid (hp.out.below (bel_go b3 B2.out))
    have hq := hpr.out.cells
    obtain ⟨_, _, q0, q1, q2, q3⟩ := hq
    have Hi := hid hi; have Hb := hid (bel_go (bel_go b3 B2.out) b0.out)
    clear hi b3 Hc
    go_wp2
    exact bodyPost_ret (v := .agg #[.bool (decide (a2 < 0)), .slice p l0 c]) (by simp [results, Tryz.results79, go_sem, q0, q1]) rfl ⟨_, rfl, Hi.out.stored hpr.out _ _ _ _, Below.stored Hb.out (by omega) _ _⟩
  · rw [if_pos (by simpa using hb)]
    clear hb
    have hp := hid hp; have b0 := hid b0
    go_enter Tryz.func79, Tryz.ntmps79
    go_wp2_with fail
    clear hW
    refine Hc0.out.mono ?_
    rintro e w2 ⟨rfl, b2⟩
    have B2 := hid b2
    have x7 := (b2.cell (p := ⟨g, 7, none⟩) (by have := G.out; omega)).trans x7
    have y1 := (b2.cell (p := ⟨m0, o0 + 2, none⟩) (by have := M.out; omega)).trans y1
    have z1 := (b2.cell (p := ⟨m0, o0 + 3, none⟩) (by have := M.out; omega)).trans z1
    have Hc := hid (Norm_any _ _ _ (H1.out.below b2))
    clear Hc0 b2
    go_wp2_with fail
    refine Hc.out.mono ?_
    rintro e w3 ⟨v3, rfl, hi, b3⟩
    obtain ⟨p, l0, c, rfl, hi⟩ := hi.shape
    have hpr := hid (hp.out.below (bel_go b3 B2.out))
    have hq := hpr.out.cells
    obtain ⟨_, _, q0, q1, q2, q3⟩ := hq
    have Hi := hid hi; have Hb := hid (bel_go (bel_go b3 B2.out) b0.out)
    clear hi b3 Hc
    go_wp2
    exact bodyPost_ret (v := .agg #[.bool (decide (a1 < 0)), .slice p l0 c]) (by simp [results, Tryz.results79, go_sem, q0, q1]) rfl ⟨_, rfl, Hi.out.stored hpr.out _ _ _ _, Below.stored Hb.out (by omega) _ _⟩
end Go.Proofs.YtckkpolikdnilaaGreatDoor
/- elenchusref01.Same, SameInt. -/
namespace Go.Proofs.YtckkpolikdnilaaGreatDoor
open Go.RowKit Big

def RDrawn (v : Value) (w : World) (e : Ending) (w' : World) : Prop := e = .returned v ∧ ∃ k, w' = w.drewN k

set_option maxHeartbeats 800000 in
theorem Same_any (v0 v1 : Value) (l0 l1 : List Nat) (w : World) (h0 : At w .u64 v0 l0) (h1 : At w .u64 v1 l1) :
    Calls Tryz.prog 32 #[v0, v1] w (RDrawn (.bool (decide (l0 = l1))) w) := by
  obtain ⟨r, hr⟩ : ∃ r, r = decide (l0 = l1) := ⟨_, rfl⟩
  rw [← hr]
  have Hr := hid hr
  clear hr
  obtain ⟨p0, c0, rfl, a1, a2, a3, a4⟩ := h0
  obtain ⟨p1, c1, rfl, b1, b2, b3, b4⟩ := h1
  unfold maxLen at a2 b2
  by_cases hl : l0.length = l1.length
  · have Hl := hid hl
    rw [hl] at a1 ⊢; clear hl
    go_enter Tryz.func32, Tryz.ntmps32
    go_wp2_with fail
    go_loopw [13] (fun i wr => ∃ (k : Nat), k ≤ l1.length ∧ i = .int .i64 (k : Nat) ∧ Hid (l0.take k = l1.take k) ∧ Hid (∃ j, wr = w.drewN j)) (fun i _ => l1.length - (intOf i).toNat)
    case atStart => exact ⟨0, Nat.zero_le _, rfl, rfl, 0, rfl⟩
    case round =>
      obtain ⟨k, hk, rfl, hd, Hw⟩ := hrel
      by_cases hk0 : k < l1.length
      · have hkl : k < l0.length := by rw [Hl.out]; omega
        obtain ⟨b, off, rfl, hbb, hc0⟩ := a4 (Nat.lt_of_le_of_lt (Nat.zero_le _) hkl)
        obtain ⟨b', off', rfl, hbb', hc1⟩ := b4 (by omega)
        have e0 : wr.cell? ⟨b, off + k, none⟩ = some (.int .u64 (l0[k] : Nat)) := by obtain ⟨j, rfl⟩ := Hw.out; exact hc0 k hkl
        have e1 : wr.cell? ⟨b', off' + k, none⟩ = some (.int .u64 (l1[k] : Nat)) := by obtain ⟨j, rfl⟩ := Hw.out; exact hc1 k (by omega)
        have es : l0[k] = l1[k] → l0.take (k + 1) = l1.take (k + 1) := fun h => by rw [take_succ' l0 k hkl, take_succ' l1 k hk0, hd.out, h]
        have en : l0[k] ≠ l1[k] → decide (l0 = l1) = false := fun h => by simp only [decide_eq_false_iff_not]; rintro rfl; exact h rfl
        generalize l0[k] = x at *
        generalize l1[k] = y at *
        have Es : Hid (x = y → l0.take (k + 1) = l1.take (k + 1)) := es
        have En : Hid (x ≠ y → decide (l0 = l1) = false) := en
        clear a4 b4 hc0 hc1 es en hbb hbb'
        have hlow : (0 : Int) ≤ (k : Int) := by omega
        have hup : (k : Int) < (l1.length : Int) := by omega
        by_cases hxy : x = y
        · subst hxy
          go_wp2
          go_quiet (fail)
          go_wp2
          go_roundw
          case rel => exact ⟨k + 1, by omega, by go_num, Es.out (by trivial), drawn_more Hw.out⟩
          case measure => (simp [intOf] <;> omega)
        · have hb : ((x : Int) != (y : Int)) = true := bne_iff_ne.2 (fun h => hxy (by omega))
          have Hf : Hid (decide (l0 = l1) = false) := En.out hxy
          clear Es En
          go_wp2
          go_quiet (fail)
          go_wp2
          go_ret
          exact ⟨by rw [Hr.out, Hf.out]; rfl, drawn_more Hw.out⟩
      · obtain rfl : k = l1.length := by omega
        have ht : Hid (decide (l0 = l1) = true) := by
          have h := hd.out
          rw [List.take_length, List.take_of_length_le (Nat.le_of_eq Hl.out)] at h
          simpa [Hid] using h
        clear a4 b4 hd
        go_wp2
        go_ret
        exact ⟨by rw [Hr.out, ht.out]; rfl, Hw.out⟩
  · have hb : ((l0.length : Int) != (l1.length : Int)) = true := bne_iff_ne.2 (by omega)
    have Hf : Hid (decide (l0 = l1) = false) := by
      simp only [Hid, decide_eq_false_iff_not]; rintro rfl; exact hl rfl
    clear a4 b4
    go_enter Tryz.func32, Tryz.ntmps32
    go_wp2
    go_ret
    exact ⟨by rw [Hr.out, Hf.out]; rfl, 0, rfl⟩

set_option maxHeartbeats 800000 in
theorem SameInt_raw (n0 n1 : Bool) (s0 s1 : Value) (l0 l1 : List Nat) (w : World) (h0 : At w .u64 s0 l0) (h1 : At w .u64 s1 l1) (hn : n0 = n1) (hl : l0 = l1) :
    Calls Tryz.prog 14 #[.agg #[.bool n0, s0], .agg #[.bool n1, s1]] w (RBool true w) := by
  subst hn
  subst hl
  have g : ∀ o o', Calls Tryz.prog 32 #[s0, s1] ((w.alloc o).alloc o') (RDrawn (.bool true) ((w.alloc o).alloc o')) := fun o o' => by
    have := Same_any s0 s1 l0 l0 _ ((h0.alloc o).alloc o') ((h1.alloc o).alloc o')
    rwa [decide_eq_true rfl] at this
  have G := hid g
  clear g h0 h1
  go_enter Tryz.func14, Tryz.ntmps14
  go_wp2_with fail
  refine (G.out _ _).mono ?_
  rintro e w' ⟨rfl, k, rfl⟩
  go_wp2_with fail
  go_ret
  exact ⟨rfl, below_drewN ((below1 _ _).alloc (by simp) _) _⟩
theorem SameInt_same (v0 v1 : Value) (z : Int) (w : World) (h0 : IntAt w v0 z) (h1 : IntAt w v1 z) : Calls Tryz.prog 14 #[v0, v1] w (RBool true w) := by
  obtain ⟨s0, rfl, a0⟩ := h0
  obtain ⟨s1, rfl, a1⟩ := h1
  exact SameInt_raw _ _ s0 s1 _ _ w a0 a1 rfl rfl
end Go.Proofs.YtckkpolikdnilaaGreatDoor
/- elenchuslaw01.few of two numbers, copied. -/
namespace Go.Proofs.YtckkpolikdnilaaGreatDoor
open Go.RowKit Big

end Go.Proofs.YtckkpolikdnilaaGreatDoor
/- elenchuslaw01.copied: the same number in new memory. -/
namespace Go.Proofs.YtckkpolikdnilaaGreatDoor
open Go.RowKit Big

theorem Pair.far {w w' : World} {g B : Nat} {t : TypeId} (h : Pair w g t) (hg : g < B) (hb : Below B w w') : Pair w' g t := by
  obtain ⟨x, p, n, c, h⟩ := h
  exact ⟨x, p, n, c, (hb.block g hg).trans h⟩
/-- 'append(v, x...)' inside a region that draws its order -/
theorem step_append_at {P : Program} {w : World} {ops : Array Oper} {o : Oper} {a : Act} {K : Act → World → Prop} {Q : Exit → Act → World → Prop} {E' : Prop} (hgd : o.guard = none) (s x : Operand) (t : TypeId)
    (ho : o.op = .call { callee := .builtin .append, args := #[s, x], argTypes := #[t, t] })
    {e : TypeId} {k : IntKind} {size : Nat} (E : Elem P t e k size) (base : Nat) (v : Value) (l : List Nat) (hs : a.eval s = v) (hown : Own w base e k v l)
    (vx : Value) (m : List Nat) (hx : a.eval x = vx) (hat : At w k vx m)
    (hlen : l.length + m.length ≤ maxLen) (hbytes : (l.length + m.length) * size ≤ 140737488355328) (hbase : base ≤ w.heap.size)
    (h : ∀ v' w', Own w' base e k v' (l ++ m) → Below base w w' → w.heap.size ≤ w'.heap.size → K (a.put o.dst v') w') :
    if Region.wanted o (yielded ops a.tmps) = true then Oper.wp P o a w K Q else E' := by
  have hw : Region.wanted o (yielded ops a.tmps) = true := by simp [Region.wanted, hgd]
  rw [if_pos hw]
  obtain ⟨i, hi, hz, hsz, hby⟩ := E.row
  obtain ⟨p, cap, rfl, h1, h2, h3, h4⟩ := hat
  cases p with
  | none =>
    obtain rfl := h3 rfl
    obtain rfl : m = [] := List.eq_nil_of_length_eq_zero (by omega)
    have hrun := run_append_owned_none (P := P) (w := w) base t o.type e i 1 E.und hi v l.length (ints k l) hown
    unfold Oper.wp
    simp [execOp, ho, resolve, invoke, builtin, hs, hx, hrun, Result.andThen]
    exact h _ _ (by rw [List.append_nil]; exact hown) (Below.refl _ _) (Nat.le_refl _)
  | some ad =>
    refine wp_append_own w s x t ho base e i (.int k 0) 1 size E.und hi hz hsz hby rfl (by decide) v l.length (ints k l) hs hown ad m.length cap (ints k m) hx (by simp [ints_length]) ?_ ?_ hlen hbytes hbase ?_
    · intro j u hj
      by_cases hjm : j < m.length
      · obtain ⟨b, off, he, hb, hc⟩ := h4 (by omega)
        cases he
        rw [Go.WideShapes.add_plain, hc j hjm]
        simpa [ints, hjm] using hj
      · rw [List.getElem?_eq_none (by rw [ints_length]; omega)] at hj; cases hj
    · intro u hu
      obtain ⟨n, _, rfl⟩ := List.mem_map.1 hu
      rfl
    · intro v' w' h5 h6 _
      refine h v' w' ?_ ((Below.refl _ _).grown h6 hbase hown.row) h6.size
      unfold Own
      rw [List.length_append, ints_append]; exact h5

def RCopied (neg : Bool) (l : List Nat) (w : World) (e : Ending) (w' : World) : Prop := ∃ p c, e = .returned (.agg #[.bool neg, .slice p l.length c]) ∧ At w' .u64 (.slice p l.length c) l ∧ Below w.heap.size w w'

end Go.Proofs.YtckkpolikdnilaaGreatDoor
/- 'x, y := copied(a), copied(b)': what holds of the frame and the world, whatever has come up of the statement. -/
namespace Go.Proofs.YtckkpolikdnilaaGreatDoor
open Go.RowKit Big

theorem Two.drew {w : World} {g : Nat} {a b c d : Value} (h : Two w g a b c d) : Two w.drew g a b c d := ⟨h.c00, h.c01, h.c10, h.c11, h.lt⟩
theorem Two.set {w : World} {g : Nat} {a b c d : Value} (h : Two w g a b c d) (x j : Nat) (u : Value) (hx : g + 1 < x) : Two (w.setCell ⟨x, j, none⟩ u) g a b c d :=
  ⟨(World.cell?_of_block (w := w) (Below.heap_setCell w _ u g (by show g ≠ x; omega))).trans h.c00, (World.cell?_of_block (w := w) (Below.heap_setCell w _ u g (by show g ≠ x; omega))).trans h.c01,
   (World.cell?_of_block (w := w) (Below.heap_setCell w _ u (g + 1) (by show g + 1 ≠ x; omega))).trans h.c10, (World.cell?_of_block (w := w) (Below.heap_setCell w _ u (g + 1) (by show g + 1 ≠ x; omega))).trans h.c11, by simpa [World.setCell] using h.lt⟩
theorem four_cells {w : World} {g : Nat} {a b c d : Value} {t : TypeId} (h : w.heap[g]? = some (.cells #[a, b, c, d] t (0, 0))) :
    w.cell? ⟨g, 0, none⟩ = some a ∧ w.cell? ⟨g, 1, none⟩ = some b ∧ w.cell? ⟨g, 2, none⟩ = some c ∧ w.cell? ⟨g, 3, none⟩ = some d :=
  ⟨by rw [cell_of_row w g 0 _ t (0, 0) h]; rfl, by rw [cell_of_row w g 1 _ t (0, 0) h]; rfl, by rw [cell_of_row w g 2 _ t (0, 0) h]; rfl, by rw [cell_of_row w g 3 _ t (0, 0) h]; rfl⟩

theorem Below.go {u w w' : World} (hb : Below w.heap.size w w') (h : Below u.heap.size u w) : Below u.heap.size u w' := h.trans (hb.mono h.size)
/-- a value is a number's copy -/
def Cop (w : World) (n : Bool) (l : List Nat) (v : Value) : Prop := ∃ q k, v = .agg #[.bool n, .slice q l.length k] ∧ At w .u64 (.slice q l.length k) l
theorem Cop.below {w w' : World} {n : Bool} {l : List Nat} {v : Value} (h : Cop w n l v) (hb : Below w.heap.size w w') : Cop w' n l v := by
  obtain ⟨q, k, rfl, ha⟩ := h
  exact ⟨q, k, rfl, ha.below hb⟩
/-- a pointer to a variable of a number, from block B on -/
def VarAt (w : World) (B : Nat) (v : Value) : Prop := ∃ g, v = .pointer (some ⟨g, 0, none⟩) ∧ Pair w g 44 ∧ B ≤ g
theorem VarAt.below {w w' : World} {B : Nat} {v : Value} (h : VarAt w B v) (hb : Below w.heap.size w w') : VarAt w' B v := by
  obtain ⟨g, rfl, hp, hB⟩ := h
  exact ⟨g, rfl, hp.below hb, hB⟩
/-- .. which holds the number's copy -/
def Holds (w : World) (n : Bool) (l : List Nat) (v : Value) : Prop :=
  ∃ g q k, v = .pointer (some ⟨g, 0, none⟩) ∧ w.heap[g]? = some (.cells #[.bool n, .slice q l.length k] 44 (0, 0)) ∧ At w .u64 (.slice q l.length k) l

structure C2 (g0 : Nat) (n0 n1 : Bool) (p0 p1 : Option Addr) (c0 c1 : Nat) (l0 l1 : List Nat) (B : Nat) (u : World) (L : Array Bool) (s5 s6 s15 s16 s17 s18 : Value) (w : World) : Prop where
  two : Two w g0 (.bool n0) (.slice p0 l0.length c0) (.bool n1) (.slice p1 l1.length c1)
  low : g0 + 2 ≤ B
  bel : Below B u w
  sz : B ≤ w.heap.size
  a0 : At w .u64 (.slice p0 l0.length c0) l0
  a1 : At w .u64 (.slice p1 l1.length c1) l1
  f0 : L.getD 0 false = true → s15 = .agg #[.bool n0, .slice p0 l0.length c0]
  f1 : L.getD 1 false = true → Cop w n0 l0 s16
  f2 : L.getD 2 false = true → s17 = .agg #[.bool n1, .slice p1 l1.length c1]
  f3 : L.getD 3 false = true → Cop w n1 l1 s18
  f4 : L.getD 4 false = true → VarAt w B s5
  f5 : L.getD 5 false = true → VarAt w B s6
  f45 : L.getD 4 false = true → L.getD 5 false = true → s5 ≠ s6
  f6 : L.getD 6 false = true → Holds w n0 l0 s5
  f7 : L.getD 7 false = true → Holds w n1 l1 s6
  d6 : L.getD 6 false = true → L.getD 4 false = true ∧ L.getD 5 false = true
  d7 : L.getD 7 false = true → L.getD 6 false = true

section
variable {g0 : Nat} {n0 n1 : Bool} {p0 p1 : Option Addr} {c0 c1 : Nat} {l0 l1 : List Nat} {B : Nat} {u : World} {L : Array Bool} {s5 s6 s15 s16 s17 s18 : Value} {w : World}
theorem setD {L : Array Bool} {i j : Nat} (h : i ≠ j) (hh : (L.setIfInBounds i true).getD j false = true) : L.getD j false = true := by rwa [getD_set_ne false h] at hh
theorem setUp {L : Array Bool} {i j : Nat} (h : L.getD j false = true) : (L.setIfInBounds i true).getD j false = true := getD_set_true h
theorem C2.load0 (h : C2 g0 n0 n1 p0 p1 c0 c1 l0 l1 B u L s5 s6 s15 s16 s17 s18 w) : C2 g0 n0 n1 p0 p1 c0 c1 l0 l1 B u (L.setIfInBounds 0 true) s5 s6 (.agg #[.bool n0, .slice p0 l0.length c0]) s16 s17 s18 w :=
  { h with
    f0 := fun _ => rfl
    f1 := fun hj => h.f1 (setD (by decide) hj)
    f2 := fun hj => h.f2 (setD (by decide) hj)
    f3 := fun hj => h.f3 (setD (by decide) hj)
    f4 := fun hj => h.f4 (setD (by decide) hj)
    f5 := fun hj => h.f5 (setD (by decide) hj)
    f45 := fun hj hk => h.f45 (setD (by decide) hj) (setD (by decide) hk)
    f6 := fun hj => h.f6 (setD (by decide) hj)
    f7 := fun hj => h.f7 (setD (by decide) hj)
    d6 := fun hj => ⟨setUp (h.d6 (setD (by decide) hj)).1, setUp (h.d6 (setD (by decide) hj)).2⟩
    d7 := fun hj => setUp (h.d7 (setD (by decide) hj)) }
theorem C2.load2 (h : C2 g0 n0 n1 p0 p1 c0 c1 l0 l1 B u L s5 s6 s15 s16 s17 s18 w) : C2 g0 n0 n1 p0 p1 c0 c1 l0 l1 B u (L.setIfInBounds 2 true) s5 s6 s15 s16 (.agg #[.bool n1, .slice p1 l1.length c1]) s18 w :=
  { h with
    f0 := fun hj => h.f0 (setD (by decide) hj)
    f1 := fun hj => h.f1 (setD (by decide) hj)
    f2 := fun _ => rfl
    f3 := fun hj => h.f3 (setD (by decide) hj)
    f4 := fun hj => h.f4 (setD (by decide) hj)
    f5 := fun hj => h.f5 (setD (by decide) hj)
    f45 := fun hj hk => h.f45 (setD (by decide) hj) (setD (by decide) hk)
    f6 := fun hj => h.f6 (setD (by decide) hj)
    f7 := fun hj => h.f7 (setD (by decide) hj)
    d6 := fun hj => ⟨setUp (h.d6 (setD (by decide) hj)).1, setUp (h.d6 (setD (by decide) hj)).2⟩
    d7 := fun hj => setUp (h.d7 (setD (by decide) hj)) }
theorem Holds.below {w w' : World} {n : Bool} {l : List Nat} {v : Value} (h : Holds w n l v) (hb : Below w.heap.size w w') : Holds w' n l v := by
  obtain ⟨g, q, k, rfl, hg, ha⟩ := h
  exact ⟨g, q, k, rfl, (hb.block g (Array.getElem?_eq_some_iff.1 hg).1).trans hg, ha.below hb⟩
theorem C2.call1 (h : C2 g0 n0 n1 p0 p1 c0 c1 l0 l1 B u L s5 s6 s15 s16 s17 s18 w) {w' : World} {v : Value} (hb : Below w.heap.size w w') (hv : Cop w' n0 l0 v) :
    C2 g0 n0 n1 p0 p1 c0 c1 l0 l1 B u (L.setIfInBounds 1 true) s5 s6 s15 v s17 s18 w' :=
  { two := h.two.below hb
    low := h.low
    bel := h.bel.trans (hb.mono h.sz)
    sz := Nat.le_trans h.sz hb.size
    a0 := h.a0.below hb
    a1 := h.a1.below hb
    f0 := fun hj => h.f0 (setD (by decide) hj)
    f1 := fun _ => hv
    f2 := fun hj => h.f2 (setD (by decide) hj)
    f3 := fun hj => (h.f3 (setD (by decide) hj)).below hb
    f4 := fun hj => (h.f4 (setD (by decide) hj)).below hb
    f5 := fun hj => (h.f5 (setD (by decide) hj)).below hb
    f45 := fun hj hk => h.f45 (setD (by decide) hj) (setD (by decide) hk)
    f6 := fun hj => (h.f6 (setD (by decide) hj)).below hb
    f7 := fun hj => (h.f7 (setD (by decide) hj)).below hb
    d6 := fun hj => ⟨setUp (h.d6 (setD (by decide) hj)).1, setUp (h.d6 (setD (by decide) hj)).2⟩
    d7 := fun hj => setUp (h.d7 (setD (by decide) hj)) }
theorem C2.call3 (h : C2 g0 n0 n1 p0 p1 c0 c1 l0 l1 B u L s5 s6 s15 s16 s17 s18 w) {w' : World} {v : Value} (hb : Below w.heap.size w w') (hv : Cop w' n1 l1 v) :
    C2 g0 n0 n1 p0 p1 c0 c1 l0 l1 B u (L.setIfInBounds 3 true) s5 s6 s15 s16 s17 v w' :=
  { two := h.two.below hb
    low := h.low
    bel := h.bel.trans (hb.mono h.sz)
    sz := Nat.le_trans h.sz hb.size
    a0 := h.a0.below hb
    a1 := h.a1.below hb
    f0 := fun hj => h.f0 (setD (by decide) hj)
    f1 := fun hj => (h.f1 (setD (by decide) hj)).below hb
    f2 := fun hj => h.f2 (setD (by decide) hj)
    f3 := fun _ => hv
    f4 := fun hj => (h.f4 (setD (by decide) hj)).below hb
    f5 := fun hj => (h.f5 (setD (by decide) hj)).below hb
    f45 := fun hj hk => h.f45 (setD (by decide) hj) (setD (by decide) hk)
    f6 := fun hj => (h.f6 (setD (by decide) hj)).below hb
    f7 := fun hj => (h.f7 (setD (by decide) hj)).below hb
    d6 := fun hj => ⟨setUp (h.d6 (setD (by decide) hj)).1, setUp (h.d6 (setD (by decide) hj)).2⟩
    d7 := fun hj => setUp (h.d7 (setD (by decide) hj)) }
theorem VarAt.ne {w : World} {v : Value} {B : Nat} (h : VarAt w B v) : v ≠ .pointer (some ⟨w.heap.size, 0, none⟩) := by
  obtain ⟨g, rfl, hp, -⟩ := h
  intro he
  have hl := hp.lt
  injection he with he
  injection he with he
  injection he with he
  omega
theorem C2.alloc4 (h : C2 g0 n0 n1 p0 p1 c0 c1 l0 l1 B u L s5 s6 s15 s16 s17 s18 w) (hu : L.getD 4 false = false) :
    C2 g0 n0 n1 p0 p1 c0 c1 l0 l1 B u (L.setIfInBounds 4 true) (.pointer (some ⟨w.heap.size, 0, none⟩)) s6 s15 s16 s17 s18 (w.alloc (.cells #[.bool false, .slice none 0 0] 44)) :=
  have hb := below1 w (.cells #[.bool false, .slice none 0 0] 44)
  { two := h.two.below hb
    low := h.low
    bel := h.bel.trans (hb.mono h.sz)
    sz := Nat.le_trans h.sz hb.size
    a0 := h.a0.below hb
    a1 := h.a1.below hb
    f0 := fun hj => h.f0 (setD (by decide) hj)
    f1 := fun hj => (h.f1 (setD (by decide) hj)).below hb
    f2 := fun hj => h.f2 (setD (by decide) hj)
    f3 := fun hj => (h.f3 (setD (by decide) hj)).below hb
    f4 := fun _ => ⟨_, rfl, Pair.new .., h.sz⟩
    f5 := fun hj => (h.f5 (setD (by decide) hj)).below hb
    f45 := fun _ hk => ((h.f5 (setD (by decide) hk)).ne).symm
    f6 := fun hj => by have := (h.d6 (setD (by decide) hj)).1; rw [hu] at this; cases this
    f7 := fun hj => by have := (h.d6 (h.d7 (setD (by decide) hj))).1; rw [hu] at this; cases this
    d6 := fun hj => ⟨setUp (h.d6 (setD (by decide) hj)).1, setUp (h.d6 (setD (by decide) hj)).2⟩
    d7 := fun hj => setUp (h.d7 (setD (by decide) hj)) }
theorem C2.alloc5 (h : C2 g0 n0 n1 p0 p1 c0 c1 l0 l1 B u L s5 s6 s15 s16 s17 s18 w) (hu : L.getD 5 false = false) :
    C2 g0 n0 n1 p0 p1 c0 c1 l0 l1 B u (L.setIfInBounds 5 true) s5 (.pointer (some ⟨w.heap.size, 0, none⟩)) s15 s16 s17 s18 (w.alloc (.cells #[.bool false, .slice none 0 0] 44)) :=
  have hb := below1 w (.cells #[.bool false, .slice none 0 0] 44)
  { two := h.two.below hb
    low := h.low
    bel := h.bel.trans (hb.mono h.sz)
    sz := Nat.le_trans h.sz hb.size
    a0 := h.a0.below hb
    a1 := h.a1.below hb
    f0 := fun hj => h.f0 (setD (by decide) hj)
    f1 := fun hj => (h.f1 (setD (by decide) hj)).below hb
    f2 := fun hj => h.f2 (setD (by decide) hj)
    f3 := fun hj => (h.f3 (setD (by decide) hj)).below hb
    f4 := fun hj => (h.f4 (setD (by decide) hj)).below hb
    f5 := fun _ => ⟨_, rfl, Pair.new .., h.sz⟩
    f45 := fun hj _ => (h.f4 (setD (by decide) hj)).ne
    f6 := fun hj => by have := (h.d6 (setD (by decide) hj)).2; rw [hu] at this; cases this
    f7 := fun hj => by have := (h.d6 (h.d7 (setD (by decide) hj))).2; rw [hu] at this; cases this
    d6 := fun hj => ⟨setUp (h.d6 (setD (by decide) hj)).1, setUp (h.d6 (setD (by decide) hj)).2⟩
    d7 := fun hj => setUp (h.d7 (setD (by decide) hj)) }
theorem Cop.stored {w : World} {n : Bool} {l : List Nat} {v : Value} (h : Cop w n l v) {g : Nat} {t : TypeId} (hp : Pair w g t) (x : Bool) (p : Option Addr) (m c : Nat) :
    Cop ((w.setCell ⟨g, 0, none⟩ (.bool x)).setCell ⟨g, 1, none⟩ (.slice p m c)) n l v := by
  obtain ⟨q, k, rfl, ha⟩ := h
  exact ⟨q, k, rfl, ha.stored hp x p m c⟩
theorem Pair.apart {w : World} {g g' : Nat} {t : TypeId} (h : Pair w g t) (hne : g ≠ g') (u u' : Value) : Pair ((w.setCell ⟨g', 0, none⟩ u).setCell ⟨g', 1, none⟩ u') g t := by
  obtain ⟨x, p, n, c, h⟩ := h
  exact ⟨x, p, n, c, ((Below.heap_setCell _ _ _ _ hne).trans (Below.heap_setCell _ _ _ _ hne)).trans h⟩
theorem Pair.self {w : World} {g : Nat} {t : TypeId} (h : Pair w g t) (x : Bool) (p : Option Addr) (n c : Nat) : Pair ((w.setCell ⟨g, 0, none⟩ (.bool x)).setCell ⟨g, 1, none⟩ (.slice p n c)) g t := (h.set0 x).set1 p n c
theorem VarAt.stored {w : World} {B : Nat} {v : Value} (h : VarAt w B v) {g : Nat} (hp : Pair w g 44) (x : Bool) (p : Option Addr) (n c : Nat) : VarAt ((w.setCell ⟨g, 0, none⟩ (.bool x)).setCell ⟨g, 1, none⟩ (.slice p n c)) B v := by
  obtain ⟨g', rfl, hp', hB⟩ := h
  refine ⟨g', rfl, ?_, hB⟩
  by_cases he : g' = g
  · subst he; exact hp'.self x p n c
  · exact hp'.apart he _ _
theorem Pair.put {w : World} {g : Nat} {t : TypeId} (h : Pair w g t) (x : Bool) (p : Option Addr) (n c : Nat) : ((w.setCell ⟨g, 0, none⟩ (.bool x)).setCell ⟨g, 1, none⟩ (.slice p n c)).heap[g]? = some (.cells #[.bool x, .slice p n c] t (0, 0)) := by
  obtain ⟨y, p', n', c', h⟩ := h
  have h1 := heap_setCell_same w g 0 _ t (.bool x) h
  exact heap_setCell_same _ g 1 _ t (.slice p n c) h1
theorem size_stored (w : World) (g : Nat) (u u' : Value) : ((w.setCell ⟨g, 0, none⟩ u).setCell ⟨g, 1, none⟩ u').heap.size = w.heap.size := by simp [World.setCell]
theorem C2.store6 (h : C2 g0 n0 n1 p0 p1 c0 c1 l0 l1 B u L s5 s6 s15 s16 s17 s18 w) (h4 : L.getD 4 false = true) (h5 : L.getD 5 false = true) (hu : L.getD 6 false = false) {g : Nat} {q : Option Addr} {k : Nat}
    (e5 : s5 = .pointer (some ⟨g, 0, none⟩)) (hp : Pair w g 44) (hB : B ≤ g) (ha : At w .u64 (.slice q l0.length k) l0) :
    C2 g0 n0 n1 p0 p1 c0 c1 l0 l1 B u (L.setIfInBounds 6 true) s5 s6 s15 s16 s17 s18 ((w.setCell ⟨g, 0, none⟩ (.bool n0)).setCell ⟨g, 1, none⟩ (.slice q l0.length k)) :=
  { two := (h.two.set g 0 _ (by have := h.low; omega)).set g 1 _ (by have := h.low; omega)
    low := h.low
    bel := Below.stored h.bel hB _ _
    sz := by rw [size_stored]; exact h.sz
    a0 := h.a0.stored hp ..
    a1 := h.a1.stored hp ..
    f0 := fun hj => h.f0 (setD (by decide) hj)
    f1 := fun hj => (h.f1 (setD (by decide) hj)).stored hp ..
    f2 := fun hj => h.f2 (setD (by decide) hj)
    f3 := fun hj => (h.f3 (setD (by decide) hj)).stored hp ..
    f4 := fun hj => (h.f4 (setD (by decide) hj)).stored hp ..
    f5 := fun hj => (h.f5 (setD (by decide) hj)).stored hp ..
    f45 := fun hj hk => h.f45 (setD (by decide) hj) (setD (by decide) hk)
    f6 := fun _ => ⟨g, q, k, e5, hp.put .., ha.stored hp ..⟩
    f7 := fun hj => by have := h.d7 (setD (by decide) hj); rw [hu] at this; cases this
    d6 := fun _ => ⟨setUp h4, setUp h5⟩
    d7 := fun hj => setUp (h.d7 (setD (by decide) hj)) }
theorem C2.store7 (h : C2 g0 n0 n1 p0 p1 c0 c1 l0 l1 B u L s5 s6 s15 s16 s17 s18 w) (h6 : L.getD 6 false = true) {g : Nat} {q : Option Addr} {k : Nat}
    (e6 : s6 = .pointer (some ⟨g, 0, none⟩)) (hp : Pair w g 44) (hB : B ≤ g) (ha : At w .u64 (.slice q l1.length k) l1) :
    C2 g0 n0 n1 p0 p1 c0 c1 l0 l1 B u (L.setIfInBounds 7 true) s5 s6 s15 s16 s17 s18 ((w.setCell ⟨g, 0, none⟩ (.bool n1)).setCell ⟨g, 1, none⟩ (.slice q l1.length k)) :=
  { two := (h.two.set g 0 _ (by have := h.low; omega)).set g 1 _ (by have := h.low; omega)
    low := h.low
    bel := Below.stored h.bel hB _ _
    sz := by rw [size_stored]; exact h.sz
    a0 := h.a0.stored hp ..
    a1 := h.a1.stored hp ..
    f0 := fun hj => h.f0 (setD (by decide) hj)
    f1 := fun hj => (h.f1 (setD (by decide) hj)).stored hp ..
    f2 := fun hj => h.f2 (setD (by decide) hj)
    f3 := fun hj => (h.f3 (setD (by decide) hj)).stored hp ..
    f4 := fun hj => (h.f4 (setD (by decide) hj)).stored hp ..
    f5 := fun hj => (h.f5 (setD (by decide) hj)).stored hp ..
    f45 := fun hj hk => h.f45 (setD (by decide) hj) (setD (by decide) hk)
    f6 := fun hj => by
      have hd := h.d6 h6
      have hne := h.f45 hd.1 hd.2
      obtain ⟨g', q', k', e', hg', ha'⟩ := h.f6 h6
      have hgg : g' ≠ g := by rintro rfl; exact hne (e'.trans e6.symm)
      exact ⟨g', q', k', e', ((Below.heap_setCell _ _ _ _ hgg).trans (Below.heap_setCell _ _ _ _ hgg)).trans hg', ha'.stored hp ..⟩
    f7 := fun _ => ⟨g, q, k, e6, hp.put .., ha.stored hp ..⟩
    d6 := fun _ => ⟨setUp (h.d6 h6).1, setUp (h.d6 h6).2⟩
    d7 := fun _ => setUp h6 }
/-- all has come up -/
structure Done2 (g0 : Nat) (n0 n1 : Bool) (p0 p1 : Option Addr) (c0 c1 : Nat) (l0 l1 : List Nat) (B : Nat) (u : World) (s5 s6 : Value) (w : World) : Prop where
  two : Two w g0 (.bool n0) (.slice p0 l0.length c0) (.bool n1) (.slice p1 l1.length c1)
  bel : Below B u w
  sz : B ≤ w.heap.size
  a0 : At w .u64 (.slice p0 l0.length c0) l0
  a1 : At w .u64 (.slice p1 l1.length c1) l1
  hx : Holds w n0 l0 s5
  hy : Holds w n1 l1 s6
theorem C2.done (h : C2 g0 n0 n1 p0 p1 c0 c1 l0 l1 B u L s5 s6 s15 s16 s17 s18 w) (h6 : L.getD 6 false = true) (h7 : L.getD 7 false = true) : Done2 g0 n0 n1 p0 p1 c0 c1 l0 l1 B u s5 s6 w :=
  { h with hx := h.f6 h6, hy := h.f7 h7 }
theorem C2.start {g0 : Nat} {n0 n1 : Bool} {p0 p1 : Option Addr} {c0 c1 : Nat} {l0 l1 : List Nat} {w : World} {s5 s6 s15 s16 s17 s18 : Value} (ht : Two w g0 (.bool n0) (.slice p0 l0.length c0) (.bool n1) (.slice p1 l1.length c1))
    (ha : At w .u64 (.slice p0 l0.length c0) l0) (hb : At w .u64 (.slice p1 l1.length c1) l1) : C2 g0 n0 n1 p0 p1 c0 c1 l0 l1 w.heap.size w (Array.replicate 8 false) s5 s6 s15 s16 s17 s18 w.drew :=
  { two := ht.drew, low := ht.lt, bel := Below.drew (Below.refl _ _), sz := Nat.le_refl _, a0 := ha.drew, a1 := hb.drew
    f0 := fun h => by simp at h
    f1 := fun h => by simp at h
    f2 := fun h => by simp at h
    f3 := fun h => by simp at h
    f4 := fun h => by simp at h
    f5 := fun h => by simp at h
    f45 := fun h => by simp at h
    f6 := fun h => by simp at h
    f7 := fun h => by simp at h
    d6 := fun h => by simp at h
    d7 := fun h => by simp at h }
theorem listed_of {L : Array Bool} {n i : Nat} (h : ∀ i, i < n → L.getD i true = true) (hs : L.size = n) (hi : i < n) : L.getD i false = true := by
  have := h i hi
  have hl : i < L.size := by omega
  simpa [Array.getD, hl] using this
end
end Go.Proofs.YtckkpolikdnilaaGreatDoor
/- value.meaning's sum. -/
namespace Go.Proofs.YtckkpolikdnilaaGreatDoor
open Go.RowKit Big Go.WideMaps

def VlCell (w : World) (g : Nat) (z : Int) : Prop := ∃ d p n c, w.heap[g]? = some (.cells #[.bool d, .slice p n c] 44 (0, 0)) ∧ IntAt w (.agg #[.bool d, .slice p n c]) z
theorem VlCell.pair {w : World} {g : Nat} {z : Int} (h : VlCell w g z) : Pair w g 44 := by
  obtain ⟨d, p, n, c, h, -⟩ := h
  exact ⟨d, p, n, c, h⟩
theorem VlCell.put {w : World} {g : Nat} {z : Int} {d : Bool} {p : Option Addr} {n c : Nat} (hp : Pair w g 44) (hi : IntAt w (.agg #[.bool d, .slice p n c]) z) :
    VlCell ((w.setCell ⟨g, 0, none⟩ (.bool d)).setCell ⟨g, 1, none⟩ (.slice p n c)) g z := ⟨d, p, n, c, hp.put .., hi.stored hp ..⟩
theorem vlSum_take (l : List Int) (k : Nat) (h : k < l.length) : vlSum (l.take (k + 1)) = vlSum (l.take k) + l[k] := by
  rw [List.take_succ_eq_append_getElem h, vlSum_snoc]
set_option maxRecDepth 100000 in
set_option maxHeartbeats 3200000 in
theorem msum_any (g : Nat) (w : World) (syms : List Sy) (ts : List Tb5) (t : Tm) (l : List Int) (h : MeanAt w g syms ts t l) (hs : ∀ k, k ≤ l.length → sz Big.W (vlSum (l.take k)).natAbs ≤ 549755813888) :
    Calls Tryz.prog 81 #[.pointer (some ⟨g, 0, none⟩)] w (RInt (vlSum l) w) := by
  have b0 := below1 w (.cells #[.bool false, .slice none 0 0] 44)
  have hp : Pair (w.alloc (.cells #[.bool false, .slice none 0 0] 44)) w.heap.size 44 := Pair.new ..
  generalize hW : w.alloc (.cells #[.bool false, .slice none 0 0] 44) = W at *
  obtain ⟨vs, vt, va, nn, ns, vp, h0, h1, h2, h3, h4⟩ := h
  have G : g < w.heap.size := (Array.getElem?_eq_some_iff.1 h0).1
  obtain ⟨x0, x1, x2, x4, x5, x6, x7⟩ := rec8_cells ((b0.block g G).trans h0)
  clear h0
  obtain ⟨pp, cp, rfl, i0, i1, i2, i3⟩ := h4
  unfold maxLen at i1
  have I3 := hid i3
  obtain ⟨L, hL⟩ : ∃ L, L = l.length := ⟨_, rfl⟩
  have HL := hid hL
  have Hs := hid hs
  rw [← hL] at i0 x7
  have Ho := hid (Of_any 0 W (by decide) (by decide))
  have hgG : Hid (g < W.heap.size) := hid (by have := b0.size; omega)
  have hGW : Hid (w.heap.size < W.heap.size) := hid hp.lt
  have Hx7 := hid x7
  have HP := hid hp; have HB0 := hid b0
  clear h1 h2 h3 hs hL i2 i3 x7 hp b0 x0 x1 x2 x4 x5 x6
  go_enter Tryz.func81, Tryz.ntmps81
  go_wp2_with fail
  clear hW
  refine Ho.out.mono ?_
  rintro e w1 ⟨v1, rfl, hi, b1⟩
  obtain ⟨p1, n1, c1, rfl, hi⟩ := hi.shape
  go_upto_region 2 with fail
  generalize hW4 : World.alloc w1 _ = W4
  have X4 : Below W.heap.size W W4 ∧ VlCell W4 w1.heap.size 0 := by
    rw [← hW4]; exact ⟨b1.trans ((below1 _ _).mono (B' := W.heap.size) b1.size), _, _, _, _, heap_alloc_new w1 _, hi.below (below1 _ _)⟩
  have x7 := (X4.1.cell (p := ⟨g, 7, none⟩) hgG.out).trans Hx7.out
  have HP4 := hid (HP.out.below X4.1)
  have HB4 := hid (bel_go X4.1 HB0.out)
  have HC4 := hid X4.2
  have hgt : Hid (w.heap.size < w1.heap.size) := hid (by have := b1.size; have := hGW.out; omega)
  obtain ⟨gt, hgt'⟩ : ∃ gt, gt = w1.heap.size := ⟨_, rfl⟩
  rw [← hgt'] at HC4 hgt ⊢
  clear hW4 X4 b1 hi Ho Hx7 HP HB0 hgt'
  go_wp2_with fail
  go_loopw [12] (fun i wr => ∃ k : Nat, k ≤ L ∧ i = .int .i64 (k : Nat) ∧ Hid (VlCell wr gt (vlSum (l.take k))) ∧ Hid (Pair wr w.heap.size 44) ∧ Hid (Below w.heap.size w wr)) (fun i _ => L - (intOf i).toNat)
  case atStart => exact ⟨0, Nat.zero_le _, rfl, HC4, HP4, HB4⟩
  case round =>
    obtain ⟨k, hk, rfl, hT, hP, hB⟩ := hrel
    obtain ⟨td, tp, tn, tc, hh, hi⟩ := id hT.out
    obtain ⟨u0, u1⟩ := pair_cells hh
    have htl : gt < wr.heap.size := (Array.getElem?_eq_some_iff.1 hh).1
    by_cases hlt : k < L
    · have hkr : k < l.length := by rw [← HL.out]; exact hlt
      obtain ⟨b, o, rfl, hb, hc⟩ := I3.out (by omega)
      obtain ⟨n, s, k0, k1, hr⟩ := hc k hkr
      obtain ⟨q0, d0, g0, rfl⟩ := hr.shape
      have m0 := (hB.out.cell (p := ⟨b, o + k * 2, none⟩) hb).trans k0
      have m1 := (hB.out.cell (p := ⟨b, o + k * 2 + 1, none⟩) hb).trans k1
      have b5 := below1 wr (.cells #[.bool n, .slice q0 d0 g0] 44)
      have u0 := (b5.cell (p := ⟨gt, 0, none⟩) htl).trans u0
      have u1 := (b5.cell (p := ⟨gt, 1, none⟩) htl).trans u1
      have HA := hid (Add_any _ _ _ _ _ ((hi.raw (by have := Hs.out k (by omega); omega)).below b5) ((hr.below hB.out).below b5))
      have B5 := hid b5
      have Hnext := hid (vlSum_take l k hkr)
      have Htl := hid htl
      generalize l[k] = xk at *
      clear k0 k1 hr hc hb hh hi b5 htl
      go_wp2_with fail
      refine HA.out.mono ?_
      rintro e w3 ⟨v3, rfl, hi3, b3⟩
      obtain ⟨p3, n3, c3, rfl, hi3⟩ := hi3.shape
      have b6 := bel_go b3 B5.out
      have hpt := hid (hT.out.pair.below b6)
      have hq := hpt.out.cells
      obtain ⟨_, _, v0, v1, v2, v3⟩ := hq
      have Hi3 := hid hi3
      have HP6 := hid (hP.out.below b6)
      have HB6 := hid (bel_go b6 hB.out)
      clear HA b3 b6 hi3
      go_wp2_with fail
      go_roundw
      case rel => exact ⟨k + 1, by omega, by go_num, hid (by rw [Hnext.out]; exact VlCell.put hpt.out Hi3.out), hid (HP6.out.away (by have := hgt.out; omega) _ _), hid (Below.stored HB6.out (by have := hgt.out; omega) _ _)⟩
      case measure => simp [intOf]; omega
    · obtain rfl : k = L := by omega
      have hfin : Hid (vlSum (l.take k) = vlSum l) := hid (by rw [HL.out, List.take_length])
      have hq := hP.out.cells
      obtain ⟨_, _, q0, q1, q2, q3⟩ := hq
      have Hi := hid hi
      clear hh hi
      go_wp2
      exact bodyPost_ret (v := .agg #[.bool td, .slice tp tn tc]) (by simp [results, Tryz.results81, go_sem, q0, q1]) rfl ⟨_, rfl, by rw [← hfin.out]; exact Hi.out.stored hP.out _ _ _ _, Below.stored hB.out (by omega) _ _⟩
end Go.Proofs.YtckkpolikdnilaaGreatDoor
/- value.partsOf: a row of numbers of the call's own, numbers that may share words. -/
namespace Go.Proofs.YtckkpolikdnilaaGreatDoor
open Go.RowKit Big Go.WideMaps

theorem infoNum : (Tryz.prog.info? 44).map (fun i => (i.zero, i.size, i.bytes)) = some (some (.agg #[.bool false, .slice none 0 0]), 2, 32) := by kernel_rfl
/-- the cells of a row of numbers -/
def VlCells (w : World) : List Int → List Value → Prop
  | [], cs => cs = []
  | z :: l, cs => ∃ n s r, cs = .bool n :: s :: r ∧ RawAt w (.agg #[.bool n, s]) z ∧ VlCells w l r
theorem VlCells.below {w w' : World} (hb : Below w.heap.size w w') : ∀ {l : List Int} {cs : List Value}, VlCells w l cs → VlCells w' l cs
  | [], _, h => h
  | _ :: _, _, ⟨n, s, r, e, h, hr⟩ => ⟨n, s, r, e, h.below hb, VlCells.below hb hr⟩
theorem VlCells.snoc {w : World} {n : Bool} {s : Value} {z : Int} (h : RawAt w (.agg #[.bool n, s]) z) : ∀ {l : List Int} {cs : List Value}, VlCells w l cs → VlCells w (l ++ [z]) (cs ++ [.bool n, s])
  | [], _, e => by cases e; exact ⟨n, s, [], rfl, h, rfl⟩
  | _ :: _, _, ⟨n', s', r, e, h', hr⟩ => by subst e; exact ⟨n', s', r ++ [.bool n, s], rfl, h', VlCells.snoc h hr⟩
theorem VlCells.len {w : World} : ∀ {l : List Int} {cs : List Value}, VlCells w l cs → cs.length = l.length * 2
  | [], _, e => by cases e; rfl
  | _ :: l, _, ⟨_, _, r, e, _, hr⟩ => by subst e; have := VlCells.len hr; simp [this]; omega
theorem VlCells.at {w : World} : ∀ {l : List Int} {cs : List Value}, VlCells w l cs → ∀ i (hi : i < l.length), ∃ n s, cs[i * 2]? = some (.bool n) ∧ cs[i * 2 + 1]? = some s ∧ RawAt w (.agg #[.bool n, s]) l[i]
  | _ :: l, _, ⟨n, s, r, e, h, hr⟩, 0, _ => by subst e; exact ⟨n, s, rfl, rfl, h⟩
  | _ :: l, _, ⟨n, s, r, e, h, hr⟩, i + 1, hi => by
    subst e
    obtain ⟨n', s', h1, h2, h3⟩ := VlCells.at hr i (by simpa using hi)
    refine ⟨n', s', ?_, ?_, by simpa using h3⟩
    · rw [show (i + 1) * 2 = i * 2 + 1 + 1 from by omega]; simpa using h1
    · rw [show (i + 1) * 2 + 1 = i * 2 + 1 + 1 + 1 from by omega]; simpa using h2
/-- a row of numbers, its block of the call's own -/
def NumsOwn (B : Nat) (w : World) (v : Value) (l : List Int) : Prop := ∃ cs, w.ownsRow B 44 2 v l.length cs ∧ VlCells w l cs
theorem NumsOwn.in {B : Nat} {w : World} {v : Value} {l : List Int} (h : NumsOwn B w v l) : NumsIn w v l := by
  obtain ⟨cs, h, hc⟩ := h
  rcases h.2 with ⟨rfl, h0⟩ | ⟨g, cap, cur, rfl, hb, hh, k1, k2, k3, k4⟩
  · have : l = [] := List.eq_nil_of_length_eq_zero h0
    subst this
    exact NumsIn.nil w
  · refine ⟨_, cap, rfl, k1, k2, by simp, fun _ => ⟨g, 0, rfl, (Array.getElem?_eq_some_iff.1 hh).1, fun i hi => ?_⟩⟩
    obtain ⟨n, s, e0, e1, hr⟩ := hc.at i hi
    have a0 := h.cellAt (i * 2) (by omega)
    have a1 := h.cellAt (i * 2 + 1) (by omega)
    refine ⟨n, s, ?_, ?_, hr⟩
    · rw [Nat.zero_add, a0, e0]
    · rw [Nat.zero_add, a1, e1]
theorem NumsOwn.below {B : Nat} {w w' : World} {v : Value} {l : List Int} (h : NumsOwn B w v l) (hb : Below w.heap.size w w') : NumsOwn B w' v l := by
  obtain ⟨cs, h, hc⟩ := h
  exact ⟨cs, ownsRow_later h hb, hc.below hb⟩
end Go.Proofs.YtckkpolikdnilaaGreatDoor
/- value.partsOf. -/
namespace Go.Proofs.YtckkpolikdnilaaGreatDoor
open Go.RowKit Big Go.WideMaps

theorem rec5_cell {w : World} {g : Nat} {a b c d e : Value} {t : TypeId} (h : w.heap[g]? = some (.cells #[a, b, c, d, e] t (0, 0))) : w.cell? ⟨g, 1, none⟩ = some b := by
  simp [World.cell?, h]
theorem vlAt_nat (known : List Int) (j : Nat) (h : j < known.length) : vlAt known (j : Nat) = known[j] := by
  unfold vlAt; simp [h]
set_option maxRecDepth 100000 in
set_option maxHeartbeats 3200000 in
theorem partsOf_any (t : Tm) (v vv : Value) (known : List Int) (w : World) (h0 : TmRaw w v t) (h1 : NumsIn w vv known) (ha : ∀ a ∈ t.args, 0 ≤ a ∧ a < known.length) (hn : t.args.length ≤ 1048576) :
    Calls Tryz.prog 28 #[v, vv] w (fun e w' => ∃ v', e = .returned v' ∧ NumsOwn w.heap.size w' v' (vlParts t known) ∧ Below w.heap.size w w') := by
  obtain ⟨i0, hi, hz0, hz1, hz2⟩ := info_parts infoNum
  obtain ⟨pa, ca, bb, pm, nm, cm, rfl, hA, hN⟩ := h0
  obtain ⟨pa', ca', e, j1, j2, -, j4⟩ := hA
  injection e with e1 e2 e3
  subst e1 e3
  clear e2 hN
  have J4 := hid j4
  have H1 := hid h1
  have Ha := hid ha
  obtain ⟨pk, ck, rfl, k1, k2, -, k4⟩ := h1
  have K4 := hid k4
  unfold maxLen at j2 k2
  have b0 := below1 w (.cells #[.int .i64 t.op, .slice pa t.args.length ca, .bool bb, .slice pm nm cm, .int .i64 t.sym] 71)
  have z0 := size_alloc w (.cells #[.int .i64 t.op, .slice pa t.args.length ca, .bool bb, .slice pm nm cm, .int .i64 t.sym] 71)
  have x0 := heap_alloc_new w (.cells #[.int .i64 t.op, .slice pa t.args.length ca, .bool bb, .slice pm nm cm, .int .i64 t.sym] 71)
  have x1 : (w.alloc (.cells #[.int .i64 t.op, .slice pa t.args.length ca, .bool bb, .slice pm nm cm, .int .i64 t.sym] 71)).cell? ⟨w.heap.size, 1, none⟩ = some (.slice pa t.args.length ca) := rec5_cell x0
  unfold vlParts
  generalize hW : w.alloc (.cells #[.int .i64 t.op, .slice pa t.args.length ca, .bool bb, .slice pm nm cm, .int .i64 t.sym] 71) = W at *
  have B0 := hid b0
  clear j4 k4 ha b0 x0
  generalize t.args = al at *
  go_enter Tryz.func28, Tryz.ntmps28
  go_wp2_with (at_make; refine wpList_make_own _ rfl _ _ 32 rfl w.heap.size 44 i0 _ 2 Tryz.underlying32 hi hz0 hz1 .i64 .i64 _ al.length rfl rfl rfl (by rw [hz2]; omega) (by simp [maxLen]; omega) (by omega) ?_; intro w1 ho hg; rw [z0] at ho; have bg : Below W.heap.size W w1 := (Below.refl _ _).grown hg (Nat.le_refl _) (fun _ h => by cases h); have x2 := (bg.cell (p := ⟨w.heap.size, 1, none⟩) (by show w.heap.size < _; omega)).trans x1; have bg := hid (bel_go bg B0.out); clear hg)
  go_loopw [5, 15] (fun o i wr => ∃ (k : Nat) (cs : List Value), k ≤ al.length ∧ i = .int .i64 (k : Nat) ∧ wr.ownsRow w.heap.size 44 2 o k cs ∧ Hid (VlCells w ((al.take k).map (vlAt known)) cs) ∧ Hid (Below w.heap.size w wr)) (fun _ i _ => al.length - (intOf i).toNat)
  case atStart => exact ⟨0, [], Nat.zero_le _, rfl, ho, hid rfl, bg⟩
  case round =>
    obtain ⟨k, cs, hk, rfl, ho, hC, hB⟩ := hrel
    by_cases hlt : k < al.length
    · obtain ⟨ba, oa, rfl, hba, hca⟩ := J4.out (by omega)
      have ka := (hB.out.cell (p := ⟨ba, oa + k, none⟩) hba).trans (hca k hlt)
      obtain ⟨hj0, hj1⟩ := Ha.out al[k] (List.getElem_mem hlt)
      obtain ⟨j, hj⟩ : ∃ j : Nat, al[k] = (j : Nat) := ⟨al[k].toNat, by omega⟩
      have hjk : j < known.length := by omega
      have hjk' : (j : Int) < (known.length : Int) := by omega
      obtain ⟨bk, ok, rfl, hbk, hck⟩ := K4.out (by omega)
      obtain ⟨n, s, c0, c1, hr⟩ := hck j hjk
      obtain ⟨q, d, g, rfl⟩ := hr.shape
      have m0 := (hB.out.cell (p := ⟨bk, ok + j * 2, none⟩) hbk).trans c0
      have m1 := (hB.out.cell (p := ⟨bk, ok + j * 2 + 1, none⟩) hbk).trans c1
      rw [hj] at ka
      have Htk := hid (show (al.take (k+1)).map (vlAt known) = (al.take k).map (vlAt known) ++ [known[j]] from by rw [List.take_succ_eq_append_getElem hlt, List.map_append, List.map_singleton, hj, vlAt_nat known j hjk])
      have Hr := hid hr
      have bn := below1 wr (.cells #[.bool n, .slice q d g] 44)
      have ho4 := ownsRow_later ho bn
      have hz4 := size_alloc wr (.cells #[.bool n, .slice q d g] 44)
      have hnew := heap_alloc_new wr (.cells #[.bool n, .slice q d g] 44)
      have hnews : ∀ j u, ([.bool n, .slice q d g] : List Value)[j]? = some u → (wr.alloc (.cells #[.bool n, .slice q d g] 44)).cell? ((⟨wr.heap.size, 0, none⟩ : Addr).add j) = some u := by
        intro j u hj
        rw [Go.WideShapes.add_plain, Nat.zero_add, cell_of_row _ _ _ _ _ _ hnew]
        simpa using hj
      have hlw := hB.out.size
      have Bn := hid bn
      clear hck hca c0 c1 hr hj0 hj1 hj hba hbk bn ho
      go_wp2_with (at_builtin; refine wpList_append_own _ rfl _ _ 32 rfl w.heap.size 44 i0 _ 2 32 Tryz.underlying32 hi hz0 hz1 hz2 rfl (by decide) _ k _ rfl ho4 ⟨wr.heap.size, 0, none⟩ 1 1 [.bool n, .slice q d g] rfl rfl hnews (by intro u hu; simp at hu; rcases hu with rfl | rfl <;> rfl) (by simp [maxLen]; omega) (by omega) (by omega) ?_; intro v5 w5 ho5 hg5 _)
      go_roundw
      case rel => exact ⟨k + 1, _, by omega, rfl, ho5, hid (by rw [Htk.out]; exact hC.out.snoc Hr.out), hid ((hB.out.trans (Bn.out.mono hlw)).grown hg5 (by omega) (fun g hg => (World.ownsRow.lt ho4 g hg).1))⟩
      case measure => simp [intOf]; omega
    · have hkk : k = al.length := by omega
      subst hkk
      go_wp2_with fail
      go_ret
      exact ⟨_, rfl, ⟨cs, by rw [List.length_map]; exact ho, by have := hC.out; rw [List.take_length] at this; exact this.below hB.out⟩, hB.out⟩
end Go.Proofs.YtckkpolikdnilaaGreatDoor
/- A row of numbers of the call's own with room for all that comes: 'make([]api.Int, 0, L)' and appends within L; no cell of it is a word. -/
namespace Go.Proofs.YtckkpolikdnilaaGreatDoor
open Go.RowKit Big Go.WideMaps

/-- the row lies in block g, holds n numbers' cells cs, has room for L, and no cell of its block is a word -/
def RowQ (w : World) (g n L : Nat) (cs : List Value) : Prop :=
  ∃ cur, w.heap[g]? = some (.cells cur 44 (0, 0)) ∧ cur.size = L * 2 ∧ cur.toList.take (n * 2) = cs ∧ cs.length = n * 2 ∧ cur.all noWord = true ∧ n ≤ L ∧ L ≤ maxLen
theorem RowQ.below {w w' : World} {g n L : Nat} {cs : List Value} (h : RowQ w g n L cs) (hb : Below w.heap.size w w') : RowQ w' g n L cs := by
  obtain ⟨cur, h0, h1⟩ := h
  exact ⟨cur, (hb.block g (Array.getElem?_eq_some_iff.1 h0).1).trans h0, h1⟩
theorem RowQ.lt {w : World} {g n L : Nat} {cs : List Value} (h : RowQ w g n L cs) : g < w.heap.size := by
  obtain ⟨cur, h0, -⟩ := h
  exact (Array.getElem?_eq_some_iff.1 h0).1
/-- no number's words lie in such a block -/
theorem At.offQ {w w' : World} {g n L : Nat} {cs : List Value} {v : Value} {l : List Nat} (h : At w .u64 v l) (hq : RowQ w g n L cs) (hz : w.heap.size ≤ w'.heap.size) (hb : ∀ k, k < w.heap.size → k ≠ g → w'.heap[k]? = w.heap[k]?) : At w' .u64 v l := by
  obtain ⟨cur, hp, -, -, -, hf, -⟩ := hq
  obtain ⟨p, cap, hv, h1, h2, h3, h4⟩ := h
  refine ⟨p, cap, hv, h1, h2, h3, fun hl => ?_⟩
  obtain ⟨b, off, h5, h6, h7⟩ := h4 hl
  have hne : b ≠ g := by
    intro e
    subst e
    have h8 := h7 0 hl
    rw [Nat.add_zero, cell_of_row w b off _ _ (0, 0) hp] at h8
    have h9 := Array.all_eq_true.1 hf off (Array.getElem?_eq_some_iff.1 h8).1
    rw [(Array.getElem?_eq_some_iff.1 h8).2] at h9
    cases h9
  refine ⟨b, off, h5, Nat.lt_of_lt_of_le h6 hz, fun i hi => ?_⟩
  rw [← h7 i hi]
  simp only [World.cell?, hb b h6 hne]
theorem RawAt.offQ {w w' : World} {g n L : Nat} {cs : List Value} {v : Value} {z : Int} (h : RawAt w v z) (hq : RowQ w g n L cs) (hz : w.heap.size ≤ w'.heap.size) (hb : ∀ k, k < w.heap.size → k ≠ g → w'.heap[k]? = w.heap[k]?) : RawAt w' v z := by
  obtain ⟨neg, s, l, hs, ha, r⟩ := h
  exact ⟨neg, s, l, hs, ha.offQ hq hz hb, r⟩
theorem VlCells.offQ {w w' : World} {g n L : Nat} {cs0 : List Value} (hq : RowQ w g n L cs0) (hz : w.heap.size ≤ w'.heap.size) (hb : ∀ k, k < w.heap.size → k ≠ g → w'.heap[k]? = w.heap[k]?) : ∀ {l : List Int} {cs : List Value}, VlCells w l cs → VlCells w' l cs
  | [], _, h => h
  | _ :: _, _, ⟨n, s, r, e, h, hr⟩ => ⟨n, s, r, e, h.offQ hq hz hb, VlCells.offQ hq hz hb hr⟩
/-- 'append(v, x)' of one number where there is room -/
theorem RowQ.push {w : World} {g n L : Nat} {cs : List Value} (h : RowQ w g n L cs) (hn : n < L) (b : Bool) (p : Option Addr) (m c : Nat)
    (a : Addr) (hnews : ∀ j u, ([.bool b, .slice p m c] : List Value)[j]? = some u → w.cell? (a.add j) = some u) :
    ∃ w', (Builtin.append_ #[32, 32] 32 #[.slice (some ⟨g, 0, none⟩) n L, .slice (some a) 1 1]).run Tryz.prog w = .ok (.slice (some ⟨g, 0, none⟩) (n + 1) L) w' ∧
      RowQ w' g (n + 1) L (cs ++ [.bool b, .slice p m c]) ∧ w'.heap.size = w.heap.size ∧ (∀ k, k ≠ g → w'.heap[k]? = w.heap[k]?) ∧ w.grownBy w' (some g) := by
  obtain ⟨i0, hi, hz0, hz1, hz2⟩ := info_parts infoNum
  obtain ⟨cur, h0, h1, h2, h3, h4, h5, h6⟩ := h
  have hfit : n * i0.size + ([Value.bool b, Value.slice p m c] : List Value).length ≤ cur.size := by rw [h1, hz1]; simp; omega
  have hr := run_append_room (P := Tryz.prog) w 32 32 44 i0 Tryz.underlying32 hi g n L cur h0 a 1 1 [.bool b, .slice p m c] (by rw [hz1]; rfl) hnews (by intro u hu; simp at hu; rcases hu with rfl | rfl <;> rfl) (by omega) hfit
  rw [hz1] at hr
  refine ⟨_, hr, ⟨_, setRow_heap w g cur _ _ _ h0, ?_, ?_, ?_, ?_, by omega, h6⟩, by simp [World.setRow], fun k hk => setRow_other w g k _ hk, ⟨rfl, rfl, rfl, by simp [World.setRow], fun k _ hk => setRow_other w g k _ (fun e => hk (by rw [e]))⟩⟩
  · have := hfit; rw [hz1] at this
    simp only [List.size_toArray, List.length_append, List.length_take, List.length_drop, Array.length_toList, List.length_cons, List.length_nil] at this ⊢
    omega
  · rw [h2]
    have e : (n + 1) * 2 = (cs ++ [Value.bool b, Value.slice p m c]).length := by simp [h3]; omega
    rw [e]
    exact List.take_left
  · simp [h3]; omega
  · rw [Array.all_eq_true'] at h4 ⊢
    intro x hx
    simp only [List.mem_toArray, List.mem_append] at hx
    rcases hx with (hx | hx) | hx
    · exact h4 x (by simpa using List.mem_of_mem_take hx)
    · simp at hx; rcases hx with rfl | rfl <;> rfl
    · exact h4 x (by simpa using List.mem_of_mem_drop hx)
end Go.Proofs.YtckkpolikdnilaaGreatDoor
/- value.Eval where it answers with an error. -/
namespace Go.Proofs.YtckkpolikdnilaaGreatDoor
open Go.RowKit Big Go.WideMaps

def RVlErr (c : Int) (w : World) (e : Ending) (w' : World) : Prop := e = .returned (.tuple #[.slice none 0 0, .int .i64 c]) ∧ Below w.heap.size w w'
set_option maxRecDepth 100000 in
set_option maxHeartbeats 3200000 in
theorem Eval_bad (vs vt vm : Value) (syms : List Sy) (terms : List Tm) (ts : List Tb5) (w : World) (htab : Tb w.heap.size w) (hs : SyIn w vs syms) (ht : TmsIn w vt terms) (hm : TabsIn w vm ts) (hn : ∀ s ∈ syms, s.name.length ≤ 281474976710656) (ha : ∀ t ∈ terms, t.args.length ≤ 1099511627776) (he : plCheck syms terms ≠ 0) :
    Calls Tryz.prog 11 #[.agg #[vs, vt], .agg #[vm]] w (RVlErr (plCheck syms terms) w) := by
  have Hs := hid hs; have Ht := hid ht
  obtain ⟨ps, cps, rfl, -, -, -, -⟩ := hs
  obtain ⟨pt, cpt, rfl, -, -, -, -⟩ := ht
  obtain ⟨pm, cpm, rfl, -, -, -, -⟩ := hm
  have b0 : Below w.heap.size w ((w.alloc (.cells #[.slice ps syms.length cps, .slice pt terms.length cpt] 25)).alloc (.cells #[.slice pm ts.length cpm] 28)) := (below1 w _).alloc (by simp) _
  have HC := hid (Check_any _ _ _ syms terms _ (Nat.le_refl _) (tab_later htab b0) (Hs.out.below b0) (Ht.out.below b0) hn ha)
  have t1 : (plCheck syms terms != 0) = true := by simpa using he
  have B0 := hid b0
  clear hn ha htab b0 he Hs Ht
  generalize plCheck syms terms = c at *
  generalize syms.length = L0 at *
  generalize terms.length = L1 at *
  generalize ts.length = L2 at *
  go_enter Tryz.func11, Tryz.ntmps11
  go_wp2_with fail
  refine HC.out.mono ?_
  rintro e w1 ⟨rfl, b1⟩
  have B1 := hid (bel_go b1 B0.out)
  clear HC b1
  go_wp2
  go_ret2
  exact ⟨rfl, B1.out⟩
set_option maxRecDepth 100000 in
set_option maxHeartbeats 3200000 in
theorem Eval_miss (vs vt vm : Value) (syms : List Sy) (terms : List Tm) (ts : List Tb5) (w : World) (htab : Tb w.heap.size w) (hs : SyIn w vs syms) (ht : TmsIn w vt terms) (hm : TabsIn w vm ts) (hn : ∀ s ∈ syms, s.name.length ≤ 281474976710656) (ha : ∀ t ∈ terms, t.args.length ≤ 1099511627776) (he : plCheck syms terms = 0) (hl : ts.length < syms.length) :
    Calls Tryz.prog 11 #[.agg #[vs, vt], .agg #[vm]] w (RVlErr 13 w) := by
  have Hs := hid hs; have Ht := hid ht
  obtain ⟨ps, cps, rfl, -, -, -, -⟩ := hs
  obtain ⟨pt, cpt, rfl, -, -, -, -⟩ := ht
  obtain ⟨pm, cpm, rfl, -, -, -, -⟩ := hm
  have b0 : Below w.heap.size w ((w.alloc (.cells #[.slice ps syms.length cps, .slice pt terms.length cpt] 25)).alloc (.cells #[.slice pm ts.length cpm] 28)) := (below1 w _).alloc (by simp) _
  have e0 : ((w.alloc (.cells #[.slice ps syms.length cps, .slice pt terms.length cpt] 25)).alloc (.cells #[.slice pm ts.length cpm] 28)).heap[w.heap.size]? = some (.cells #[.slice ps syms.length cps, .slice pt terms.length cpt] 25 (0, 0)) := alloc_keep (alloc_at _ _ _ rfl)
  have e1 : ((w.alloc (.cells #[.slice ps syms.length cps, .slice pt terms.length cpt] 25)).alloc (.cells #[.slice pm ts.length cpm] 28)).heap[w.heap.size + 1]? = some (.cells #[.slice pm ts.length cpm] 28 (0, 0)) := alloc_at _ _ _ (by rw [size_alloc])
  have HC := hid (Check_any _ _ _ syms terms _ (Nat.le_refl _) (tab_later htab b0) (Hs.out.below b0) (Ht.out.below b0) hn ha)
  rw [he] at HC
  have z0 : ((w.alloc (.cells #[.slice ps syms.length cps, .slice pt terms.length cpt] 25)).alloc (.cells #[.slice pm ts.length cpm] 28)).heap.size = w.heap.size + 1 + 1 := by rw [size_alloc, size_alloc]
  have B0 := hid b0; have E0 := hid e0; have E1 := hid e1; have Z0 := hid z0
  have t2 : decide (ts.length < syms.length) = true := by simp; omega
  clear hn ha htab b0 he Hs Ht e0 e1 z0 hl
  generalize syms.length = L0 at *
  generalize terms.length = L1 at *
  generalize ts.length = L2 at *
  go_enter Tryz.func11, Tryz.ntmps11
  go_wp2_with fail
  refine HC.out.mono ?_
  rintro e w1 ⟨rfl, b1⟩
  have x0 := (two_cells ((b1.block w.heap.size (by have := Z0.out; omega)).trans E0.out)).1
  have x1 : w1.cell? ⟨w.heap.size + 1, 0, none⟩ = some (.slice pm L2 cpm) := by
    have h := (b1.block (w.heap.size + 1) (by have := Z0.out; omega)).trans E1.out
    simp [World.cell?, h]
  have B1 := hid (bel_go b1 B0.out)
  clear HC b1
  go_wp2
  go_ret2
  exact ⟨rfl, B1.out⟩
end Go.Proofs.YtckkpolikdnilaaGreatDoor
/- value.meaning's maker. -/
namespace Go.Proofs.YtckkpolikdnilaaGreatDoor
open Go.RowKit Big Go.WideMaps

set_option maxRecDepth 100000 in
set_option maxHeartbeats 3200000 in
theorem maker_1 (g : Nat) (w : World) (syms : List Sy) (ts : List Tb5) (t : Tm) (l : List Int) (h : MeanAt w g syms ts t l) (ho : t.op = 1) :
    Calls Tryz.prog 51 #[.pointer (some ⟨g, 0, none⟩)] w (fun e w' => e = .returned (.func (.func 73) #[.pointer (some ⟨g, 0, none⟩)] #[]) ∧ Below w.heap.size w w') := by
  obtain ⟨vs, vt, va, nn, ns, vp, h0, -, -, -, -⟩ := h
  obtain ⟨-, -, x2, -, -, -, -⟩ := rec8_cells h0
  rw [ho] at x2
  clear h0 ho
  go_enter Tryz.func51, Tryz.ntmps51
  go_wp2
  go_ret
  exact ⟨rfl, Below.refl _ _⟩
set_option maxRecDepth 100000 in
set_option maxHeartbeats 3200000 in
theorem maker_2 (g : Nat) (w : World) (syms : List Sy) (ts : List Tb5) (t : Tm) (l : List Int) (h : MeanAt w g syms ts t l) (ho : t.op = 2) :
    Calls Tryz.prog 51 #[.pointer (some ⟨g, 0, none⟩)] w (fun e w' => e = .returned (.func (.func 74) #[.pointer (some ⟨g, 0, none⟩)] #[]) ∧ Below w.heap.size w w') := by
  obtain ⟨vs, vt, va, nn, ns, vp, h0, -, -, -, -⟩ := h
  obtain ⟨-, -, x2, -, -, -, -⟩ := rec8_cells h0
  rw [ho] at x2
  clear h0 ho
  go_enter Tryz.func51, Tryz.ntmps51
  go_wp2
  go_ret
  exact ⟨rfl, Below.refl _ _⟩
set_option maxRecDepth 100000 in
set_option maxHeartbeats 3200000 in
theorem maker_3 (g : Nat) (w : World) (syms : List Sy) (ts : List Tb5) (t : Tm) (l : List Int) (h : MeanAt w g syms ts t l) (ho : t.op = 3) :
    Calls Tryz.prog 51 #[.pointer (some ⟨g, 0, none⟩)] w (fun e w' => e = .returned (.func (.func 75) #[.pointer (some ⟨g, 0, none⟩)] #[]) ∧ Below w.heap.size w w') := by
  obtain ⟨vs, vt, va, nn, ns, vp, h0, -, -, -, -⟩ := h
  obtain ⟨-, -, x2, -, -, -, -⟩ := rec8_cells h0
  rw [ho] at x2
  clear h0 ho
  go_enter Tryz.func51, Tryz.ntmps51
  go_wp2
  go_ret
  exact ⟨rfl, Below.refl _ _⟩
set_option maxRecDepth 100000 in
set_option maxHeartbeats 3200000 in
theorem maker_4 (g : Nat) (w : World) (syms : List Sy) (ts : List Tb5) (t : Tm) (l : List Int) (h : MeanAt w g syms ts t l) (ho : t.op = 4) :
    Calls Tryz.prog 51 #[.pointer (some ⟨g, 0, none⟩)] w (fun e w' => e = .returned (.func (.func 76) #[.pointer (some ⟨g, 0, none⟩)] #[]) ∧ Below w.heap.size w w') := by
  obtain ⟨vs, vt, va, nn, ns, vp, h0, -, -, -, -⟩ := h
  obtain ⟨-, -, x2, -, -, -, -⟩ := rec8_cells h0
  rw [ho] at x2
  clear h0 ho
  go_enter Tryz.func51, Tryz.ntmps51
  go_wp2
  go_ret
  exact ⟨rfl, Below.refl _ _⟩
set_option maxRecDepth 100000 in
set_option maxHeartbeats 3200000 in
theorem maker_5 (g : Nat) (w : World) (syms : List Sy) (ts : List Tb5) (t : Tm) (l : List Int) (h : MeanAt w g syms ts t l) (ho : t.op = 5) :
    Calls Tryz.prog 51 #[.pointer (some ⟨g, 0, none⟩)] w (fun e w' => e = .returned (.func (.func 77) #[.pointer (some ⟨g, 0, none⟩)] #[]) ∧ Below w.heap.size w w') := by
  obtain ⟨vs, vt, va, nn, ns, vp, h0, -, -, -, -⟩ := h
  obtain ⟨-, -, x2, -, -, -, -⟩ := rec8_cells h0
  rw [ho] at x2
  clear h0 ho
  go_enter Tryz.func51, Tryz.ntmps51
  go_wp2
  go_ret
  exact ⟨rfl, Below.refl _ _⟩
set_option maxRecDepth 100000 in
set_option maxHeartbeats 3200000 in
theorem maker_6 (g : Nat) (w : World) (syms : List Sy) (ts : List Tb5) (t : Tm) (l : List Int) (h : MeanAt w g syms ts t l) (ho : t.op = 6) :
    Calls Tryz.prog 51 #[.pointer (some ⟨g, 0, none⟩)] w (fun e w' => e = .returned (.func (.func 73) #[.pointer (some ⟨g, 0, none⟩)] #[]) ∧ Below w.heap.size w w') := by
  obtain ⟨vs, vt, va, nn, ns, vp, h0, -, -, -, -⟩ := h
  obtain ⟨-, -, x2, -, -, -, -⟩ := rec8_cells h0
  rw [ho] at x2
  clear h0 ho
  go_enter Tryz.func51, Tryz.ntmps51
  go_wp2
  go_ret
  exact ⟨rfl, Below.refl _ _⟩
set_option maxRecDepth 100000 in
set_option maxHeartbeats 3200000 in
theorem maker_7 (g : Nat) (w : World) (syms : List Sy) (ts : List Tb5) (t : Tm) (l : List Int) (h : MeanAt w g syms ts t l) (ho : t.op = 7) :
    Calls Tryz.prog 51 #[.pointer (some ⟨g, 0, none⟩)] w (fun e w' => e = .returned (.func (.func 74) #[.pointer (some ⟨g, 0, none⟩)] #[]) ∧ Below w.heap.size w w') := by
  obtain ⟨vs, vt, va, nn, ns, vp, h0, -, -, -, -⟩ := h
  obtain ⟨-, -, x2, -, -, -, -⟩ := rec8_cells h0
  rw [ho] at x2
  clear h0 ho
  go_enter Tryz.func51, Tryz.ntmps51
  go_wp2
  go_ret
  exact ⟨rfl, Below.refl _ _⟩
set_option maxRecDepth 100000 in
set_option maxHeartbeats 3200000 in
theorem maker_8 (g : Nat) (w : World) (syms : List Sy) (ts : List Tb5) (t : Tm) (l : List Int) (h : MeanAt w g syms ts t l) (ho : t.op = 8) :
    Calls Tryz.prog 51 #[.pointer (some ⟨g, 0, none⟩)] w (fun e w' => e = .returned (.func (.func 78) #[.pointer (some ⟨g, 0, none⟩)] #[]) ∧ Below w.heap.size w w') := by
  obtain ⟨vs, vt, va, nn, ns, vp, h0, -, -, -, -⟩ := h
  obtain ⟨-, -, x2, -, -, -, -⟩ := rec8_cells h0
  rw [ho] at x2
  clear h0 ho
  go_enter Tryz.func51, Tryz.ntmps51
  go_wp2
  go_ret
  exact ⟨rfl, Below.refl _ _⟩
set_option maxRecDepth 100000 in
set_option maxHeartbeats 3200000 in
theorem maker_9 (g : Nat) (w : World) (syms : List Sy) (ts : List Tb5) (t : Tm) (l : List Int) (h : MeanAt w g syms ts t l) (ho : t.op = 9) :
    Calls Tryz.prog 51 #[.pointer (some ⟨g, 0, none⟩)] w (fun e w' => e = .returned (.func (.func 79) #[.pointer (some ⟨g, 0, none⟩)] #[]) ∧ Below w.heap.size w w') := by
  obtain ⟨vs, vt, va, nn, ns, vp, h0, -, -, -, -⟩ := h
  obtain ⟨-, -, x2, -, -, -, -⟩ := rec8_cells h0
  rw [ho] at x2
  clear h0 ho
  go_enter Tryz.func51, Tryz.ntmps51
  go_wp2
  go_ret
  exact ⟨rfl, Below.refl _ _⟩
set_option maxRecDepth 100000 in
set_option maxHeartbeats 3200000 in
theorem maker_10 (g : Nat) (w : World) (syms : List Sy) (ts : List Tb5) (t : Tm) (l : List Int) (h : MeanAt w g syms ts t l) (ho : t.op = 10) :
    Calls Tryz.prog 51 #[.pointer (some ⟨g, 0, none⟩)] w (fun e w' => e = .returned (.func (.func 78) #[.pointer (some ⟨g, 0, none⟩)] #[]) ∧ Below w.heap.size w w') := by
  obtain ⟨vs, vt, va, nn, ns, vp, h0, -, -, -, -⟩ := h
  obtain ⟨-, -, x2, -, -, -, -⟩ := rec8_cells h0
  rw [ho] at x2
  clear h0 ho
  go_enter Tryz.func51, Tryz.ntmps51
  go_wp2
  go_ret
  exact ⟨rfl, Below.refl _ _⟩
set_option maxRecDepth 100000 in
set_option maxHeartbeats 3200000 in
theorem maker_11 (g : Nat) (w : World) (syms : List Sy) (ts : List Tb5) (t : Tm) (l : List Int) (h : MeanAt w g syms ts t l) (ho : t.op = 11) :
    Calls Tryz.prog 51 #[.pointer (some ⟨g, 0, none⟩)] w (fun e w' => e = .returned (.func (.func 80) #[.pointer (some ⟨g, 0, none⟩)] #[]) ∧ Below w.heap.size w w') := by
  obtain ⟨vs, vt, va, nn, ns, vp, h0, -, -, -, -⟩ := h
  obtain ⟨-, -, x2, -, -, -, -⟩ := rec8_cells h0
  rw [ho] at x2
  clear h0 ho
  go_enter Tryz.func51, Tryz.ntmps51
  go_wp2
  go_ret
  exact ⟨rfl, Below.refl _ _⟩
set_option maxRecDepth 100000 in
set_option maxHeartbeats 3200000 in
theorem maker_12 (g : Nat) (w : World) (syms : List Sy) (ts : List Tb5) (t : Tm) (l : List Int) (h : MeanAt w g syms ts t l) (ho : t.op = 12) :
    Calls Tryz.prog 51 #[.pointer (some ⟨g, 0, none⟩)] w (fun e w' => e = .returned (.func (.func 81) #[.pointer (some ⟨g, 0, none⟩)] #[]) ∧ Below w.heap.size w w') := by
  obtain ⟨vs, vt, va, nn, ns, vp, h0, -, -, -, -⟩ := h
  obtain ⟨-, -, x2, -, -, -, -⟩ := rec8_cells h0
  rw [ho] at x2
  clear h0 ho
  go_enter Tryz.func51, Tryz.ntmps51
  go_wp2
  go_ret
  exact ⟨rfl, Below.refl _ _⟩
set_option maxRecDepth 100000 in
set_option maxHeartbeats 3200000 in
theorem maker_13 (g : Nat) (w : World) (syms : List Sy) (ts : List Tb5) (t : Tm) (l : List Int) (h : MeanAt w g syms ts t l) (ho : t.op = 13) :
    Calls Tryz.prog 51 #[.pointer (some ⟨g, 0, none⟩)] w (fun e w' => e = .returned (.func (.func 82) #[.pointer (some ⟨g, 0, none⟩)] #[]) ∧ Below w.heap.size w w') := by
  obtain ⟨vs, vt, va, nn, ns, vp, h0, -, -, -, -⟩ := h
  obtain ⟨-, -, x2, -, -, -, -⟩ := rec8_cells h0
  rw [ho] at x2
  clear h0 ho
  go_enter Tryz.func51, Tryz.ntmps51
  go_wp2
  go_ret
  exact ⟨rfl, Below.refl _ _⟩
end Go.Proofs.YtckkpolikdnilaaGreatDoor
/- The methods of value.meaning that draw an order. -/
namespace Go.Proofs.YtckkpolikdnilaaGreatDoor
open Go.RowKit Big Go.WideMaps

theorem ord_le (a b : Int) : decide (ord a b ≤ 0) = decide (a ≤ b) := by
  unfold ord
  by_cases h : a < b
  · simp [h]; omega
  · by_cases e : a = b
    · simp [e]
    · simp [h]; omega
set_option maxRecDepth 100000 in
set_option maxHeartbeats 3200000 in
theorem mequal_any (g : Nat) (w : World) (syms : List Sy) (ts : List Tb5) (t : Tm) (l : List Int) (h : MeanAt w g syms ts t l) (hl : 2 ≤ l.length) :
    Calls Tryz.prog 78 #[.pointer (some ⟨g, 0, none⟩)] w (RInt (vlTruth (decide (vlAt l 0 = vlAt l 1))) w) := by
  have b0 := below1 w (.cells #[.bool false, .slice none 0 0] 44)
  have hp : Pair (w.alloc (.cells #[.bool false, .slice none 0 0] 44)) w.heap.size 44 := Pair.new ..
  generalize hW : w.alloc (.cells #[.bool false, .slice none 0 0] 44) = W at *
  obtain ⟨vs, vt, va, nn, ns, vp, h0, h1, h2, h3, h4⟩ := h
  have G : g < w.heap.size := (Array.getElem?_eq_some_iff.1 h0).1
  obtain ⟨x0, x1, x2, x4, x5, x6, x7⟩ := rec8_cells ((b0.block g G).trans h0)
  clear h0
  obtain ⟨m0, o0, c0, n0, q0, d0, g0, e0, M0, y0, z0, r0⟩ := h4.at 0 (by omega)
  obtain ⟨m1, o1, c1, n1, q1, d1, g1, e1, M1, y1, z1, r1⟩ := h4.at 1 (by omega)
  rw [e0] at x7
  have M := hid M0
  clear M0
  clear M1
  rw [e0] at e1
  injection e1 with ea1
  injection ea1 with ea1
  injection ea1 with eb1 ec1
  subst eb1 ec1
  have M := M.out
  have y0 := (b0.cell (p := ⟨m0, o0 + 0 * 2, none⟩) M).trans y0
  have z0 := (b0.cell (p := ⟨m0, o0 + 0 * 2 + 1, none⟩) M).trans z0
  have r0 := r0.below b0
  have y1 := (b0.cell (p := ⟨m0, o0 + 1 * 2, none⟩) M).trans y1
  have z1 := (b0.cell (p := ⟨m0, o0 + 1 * 2 + 1, none⟩) M).trans z1
  have r1 := r1.below b0
  have hl0 : (0 : Int) < (l.length : Int) := by omega
  have hl1 : (1 : Int) < (l.length : Int) := by omega
  have hln : 0 < l.length := by omega
  have hv : vlAt l 0 = l[0] ∧ vlAt l 1 = l[1] := by
    refine ⟨?_, ?_⟩ <;> unfold vlAt
    · simp [show (0 : Int).toNat = 0 from rfl, List.getElem?_eq_getElem (show 0 < l.length by omega)]
    · simp [show (1 : Int).toNat = 1 from rfl, List.getElem?_eq_getElem (show 1 < l.length by omega)]
  obtain ⟨hv0, hv1⟩ := hv
  rw [hv0, hv1]
  clear hv0 hv1
  have Hc0 := hid (fun w' (hb : Below W.heap.size W w') => same_any5 _ _ _ _ w' (r0.below hb) (r1.below hb))
  have y0 : W.cell? ⟨m0, o0, none⟩ = some (.bool n0) := y0
  have z0 : W.cell? ⟨m0, o0 + 1, none⟩ = some (.slice q0 d0 g0) := (congrArg (fun k => W.cell? ⟨m0, k, none⟩) (by omega)).trans z0
  have y1 : W.cell? ⟨m0, o0 + 2, none⟩ = some (.bool n1) := y1
  have z1 : W.cell? ⟨m0, o0 + 3, none⟩ = some (.slice q1 d1 g1) := z1
  clear h1 h2 h3 h4 r0 r1 e0
  generalize decide (l[0] = l[1]) = r at *
  have hz : W.heap.size = w.heap.size + 1 := by rw [← hW, size_alloc]
  go_enter Tryz.func78, Tryz.ntmps78
  go_wp2_with fail
  go_region_held3 (fun w' => w'.cell? ⟨g, 7, none⟩ = some (.slice (some ⟨m0, o0, none⟩) l.length c0) ∧ w'.cell? ⟨m0, o0, none⟩ = some (.bool n0) ∧ w'.cell? ⟨m0, o0 + 1, none⟩ = some (.slice q0 d0 g0) ∧ w'.cell? ⟨m0, o0 + 2, none⟩ = some (.bool n1) ∧ w'.cell? ⟨m0, o0 + 3, none⟩ = some (.slice q1 d1 g1) ∧ Pair w' w.heap.size 44)
    (first | (go_split_ands; (try dsimp only); (repeat' apply And.intro) <;> first | assumption | exact Pair.drew ‹_› | exact Pair.below ‹_› hb9 | exact Pair.below ‹_› hb8 | exact Pair.below ‹_› hb7 | exact Pair.below ‹_› hb6 | exact Pair.below ‹_› hb5 | exact Pair.below ‹_› hb4 | exact Pair.below ‹_› hb3 | exact Pair.below ‹_› hb2 | exact Pair.below ‹_› hb1 | exact (hb9.cell (by first | omega | (simp; omega) | (simp; done))).trans ‹_› | exact (hb8.cell (by first | omega | (simp; omega) | (simp; done))).trans ‹_› | exact (hb7.cell (by first | omega | (simp; omega) | (simp; done))).trans ‹_› | exact (hb6.cell (by first | omega | (simp; omega) | (simp; done))).trans ‹_› | exact (hb5.cell (by first | omega | (simp; omega) | (simp; done))).trans ‹_› | exact (hb4.cell (by first | omega | (simp; omega) | (simp; done))).trans ‹_› | exact (hb3.cell (by first | omega | (simp; omega) | (simp; done))).trans ‹_› | exact (hb2.cell (by first | omega | (simp; omega) | (simp; done))).trans ‹_› | exact (hb1.cell (by first | omega | (simp; omega) | (simp; done))).trans ‹_› | exact Pair.set1 (Pair.set0 ‹_› _) _ _ _ | exact (cell_stored _ (by first | (dsimp only; omega) | (simp; done) | (simp; omega)) _ _).trans ‹_› | exact Pair.drew (Pair.below ‹_› (below1 _ _)) | exact Pair.below ‹_› (below1 _ _) | exact Pair.far ‹_› (by omega) hb1 | exact Pair.new .. | exact Pair.new1 .. | exact Pair.new2 .. | (go_keep; done)) | (go_keep; done))
    (first
      | (go_at_call 55; refine (Hc0.out _ ?_).mono ?_; (repeat (first | exact Below.refl _ _ | apply Below.drew)); rintro e w1 ⟨rfl, hb1⟩; have hz1 : W.heap.size ≤ w1.heap.size := (by have := hb1.size; simp at this; omega))
      | (go_at_call 35; refine (truth_any _ _).mono ?_; rintro e w2 ⟨v2, rfl, hi2, hb2⟩; obtain ⟨p2, n2, c2, rfl, hi2⟩ := hi2.shape; have hpr := Pair.below (by go_split_ands; assumption) hb2; obtain ⟨_, _, q0, q1, q2, q3⟩ := hpr.cells))
  go_wp2
  exact bodyPost_ret (v := .agg #[.bool (decide (vlTruth r < 0)), .slice p2 n2 c2]) (by simp [results, Tryz.results78, go_sem, q0, q1]) rfl ⟨_, rfl, hi2.stored hpr _ _ _ _, Below.stored (b0.drew.trans ((hb1.mono (B' := w.heap.size) (by first | omega | (simp; omega))).trans (hb2.mono (B' := w.heap.size) (by first | omega | (simp; omega))))) (by omega) _ _⟩
set_option maxRecDepth 100000 in
set_option maxHeartbeats 3200000 in
theorem matMost_any (g : Nat) (w : World) (syms : List Sy) (ts : List Tb5) (t : Tm) (l : List Int) (h : MeanAt w g syms ts t l) (hl : 2 ≤ l.length) :
    Calls Tryz.prog 80 #[.pointer (some ⟨g, 0, none⟩)] w (RInt (vlTruth (decide (vlAt l 0 ≤ vlAt l 1))) w) := by
  have b0 := below1 w (.cells #[.bool false, .slice none 0 0] 44)
  have hp : Pair (w.alloc (.cells #[.bool false, .slice none 0 0] 44)) w.heap.size 44 := Pair.new ..
  generalize hW : w.alloc (.cells #[.bool false, .slice none 0 0] 44) = W at *
  obtain ⟨vs, vt, va, nn, ns, vp, h0, h1, h2, h3, h4⟩ := h
  have G : g < w.heap.size := (Array.getElem?_eq_some_iff.1 h0).1
  obtain ⟨x0, x1, x2, x4, x5, x6, x7⟩ := rec8_cells ((b0.block g G).trans h0)
  clear h0
  obtain ⟨m0, o0, c0, n0, q0, d0, g0, e0, M0, y0, z0, r0⟩ := h4.at 0 (by omega)
  obtain ⟨m1, o1, c1, n1, q1, d1, g1, e1, M1, y1, z1, r1⟩ := h4.at 1 (by omega)
  rw [e0] at x7
  have M := hid M0
  clear M0
  clear M1
  rw [e0] at e1
  injection e1 with ea1
  injection ea1 with ea1
  injection ea1 with eb1 ec1
  subst eb1 ec1
  have M := M.out
  have y0 := (b0.cell (p := ⟨m0, o0 + 0 * 2, none⟩) M).trans y0
  have z0 := (b0.cell (p := ⟨m0, o0 + 0 * 2 + 1, none⟩) M).trans z0
  have r0 := r0.below b0
  have y1 := (b0.cell (p := ⟨m0, o0 + 1 * 2, none⟩) M).trans y1
  have z1 := (b0.cell (p := ⟨m0, o0 + 1 * 2 + 1, none⟩) M).trans z1
  have r1 := r1.below b0
  have hl0 : (0 : Int) < (l.length : Int) := by omega
  have hl1 : (1 : Int) < (l.length : Int) := by omega
  have hln : 0 < l.length := by omega
  have hv : vlAt l 0 = l[0] ∧ vlAt l 1 = l[1] := by
    refine ⟨?_, ?_⟩ <;> unfold vlAt
    · simp [show (0 : Int).toNat = 0 from rfl, List.getElem?_eq_getElem (show 0 < l.length by omega)]
    · simp [show (1 : Int).toNat = 1 from rfl, List.getElem?_eq_getElem (show 1 < l.length by omega)]
  obtain ⟨hv0, hv1⟩ := hv
  rw [hv0, hv1]
  clear hv0 hv1
  rw [← ord_le]
  have Hc0 := hid (fun w' (hb : Below W.heap.size W w') => Cmp_any _ _ _ _ w' (r0.below hb) (r1.below hb))
  have y0 : W.cell? ⟨m0, o0, none⟩ = some (.bool n0) := y0
  have z0 : W.cell? ⟨m0, o0 + 1, none⟩ = some (.slice q0 d0 g0) := (congrArg (fun k => W.cell? ⟨m0, k, none⟩) (by omega)).trans z0
  have y1 : W.cell? ⟨m0, o0 + 2, none⟩ = some (.bool n1) := y1
  have z1 : W.cell? ⟨m0, o0 + 3, none⟩ = some (.slice q1 d1 g1) := z1
  clear h1 h2 h3 h4 r0 r1 e0
  generalize ord l[0] l[1] = r at *
  have hz : W.heap.size = w.heap.size + 1 := by rw [← hW, size_alloc]
  go_enter Tryz.func80, Tryz.ntmps80
  go_wp2_with fail
  go_region_held3 (fun w' => w'.cell? ⟨g, 7, none⟩ = some (.slice (some ⟨m0, o0, none⟩) l.length c0) ∧ w'.cell? ⟨m0, o0, none⟩ = some (.bool n0) ∧ w'.cell? ⟨m0, o0 + 1, none⟩ = some (.slice q0 d0 g0) ∧ w'.cell? ⟨m0, o0 + 2, none⟩ = some (.bool n1) ∧ w'.cell? ⟨m0, o0 + 3, none⟩ = some (.slice q1 d1 g1) ∧ Pair w' w.heap.size 44)
    (first | (go_split_ands; (try dsimp only); (repeat' apply And.intro) <;> first | assumption | exact Pair.drew ‹_› | exact Pair.below ‹_› hb9 | exact Pair.below ‹_› hb8 | exact Pair.below ‹_› hb7 | exact Pair.below ‹_› hb6 | exact Pair.below ‹_› hb5 | exact Pair.below ‹_› hb4 | exact Pair.below ‹_› hb3 | exact Pair.below ‹_› hb2 | exact Pair.below ‹_› hb1 | exact (hb9.cell (by first | omega | (simp; omega) | (simp; done))).trans ‹_› | exact (hb8.cell (by first | omega | (simp; omega) | (simp; done))).trans ‹_› | exact (hb7.cell (by first | omega | (simp; omega) | (simp; done))).trans ‹_› | exact (hb6.cell (by first | omega | (simp; omega) | (simp; done))).trans ‹_› | exact (hb5.cell (by first | omega | (simp; omega) | (simp; done))).trans ‹_› | exact (hb4.cell (by first | omega | (simp; omega) | (simp; done))).trans ‹_› | exact (hb3.cell (by first | omega | (simp; omega) | (simp; done))).trans ‹_› | exact (hb2.cell (by first | omega | (simp; omega) | (simp; done))).trans ‹_› | exact (hb1.cell (by first | omega | (simp; omega) | (simp; done))).trans ‹_› | exact Pair.set1 (Pair.set0 ‹_› _) _ _ _ | exact (cell_stored _ (by first | (dsimp only; omega) | (simp; done) | (simp; omega)) _ _).trans ‹_› | exact Pair.drew (Pair.below ‹_› (below1 _ _)) | exact Pair.below ‹_› (below1 _ _) | exact Pair.far ‹_› (by omega) hb1 | exact Pair.new .. | exact Pair.new1 .. | exact Pair.new2 .. | (go_keep; done)) | (go_keep; done))
    (first
      | (go_at_call 86; refine (Hc0.out _ ?_).mono ?_; (repeat (first | exact Below.refl _ _ | apply Below.drew)); rintro e w1 ⟨rfl, hb1⟩; have hz1 : W.heap.size ≤ w1.heap.size := (by have := hb1.size; simp at this; omega))
      | (go_at_call 35; refine (truth_any _ _).mono ?_; rintro e w2 ⟨v2, rfl, hi2, hb2⟩; obtain ⟨p2, n2, c2, rfl, hi2⟩ := hi2.shape; have hpr := Pair.below (by go_split_ands; assumption) hb2; obtain ⟨_, _, q0, q1, q2, q3⟩ := hpr.cells))
  go_wp2
  exact bodyPost_ret (v := .agg #[.bool (decide (vlTruth (decide (r ≤ 0)) < 0)), .slice p2 n2 c2]) (by simp [results, Tryz.results80, go_sem, q0, q1]) rfl ⟨_, rfl, hi2.stored hpr _ _ _ _, Below.stored (b0.drew.trans ((hb1.mono (B' := w.heap.size) (by first | omega | (simp; omega))).trans (hb2.mono (B' := w.heap.size) (by first | omega | (simp; omega))))) (by omega) _ _⟩
end Go.Proofs.YtckkpolikdnilaaGreatDoor
/- whole.trimHalves: what is left is the digits without the noughts at the end. -/
namespace Go.Proofs.YtckkpolikdnilaaGreatDoor
open Go.RowKit Big

set_option maxHeartbeats 400000 in
theorem htrim_val (v : Value) (l : List Nat) (w : World) (h : At w .u32 v l) :
    Calls Tryz.prog 146 #[v] w (fun e w' => e = .returned (cutTo v (strip l).length) ∧ w' = w) := by
  obtain ⟨p, cap, rfl, h1, h2, h3, h4⟩ := h
  unfold maxLen at h2
  go_enter Tryz.func146, Tryz.ntmps146
  go_wp2
  go_loop [0] (fun s => ∃ k : Nat, k ≤ l.length ∧ s = .slice p k cap ∧ strip (l.take k) = strip l) (fun s => lenOf s)
  case atStart => exact ⟨l.length, Nat.le_refl _, rfl, by rw [List.take_length]⟩
  case round =>
    obtain ⟨k, hk, rfl, hs⟩ := hrel
    have Hs := hid hs; clear hs
    by_cases hk0 : 0 < k
    · obtain ⟨b, off, rfl, hb, hc⟩ := h4 (by omega)
      have hck : w.cell? ⟨b, off + (k - 1), none⟩ = some (.int .u32 (l[k-1]'(by omega) : Nat)) := hc (k - 1) (by omega)
      clear hc h4
      go_wp2
      · go_round
        case rel =>
          have hz : ((l[k-1]'(by omega) : Nat) == 0) = true := by simpa using ‹((l[k-1]'(by omega) : Nat) == (0 : Int)) = true›
          refine ⟨k - 1, by omega, rfl, ?_⟩
          rw [← Hs.out, ← strip_take (k := k - 1) (by omega) (by simpa using hz), Nat.sub_add_cancel hk0]
        case measure => simp [lenOf]; omega
      · have hz : ¬ (l[k-1]'(by omega) : Nat) = 0 := by
          have := ‹((l[k-1]'(by omega) : Nat) == (0 : Int)) = false›
          simpa using this
        have hs := strip_take_ne (l := l) (k := k - 1) (by omega) hz
        rw [Nat.sub_add_cancel hk0, Hs.out] at hs
        go_ret
        exact ⟨by rw [hs, List.length_take, Nat.min_eq_left hk]; rfl, rfl⟩
    · obtain rfl : k = 0 := by omega
      have hs : Hid (strip l = []) := by rw [← Hs.out]; rfl
      go_wp2
      go_ret
      exact ⟨by rw [hs.out]; rfl, rfl⟩
theorem htrim_any (v : Value) (l : List Nat) (w : World) (h : At w .u32 v l) : Calls Tryz.prog 146 #[v] w (RSame .u32 (strip l) w) :=
  (htrim_val v l w h).mono fun _ _ ⟨he, hw⟩ => ⟨_, he, by subst hw; exact h.strip, hw.symm⟩
end Go.Proofs.YtckkpolikdnilaaGreatDoor
/- whole.split: words as halves of words. -/
namespace Go.Proofs.YtckkpolikdnilaaGreatDoor
open Go.RowKit Big

theorem At.twoI (w : World) (k : IntKind) (e e' : Int) (x y : Nat) (t : TypeId) (h : e = (x : Int)) (h' : e' = (y : Int)) : At (w.alloc (.cells #[.int k e, .int k e'] t)) k (.slice (some ⟨w.heap.size, 0, none⟩) 2 2) [x, y] := by
  subst h; subst h'
  refine ⟨_, 2, rfl, by simp, by simp [maxLen], fun h => (by cases h), fun _ => ⟨_, _, rfl, by simp, fun i hi => ?_⟩⟩
  have hh := heap_alloc_new w (.cells #[.int k (x : Nat), .int k (y : Nat)] t)
  rcases (by simp at hi; omega : i = 0 ∨ i = 1) with rfl | rfl
  · exact (two_cells hh).1
  · exact (two_cells hh).2.1

theorem split_step {L l : List Nat} {k x : Nat} {hk : k < l.length} (hL : L.length = 2 * k) (hx : x = l[k]) (hv : val H L = val W (l.take k)) :
    val H (L ++ [x % 4294967296, x / 4294967296]) = val W (l.take (k + 1)) := by
  rw [val_append, val_take_succ W l k hk, hv, hL, ← hx, show H ^ (2 * k) = W ^ k by rw [Nat.pow_mul]; rfl]
  have e : val H [x % 4294967296, x / 4294967296] = x := by simp only [val, H]; omega
  rw [e]

set_option maxRecDepth 100000 in
set_option maxHeartbeats 1600000 in
theorem split_any (v : Value) (l : List Nat) (w : World) (h : At w .u64 v l) (hs : Small W l) (hlen : l.length ≤ 1099511627776) :
    Calls Tryz.prog 137 #[v] w (ROwn 176 .u32 (dig H (val W l)) w) := by
  obtain ⟨p, cap, rfl, a1, a2, a3, a4⟩ := h
  unfold maxLen at a2
  go_enter Tryz.func137, Tryz.ntmps137
  go_wp2_with (first
    | (at_make; refine wpList_make_at rfl _ _ 163 rfl elemHalves w.heap.size _ _ _ (2 * l.length) rfl rfl (by first | rfl | omega | (simp; done)) (by omega) (by simp [maxLen]; omega) (Nat.le_refl _) ?_; intro vo w1 ho hb1 hs1 hvo; clear hvo))
  go_loopw [3, 12] (fun o i wr => ∃ (k : Nat) (L : List Nat), k ≤ l.length ∧ i = .int .i64 (k : Nat) ∧ Own wr w.heap.size 176 .u32 o L ∧ Hid (L.length = 2 * k) ∧ Small H L ∧
      Hid (val H L = val W (l.take k)) ∧ Below w.heap.size w wr) (fun _ i _ => l.length - (intOf i).toNat)
  case atStart => exact ⟨0, [], Nat.zero_le _, rfl, ho, rfl, small_nil _, rfl, hb1⟩
  case round =>
    obtain ⟨k, L, hk, rfl, hown, hLk, hsl, hv, hbel⟩ := hrel
    by_cases hkl : k < l.length
    · obtain ⟨b, off, rfl, hbb, hcell⟩ := a4 (by omega)
      have e0 : wr.cell? ⟨b, off + k, none⟩ = some (.int .u64 (l[k] : Nat)) := (hbel.cell (p := ⟨b, off + k, none⟩) hbb).trans (hcell k hkl)
      have x0 := small_get hs k hkl
      obtain ⟨x, hx⟩ : ∃ x, x = l[k] := ⟨_, rfl⟩
      rw [← hx] at e0 x0
      have Hx := hid hx; clear hx hcell a4
      unfold W at x0
      go_wp2_with (at_builtin; refine wpList_append_at rfl _ _ 163 rfl elemHalves w.heap.size _ L rfl (hown.alloc _) _ [x % 4294967296, x / 4294967296] rfl (At.twoI _ _ _ _ _ _ _ (by first | rfl | omega) (by first | rfl | omega)) (by rw [hLk.out]; simp [maxLen]; omega) (by rw [hLk.out]; simp; omega) (by have := hbel.size; simp; omega) ?_; intro v2 w2 ho2 hb2 hs2)
      go_roundw
      case rel => exact ⟨k + 1, L ++ [x % 4294967296, x / 4294967296], by omega, by go_num, ho2, by have := hLk.out; unfold Hid; simp; omega,
        small_append hsl (small_cons (Nat.mod_lt _ (by decide)) (small_cons (by unfold H; omega) (small_nil _))), split_step hLk.out Hx.out hv.out, (hbel.trans ((below1 _ _).mono hbel.size)).trans hb2⟩
      case measure => (simp [intOf] <;> omega)
    · obtain rfl : k = l.length := by omega
      have hv' : Hid (strip L = dig H (val W l)) := by
        have := hv.out
        rw [List.take_length] at this
        unfold Hid
        rw [← this, strip_dig H2 hsl]
      have hst := strip_length L
      clear a4
      have ho' := hown
      obtain ⟨po, co, rfl, -⟩ := id hown.at
      go_wp2_with (go_at_call 146; refine (htrim_val _ L _ hown.at).mono ?_; rintro e w' ⟨rfl, rfl⟩; simp only [cutTo])
      go_ret
      exact ⟨_, rfl, by rw [← hv'.out]; have := ho'.take (strip L).length hst; rwa [← strip_is_take] at this, hbel⟩
end Go.Proofs.YtckkpolikdnilaaGreatDoor
/- whole.divideShort: a quotient by one half, in place. -/
namespace Go.Proofs.YtckkpolikdnilaaGreatDoor
open Go.RowKit Big

theorem Own.shape {w : World} {base : Nat} {e : TypeId} {k : IntKind} {v : Value} {l : List Nat} (h : Own w base e k v l) (hl : 0 < l.length) :
    ∃ g cap, v = .slice (some ⟨g, 0, none⟩) l.length cap ∧ base ≤ g ∧ g < w.heap.size ∧ l.length ≤ cap ∧ cap ≤ maxLen := by
  rcases h.2 with ⟨_, h0⟩ | ⟨g, cap, cur, hv, h1, h2, h3, h4, _⟩
  · omega
  · exact ⟨g, cap, hv, h1, (Array.getElem?_eq_some_iff.1 h2).1, h3, h4⟩
theorem Own.cell {w : World} {base : Nat} {e : TypeId} {k : IntKind} {g n cap : Nat} {l : List Nat} (h : Own w base e k (.slice (some ⟨g, 0, none⟩) n cap) l) (j : Nat) (hj : j < l.length) :
    w.cell? ⟨g, j, none⟩ = some (.int k (l[j] : Nat)) ∧ w.frozen? ⟨g, j, none⟩ = false := by
  have hn : n = l.length := by
    rcases h.2 with ⟨h1, _⟩ | ⟨g, cap, cur, hv, _⟩
    · cases h1
    · cases hv; rfl
  subst hn
  refine ⟨?_, World.ownsRow.frozenAt h j⟩
  rw [World.ownsRow.cellAt h j (by omega)]
  simp [ints, hj]
/-- a store into an owned row -/
theorem Own.set {w : World} {base : Nat} {e : TypeId} {k : IntKind} {g n cap : Nat} {l : List Nat} (h : Own w base e k (.slice (some ⟨g, 0, none⟩) n cap) l) (j x : Nat) :
    Own (w.setCell ⟨g, j, none⟩ (.int k (x : Nat))) base e k (.slice (some ⟨g, 0, none⟩) n cap) (l.set j x) ∧ w.grownBy (w.setCell ⟨g, j, none⟩ (.int k (x : Nat))) (some g) := by
  have hn : n = l.length := by
    rcases h.2 with ⟨h1, _⟩ | ⟨g, cap, cur, hv, _⟩
    · cases h1
    · cases hv; rfl
  subst hn
  have hs := World.ownsRow.stored h j (.int k (x : Nat))
  refine ⟨?_, hs.2⟩
  unfold Own
  rw [List.length_set]
  have e1 : ints k (l.set j x) = (ints k l).set j (.int k (x : Nat)) := by simp [ints, List.map_set]
  rw [e1]; exact hs.1

theorem grown_trans {a b c : World} {row : Option Nat} (h : a.grownBy b row) (k : b.grownBy c row) : a.grownBy c row :=
  ⟨k.os.trans h.os, k.tape.trans h.tape, k.output.trans h.output, Nat.le_trans h.size k.size, fun i hi hne => (k.block i (Nat.lt_of_lt_of_le hi h.size) hne).trans (h.block i hi hne)⟩

theorem or_half (a b : Nat) (ha : a < 4294967296) (hb : b < 4294967296) : bits BinOp.or IntKind.u64 ((a : Int) * 4294967296) (b : Int) = ((a * 4294967296 + b : Nat) : Int) := by
  have h := u64_or_nat (a * 4294967296) b (by omega) (by omega)
  rw [Int.natCast_mul] at h
  rw [show ((a : Int) * 4294967296) = (a : Int) * ((4294967296 : Nat) : Int) by rfl, h]
  have e := Nat.two_pow_add_eq_or_of_lt (i := 32) (b := b) (by simpa using hb) a
  rw [show (2 : Nat) ^ 32 = 4294967296 by rfl, Nat.mul_comm] at e
  rw [← e]
theorem wrap_nat (n : Nat) (h : n < W) : IntKind.u64.wrap (n : Int) = (n : Int) := by
  unfold W at h
  simp only [IntKind.wrap, IntKind.bits, IntKind.signed]
  simp
  omega
theorem set_take {l Q : List Nat} {k : Nat} (hk : k < l.length) (x : Nat) : (l.take (k + 1) ++ Q).set k x = l.take k ++ x :: Q := by
  rw [take_succ' l k hk, List.append_assoc, List.set_append_right _ _ (by simp; omega)]
  have : k - (l.take k).length = 0 := by simp; omega
  rw [this]; rfl
theorem divShort_step {l Q : List Nat} {k x rest d P : Nat} {hk : k < l.length} (hx : x = l[k]) (hP : P = rest * 4294967296 + x)
    (hv : val H l = val H (l.take (k + 1)) + H ^ (k + 1) * (d * val H Q + rest)) : val H l = val H (l.take k) + H ^ k * (d * val H (P / d :: Q) + P % d) := by
  rw [hv, val_take_succ H l k hk, ← hx, Nat.pow_succ, val_cons]
  have e : P = d * (P / d) + P % d := (Nat.div_add_mod P d).symm
  have e2 : d * (P / d) + P % d = rest * H + x := by rw [← e, hP]; rfl
  generalize P / d = q at *
  generalize P % d = r at *
  have : H ^ k * (d * (q + H * val H Q) + r) = H ^ k * (rest * H + x) + H ^ k * (d * (H * val H Q)) := by rw [← e2]; grind
  rw [this]; grind
theorem div_lt_half {P d rest x : Nat} (hP : P = rest * 4294967296 + x) (hr : rest < d) (hx : x < 4294967296) : P / d < 4294967296 := by
  rw [Nat.div_lt_iff_lt_mul (by omega)]
  have : (rest + 1) * 4294967296 ≤ d * 4294967296 := Nat.mul_le_mul_right _ hr
  rw [Nat.mul_comm 4294967296 d]
  omega

end Go.Proofs.YtckkpolikdnilaaGreatDoor
/- whole.join: halves of words as words. -/
namespace Go.Proofs.YtckkpolikdnilaaGreatDoor
open Go.RowKit Big

theorem half_or (a b : Nat) (ha : a < 4294967296) (hb : b < 4294967296) : bits BinOp.or IntKind.u64 (b : Int) ((a : Int) * 4294967296) = ((a * 4294967296 + b : Nat) : Int) := by
  have h := u64_or_nat b (a * 4294967296) (by omega) (by omega)
  rw [Int.natCast_mul] at h
  rw [show ((a : Int) * 4294967296) = (a : Int) * ((4294967296 : Nat) : Int) by rfl, h]
  have e := Nat.two_pow_add_eq_or_of_lt (i := 32) (b := b) (by simpa using hb) a
  rw [show (2 : Nat) ^ 32 = 4294967296 by rfl, Nat.mul_comm] at e
  rw [e, Nat.or_comm]

theorem join_step {L l : List Nat} {j x y : Nat} (hL : L.length = j) (hx : x = l[2 * j]?.getD 0) (hy : y = l[2 * j + 1]?.getD 0) (hv : val W L = val H (l.take (2 * j))) :
    val W (L ++ [y * 4294967296 + x]) = val H (l.take (2 * j + 2)) := by
  rw [show 2 * j + 2 = 2 * j + 1 + 1 by rfl, val_take_getD, val_take_getD, val_snoc, hv, hL, ← hx, ← hy, Nat.pow_succ, show H ^ (2 * j) = W ^ j by rw [Nat.pow_mul]; rfl]
  have : W ^ j * (y * 4294967296 + x) = W ^ j * x + W ^ j * H * y := by unfold H; grind
  rw [this]; omega

set_option maxRecDepth 100000 in
set_option maxHeartbeats 1600000 in
theorem join_any (v : Value) (n : Nat) (w : World) (h : At w .u32 v (dig H n)) (hlen : sz H n ≤ 4398046511104) :
    Calls Tryz.prog 135 #[v] w (ROwn 94 .u64 (dig W n) w) := by
  have hs := small_dig H2 n
  have hvn := val_dig H2 n
  have hl : (dig H n).length = sz H n := rfl
  have hp := fun h0 => pow_sz_le H2 (n := n) h0
  have hz : n = 0 → (dig H n).length = 0 := fun e => by rw [e]; rfl
  generalize sz H n = N at *
  generalize dig H n = l at *
  have Hvn := hid hvn; have Hp := hid hp; have Hz := hid hz
  clear hvn hp hz
  obtain ⟨p, cap, rfl, a1, a2, a3, a4⟩ := h
  unfold maxLen at a2
  go_enter Tryz.func135, Tryz.ntmps135
  go_wp2_with (first
    | (at_make; refine wpList_make_at rfl _ _ 42 rfl elemNat w.heap.size _ _ _ ((l.length + 1) / 2) rfl rfl (by first | rfl | omega | (simp; done)) (by omega) (by simp [maxLen]; omega) (Nat.le_refl _) ?_; intro vo w1 ho hb1 hs1 hvo; clear hvo))
  go_loopw [3, 4] (fun o i wr => ∃ (j k : Nat) (L : List Nat), Hid (k = 2 * j) ∧ k ≤ l.length + 1 ∧ i = .int .i64 (k : Nat) ∧ Own wr w.heap.size 94 .u64 o L ∧ Hid (L.length = j) ∧ j ≤ k ∧ Small W L ∧
      Hid (val W L = val H (l.take k)) ∧ Below w.heap.size w wr) (fun _ i _ => l.length + 2 - (intOf i).toNat)
  case atStart => exact ⟨0, 0, [], rfl, by omega, rfl, ho, rfl, by omega, small_nil _, rfl, hb1⟩
  case round =>
    obtain ⟨j, k, L, hkj, hk, rfl, hown, hLj, hjk, hsl, hv, hbel⟩ := hrel
    by_cases hkl : k < l.length
    · obtain ⟨b, off, rfl, hbb, hcell⟩ := a4 (by omega)
      have e0 : wr.cell? ⟨b, off + k, none⟩ = some (.int .u32 (l[k] : Nat)) := (hbel.cell (p := ⟨b, off + k, none⟩) hbb).trans (hcell k hkl)
      have x0 := small_get hs k hkl
      obtain ⟨x, hx⟩ : ∃ x, x = l[k] := ⟨_, rfl⟩
      rw [← hx] at e0 x0
      have Hx : Hid (x = l[2 * j]?.getD 0) := by unfold Hid; rw [← hkj.out]; simp [hkl, hx]
      clear hx
      unfold H at x0
      by_cases hk1 : k + 1 < l.length
      · have e1 : wr.cell? ⟨b, off + (k + 1), none⟩ = some (.int .u32 (l[k + 1] : Nat)) := (hbel.cell (p := ⟨b, off + (k + 1), none⟩) hbb).trans (hcell (k + 1) hk1)
        have y0 := small_get hs (k + 1) hk1
        obtain ⟨y, hy⟩ : ∃ y, y = l[k + 1] := ⟨_, rfl⟩
        rw [← hy] at e1 y0
        have Hy : Hid (y = l[2 * j + 1]?.getD 0) := by unfold Hid; rw [← hkj.out]; simp [hk1, hy]
        clear hy hcell a4
        unfold H at y0
        have hor := half_or y x y0 x0
        go_wp2_with (at_builtin; refine wpList_append_at rfl _ _ 42 rfl elemNat w.heap.size _ L rfl (hown.alloc _) _ [y * 4294967296 + x] rfl (At.oneI _ _ _ _ _ (by first | exact hor | (rw [hor]; done) | omega)) (by rw [hLj.out]; simp [maxLen]; omega) (by rw [hLj.out]; simp; omega) (by have := hbel.size; simp; omega) ?_; intro v2 w2 ho2 hb2 hs2)
        go_roundw
        case rel => exact ⟨j + 1, k + 2, L ++ [y * 4294967296 + x], by have := hkj.out; unfold Hid; omega, by omega, by go_num, ho2, by have := hLj.out; unfold Hid; simp; omega, by omega, small_snoc hsl (by unfold W; omega),
          by have := join_step hLj.out Hx.out Hy.out (by rw [← hkj.out]; exact hv.out); rw [← hkj.out] at this; exact this, (hbel.trans ((below1 _ _).mono hbel.size)).trans hb2⟩
        case measure => (simp [intOf] <;> omega)
      · have Hy : Hid (0 = l[2 * j + 1]?.getD 0) := by unfold Hid; rw [← hkj.out, List.getElem?_eq_none (by omega)]; rfl
        clear hcell a4
        go_wp2_with (at_builtin; refine wpList_append_at rfl _ _ 42 rfl elemNat w.heap.size _ L rfl (hown.alloc _) _ [0 * 4294967296 + x] rfl (At.oneI _ _ _ _ _ (by omega)) (by rw [hLj.out]; simp [maxLen]; omega) (by rw [hLj.out]; simp; omega) (by have := hbel.size; simp; omega) ?_; intro v2 w2 ho2 hb2 hs2)
        go_roundw
        case rel => exact ⟨j + 1, k + 2, L ++ [0 * 4294967296 + x], by have := hkj.out; unfold Hid; omega, by omega, by go_num, ho2, by have := hLj.out; unfold Hid; simp; omega, by omega, small_snoc hsl (by unfold W; omega),
          by have := join_step hLj.out Hx.out Hy.out (by rw [← hkj.out]; exact hv.out); rw [← hkj.out] at this; exact this, (hbel.trans ((below1 _ _).mono hbel.size)).trans hb2⟩
        case measure => (simp [intOf] <;> omega)
    · have hv' : Hid (L = dig W n) := by
        have e := hv.out
        rw [val_take_ge _ _ _ (by omega), Hvn.out] at e
        unfold Hid
        refine canon_val W2 hsl e ?_
        by_cases hj0 : j = 0
        · left; exact List.eq_nil_of_length_eq_zero (by rw [hLj.out, hj0])
        · right
          have hpos : 0 < n := by
            rcases Nat.eq_zero_or_pos n with h0 | h0
            · exfalso
              have := hkj.out
              have := Hz.out h0
              omega
            · exact h0
          have hp := Hp.out hpos
          rw [hLj.out]
          refine Nat.le_trans ?_ hp
          rw [show W ^ (j - 1) = H ^ (2 * (j - 1)) by rw [Nat.pow_mul]; rfl]
          exact Nat.pow_le_pow_right (by decide) (by have := hkj.out; omega)
      clear a4 hkj hv Hp Hvn
      go_wp2
      go_ret
      exact ⟨_, rfl, by rw [← hv'.out]; exact hown, hbel⟩
end Go.Proofs.YtckkpolikdnilaaGreatDoor
/- whole.timesPlus: halves so many times as great, and more, in place. -/
namespace Go.Proofs.YtckkpolikdnilaaGreatDoor
open Go.RowKit Big

theorem set_drop {l Q : List Nat} {k : Nat} (hQ : Q.length = k) (hk : k < l.length) (x : Nat) : (Q ++ l.drop k).set k x = (Q ++ [x]) ++ l.drop (k + 1) := by
  rw [List.set_append_right _ _ (by omega), hQ, Nat.sub_self, List.drop_eq_getElem_cons hk]
  simp only [List.set_cons_zero, List.append_assoc, List.singleton_append]
theorem timesPlus_step {l Q : List Nat} {k x f m c P : Nat} {hk : k < l.length} (hQ : Q.length = k) (hx : x = l[k]) (hP : P = x * f + c) (hv : val H Q + c * H ^ k = f * val H (l.take k) + m) :
    val H (Q ++ [P % 4294967296]) + P / 4294967296 * H ^ (k + 1) = f * val H (l.take (k + 1)) + m := by
  rw [val_snoc, val_take_succ H l k hk, hQ, ← hx, Nat.pow_succ]
  have e : P = P % 4294967296 + H * (P / 4294967296) := by unfold H; omega
  have e2 : P % 4294967296 + H * (P / 4294967296) = x * f + c := by rw [← e, hP]
  generalize P % 4294967296 = r at *
  generalize P / 4294967296 = q at *
  have : H ^ k * (r + H * q) = H ^ k * (x * f + c) := by rw [e2]
  grind
theorem prod_lt {x f c : Nat} (hx : x < 4294967296) (hf : f < 4294967296) (hc : c < 4294967296) : x * f ≤ 18446744065119617025 ∧ x * f + c < 18446744073709551616 ∧ (x * f + c) / 4294967296 < 4294967296 := by
  have h : x * f ≤ 4294967295 * 4294967295 := Nat.mul_le_mul (by omega) (by omega)
  omega

end Go.Proofs.YtckkpolikdnilaaGreatDoor
/- whole.timesHalves: products of halves of words. -/
namespace Go.Proofs.YtckkpolikdnilaaGreatDoor
open Go.RowKit Big

theorem val_set (B : Nat) : ∀ (l : List Nat) (k x : Nat) (h : k < l.length), val B (l.set k x) + B ^ k * l[k] = val B l + B ^ k * x
  | [], k, x, h => absurd h (by simp)
  | y :: l, 0, x, _ => by simp [val]; omega
  | y :: l, k + 1, x, h => by
    have ih := val_set B l k x (by simpa using h)
    simp only [List.set_cons_succ, val, List.getElem_cons_succ, Nat.pow_succ]
    have : B * (val B (l.set k x) + B ^ k * l[k]'(by simpa using h)) = B * (val B l + B ^ k * x) := by rw [ih]
    grind
theorem small_set {B : Nat} {l : List Nat} (h : Small B l) (k : Nat) {x : Nat} (hx : x < B) : Small B (l.set k x) := by
  intro y hy
  rcases List.mem_or_eq_of_mem_set hy with h1 | h1
  · exact h y h1
  · rw [h1]; exact hx
/-- one step of a row: the product's digit, what lies there, and the carry -/
theorem times_step {O : List Nat} {k x y c P Va Vb HI HJ : Nat} (hk : k < O.length) (hP : P = x * y + O[k] + c) (hHk : H ^ k = HI * HJ)
    (hv : val H O + c * H ^ k = Va + HI * (x * Vb)) : val H (O.set k (P % 4294967296)) + P / 4294967296 * H ^ (k + 1) = Va + HI * (x * (Vb + HJ * y)) := by
  have h1 := val_set H O k (P % 4294967296) hk
  have e2 : P % 4294967296 + H * (P / 4294967296) = x * y + O[k] + c := by rw [← hP]; unfold H; omega
  rw [Nat.pow_succ]
  generalize val H (O.set k (P % 4294967296)) = V' at *
  generalize O[k] = o at *
  generalize P % 4294967296 = r at *
  generalize P / 4294967296 = q at *
  have e3 : H ^ k * (r + H * q) = H ^ k * (x * y + o + c) := by rw [e2]
  have e4 : V' + H ^ k * o + q * (H ^ k * H) = Va + HI * (x * Vb) + H ^ k * (x * y) + H ^ k * o := by grind
  rw [hHk] at e4 ⊢
  grind
theorem mulsum_lt {x y o c : Nat} (hx : x < 4294967296) (hy : y < 4294967296) (ho : o < 4294967296) (hc : c < 4294967296) :
    x * y ≤ 18446744065119617025 ∧ x * y + o + c < 18446744073709551616 ∧ (x * y + o + c) / 4294967296 < 4294967296 := by
  have h : x * y ≤ 4294967295 * 4294967295 := Nat.mul_le_mul (by omega) (by omega)
  omega
end Go.Proofs.YtckkpolikdnilaaGreatDoor
/- whole.timesHalves: the walk. -/
namespace Go.Proofs.YtckkpolikdnilaaGreatDoor
open Go.RowKit Big

theorem val_zeros (B n : Nat) : val B (List.replicate n 0) = 0 := by
  induction n with
  | zero => rfl
  | succ n ih => rw [List.replicate_succ, val_cons, ih]; simp
theorem small_zeros {B : Nat} (hB : 0 < B) (n : Nat) : Small B (List.replicate n 0) := fun x hx => by rw [List.eq_of_mem_replicate hx]; exact hB

set_option maxRecDepth 100000 in
set_option maxHeartbeats 3200000 in
theorem timesHalves_any (v0 v1 : Value) (l0 l1 : List Nat) (w : World) (h0 : At w .u32 v0 l0) (h1 : At w .u32 v1 l1) (s0 : Small H l0) (s1 : Small H l1)
    (hl0 : l0.length ≤ 4398046511104) (hl1 : l1.length ≤ 4398046511104) : Calls Tryz.prog 136 #[v0, v1] w (ROwn 176 .u32 (dig H (val H l0 * val H l1)) w) := by
  obtain ⟨p0, c0, rfl, a1, a2, a3, a4⟩ := h0
  obtain ⟨p1, c1, rfl, b1, b2, b3, b4⟩ := h1
  unfold maxLen at a2 b2
  go_enter Tryz.func136, Tryz.ntmps136
  go_wp2_with (first
    | (at_make; refine wpList_full_at rfl _ _ 163 rfl elemHalves w.heap.size _ _ _ _ (l0.length + l1.length) rfl rfl (by first | rfl | omega | (simp; done)) (by first | rfl | omega | (simp; done)) (by omega) (by simp [maxLen]; omega) (Nat.le_refl _) ?_; intro vo w1 ho hb1 hs1 hvo; subst hvo))
  go_loopw [20] (fun i wr => ∃ (k : Nat) (O : List Nat), k ≤ l0.length ∧ i = .int .i64 (k : Nat) ∧ Own wr w.heap.size 176 .u32 (.slice (some ⟨w.heap.size, 0, none⟩) (l0.length + l1.length) (l0.length + l1.length)) O ∧ Hid (O.length = l0.length + l1.length) ∧ Small H O ∧
      Hid (∀ j, k + l1.length ≤ j → O[j]?.getD 0 = 0) ∧ Hid (val H O = val H (l0.take k) * val H l1) ∧ Below w.heap.size w wr ∧ w.heap.size ≤ wr.heap.size) (fun i _ => l0.length - (intOf i).toNat)
  case atStart => exact ⟨0, List.replicate (l0.length + l1.length) 0, Nat.zero_le _, rfl, ho, by simp [Hid], small_zeros (by decide) _, by unfold Hid; intro j _; simp [List.getElem?_replicate]; split <;> rfl, by unfold Hid; simp [val_zeros, val], hb1, hs1⟩
  case round =>
    obtain ⟨k, O, hk, rfl, hown, hO, hsO, hz, hv, hbel, hsz⟩ := hrel
    by_cases hkl : k < l0.length
    · obtain ⟨b, off, rfl, hbb, hcell⟩ := a4 (by omega)
      have e0 : wr.cell? ⟨b, off + k, none⟩ = some (.int .u32 (l0[k] : Nat)) := (hbel.cell (p := ⟨b, off + k, none⟩) hbb).trans (hcell k hkl)
      have x0 := small_get s0 k hkl
      obtain ⟨x, hx⟩ : ∃ x, x = l0[k] := ⟨_, rfl⟩
      rw [← hx] at e0 x0
      have Hx := hid hx; clear hx hcell a4
      unfold H at x0
      go_wp2_with fail
      go_loopw [8, 27] (fun c j wq => ∃ (i c' : Nat) (Q : List Nat), i ≤ l1.length ∧ j = .int .i64 (i : Nat) ∧ c = .int .u64 (c' : Nat) ∧ c' < 4294967296 ∧ Own wq w.heap.size 176 .u32 (.slice (some ⟨w.heap.size, 0, none⟩) (l0.length + l1.length) (l0.length + l1.length)) Q ∧ Hid (Q.length = l0.length + l1.length) ∧ Small H Q ∧
        Hid (∀ j, k + l1.length ≤ j → Q[j]?.getD 0 = 0) ∧ Hid (val H Q + c' * H ^ (k + i) = val H (l0.take k) * val H l1 + H ^ k * (x * val H (l1.take i))) ∧ Below w.heap.size w wq ∧ w.heap.size ≤ wq.heap.size) (fun _ j _ => l1.length - (intOf j).toNat)
      case atStart => exact ⟨0, 0, O, Nat.zero_le _, rfl, rfl, by omega, hown, hO, hsO, hz, by have := hv.out; unfold Hid; simp [val, this], hbel, hsz⟩
      case round =>
        obtain ⟨i, c', Q, hi, rfl, rfl, hc', hown', hQ, hsQ, hzQ, hvQ, hbel', hsz'⟩ := hrel
        by_cases hil : i < l1.length
        · obtain ⟨b', off', rfl, hbb', hcell'⟩ := b4 (by omega)
          have e1 := (hbel'.cell (p := ⟨b', off' + i, none⟩) hbb').trans (hcell' i hil)
          have y0 := small_get s1 i hil
          obtain ⟨y, hy⟩ : ∃ y, y = l1[i] := ⟨_, rfl⟩
          rw [← hy] at e1 y0
          have Hy := hid hy; clear hy hcell' b4
          unfold H at y0
          have hkq : k + i < Q.length := by rw [hQ.out]; omega
          obtain ⟨cc0, f0⟩ := hown'.cell (k + i) hkq
          have o0 := small_get hsQ (k + i) hkq
          obtain ⟨o, ho'⟩ : ∃ o, o = Q[k + i] := ⟨_, rfl⟩
          rw [← ho'] at cc0 o0
          have Ho := hid ho'; clear ho'
          unfold H at o0
          obtain ⟨m1, m2, m3⟩ := mulsum_lt x0 y0 o0 hc'
          obtain ⟨P, hP⟩ : ∃ P, P = x * y + o + c' := ⟨_, rfl⟩
          rw [← hP] at m2 m3
          have q1 : (x : Int) * (y : Int) ≤ 18446744065119617025 := by
            have : ((x * y : Nat) : Int) ≤ 18446744065119617025 := by omega
            rwa [Int.natCast_mul] at this
          have q2 : 0 ≤ (x : Int) * (y : Int) := by rw [← Int.natCast_mul]; omega
          have q3 : (x : Int) * (y : Int) + (o : Int) + (c' : Int) = (P : Int) := by rw [hP]; simp
          have q4 : (x : Int) * (y : Int) + (o : Int) + (c' : Int) ≤ 18446744073709551615 := by rw [q3]; omega
          have HP := hid hP; have Q3 := hid q3
          clear hP q3
          go_wp2
          have r1 : ((x : Int) * (y : Int) + (o : Int) + (c' : Int)) / 4294967296 = ((P / 4294967296 : Nat) : Int) := by rw [Q3.out]; omega
          have r2 : ((x : Int) * (y : Int) + (o : Int) + (c' : Int)) % 4294967296 = ((P % 4294967296 : Nat) : Int) := by rw [Q3.out]; omega
          rw [r1, r2]
          have hset := hown'.set (k + i) (P % 4294967296)
          have hz' : ∀ j, k + l1.length ≤ j → (Q.set (k + i) (P % 4294967296))[j]?.getD 0 = 0 := fun j hj => by
            rw [List.getElem?_set_ne (by omega)]; exact hzQ.out j hj
          have hv' : val H (Q.set (k + i) (P % 4294967296)) + P / 4294967296 * H ^ (k + (i + 1)) = val H (l0.take k) * val H l1 + H ^ k * (x * val H (l1.take (i + 1))) := by
            have := times_step (HI := H ^ k) (HJ := H ^ i) (y := y) hkq (show P = x * y + Q[k + i] + c' by rw [← Ho.out]; exact HP.out) (Nat.pow_add ..) hvQ.out
            rw [val_take_succ H l1 i hil, ← Hy.out]
            exact this
          go_roundw
          case rel => exact ⟨i + 1, P / 4294967296, Q.set (k + i) (P % 4294967296), by omega, by go_num, rfl, m3, hset.1, by unfold Hid; rw [List.length_set]; exact hQ.out, small_set hsQ _ (Nat.mod_lt _ (by decide)), hz', hv',
            hbel'.setCell (p := ⟨w.heap.size, k + i, none⟩) (Nat.le_refl _) _, by simpa [World.setCell] using hsz'⟩
          case measure => (simp [intOf] <;> omega)
        · obtain rfl : i = l1.length := by omega
          have hkq : k + l1.length < Q.length := by rw [hQ.out]; omega
          obtain ⟨cc0, f0⟩ := hown'.cell (k + l1.length) hkq
          have o0 : Q[k + l1.length] = 0 := by have := hzQ.out (k + l1.length) (Nat.le_refl _); simpa [hkq] using this
          have hvs := val_set H Q (k + l1.length) c' hkq
          rw [o0, Nat.mul_zero, Nat.add_zero] at hvs
          have hset := hown'.set (k + l1.length) c'
          have hv' : val H (Q.set (k + l1.length) c') = val H (l0.take (k + 1)) * val H l1 := by
            have := hvQ.out
            rw [List.take_length] at this
            rw [hvs, val_take_succ H l0 k hkl, ← Hx.out, Nat.add_mul, Nat.mul_comm (H ^ (k + l1.length)), this, Nat.mul_assoc]
          have hz' : ∀ j, k + 1 + l1.length ≤ j → (Q.set (k + l1.length) c')[j]?.getD 0 = 0 := fun j hj => by
            rw [List.getElem?_set_ne (by omega)]; exact hzQ.out j (by omega)
          have HV := hid hv'
          clear hvs hv' o0 b4
          have hmod : (c' : Int) % 4294967296 = (c' : Int) := by omega
          go_wp2
          first | rw [hmod] | skip
          go_roundw
          case rel => exact ⟨k + 1, Q.set (k + l1.length) c', by omega, by go_num, hset.1, by unfold Hid; rw [List.length_set]; exact hQ.out, small_set hsQ _ (show c' < 4294967296 from hc'), hz', HV.out,
            hbel'.setCell (p := ⟨w.heap.size, k + l1.length, none⟩) (Nat.le_refl _) _, by simpa [World.setCell] using hsz'⟩
          case measure => (simp [intOf] <;> omega)
    · obtain rfl : k = l0.length := by omega
      have hv' : Hid (strip O = dig H (val H l0 * val H l1)) := by
        have := hv.out
        rw [List.take_length] at this
        unfold Hid
        rw [← this, strip_dig H2 hsO]
      have hst := strip_length O
      have ht := hid (htrim_val _ O wr hown.at)
      clear a4 b4
      go_wp2_with (go_at_call 146; refine ht.out.mono ?_; rintro e w' ⟨rfl, rfl⟩; simp only [cutTo])
      go_ret
      exact ⟨_, rfl, by rw [← hv'.out]; have := hown.take (strip O).length hst; rwa [← strip_is_take] at this, hbel⟩
end Go.Proofs.YtckkpolikdnilaaGreatDoor
/- whole.divide of numbers of one word. -/
namespace Go.Proofs.YtckkpolikdnilaaGreatDoor
open Go.RowKit Big

def RTwoNat (q r : Nat) (w : World) (e : Ending) (w' : World) : Prop := ∃ v v', e = .returned (.tuple #[v, v']) ∧ At w' .u64 v (dig W q) ∧ At w' .u64 v' (dig W r) ∧ Below w.heap.size w w'

theorem head_dig {n : Nat} (h : n < W) : (dig W n).headD 0 = n := by
  by_cases h0 : n = 0
  · subst h0; rfl
  · rw [dig_one W2 (by omega) h]; rfl

end Go.Proofs.YtckkpolikdnilaaGreatDoor
/- whole.times and whole.Mul. -/
namespace Go.Proofs.YtckkpolikdnilaaGreatDoor
open Go.RowKit Big

set_option maxHeartbeats 800000 in
theorem fits_yes (v : Value) (n : Nat) (w : World) (h : At w .u64 v (dig W n)) (hn : n < H) : Calls Tryz.prog 133 #[v] w (fun e w' => e = .returned (.bool true) ∧ w = w') := by
  have hw : n < W := Nat.lt_trans hn (by decide)
  have g := word_any v _ w h
  rw [head_dig hw] at g
  have G := hid g; clear g
  have hl : (dig W n).length ≤ 1 := sz_word hw
  obtain ⟨p, c, rfl, -⟩ := h
  generalize (dig W n).length = k at *
  unfold H at hn
  clear hw
  have h0 : (n : Int) / 4294967296 = 0 := by omega
  go_enter Tryz.func133, Tryz.ntmps133
  go_wp2_with (go_at_call 134; refine G.out.mono ?_; rintro e w' ⟨rfl, rfl⟩)
  go_ret
  exact ⟨rfl, rfl⟩
set_option maxHeartbeats 800000 in
theorem fits_no (v : Value) (n : Nat) (w : World) (h : At w .u64 v (dig W n)) (hn : H ≤ n) : Calls Tryz.prog 133 #[v] w (fun e w' => e = .returned (.bool false) ∧ w = w') := by
  by_cases hw : n < W
  · have g := word_any v _ w h
    rw [head_dig hw] at g
    have G := hid g; clear g
    have hl : (dig W n).length ≤ 1 := sz_word hw
    obtain ⟨p, c, rfl, -⟩ := h
    generalize (dig W n).length = k at *
    unfold H at hn
    unfold W at hw
    have h0 : ((n : Int) / 4294967296 == 0) = false := beq_eq_false_iff_ne.2 (by omega)
    go_enter Tryz.func133, Tryz.ntmps133
    go_wp2_with (go_at_call 134; refine G.out.mono ?_; rintro e w' ⟨rfl, rfl⟩)
    go_ret
    exact ⟨rfl, rfl⟩
  · have hl : ¬ (dig W n).length ≤ 1 := fun e => hw (Nat.lt_of_lt_of_le (lt_pow_sz W2 n) (Nat.le_trans (Nat.pow_le_pow_right (by decide) (show sz W n ≤ 1 from e)) (by simp)))
    obtain ⟨p, c, rfl, -⟩ := h
    generalize (dig W n).length = k at *
    have hd : decide ((k : Int) ≤ 1) = false := decide_eq_false (by omega)
    clear hn hw
    go_enter Tryz.func133, Tryz.ntmps133
    go_wp2_with fail
    go_ret
    exact ⟨rfl, rfl⟩

theorem sz_H_W (n : Nat) : sz H n ≤ 2 * sz W n := by
  refine sz_le_of_lt H2 ?_
  rw [Nat.pow_mul, show H ^ 2 = W from rfl]
  exact lt_pow_sz W2 n

set_option maxRecDepth 100000 in
set_option maxHeartbeats 1600000 in
theorem times_any (v0 v1 : Value) (n m : Nat) (w : World) (h0 : At w .u64 v0 (dig W n)) (h1 : At w .u64 v1 (dig W m)) (b0 : sz W n ≤ 549755813888) (b1 : sz W m ≤ 549755813888) :
    Calls Tryz.prog 120 #[v0, v1] w (RAt .u64 (dig W (n * m)) w) := by
  by_cases hs : n < H ∧ m < H
  · obtain ⟨hn, hm⟩ := hs
    have f0 := hid (fits_yes v0 n w h0 hn)
    have f1 := hid (fits_yes v1 m w h1 hm)
    have wn : n < W := Nat.lt_trans hn (by decide)
    have wm : m < W := Nat.lt_trans hm (by decide)
    have g0 := word_any v0 _ w h0
    have g1 := word_any v1 _ w h1
    rw [head_dig wn] at g0
    rw [head_dig wm] at g1
    have G0 := hid g0; have G1 := hid g1
    have hp : n * m < W := by
      have : n * m ≤ 4294967295 * 4294967295 := Nat.mul_le_mul (by unfold H at hn; omega) (by unfold H at hm; omega)
      unfold W; omega
    have hw : IntKind.u64.wrap ((n : Int) * (m : Int)) = ((n * m : Nat) : Int) := by rw [← Int.natCast_mul]; exact wrap_nat _ hp
    have hO := ownWord_any (n * m) w hp
    have HO := hid hO; have Hw := hid hw
    clear g0 g1 hw hO hp hn hm wn wm b0 b1 h0 h1
    go_enter Tryz.func120, Tryz.ntmps120
    go_wp2_with fail
    refine f0.out.mono ?_
    rintro e w' ⟨rfl, rfl⟩
    go_wp2_with fail
    refine f1.out.mono ?_
    rintro e w' ⟨rfl, rfl⟩
    go_wp2_with fail
    refine G0.out.mono ?_
    rintro e w' ⟨rfl, rfl⟩
    go_wp2_with fail
    refine G1.out.mono ?_
    rintro e w' ⟨rfl, rfl⟩
    go_wp2_with fail
    rw [Hw.out]
    refine HO.out.mono ?_
    rintro e w1 ⟨v, rfl, hv, hb⟩
    go_wp2_with fail
    go_ret
    exact ⟨_, rfl, hv, hb⟩
  · have hb0 : sz H n ≤ 1099511627776 := Nat.le_trans (sz_H_W n) (by omega)
    have hb1 : sz H m ≤ 1099511627776 := Nat.le_trans (sz_H_W m) (by omega)
    have hb2 : sz H (n * m) ≤ 2199023255552 := Nat.le_trans (sz_mul H2 n m) (by omega)
    have s0 := split_any v0 (dig W n) w h0 (small_dig W2 n) (by have : (dig W n).length = sz W n := rfl; omega)
    rw [val_dig W2] at s0
    have s1 : ∀ W', Below w.heap.size w W' → Calls Tryz.prog 137 #[v1] W' (ROwn 176 .u32 (dig H m) W') := fun W' hb => by
      have := split_any v1 (dig W m) W' (h1.below hb) (small_dig W2 m) (by have : (dig W m).length = sz W m := rfl; omega)
      rwa [val_dig W2] at this
    have th : ∀ W' u u', At W' .u32 u (dig H n) → At W' .u32 u' (dig H m) → Calls Tryz.prog 136 #[u, u'] W' (ROwn 176 .u32 (dig H (n * m)) W') := fun W' u u' hu hu' => by
      have := timesHalves_any u u' _ _ W' hu hu' (small_dig H2 n) (small_dig H2 m) (by have : (dig H n).length = sz H n := rfl; omega) (by have : (dig H m).length = sz H m := rfl; omega)
      rwa [val_dig H2, val_dig H2] at this
    have S0 := hid s0; have S1 := hid s1; have Th := hid th
    have f0 : Hid (Calls Tryz.prog 133 #[v0] w (fun e w' => e = .returned (.bool (decide (n < H))) ∧ w = w')) := by
      unfold Hid
      by_cases hn : n < H
      · rw [decide_eq_true hn]; exact fits_yes v0 n w h0 hn
      · rw [decide_eq_false hn]; exact fits_no v0 n w h0 (Nat.le_of_not_lt hn)
    have f1 : n < H → Calls Tryz.prog 133 #[v1] w (fun e w' => e = .returned (.bool false) ∧ w = w') := fun hn => fits_no v1 m w h1 (Nat.le_of_not_lt fun hm => hs ⟨hn, hm⟩)
    have F1 := hid f1
    clear s0 s1 th hs f1 h0 h1 b0 b1 hb0 hb1
    by_cases hn : n < H
    · rw [decide_eq_true hn] at f0
      go_enter Tryz.func120, Tryz.ntmps120
      go_wp2_with fail
      refine f0.out.mono ?_
      rintro e w' ⟨rfl, rfl⟩
      go_wp2_with fail
      refine (F1.out hn).mono ?_
      rintro e w' ⟨rfl, rfl⟩
      go_wp2_with fail
      refine S0.out.mono ?_
      rintro e w1 ⟨u, rfl, hu, hu1⟩
      go_wp2_with fail
      refine (S1.out _ hu1).mono ?_
      rintro e w2 ⟨u', rfl, hu', hu2⟩
      go_wp2_with fail
      refine (Th.out _ _ _ (hu.at.below hu2) hu'.at).mono ?_
      rintro e w3 ⟨u3, rfl, hu3, hb3⟩
      go_wp2_with fail
      refine (join_any _ _ _ hu3.at (by omega)).mono ?_
      rintro e w4 ⟨u4, rfl, hu4, hb4⟩
      have hbel := hid (Below.go hb4 (Below.go hb3 (Below.go hu2 hu1)))
      clear hu1 hu2 hb3 hb4
      go_wp2_with fail
      go_ret
      exact ⟨_, rfl, hu4.at, hbel.out⟩
    · rw [decide_eq_false hn] at f0
      go_enter Tryz.func120, Tryz.ntmps120
      go_wp2_with fail
      refine f0.out.mono ?_
      rintro e w' ⟨rfl, rfl⟩
      go_wp2_with fail
      refine S0.out.mono ?_
      rintro e w1 ⟨u, rfl, hu, hu1⟩
      go_wp2_with fail
      refine (S1.out _ hu1).mono ?_
      rintro e w2 ⟨u', rfl, hu', hu2⟩
      go_wp2_with fail
      refine (Th.out _ _ _ (hu.at.below hu2) hu'.at).mono ?_
      rintro e w3 ⟨u3, rfl, hu3, hb3⟩
      go_wp2_with fail
      refine (join_any _ _ _ hu3.at (by omega)).mono ?_
      rintro e w4 ⟨u4, rfl, hu4, hb4⟩
      have hbel := hid (Below.go hb4 (Below.go hb3 (Below.go hu2 hu1)))
      clear hu1 hu2 hb3 hb4
      go_wp2_with fail
      go_ret
      exact ⟨_, rfl, hu4.at, hbel.out⟩

theorem sg_mul (n0 n1 : Bool) (x y : Nat) : sg (n0 != n1) (x * y) = sg n0 x * sg n1 y := by
  unfold sg; cases n0 <;> cases n1 <;> simp [Int.neg_mul, Int.mul_neg]

set_option maxRecDepth 100000 in
set_option maxHeartbeats 1600000 in
theorem Mul_any (v0 v1 : Value) (a b : Int) (w : World) (h0 : RawAt w v0 a) (h1 : RawAt w v1 b) (ha : sz W a.natAbs ≤ 549755813888) (hb : sz W b.natAbs ≤ 549755813888) :
    Calls Tryz.prog 106 #[v0, v1] w (RInt (a * b) w) := by
  obtain ⟨n0, s0, l0, rfl, a0, b0, c0, rfl⟩ := h0
  obtain ⟨n1, s1, l1, rfl, a1, b1, c1, rfl⟩ := h1
  rw [sg_natAbs] at ha hb
  have t0 : ∀ W : World, At W .u64 s0 l0 → Calls Tryz.prog 88 #[s0] W (fun e w' => e = .returned (cutTo s0 (strip l0).length) ∧ w' = W) := fun W h => trim_val s0 l0 W h
  have t1 : ∀ W : World, At W .u64 s1 l1 → Calls Tryz.prog 88 #[s1] W (fun e w' => e = .returned (cutTo s1 (strip l1).length) ∧ w' = W) := fun W h => trim_val s1 l1 W h
  have T0 := hid t0; have T1 := hid t1; clear t0 t1
  have d0 := hid (strip_dig W2 b0)
  have d1 := hid (strip_dig W2 b1)
  obtain ⟨r, hr⟩ : ∃ r, r = sg n0 (val W l0) * sg n1 (val W l1) := ⟨_, rfl⟩
  rw [← hr]
  have Hr : Hid (sg (n0 != n1) (val W l0 * val W l1) = r) := by unfold Hid; rw [sg_mul, hr]
  clear hr
  go_enter Tryz.func106, Tryz.ntmps106
  go_wp2_with fail
  generalize hW : World.alloc (World.alloc (World.alloc w _) _) _ = W3
  have bw : Below w.heap.size w W3 := by rw [← hW]; exact ((below1 _ _).alloc (by simp) _).alloc (by simp; omega) _
  have hp : Pair W3 (w.heap.size + 1 + 1) 44 := by rw [← hW]; exact Pair.new2 ..
  obtain ⟨c00, c01, c10, c11, -⟩ : Two W3 w.heap.size (.bool n0) s0 (.bool n1) s1 := by rw [← hW]; exact (Two.new w _ _ _ _ _).below (below1 _ _)
  have z3 : w.heap.size + 3 ≤ W3.heap.size := by rw [← hW]; simp
  have A0 : ∀ W', Below W3.heap.size W3 W' → At W' .u64 (cutTo s0 (strip l0).length) (dig W (val W l0)) := fun W' h' => by have := ((a0.below bw).below h').strip; rwa [d0.out] at this ⊢
  have A1 : ∀ W', Below W3.heap.size W3 W' → At W' .u64 (cutTo s1 (strip l1).length) (dig W (val W l1)) := fun W' h' => by have := ((a1.below bw).below h').strip; rwa [d1.out] at this ⊢
  have HA0 := hid A0; have HA1 := hid A1; have bw' := hid bw; have a0' := hid (a0.below bw); have a1' := hid (a1.below bw)
  clear hW bw A0 A1 a0 a1
  generalize cutTo s0 (strip l0).length = u0 at *
  generalize cutTo s1 (strip l1).length = u1 at *
  generalize val W l0 = x at *
  generalize val W l1 = y at *
  clear d0 d1 b0 b1 c0 c1
  go_region_held3 (fun w' => w'.cell? ⟨w.heap.size, 0, none⟩ = some (.bool n0) ∧ w'.cell? ⟨w.heap.size, 1, none⟩ = some s0 ∧ w'.cell? ⟨w.heap.size + 1, 0, none⟩ = some (.bool n1) ∧ w'.cell? ⟨w.heap.size + 1, 1, none⟩ = some s1 ∧ Pair w' (w.heap.size + 1 + 1) 44)
    (first | (go_split_ands; (try dsimp only); (repeat' apply And.intro) <;> first | assumption | exact Pair.drew ‹_› | exact Pair.below ‹_› hb9 | exact Pair.below ‹_› hb8 | exact Pair.below ‹_› hb7 | exact Pair.below ‹_› hb6 | exact Pair.below ‹_› hb5 | exact Pair.below ‹_› hb4 | exact Pair.below ‹_› hb3 | exact Pair.below ‹_› hb2 | exact Pair.below ‹_› hb1 | exact (hb9.cell (by first | omega | (simp; omega) | (simp; done))).trans ‹_› | exact (hb8.cell (by first | omega | (simp; omega) | (simp; done))).trans ‹_› | exact (hb7.cell (by first | omega | (simp; omega) | (simp; done))).trans ‹_› | exact (hb6.cell (by first | omega | (simp; omega) | (simp; done))).trans ‹_› | exact (hb5.cell (by first | omega | (simp; omega) | (simp; done))).trans ‹_› | exact (hb4.cell (by first | omega | (simp; omega) | (simp; done))).trans ‹_› | exact (hb3.cell (by first | omega | (simp; omega) | (simp; done))).trans ‹_› | exact (hb2.cell (by first | omega | (simp; omega) | (simp; done))).trans ‹_› | exact (hb1.cell (by first | omega | (simp; omega) | (simp; done))).trans ‹_› | exact Pair.set1 (Pair.set0 ‹_› _) _ _ _ | exact (cell_stored _ (by first | (dsimp only; omega) | (simp; done) | (simp; omega)) _ _).trans ‹_› | exact Pair.drew (Pair.below ‹_› (below1 _ _)) | exact Pair.below ‹_› (below1 _ _) | exact Pair.far ‹_› (by omega) hb1 | exact Pair.new .. | exact Pair.new1 .. | exact Pair.new2 .. | (go_keep; done)) | (go_keep; done))
    (first
      | (go_at_call_of 88 (s0); refine (T0.out _ a0'.out.drew).mono ?_; rintro e w' ⟨rfl, rfl⟩)
      | (go_at_call_of 88 (s1); refine (T1.out _ a1'.out.drew).mono ?_; rintro e w' ⟨rfl, rfl⟩)
      | (go_at_call 120; refine (times_any u0 u1 x y _ (HA0.out _ (Below.drew (Below.refl _ _))) (HA1.out _ (Below.drew (Below.refl _ _))) ha hb).mono ?_; rintro e w1 ⟨v1, rfl, ho1, hb1⟩; have hz1 : w.heap.size + 3 ≤ w1.heap.size := (by have := hb1.size; simp at this; omega))
      | (go_at_call 58; refine (told_any (n0 != n1) _ _ _ ho1).mono ?_; rintro e w2 ⟨v2, rfl, hi2, hb2⟩; obtain ⟨p2, n2, c2, rfl, hi2⟩ := hi2.shape; have hpr := Pair.below (by go_split_ands; assumption) hb2; obtain ⟨_, _, q0, q1, q2, q3⟩ := hpr.cells))
  go_wp2
  exact bodyPost_ret (v := .agg #[.bool (decide (sg (n0 != n1) (x * y) < 0)), .slice p2 n2 c2]) (by simp [results, Tryz.results106, go_sem, q0, q1]) rfl
    ⟨_, rfl, by rw [← Hr.out]; exact hi2.stored hpr _ _ _ _, Below.stored ((bw'.out.drew.trans (hb1.mono (B' := w.heap.size) (by simp; omega))).trans (hb2.mono (B' := w.heap.size) (by omega))) (by omega) _ _⟩
end Go.Proofs.YtckkpolikdnilaaGreatDoor
/- value.meaning's product and told. -/
namespace Go.Proofs.YtckkpolikdnilaaGreatDoor
open Go.RowKit Big Go.WideMaps

set_option maxRecDepth 100000 in
set_option maxHeartbeats 3200000 in
theorem mproduct_any (g : Nat) (w : World) (syms : List Sy) (ts : List Tb5) (t : Tm) (l : List Int) (h : MeanAt w g syms ts t l) (hl : 1 ≤ l.length) (hs0 : sz Big.W t.num.natAbs ≤ 549755813888) (hs1 : ∀ z ∈ l, sz Big.W z.natAbs ≤ 549755813888) :
    Calls Tryz.prog 82 #[.pointer (some ⟨g, 0, none⟩)] w (RInt (t.num * vlAt l 0) w) := by
  have b0 := below1 w (.cells #[.bool false, .slice none 0 0] 44)
  have hp : Pair (w.alloc (.cells #[.bool false, .slice none 0 0] 44)) w.heap.size 44 := Pair.new ..
  generalize hW : w.alloc (.cells #[.bool false, .slice none 0 0] 44) = W at *
  obtain ⟨vs, vt, va, nn, ns, vp, h0, h1, h2, h3, h4⟩ := h
  have G : g < w.heap.size := (Array.getElem?_eq_some_iff.1 h0).1
  obtain ⟨x0, x1, x2, x4, x5, x6, x7⟩ := rec8_cells ((b0.block g G).trans h0)
  clear h0
  obtain ⟨m0, o0, c0, n0, q0, d0, g0, e0, M0, y0, z0, r0⟩ := h4.at 0 (by omega)
  rw [e0] at x7
  have M := hid M0
  clear M0
  have M := M.out
  have y0 := (b0.cell (p := ⟨m0, o0 + 0 * 2, none⟩) M).trans y0
  have z0 := (b0.cell (p := ⟨m0, o0 + 0 * 2 + 1, none⟩) M).trans z0
  have r0 := r0.below b0
  have hl0 : (0 : Int) < (l.length : Int) := by omega
  have hln : 0 < l.length := by omega
  have hv0 : vlAt l 0 = l[0] := by unfold vlAt; simp [show (0 : Int).toNat = 0 from rfl, List.getElem?_eq_getElem (show 0 < l.length by omega)]
  rw [hv0]
  clear hv0
  have hs := h3.shape
  obtain ⟨qn, dn, gn, rfl⟩ := hs
  have h3 := h3.below b0
  have Hc0 := hid (fun w' (hb : Below W.heap.size W w') => Mul_any _ _ _ _ w' (h3.below hb) (r0.below hb) hs0 (hs1 _ (List.getElem_mem (show 0 < l.length by omega))))
  have y0 : W.cell? ⟨m0, o0, none⟩ = some (.bool n0) := y0
  have z0 : W.cell? ⟨m0, o0 + 1, none⟩ = some (.slice q0 d0 g0) := (congrArg (fun k => W.cell? ⟨m0, k, none⟩) (by omega)).trans z0
  clear h1 h2 h3 h4 r0 e0 hs0 hs1
  generalize l[0] = a0 at *
  have hz : W.heap.size = w.heap.size + 1 := by rw [← hW, size_alloc]
  go_enter Tryz.func82, Tryz.ntmps82
  go_wp2_with fail
  go_region_held3 (fun w' => w'.cell? ⟨g, 4, none⟩ = some (.bool nn) ∧ w'.cell? ⟨g, 5, none⟩ = some (.slice qn dn gn) ∧ w'.cell? ⟨g, 7, none⟩ = some (.slice (some ⟨m0, o0, none⟩) l.length c0) ∧ w'.cell? ⟨m0, o0, none⟩ = some (.bool n0) ∧ w'.cell? ⟨m0, o0 + 1, none⟩ = some (.slice q0 d0 g0) ∧ Pair w' w.heap.size 44)
    (first | (go_split_ands; (try dsimp only); (repeat' apply And.intro) <;> first | assumption | exact Pair.drew ‹_› | exact Pair.below ‹_› hb9 | exact Pair.below ‹_› hb8 | exact Pair.below ‹_› hb7 | exact Pair.below ‹_› hb6 | exact Pair.below ‹_› hb5 | exact Pair.below ‹_› hb4 | exact Pair.below ‹_› hb3 | exact Pair.below ‹_› hb2 | exact Pair.below ‹_› hb1 | exact (hb9.cell (by first | omega | (simp; omega) | (simp; done))).trans ‹_› | exact (hb8.cell (by first | omega | (simp; omega) | (simp; done))).trans ‹_› | exact (hb7.cell (by first | omega | (simp; omega) | (simp; done))).trans ‹_› | exact (hb6.cell (by first | omega | (simp; omega) | (simp; done))).trans ‹_› | exact (hb5.cell (by first | omega | (simp; omega) | (simp; done))).trans ‹_› | exact (hb4.cell (by first | omega | (simp; omega) | (simp; done))).trans ‹_› | exact (hb3.cell (by first | omega | (simp; omega) | (simp; done))).trans ‹_› | exact (hb2.cell (by first | omega | (simp; omega) | (simp; done))).trans ‹_› | exact (hb1.cell (by first | omega | (simp; omega) | (simp; done))).trans ‹_› | exact Pair.set1 (Pair.set0 ‹_› _) _ _ _ | exact (cell_stored _ (by first | (dsimp only; omega) | (simp; done) | (simp; omega)) _ _).trans ‹_› | exact Pair.drew (Pair.below ‹_› (below1 _ _)) | exact Pair.below ‹_› (below1 _ _) | exact Pair.far ‹_› (by omega) hb1 | exact Pair.new .. | exact Pair.new1 .. | exact Pair.new2 .. | (go_keep; done)) | (go_keep; done))
    (first | (go_at_call 106; refine (Hc0.out _ ?_).mono ?_; (repeat (first | exact Below.refl _ _ | apply Below.drew)); rintro e w2 ⟨v2, rfl, hi2, hb2⟩; have hz1 : W.heap.size ≤ w2.heap.size := (by have := hb2.size; simp at this; omega); obtain ⟨p2, n2, c2, rfl, hi2⟩ := hi2.shape; have hpr := Pair.below (by go_split_ands; assumption) hb2; obtain ⟨_, _, q0, q1, q2, q3⟩ := hpr.cells))
  go_wp2
  exact bodyPost_ret (v := .agg #[.bool (decide (t.num * a0 < 0)), .slice p2 n2 c2]) (by simp [results, Tryz.results82, go_sem, q0, q1]) rfl ⟨_, rfl, hi2.stored hpr _ _ _ _, Below.stored (b0.drew.trans (hb2.mono (B' := w.heap.size) (by first | omega | (simp; omega)))) (by omega) _ _⟩
end Go.Proofs.YtckkpolikdnilaaGreatDoor
/- value.meaning's product and told. -/
namespace Go.Proofs.YtckkpolikdnilaaGreatDoor
open Go.RowKit Big Go.WideMaps

set_option maxRecDepth 100000 in
set_option maxHeartbeats 3200000 in
theorem mtold_any (g : Nat) (w : World) (syms : List Sy) (ts : List Tb5) (t : Tm) (l : List Int) (h : MeanAt w g syms ts t l) (k : Nat) (hk : t.sym = (k : Nat)) (hs : k < syms.length) (ht : k < ts.length) :
    Calls Tryz.prog 76 #[.pointer (some ⟨g, 0, none⟩)] w (RInt (vlTell (syms[k].sort) ts[k] l) w) := by
  have b0 := below1 w (.cells #[.bool false, .slice none 0 0] 44)
  have hp : Pair (w.alloc (.cells #[.bool false, .slice none 0 0] 44)) w.heap.size 44 := Pair.new ..
  generalize hW : w.alloc (.cells #[.bool false, .slice none 0 0] 44) = W at *
  obtain ⟨vs, vt, va, nn, ns, vp, h0, h1, h2, h3, h4⟩ := h
  have G : g < w.heap.size := (Array.getElem?_eq_some_iff.1 h0).1
  obtain ⟨x0, x1, x2, x4, x5, x6, x7⟩ := rec8_cells ((b0.block g G).trans h0)
  clear h0
  obtain ⟨ps, cs, rfl, i0, i1, i2, i3⟩ := h1
  obtain ⟨bs, os, rfl, hbs, hcs⟩ := i3 (by omega)
  obtain ⟨k0, k1, k2⟩ := hcs k hs
  obtain ⟨pt, ct, rfl, j0, j1, j2, j3⟩ := h2
  obtain ⟨bt, ot, rfl, hbt, hct⟩ := j3 (by omega)
  obtain ⟨ta, tn, tsl, k3, k4, k5, htab⟩ := hct k ht
  obtain ⟨pp, cp, rfl, -⟩ := id h4
  have hsh := htab.2.shape
  obtain ⟨qt, dt, gt, rfl⟩ := hsh
  obtain ⟨⟨pr, cr, rfl, -⟩, -⟩ := id htab
  have Hc0 := hid (fun w' (hb : Below W.heap.size W w') => Tell_any (.string ⟨syms[k].name.toArray⟩) ⟨_, rfl⟩ syms[k].arity syms[k].sort _ _ _ _ ts[k] l w' ((htab.below b0).below hb) ((h4.below b0).below hb))
  have k0 := (b0.cell (p := ⟨bs, os + k * 3, none⟩) hbs).trans k0
  have k1 := (b0.cell (p := ⟨bs, os + k * 3 + 1, none⟩) hbs).trans k1
  have k2 := (b0.cell (p := ⟨bs, os + k * 3 + 2, none⟩) hbs).trans k2
  have k3 := (b0.cell (p := ⟨bt, ot + k * 3, none⟩) hbt).trans k3
  have k4 := (b0.cell (p := ⟨bt, ot + k * 3 + 1, none⟩) hbt).trans k4
  have k5 := (b0.cell (p := ⟨bt, ot + k * 3 + 2, none⟩) hbt).trans k5
  rw [hk] at x6
  clear h3 h4 htab hct hcs i0 i1 i2 i3 j0 j1 j2 j3 hk
  have b1 : (0 : Int) ≤ (k : Int) := by omega
  have b2 : (k : Int) < (syms.length : Int) := by omega
  have b3 : (k : Int) < (ts.length : Int) := by omega
  generalize vlTell syms[k].sort ts[k] l = res at *
  generalize syms[k].sort = so at *
  generalize syms[k].arity = ar at *
  generalize (⟨syms[k].name.toArray⟩ : ByteArray) = nm at *
  generalize ts[k].rows.length = lr at *
  have hz : W.heap.size = w.heap.size + 1 := by rw [← hW, size_alloc]
  go_enter Tryz.func76, Tryz.ntmps76
  go_wp2_with fail
  go_region_held3 (fun w' => w'.cell? ⟨g, 0, none⟩ = some (.slice (some ⟨bs, os, none⟩) syms.length cs) ∧ w'.cell? ⟨g, 6, none⟩ = some (.int .i64 (k : Nat)) ∧ w'.cell? ⟨g, 1, none⟩ = some (.slice (some ⟨bt, ot, none⟩) ts.length ct) ∧ w'.cell? ⟨g, 7, none⟩ = some (.slice pp l.length cp) ∧ w'.cell? ⟨bs, os + k * 3, none⟩ = some (.string nm) ∧ w'.cell? ⟨bs, os + k * 3 + 1, none⟩ = some (.int .i64 ar) ∧ w'.cell? ⟨bs, os + k * 3 + 2, none⟩ = some (.int .i64 so) ∧ w'.cell? ⟨bt, ot + k * 3, none⟩ = some (.slice pr lr cr) ∧ w'.cell? ⟨bt, ot + k * 3 + 1, none⟩ = some (.bool tn) ∧ w'.cell? ⟨bt, ot + k * 3 + 2, none⟩ = some (.slice qt dt gt) ∧ Pair w' w.heap.size 44)
    (first | (go_split_ands; (try dsimp only); (repeat' apply And.intro) <;> first | assumption | exact Pair.drew ‹_› | exact Pair.below ‹_› hb9 | exact Pair.below ‹_› hb8 | exact Pair.below ‹_› hb7 | exact Pair.below ‹_› hb6 | exact Pair.below ‹_› hb5 | exact Pair.below ‹_› hb4 | exact Pair.below ‹_› hb3 | exact Pair.below ‹_› hb2 | exact Pair.below ‹_› hb1 | exact (hb9.cell (by first | omega | (simp; omega) | (simp; done))).trans ‹_› | exact (hb8.cell (by first | omega | (simp; omega) | (simp; done))).trans ‹_› | exact (hb7.cell (by first | omega | (simp; omega) | (simp; done))).trans ‹_› | exact (hb6.cell (by first | omega | (simp; omega) | (simp; done))).trans ‹_› | exact (hb5.cell (by first | omega | (simp; omega) | (simp; done))).trans ‹_› | exact (hb4.cell (by first | omega | (simp; omega) | (simp; done))).trans ‹_› | exact (hb3.cell (by first | omega | (simp; omega) | (simp; done))).trans ‹_› | exact (hb2.cell (by first | omega | (simp; omega) | (simp; done))).trans ‹_› | exact (hb1.cell (by first | omega | (simp; omega) | (simp; done))).trans ‹_› | exact Pair.set1 (Pair.set0 ‹_› _) _ _ _ | exact (cell_stored _ (by first | (dsimp only; omega) | (simp; done) | (simp; omega)) _ _).trans ‹_› | exact Pair.drew (Pair.below ‹_› (below1 _ _)) | exact Pair.below ‹_› (below1 _ _) | exact Pair.far ‹_› (by omega) hb1 | exact Pair.new .. | exact Pair.new1 .. | exact Pair.new2 .. | (go_keep; done)) | (go_keep; done))
    (first | (go_at_call 15; refine (Hc0.out _ ?_).mono ?_; (repeat (first | exact Below.refl _ _ | apply Below.drew)); rintro e w2 ⟨v2, rfl, hi2, hb2⟩; have hz1 : W.heap.size ≤ w2.heap.size := (by have := hb2.size; simp at this; omega); obtain ⟨p2, n2, c2, rfl, hi2⟩ := hi2.shape; have hpr := Pair.below (by go_split_ands; assumption) hb2; obtain ⟨_, _, q0, q1, q2, q3⟩ := hpr.cells))
  go_wp2
  exact bodyPost_ret (v := .agg #[.bool (decide (res < 0)), .slice p2 n2 c2]) (by simp [results, Tryz.results76, go_sem, q0, q1]) rfl ⟨_, rfl, hi2.stored hpr _ _ _ _, Below.stored (b0.drew.trans (hb2.mono (B' := w.heap.size) (by first | omega | (simp; omega)))) (by omega) _ _⟩
end Go.Proofs.YtckkpolikdnilaaGreatDoor
