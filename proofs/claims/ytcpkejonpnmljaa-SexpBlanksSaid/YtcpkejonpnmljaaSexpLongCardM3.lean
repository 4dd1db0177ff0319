/- Texts put together: SxEnd, SxQuoted, SxComment, SxTable, SxModel, SxCalls, Facts12. -/
import Derived.Test.YtcpkejonpnmljaaSexpLongCardM2
import Derived.Outline
import Derived.Laws.EntriesVeiled
/- (*sexp.reader).listEnd; listBegin where it is too deep. -/
namespace Go.Proofs.Ytcpkejonpnmljaa
open Go.RowKit

theorem len14 {vs : List Value} (h : vs.length = 14) : ∃ a b c d e f g h i j k l m n, vs = [a, b, c, d, e, f, g, h, i, j, k, l, m, n] := by
  match vs, h with
  | [a, b, c, d, e, f, g, h, i, j, k, l, m, n], _ => exact ⟨a, b, c, d, e, f, g, h, i, j, k, l, m, n, rfl⟩
theorem exRow_get : ∀ (l : List Ex) (vs : List Value) (i : Nat) (h : i < l.length) (h' : i < vs.length), (exRow l vs)[i * 4]? = some (.int .i64 ((l[i]'h).kind : Nat)) ∧ (exRow l vs)[i * 4 + 1]? = some (.int .i64 ((l[i]'h).at_ : Nat)) ∧
    (exRow l vs)[i * 4 + 2]? = some (.string (l[i]'h).text) ∧ (exRow l vs)[i * 4 + 3]? = some (vs[i]'h')
  | e :: l, v :: vs, 0, _, _ => by simp [exRow, exCells]
  | e :: l, v :: vs, i + 1, h, h' => by
    have := exRow_get l vs i (by simpa using h) (by simpa using h')
    simp only [exRow, exCells, List.getElem_cons_succ]
    rw [show (i + 1) * 4 = i * 4 + 1 + 1 + 1 + 1 by omega]
    simpa using this
theorem OpenAt.row {w : World} {B : Nat} {D D' : Nat → Prop} {x : Lv} {vs : List Value} (h : OpenAt w B D x vs) (hk : ∀ k, x.v.ownBlock = some k → D' k) (hD : ∀ b, D b → D' b) : RowAt w D' x.v x.l := by
  have hown := h.own
  rcases h.own.2 with ⟨e1, e2⟩ | ⟨b, c, cur, e1, -⟩
  · rw [e1, List.eq_nil_of_length_eq_zero e2]; exact .nil
  · rw [e1] at hown hk ⊢
    have cl : ∀ i j, i < x.l.length → j < 4 → w.cell? ⟨b, i * 4 + j, none⟩ = (exRow x.l vs)[i * 4 + j]? := fun i j hi hj => hown.cellAt _ (by omega)
    refine .row b 0 _ c x.l (fun i => vs.getD i undef) rfl (hk b rfl) ?_ ?_ ?_ ?_ ?_
    · intro i hi
      rw [Nat.zero_add]
      exact (cl i 0 hi (by decide)).trans (exRow_get _ _ i hi (by rw [← h.len]; exact hi)).1
    · intro i hi
      rw [Nat.zero_add]
      exact (cl i 1 hi (by decide)).trans (exRow_get _ _ i hi (by rw [← h.len]; exact hi)).2.1
    · intro i hi
      rw [Nat.zero_add]
      exact (cl i 2 hi (by decide)).trans (exRow_get _ _ i hi (by rw [← h.len]; exact hi)).2.2.1
    · intro i hi
      have hiv : i < vs.length := by rw [← h.len]; exact hi
      rw [Nat.zero_add]
      rw [(cl i 3 hi (by decide)).trans (exRow_get _ _ i hi hiv).2.2.2]
      simp [List.getD, hiv]
    · intro i hi
      have hiv : i < vs.length := by rw [← h.len]; exact hi
      have e : vs.getD i undef = vs[i] := by simp [List.getD, hiv]
      rw [e]
      exact (h.rows i hi hiv).keep fun b hb => ⟨hD b hb, fun _ => rfl⟩
theorem own_take {w : World} {B size g n cap : Nat} {t : TypeId} {xs ys : List Value} (h : w.ownsRow B t size (.slice (some ⟨g, 0, none⟩) (n + 1) cap) (n + 1) (xs ++ ys)) (hl : xs.length = n * size) : w.ownsRow B t size (.slice (some ⟨g, 0, none⟩) n cap) n xs := by
  refine ⟨hl, ?_⟩
  rcases h.2 with ⟨h1, _⟩ | ⟨g', cap', cur, h1, h2, h3, h4, h5, h6, h7⟩
  · simp at h1
  · simp only [Value.slice.injEq, Option.some.injEq, Addr.mk.injEq, and_true, true_and] at h1
    obtain ⟨rfl, rfl⟩ := h1
    refine .inr ⟨g, cap, cur, rfl, h2, h3, by omega, h5, h6, ?_⟩
    have := congrArg (List.take (n * size)) h7
    rw [List.take_take, Nat.min_eq_left (Nat.mul_le_mul_right _ (by omega)), ← hl, List.take_left] at this
    rw [← hl]; exact this
/-- the innermost list is closed: its parts are read, the list around it is the innermost -/
theorem RdAt.pop {B g gl cap a : Nat} {w : World} {s : ByteArray} {ls : List Lv} {y x : Lv} (h : RdAt B w g gl cap s a (ls ++ [y] ++ [x])) :
    RdAt B (w.setCell ⟨g, 2, none⟩ (.slice (some ⟨gl, 0, none⟩) (ls.length + 1) cap)) g gl cap s a (ls ++ [y]) ∧ RowAt (w.setCell ⟨g, 2, none⟩ (.slice (some ⟨gl, 0, none⟩) (ls.length + 1) cap)) (SxOut (w.setCell ⟨g, 2, none⟩ (.slice (some ⟨gl, 0, none⟩) (ls.length + 1) cap)) (ls ++ [y]) B) x.v x.l := by
  have hr : ∀ b, b ≠ g → (w.setCell ⟨g, 2, none⟩ (.slice (some ⟨gl, 0, none⟩) (ls.length + 1) cap)).heap[b]? = w.heap[b]? := fun b hb => heap_setCell_other w ⟨g, 2, none⟩ b _ hb
  have hset := heap_setCell_same w g 2 _ _ (.slice (some ⟨gl, 0, none⟩) (ls.length + 1) cap) h.hd
  have hff := h.rest_far hr
  have happ := h.apart
  rw [List.pairwise_append] at happ
  generalize w.setCell ⟨g, 2, none⟩ (.slice (some ⟨gl, 0, none⟩) (ls.length + 1) cap) = w' at *
  have hout : ∀ b, SxOut w' (ls ++ [y] ++ [x]) B b → SxOut w' (ls ++ [y]) B b := fun b hb => ⟨hb.1, hb.2.1, fun z hz => hb.2.2 z (by rw [List.mem_append]; exact .inl hz)⟩
  refine ⟨⟨?_, ?_, h.low, fun z hz => ?_, happ.1⟩, ?_⟩
  · rw [hset]; simp
  · have h1 := hff.1
    rw [lvCells_snoc, List.length_append, List.length_singleton] at h1
    exact own_take h1 (lvCells_length _)
  · obtain ⟨vs, ho⟩ := hff.2 z (by rw [List.mem_append]; exact .inl hz)
    exact ⟨vs, ho.move (fun _ _ => rfl) fun b hb => ⟨hout b hb, rfl⟩⟩
  · obtain ⟨vs, ho⟩ := hff.2 x (by simp)
    refine ho.row (fun k hk => ?_) hout
    obtain ⟨h1, cs, h2⟩ := ho.blk hk
    refine ⟨h1, ⟨cs, _, h2⟩, fun z hz hzk => ?_⟩
    rcases happ.2.2 z hz x (by simp) with h5 | h5
    · rw [h5] at hzk; cases hzk
    · exact h5 (hzk.trans hk.symm)

set_option maxRecDepth 100000 in
set_option maxHeartbeats 1600000 in
theorem listBegin_deep (B g gl cap : Nat) (s : ByteArray) (a : Nat) (ls : List Lv) (x : Lv) (w : World) (h : RdAt B w g gl cap s a (ls ++ [x])) (ha : a < s.size) (hs : s.size ≤ 65536) (hn : ls.length = 64) :
    Calls Try.prog 38 #[.pointer (some ⟨g, 0, none⟩)] w (RErr a 5 w) := by
  have c1 := h.c1
  have c2 := h.c2
  rw [List.length_append, List.length_singleton, hn] at c2
  clear h hn
  go_enter Try.func38, Try.ntmps38
  go_wp2
  go_ret2
  exact ⟨rfl, 0, rfl⟩

set_option maxRecDepth 100000 in
set_option maxHeartbeats 1600000 in
theorem listEnd_none (B g gl cap : Nat) (s : ByteArray) (a : Nat) (x : Lv) (w : World) (h : RdAt B w g gl cap s a [x]) :
    Calls Try.prog 39 #[.pointer (some ⟨g, 0, none⟩)] w (RErr a 4 w) := by
  have c1 := h.c1
  have c2 := h.c2
  rw [List.length_singleton] at c2
  clear h
  go_enter Try.func39, Try.ntmps39
  go_wp2
  go_ret2
  exact ⟨rfl, 0, rfl⟩

set_option maxRecDepth 100000 in
set_option maxHeartbeats 1600000 in
theorem listEnd_ok (B g gl cap : Nat) (s : ByteArray) (a : Nat) (ls : List Lv) (y x : Lv) (w : World) (h : RdAt B w g gl cap s a (ls ++ [y] ++ [x])) (ha : a < s.size) (hs : s.size ≤ 65536) (hn : ls.length ≤ 1000) (hm : y.l.length ≤ 1000000) (hB : B ≤ w.heap.size) :
    Calls Try.prog 39 #[.pointer (some ⟨g, 0, none⟩)] w (RStep B w g gl cap s (a + 1) ls y (.mk 4 x.at_ ⟨#[]⟩ x.l)) := by
  have c2 := h.c2
  simp only [List.length_append, List.length_singleton] at c2
  have hin := innermost_any g gl (ls.length + 1) cap w c2 (by omega)
  have Hin := hid hin
  have hb1 : (((ls.length + 1 + 1 : Nat) : Int) == 1) = false := beq_eq_false_iff_ne.2 (by omega)
  have hlx := h.lv
  simp only [List.length_append, List.length_singleton] at hlx
  rw [lvCells_snoc] at hlx
  have hll : (lvCells (ls ++ [y])).length = (ls.length + 1) * 2 := by rw [lvCells_length, List.length_append, List.length_singleton]
  have d0 := hlx.cellAt ((ls.length + 1) * 2) (by omega)
  have d1 := hlx.cellAt ((ls.length + 1) * 2 + 1) (by omega)
  rw [List.getElem?_append_right (by omega), hll, show (ls.length + 1) * 2 - (ls.length + 1) * 2 = 0 by omega] at d0
  rw [List.getElem?_append_right (by omega), hll, show (ls.length + 1) * 2 + 1 - (ls.length + 1) * 2 = 1 by omega] at d1
  simp only [List.getElem?_cons_zero, List.getElem?_cons_succ] at d0 d1
  obtain ⟨p, m, c, hv⟩ : ∃ p m c, x.v = .slice p m c := by
    obtain ⟨vs, hx⟩ := h.open_ x (by simp)
    rcases hx.own.2 with ⟨e1, e2⟩ | ⟨g5, c5, cur, e1, -⟩
    · exact ⟨_, _, _, e1⟩
    · exact ⟨_, _, _, e1⟩
  rw [hv] at d1
  have Hv := hid hv
  have H := hid h
  clear hin h hlx hll hv
  go_enter Try.func39, Try.ntmps39
  go_wp2_with fail
  refine Hin.out.mono ?_
  rintro e w1 ⟨rfl, n1, rfl⟩
  have d0 : (w.drewN n1).cell? ⟨gl, (ls.length + 1) * 2, none⟩ = some (.int .i64 (x.at_ : Nat)) := d0
  have d1 : (w.drewN n1).cell? ⟨gl, (ls.length + 1) * 2 + 1, none⟩ = some (.slice p m c) := d1
  have HB1 : Hid (Below w.heap.size w (w.drewN n1)) := below_drewN (Below.refl _ _) _
  have H1 := hid (H.out.below HB1.out)
  have hz := HB1.out.size
  generalize w.drewN n1 = w1 at *
  clear Hin H c2
  go_upto_region 4 with fail
  generalize hW : World.alloc w1 _ = w2
  have hbox : w2.heap[w1.heap.size]? = some (.cells #[.int .i64 (x.at_ : Nat), .slice p m c] 63 (0, 0)) := by rw [← hW]; exact heap_alloc_new w1 _
  have HB12 : Below w1.heap.size w1 w2 := by rw [← hW]; exact below1 _ _
  have H2 := hid (H1.out.below HB12)
  have HB2 := hid ((Fr.of_below hB HB1.out).trans (Fr.of_below (by omega) HB12))
  obtain ⟨gx, hgx⟩ : ∃ gx, gx = w1.heap.size := ⟨_, rfl⟩
  rw [← hgx] at hbox ⊢
  have HS : Hid (∀ w', Below w2.heap.size w2 w' → w'.cell? ⟨g, 2, none⟩ = some (.slice (some ⟨gl, 0, none⟩) (ls.length + 1 + 1) cap)) := fun w' hb => by
    have := (H2.out.below hb).c2
    simpa using this
  have Hbox := hid hbox
  have hgne : gx ≠ g := by
    have := lt_of_heap H1.out.hd
    omega
  have HBs := hid HB12.size
  clear hW H1 HB1 HB12 hbox d0 d1 hgx hz
  have hw1 : IntKind.i64.wrap ((ls.length : Int) + 1) = (ls.length : Int) + 1 := IntWalk.i64_in _ (by omega)
  have i0 : (0 : Int) ≤ (ls.length : Int) + 1 := by omega
  have i1 : ((ls.length : Int) + 1).toNat = ls.length + 1 := by omega
  have hcap : (ls.length : Int) + 1 ≤ (cap : Int) := by
    rcases H2.out.lv.2 with ⟨h1, -⟩ | ⟨g', cap', cur, h1, -, -, h4, -⟩
    · simp at h1
    · simp only [Value.slice.injEq, Option.some.injEq, Addr.mk.injEq, and_true, true_and] at h1
      obtain ⟨-, rfl⟩ := h1
      simp only [List.length_append, List.length_singleton] at h4
      omega
  refine wp_region_facts (w0 := w2) 14 1 [19, 20, 21, 22, 23, 24, 25, 26, 27, 28, 29, 30, 31, 32] [undef, undef, undef, undef, undef, undef, undef, undef, undef, undef, undef, undef, undef, undef]
    (fun i => match i with | 0 => sxEq (.pointer (some ⟨g, 0, none⟩)) | 1 => sxEq (.pointer (some ⟨g, 0, none⟩)) | 2 => sxEq (.pointer (some ⟨g, 0, none⟩)) | 3 => sxEq (.pointer (some ⟨g, 2, none⟩)) | 4 => sxEq (.slice (some ⟨gl, 0, none⟩) (ls.length + 1 + 1) cap) | 5 => sxEq (.pointer (some ⟨g, 0, none⟩)) | 6 => sxEq (.pointer (some ⟨g, 0, none⟩)) | 7 => sxEq (.pointer (some ⟨g, 2, none⟩)) | 8 => sxEq (.slice (some ⟨gl, 0, none⟩) (ls.length + 1 + 1) cap) | 9 => sxEq (.int .i64 ((ls.length + 1 + 1 : Nat) : Int)) | 10 => sxEq (.int .i64 ((ls.length : Int) + 1)) | 11 => sxEq (.slice (some ⟨gl, 0, none⟩) (ls.length + 1) cap) | 12 => sxEq (.pointer (some ⟨g, 0, none⟩)) | _ => sxEq (.pointer (some ⟨g, 2, none⟩))) [] (by kernel_rfl) (by kernel_rfl) (by kernel_rfl) (by kernel_rfl) (by decide) rfl (by kernel_rfl) rfl (by simp) ?he1 ?_ ?_ ?_
  case he1 => simp only [putAll, Act.put, List.setIfInBounds_toArray, List.set_cons_zero, List.set_cons_succ]
  · intro i hi; simp at hi
  · intro i o hi ho vs wx hvl hb hdep K hK
    have hvs := len14 hvl
    obtain ⟨s19, s20, s21, s22, s23, s24, s25, s26, s27, s28, s29, s30, s31, s32, rfl⟩ := hvs
    clear hvl
    have hk := HS.out wx hb
    rcases i with _ | _ | _ | _ | _ | _ | _ | _ | _ | _ | _ | _ | _ | _ | i
    all_goals (simp only [List.getElem?_toArray, List.getElem?_cons_zero, List.getElem?_cons_succ, Option.some.injEq] at ho)
    all_goals try (subst ho)
    all_goals try simp only [putAll, Act.put, List.setIfInBounds_toArray, List.set_cons_zero, List.set_cons_succ]
    · go_simp
      have hK' := hK.out
      simp only [putAll, Act.put, List.setIfInBounds_toArray, List.set_cons_zero, List.set_cons_succ] at hK'
      exact hK' _ _ rfl (Below.refl _ _) (by simp)
    · go_simp
      have hK' := hK.out
      simp only [putAll, Act.put, List.setIfInBounds_toArray, List.set_cons_zero, List.set_cons_succ] at hK'
      exact hK' _ _ rfl (Below.refl _ _) (by simp)
    · have e1 : s20 = _ := hdep ⟨1, .data⟩ (by simp) rfl
      subst e1
      go_simp
      have hK' := hK.out
      simp only [putAll, Act.put, List.setIfInBounds_toArray, List.set_cons_zero, List.set_cons_succ] at hK'
      exact hK' _ _ rfl (Below.refl _ _) (by simp)
    · have e2 : s21 = _ := hdep ⟨2, .data⟩ (by simp) rfl
      subst e2
      go_simp
      have hK' := hK.out
      simp only [putAll, Act.put, List.setIfInBounds_toArray, List.set_cons_zero, List.set_cons_succ] at hK'
      exact hK' _ _ rfl (Below.refl _ _) (by simp)
    · have e3 : s22 = _ := hdep ⟨3, .data⟩ (by simp) rfl
      subst e3
      go_simp
      have hK' := hK.out
      simp only [putAll, Act.put, List.setIfInBounds_toArray, List.set_cons_zero, List.set_cons_succ] at hK'
      exact hK' _ _ rfl (Below.refl _ _) (by simp)
    · go_simp
      have hK' := hK.out
      simp only [putAll, Act.put, List.setIfInBounds_toArray, List.set_cons_zero, List.set_cons_succ] at hK'
      exact hK' _ _ rfl (Below.refl _ _) (by simp)
    · have e5 : s24 = _ := hdep ⟨5, .data⟩ (by simp) rfl
      subst e5
      go_simp
      have hK' := hK.out
      simp only [putAll, Act.put, List.setIfInBounds_toArray, List.set_cons_zero, List.set_cons_succ] at hK'
      exact hK' _ _ rfl (Below.refl _ _) (by simp)
    · have e6 : s25 = _ := hdep ⟨6, .data⟩ (by simp) rfl
      subst e6
      go_simp
      have hK' := hK.out
      simp only [putAll, Act.put, List.setIfInBounds_toArray, List.set_cons_zero, List.set_cons_succ] at hK'
      exact hK' _ _ rfl (Below.refl _ _) (by simp)
    · have e7 : s26 = _ := hdep ⟨7, .data⟩ (by simp) rfl
      subst e7
      go_simp
      have hK' := hK.out
      simp only [putAll, Act.put, List.setIfInBounds_toArray, List.set_cons_zero, List.set_cons_succ] at hK'
      exact hK' _ _ rfl (Below.refl _ _) (by simp)
    · have e8 : s27 = _ := hdep ⟨8, .data⟩ (by simp) rfl
      subst e8
      go_simp
      have hK' := hK.out
      simp only [putAll, Act.put, List.setIfInBounds_toArray, List.set_cons_zero, List.set_cons_succ] at hK'
      exact hK' _ _ rfl (Below.refl _ _) (by simp)
    · have e9 : s28 = _ := hdep ⟨9, .data⟩ (by simp) rfl
      subst e9
      go_simp
      have hK' := hK.out
      simp only [putAll, Act.put, List.setIfInBounds_toArray, List.set_cons_zero, List.set_cons_succ] at hK'
      exact hK' _ _ rfl (Below.refl _ _) (by simp)
    · have e4 : s23 = _ := hdep ⟨4, .data⟩ (by simp) rfl
      subst e4
      have e10 : s29 = _ := hdep ⟨10, .data⟩ (by simp) rfl
      subst e10
      go_simp
      have hK' := hK.out
      simp only [putAll, Act.put, List.setIfInBounds_toArray, List.set_cons_zero, List.set_cons_succ] at hK'
      exact hK' _ _ rfl (Below.refl _ _) (by simp)
    · have e0 : s19 = _ := hdep ⟨0, .data⟩ (by simp) rfl
      subst e0
      go_simp
      have hK' := hK.out
      simp only [putAll, Act.put, List.setIfInBounds_toArray, List.set_cons_zero, List.set_cons_succ] at hK'
      exact hK' _ _ rfl (Below.refl _ _) (by simp)
    · have e12 : s31 = _ := hdep ⟨12, .data⟩ (by simp) rfl
      subst e12
      go_simp
      have hK' := hK.out
      simp only [putAll, Act.put, List.setIfInBounds_toArray, List.set_cons_zero, List.set_cons_succ] at hK'
      exact hK' _ _ rfl (Below.refl _ _) (by simp)
    · omega
  · intro vs wx hvl hb hf hdist
    have hvs := len14 hvl
    obtain ⟨s19, s20, s21, s22, s23, s24, s25, s26, s27, s28, s29, s30, s31, s32, rfl⟩ := hvs
    have f11 : s30 = .slice (some ⟨gl, 0, none⟩) (ls.length + 1) cap := hf 11 (by decide)
    have f13 : s32 = .pointer (some ⟨g, 2, none⟩) := hf 13 (by decide)
    subst f11 f13
    clear hf hdist hvl
    have h2 := H2.out.below hb
    have hgx := h2.hd
    have c2' : wx.cell? ⟨g, 2, none⟩ = some (.slice (some ⟨gl, 0, none⟩) (ls.length + 1 + 1) cap) := by rw [cell_of_row wx g 2 _ _ (0, 0) hgx]; simp
    have f2' : wx.frozen? ⟨g, 2, none⟩ = false := frozen_of_row wx g 2 _ _ hgx
    have hp := h2.pop
    have hbx := HB2.out.trans (Fr.of_below (Nat.le_trans hB HB2.out.bel.size) hb)
    have lowx := h2.low
    have HP := hid hp; have HBX := hid (hbx.setRd h2 2 (.slice (some ⟨gl, 0, none⟩) (ls.length + 1) cap))
    have hcx := (hb.cell (p := ⟨w2.heap.size - 1, 0, none⟩))
    clear h2 hgx hp hbx
    refine wpAny_one (i := 14) (by kernel_rfl) rfl ?_
    intro K hK
    try simp only [putAll, Act.put, List.setIfInBounds_toArray, List.set_cons_zero, List.set_cons_succ]
    go_simp
    have hK' := hK.out
    apply hK'
    clear hK hK'
    have hb3 : (wx.setCell ⟨g, 2, none⟩ (.slice (some ⟨gl, 0, none⟩) (ls.length + 1) cap)).heap[gx]? = some (.cells #[.int .i64 (x.at_ : Nat), .slice p m c] 63 (0, 0)) := (heap_setCell_other wx ⟨g, 2, none⟩ gx _ hgne).trans ((hb.block gx (lt_of_heap Hbox.out)).trans Hbox.out)
    have hz3 : B ≤ (wx.setCell ⟨g, 2, none⟩ (.slice (some ⟨gl, 0, none⟩) (ls.length + 1) cap)).heap.size := Nat.le_trans hB HBX.out.bel.size
    clear c2' f2' hcx lowx
    generalize wx.setCell ⟨g, 2, none⟩ (.slice (some ⟨gl, 0, none⟩) (ls.length + 1) cap) = w3 at *
    have hp2 := HP.out.2
    rw [Hv.out] at hp2
    have hput : Calls Try.prog 53 #[.pointer (some ⟨g, 0, none⟩), .agg #[.int .i64 4, .int .i64 (x.at_ : Nat), .string ⟨#[]⟩, .slice p m c]] w3 (fun en w' => en = .returned (.tuple #[]) ∧ ∃ v', RdAt B w' g gl cap s a (ls ++ [⟨y.at_, v', y.l ++ [.mk 4 x.at_ ⟨#[]⟩ x.l]⟩]) ∧ Fr B w3 w') := put_any B g gl cap s a ls y (.mk 4 x.at_ ⟨#[]⟩ x.l) (.slice p m c) w3 HP.out.1 hp2 hn hm hz3
    have Hput := hid hput
    have e0 : w3.cell? ⟨gx, 0, none⟩ = some (.int .i64 (x.at_ : Nat)) := by rw [cell_of_row w3 gx 0 _ _ (0, 0) hb3]; rfl
    have e1 : w3.cell? ⟨gx, 1, none⟩ = some (.slice p m c) := by rw [cell_of_row w3 gx 1 _ _ (0, 0) hb3]; rfl
    clear hput hp2 hb3 HP hz3 hb hw1 i0 i1 hcap
    refine wpAny_done (by kernel_rfl) ?_ _
    go_wp2_with fail
    refine Hput.out.mono ?_
    rintro e w4 ⟨rfl, v', h4, hb4⟩
    have c1 := h4.c1; have f1 := h4.f1
    have hw : IntKind.i64.wrap ((a : Int) + 1) = ((a + 1 : Nat) : Int) := by rw [IntWalk.i64_in _ (by omega)]; omega
    have H5 := hid (h4.move (a + 1)); have HB5 := hid ((HBX.out.trans hb4).setRd h4 1 (.int .i64 ((a + 1 : Nat) : Int)))
    clear h4 hb4 e0 e1
    go_wp2_with fail
    go_ret2
    exact ⟨rfl, _, H5.out, HB5.out⟩

end Go.Proofs.Ytcpkejonpnmljaa
/- (*sexp.reader).quoted. -/
namespace Go.Proofs.Ytcpkejonpnmljaa
open Go.RowKit

set_option maxRecDepth 100000 in
set_option maxHeartbeats 1600000 in
theorem quoted_open (B g gl cap : Nat) (s : ByteArray) (a : Nat) (ls : List Lv) (x : Lv) (w : World) (h : RdAt B w g gl cap s a (ls ++ [x])) (ha : a < s.size) (hs : s.size ≤ 65536) (hq : sxLead sxQuo (s.extract (a + 1) s.size) = ((s.extract (a + 1) s.size)).size) (hB : B ≤ w.heap.size) :
    Calls Try.prog 36 #[.pointer (some ⟨g, 0, none⟩)] w (RErr a 3 w) := by
  have hz : (s.extract (a + 1) s.size).size = s.size - ((a + 1)) := ext_size s _
  have hl := sxLead_le sxQuo (s.extract (a + 1) s.size)
  have hr := hid (rest1_any h (by omega) hs)
  have hr2 := fun n => rest1_any (h.drewN n) (by omega) hs
  have Hr2 := hid hr2
  have hld := fun w' => leading_sxQuo (s.extract (a + 1) s.size) w' (by omega)
  have Hld := hid hld
  obtain ⟨t, ht⟩ : ∃ t, t = s.extract (a + 1) s.size := ⟨_, rfl⟩
  rw [← ht] at hz hl hr hr2 Hr2 Hld hq
  clear hr2 hld ht
  obtain ⟨n, hn'⟩ : ∃ n, n = sxLead sxQuo t := ⟨_, rfl⟩
  rw [← hn'] at hl Hld hq
  have H := hid h
  have c1 : ∀ n, (w.drewN n).cell? ⟨g, 1, none⟩ = some (.int .i64 (a : Nat)) := fun n => (h.drewN n).c1
  clear h hn'
  have i0 : (0 : Int) ≤ (n : Int) := by omega
  have i1 : ((n : Int)).toNat = n := by omega
  have i2 : (n : Int) ≤ (t.size : Int) := by omega
  have hbe : (t.extract n t.size).size = t.size - n := ext_size t _
  have Hz := hid hz
  subst hq
  clear hz hbe
  go_enter Try.func36, Try.ntmps36
  go_wp2_with fail
  refine hr.out.mono ?_
  rintro e w1 ⟨rfl, n1, rfl⟩
  go_wp2_with fail
  refine (Hld.out _).mono ?_
  rintro e w1 ⟨rfl, rfl⟩
  go_wp2_with fail
  obtain ⟨w2, hW⟩ : ∃ w2, w2 = w.drewN n1 := ⟨_, rfl⟩
  have hr3 : ∀ m, Calls Try.prog 50 #[.pointer (some ⟨g, 0, none⟩), .int .i64 1] (w2.drewN m) (SxDrawn (.string t) (w2.drewN m)) := fun m => by
    rw [hW, drewN_drewN]; exact Hr2.out _
  have c2 : w2.cell? ⟨g, 1, none⟩ = some (.int .i64 (a : Nat)) := by rw [hW]; exact c1 _
  have Hr3 := hid hr3; have HW := hid hW
  rw [← hW]
  clear hr3 hW c1
  go_quiet ((go_at_call 50; exact Calls.quiet_of (Hr3.out _)))
  skip
  go_wp2_with fail
  go_ret2
  exact ⟨rfl, n1 + nq, by rw [HW.out, drewN_drewN]⟩

set_option maxRecDepth 100000 in
set_option maxHeartbeats 1600000 in
theorem quoted_bad (B g gl cap : Nat) (s : ByteArray) (a : Nat) (ls : List Lv) (x : Lv) (w : World) (h : RdAt B w g gl cap s a (ls ++ [x])) (ha : a < s.size) (hs : s.size ≤ 65536) (hq : sxLead sxQuo (s.extract (a + 1) s.size) < ((s.extract (a + 1) s.size)).size) (hc : sxHead (s.extract (a + 1) s.size) ≠ 5) (hB : B ≤ w.heap.size) :
    Calls Try.prog 36 #[.pointer (some ⟨g, 0, none⟩)] w (RErr (a + 1 + sxLead sxQuo (s.extract (a + 1) s.size)) 2 w) := by
  have hz : (s.extract (a + 1) s.size).size = s.size - ((a + 1)) := ext_size s _
  have hl := sxLead_le sxQuo (s.extract (a + 1) s.size)
  have hr := hid (rest1_any h (by omega) hs)
  have hr2 := fun n => rest1_any (h.drewN n) (by omega) hs
  have Hr2 := hid hr2
  have hld := fun w' => leading_sxQuo (s.extract (a + 1) s.size) w' (by omega)
  have Hld := hid hld
  obtain ⟨t, ht⟩ : ∃ t, t = s.extract (a + 1) s.size := ⟨_, rfl⟩
  rw [← ht] at hz hl hr hr2 Hr2 Hld hq hc ⊢
  clear hr2 hld ht
  obtain ⟨n, hn'⟩ : ∃ n, n = sxLead sxQuo t := ⟨_, rfl⟩
  rw [← hn'] at hl Hld hq ⊢
  have H := hid h
  have c1 : ∀ n, (w.drewN n).cell? ⟨g, 1, none⟩ = some (.int .i64 (a : Nat)) := fun n => (h.drewN n).c1
  clear h
  have i0 : (0 : Int) ≤ (n : Int) := by omega
  have i1 : ((n : Int)).toNat = n := by omega
  have i2 : (n : Int) ≤ (t.size : Int) := by omega
  have hbe : (t.extract n t.size).size = t.size - n := ext_size t _
  have hbp : 0 < (t.extract n t.size).size := by omega
  have he := sx_emp2 hbp
  have Hs := hid (fun w' => sortOf_any ((t.extract n t.size)[0]'hbp).toNat (UInt8.toNat_lt _) w')
  have Hz := hid hz; have Hbe := hid hbe
  have hso : sxSort ((t.extract n t.size)[0]'hbp).toNat = sxHead t := by unfold sxHead; rw [ext_head, ← hn']
  rw [← hso] at hc
  clear hso hn'
  generalize sxSort ((t.extract n t.size)[0]'hbp).toNat = so at *
  have hne : ((so : Int) != 5) = true := by rw [bne_iff_ne]; omega
  have hw1 : (a : Int) ≤ 65536 := by omega
  have hw2 : (n : Int) ≤ 65536 := by omega
  clear hc
  have HE := hid he; have HN := hid hne; have HW1 := hid hw1; have HW2 := hid hw2
  clear hz hbe he hne hw1 hw2
  go_enter Try.func36, Try.ntmps36
  go_wp2_with fail
  refine hr.out.mono ?_
  rintro e w1 ⟨rfl, n1, rfl⟩
  go_wp2_with fail
  refine (Hld.out _).mono ?_
  rintro e w1 ⟨rfl, rfl⟩
  go_wp2_with fail
  obtain ⟨w2, hW⟩ : ∃ w2, w2 = w.drewN n1 := ⟨_, rfl⟩
  have hr3 : ∀ m, Calls Try.prog 50 #[.pointer (some ⟨g, 0, none⟩), .int .i64 1] (w2.drewN m) (SxDrawn (.string t) (w2.drewN m)) := fun m => by
    rw [hW, drewN_drewN]; exact Hr2.out _
  have c2 : w2.cell? ⟨g, 1, none⟩ = some (.int .i64 (a : Nat)) := by rw [hW]; exact c1 _
  have Hr3 := hid hr3; have HW := hid hW
  rw [← hW]
  clear hr3 hW c1
  go_quiet ((go_at_call 50; exact Calls.quiet_of (Hr3.out _)))
  have he := HE.out; have hw1 := HW1.out; have hw2 := HW2.out; have hne := HN.out
  go_wp2_with fail
  refine (Hs.out _).mono ?_
  rintro e w1 ⟨rfl, rfl⟩
  go_wp2_with fail
  go_ret2
  exact ⟨rfl, n1 + nq, by rw [HW.out, drewN_drewN]⟩

set_option maxRecDepth 100000 in
set_option maxHeartbeats 1600000 in
theorem quoted_ok (B g gl cap : Nat) (s : ByteArray) (a : Nat) (ls : List Lv) (x : Lv) (w : World) (h : RdAt B w g gl cap s a (ls ++ [x])) (ha : a < s.size) (hs : s.size ≤ 65536) (hq : sxLead sxQuo (s.extract (a + 1) s.size) < ((s.extract (a + 1) s.size)).size) (hc : sxHead (s.extract (a + 1) s.size) = 5) (hn : ls.length ≤ 1000) (hm : x.l.length ≤ 1000000) (hB : B ≤ w.heap.size) :
    Calls Try.prog 36 #[.pointer (some ⟨g, 0, none⟩)] w (RStep B w g gl cap s (a + (1 + sxLead sxQuo (s.extract (a + 1) s.size) + 1)) ls x (.mk 1 a ((s.extract (a + 1) s.size).extract 0 (sxLead sxQuo (s.extract (a + 1) s.size))) [])) := by
  have hz : (s.extract (a + 1) s.size).size = s.size - ((a + 1)) := ext_size s _
  have hl := sxLead_le sxQuo (s.extract (a + 1) s.size)
  have hr := hid (rest1_any h (by omega) hs)
  have hr2 := fun n => rest1_any (h.drewN n) (by omega) hs
  have Hr2 := hid hr2
  have hld := fun w' => leading_sxQuo (s.extract (a + 1) s.size) w' (by omega)
  have Hld := hid hld
  obtain ⟨t, ht⟩ : ∃ t, t = s.extract (a + 1) s.size := ⟨_, rfl⟩
  rw [← ht] at hz hl hr hr2 Hr2 Hld hq hc ⊢
  clear hr2 hld ht
  obtain ⟨n, hn'⟩ : ∃ n, n = sxLead sxQuo t := ⟨_, rfl⟩
  rw [← hn'] at hl Hld hq ⊢
  have H := hid h
  have c1 : ∀ n, (w.drewN n).cell? ⟨g, 1, none⟩ = some (.int .i64 (a : Nat)) := fun n => (h.drewN n).c1
  clear h
  have i0 : (0 : Int) ≤ (n : Int) := by omega
  have i1 : ((n : Int)).toNat = n := by omega
  have i2 : (n : Int) ≤ (t.size : Int) := by omega
  have hbe : (t.extract n t.size).size = t.size - n := ext_size t _
  have hbp : 0 < (t.extract n t.size).size := by omega
  have he := sx_emp2 hbp
  have Hs := hid (fun w' => sortOf_any ((t.extract n t.size)[0]'hbp).toNat (UInt8.toNat_lt _) w')
  have Hz := hid hz; have Hbe := hid hbe
  have hso : sxSort ((t.extract n t.size)[0]'hbp).toNat = sxHead t := by unfold sxHead; rw [ext_head, ← hn']
  rw [← hso] at hc
  clear hso hn'
  generalize sxSort ((t.extract n t.size)[0]'hbp).toNat = so at *
  have hne : ((so : Int) != 5) = false := by rw [hc]; rfl
  have hw1 : (a : Int) ≤ 65536 := by omega
  have hw2 : (n : Int) ≤ 65536 := by omega
  clear hc
  have HE := hid he; have HN := hid hne; have HW1 := hid hw1; have HW2 := hid hw2
  clear hz hbe he hne hw1 hw2
  go_enter Try.func36, Try.ntmps36
  go_wp2_with fail
  refine hr.out.mono ?_
  rintro e w1 ⟨rfl, n1, rfl⟩
  go_wp2_with fail
  refine (Hld.out _).mono ?_
  rintro e w1 ⟨rfl, rfl⟩
  go_wp2_with fail
  obtain ⟨w2, hW⟩ : ∃ w2, w2 = w.drewN n1 := ⟨_, rfl⟩
  have hr3 : ∀ m, Calls Try.prog 50 #[.pointer (some ⟨g, 0, none⟩), .int .i64 1] (w2.drewN m) (SxDrawn (.string t) (w2.drewN m)) := fun m => by
    rw [hW, drewN_drewN]; exact Hr2.out _
  have c2 : w2.cell? ⟨g, 1, none⟩ = some (.int .i64 (a : Nat)) := by rw [hW]; exact c1 _
  have Hr3 := hid hr3; have HW := hid hW
  rw [← hW]
  clear hr3 hW c1
  go_quiet ((go_at_call 50; exact Calls.quiet_of (Hr3.out _)))
  have he := HE.out; have hw1 := HW1.out; have hw2 := HW2.out; have hne := HN.out
  go_wp2_with fail
  refine (Hs.out _).mono ?_
  rintro e w1 ⟨rfl, rfl⟩
  rw [show w2.drewN nq = w.drewN (n1 + nq) by rw [HW.out, drewN_drewN]]
  have hz := Hz.out
  have hp := putText_any B g gl cap s a 1 (1 + n + 1) (t.extract 0 n) ls x _ (H.out.drewN (n1 + nq)) hn hm (by simp [World.drewN]; omega) (by simp; omega) (by omega)
  rw [show ((1 : Nat) : Int) = 1 from rfl] at hp
  rw [show ((1 + n + 1 : Nat) : Int) = 1 + (n : Int) + 1 by omega] at hp
  have Hp := hid hp
  clear hz
  clear hp
  go_wp2_with fail
  refine Hp.out.mono ?_
  rintro e w1 ⟨rfl, v', h1, hb⟩
  go_wp2_with fail
  go_ret2
  exact ⟨rfl, v', h1, (Fr.drewN B w (n1 + nq)).trans hb⟩

end Go.Proofs.Ytcpkejonpnmljaa
/- (*sexp.reader).comment. -/
namespace Go.Proofs.Ytcpkejonpnmljaa
open Go.RowKit

theorem idx_lead (l : List UInt8) (c : UInt8) : Lib.indexByte l c = if (l.takeWhile (fun x => x != c)).length < l.length then ((l.takeWhile (fun x => x != c)).length : Int) else -1 := by
  induction l with
  | nil => rfl
  | cons a l ih =>
    unfold Lib.indexByte
    by_cases h : a = c
    · subst h
      simp
    · have h1 : (a == c) = false := by simpa using h
      have h2 : (a != c) = true := by simpa using h
      simp only [h1, List.takeWhile_cons, h2, if_true, List.length_cons]
      rw [ih]
      by_cases h3 : (l.takeWhile (fun x => x != c)).length < l.length
      · simp [h3] <;> omega
      · simp [h3]
/-- how many bytes stand ahead of the line's end -/
def sxLine (t : ByteArray) : Nat := (t.data.toList.takeWhile (fun x => x != 10)).length
theorem sxLine_le (t : ByteArray) : sxLine t ≤ t.size := by
  have := (List.takeWhile_prefix (fun x : UInt8 => x != 10) (l := t.data.toList)).length_le
  simpa [sxLine] using this
theorem sxLine_idx (t : ByteArray) : Lib.indexByte t.data.toList ((10 : Int).toNat.toUInt8) = if sxLine t < t.size then (sxLine t : Int) else -1 := by
  have := idx_lead t.data.toList 10
  have hl : t.data.toList.length = t.size := Array.length_toList
  rw [hl] at this
  exact this

set_option maxRecDepth 100000 in
set_option maxHeartbeats 1600000 in
theorem comment_any (B g gl cap : Nat) (s : ByteArray) (a : Nat) (ls : List Lv) (x : Lv) (w : World) (h : RdAt B w g gl cap s a (ls ++ [x])) (ha : a < s.size) (hs : s.size ≤ 65536) :
    Calls Try.prog 33 #[.pointer (some ⟨g, 0, none⟩)] w (RMove B w g gl cap s (a + sxLine (s.extract a s.size)) (ls ++ [x])) := by
  have hz : (s.extract a s.size).size = s.size - a := ext_size s _
  have hl := sxLine_le (s.extract a s.size)
  have hr := hid (rest0_any h (by omega) hs)
  have hr2 := fun n => rest0_any (h.drewN n) (by omega) hs
  have Hr2 := hid hr2
  have hix := fun w' => Try.strings_IndexByte (s.extract a s.size) 10 w'
  rw [sxLine_idx] at hix
  have Hix := hid hix
  obtain ⟨t, ht⟩ : ∃ t, t = s.extract a s.size := ⟨_, rfl⟩
  rw [← ht] at hz hl hr hr2 Hr2 Hix ⊢
  clear hr2 hix ht
  obtain ⟨n, hn'⟩ : ∃ n, n = sxLine t := ⟨_, rfl⟩
  rw [← hn'] at hl Hix ⊢
  have H := hid h
  clear h hn'
  have hbd : (a : Int) ≤ 65536 := by omega
  have hnd : (n : Int) ≤ 65536 := by omega
  have hnd0 : (0 : Int) ≤ (n : Int) := by omega
  by_cases hlt : n < t.size
  · rw [if_pos hlt] at Hix
    have Hz := hid hz
    clear hz
    have hnn : decide ((n : Int) < 0) = false := by simp
    go_enter Try.func33, Try.ntmps33
    go_wp2_with fail
    refine hr.out.mono ?_
    rintro e w1 ⟨rfl, n1, rfl⟩
    go_wp2_with fail
    refine (Hix.out _).mono ?_
    rintro e w1 ⟨rfl, rfl⟩
    have h1 := H.out.drewN n1
    have c1 := h1.c1; have f1 := h1.f1
    have H3 := hid (h1.move (a + n)); have HB3 := hid ((Fr.drewN B w n1).setRd h1 1 (.int .i64 ((a + n : Nat) : Int)))
    clear h1
    go_wp2_with fail
    go_ret2
    exact ⟨rfl, H3.out, HB3.out⟩
  · rw [if_neg hlt] at Hix
    have hnz : Hid (t.size = n) := by unfold Hid; omega
    have htd : (t.size : Int) ≤ 65536 := by omega
    have Hz := hid hz
    clear hz hlt
    go_enter Try.func33, Try.ntmps33
    go_wp2_with fail
    refine hr.out.mono ?_
    rintro e w1 ⟨rfl, n1, rfl⟩
    go_wp2_with fail
    refine (Hix.out _).mono ?_
    rintro e w1 ⟨rfl, rfl⟩
    go_wp2_with fail
    refine (Hr2.out _).mono ?_
    rintro e w1 ⟨rfl, n2, rfl⟩
    have h1 := H.out.drewN (n1 + n2)
    have c1 := h1.c1; have f1 := h1.f1
    have H3 := hid (h1.move (a + t.size)); have HB3 := hid ((Fr.drewN B w (n1 + n2)).setRd h1 1 (.int .i64 ((a + t.size : Nat) : Int)))
    rw [hnz.out] at H3
    clear h1
    go_wp2_with fail
    go_ret2
    rw [hnz.out] at *
    exact ⟨rfl, H3.out, HB3.out⟩

end Go.Proofs.Ytcpkejonpnmljaa
/- (*sexp.reader).steps: the table of what signs begin. -/
namespace Go.Proofs.Ytcpkejonpnmljaa
open Go.RowKit

/-- the step of a sort, as a method value -/
def stepF (g : Nat) (n : FuncId) : Value := .func (.func n) #[.pointer (some ⟨g, 0, none⟩)] #[]
def tableV (g : Nat) : Array Value := #[stepF g 31, stepF g 32, stepF g 33, stepF g 34, stepF g 35,
  stepF g 36, stepF g 37, stepF g 38, stepF g 39]

set_option maxRecDepth 100000 in
set_option maxHeartbeats 1600000 in
theorem steps_any (g : Nat) (w : World) : Calls Try.prog 22 #[.pointer (some ⟨g, 0, none⟩)] w fun e w' => e = .returned (.agg (tableV g)) ∧ Below w.heap.size w w' := by
  go_enter Try.func22, Try.ntmps22
  go_wp2
  go_outline
  exact bodyPost_ret (v := .agg (tableV g)) (by simp [results, Try.results22, go_sem, tableV, stepF]) rfl ⟨rfl, below1 _ _⟩
end Go.Proofs.Ytcpkejonpnmljaa
/- What reading does, as a function: sxStep (one sign), sxRun (up to the end). -/
namespace Go.Proofs.Ytcpkejonpnmljaa
open Go.RowKit

abbrev Lp := Nat × List Ex
def Lv.pr (x : Lv) : Lp := (x.at_, x.l)
/-- the sort of the byte at a place -/
def sxAt (s : ByteArray) (a : Nat) : Nat := sxSort (s.data.toList.getD a 0).toNat
def sxPut (p : Lp) (e : Ex) : Lp := (p.1, p.2 ++ [e])
/-- one step: the place and the error, or the next place, the lists that are open, the innermost one -/
def sxStep (s : ByteArray) (a : Nat) (front : List Lp) (last : Lp) : Except (Nat × Nat) (Nat × List Lp × Lp) :=
  let t0 := s.extract a s.size
  let t1 := s.extract (a + 1) s.size
  match sxAt s a with
  | 0 => .error (a, 2)
  | 1 => .ok (a + 1, front, last)
  | 2 => .ok (a + sxLine t0, front, last)
  | 3 => .ok (a + sxLead sxSign t0, front, sxPut last (.mk 1 a (t0.extract 0 (sxLead sxSign t0)) []))
  | 4 => if sxNum (t0.extract 0 (sxLead sxSign t0)) then .ok (a + sxLead sxSign t0, front, sxPut last (.mk 2 a (t0.extract 0 (sxLead sxSign t0)) [])) else .error (a, 2)
  | 5 => if sxLead sxQuo t1 = t1.size then .error (a, 3) else if sxHead t1 = 5 then .ok (a + (1 + sxLead sxQuo t1 + 1), front, sxPut last (.mk 1 a (t1.extract 0 (sxLead sxQuo t1)) [])) else .error (a + 1 + sxLead sxQuo t1, 2)
  | 6 => if sxLead sxSign t1 = 0 then .error (a, 2) else .ok (a + (1 + sxLead sxSign t1), front, sxPut last (.mk 3 a (t1.extract 0 (sxLead sxSign t1)) []))
  | 7 => if front.length = 64 then .error (a, 5) else .ok (a + 1, front ++ [last], (a, []))
  | _ => match front.getLast? with
    | none => .error (a, 4)
    | some y => .ok (a + 1, front.dropLast, sxPut y (.mk 4 last.1 ⟨#[]⟩ last.2))
/-- the lists that are open are few, and so are their parts -/
structure SxInv (s : ByteArray) (a : Nat) (front : List Lp) (last : Lp) : Prop where
  le : a ≤ s.size
  deep : front.length ≤ 64
  few : ∀ p ∈ front, p.2.length ≤ a
  fewL : last.2.length ≤ a
theorem lead_pos {p : Nat → Bool} {s : ByteArray} {a : Nat} (ha : a < s.size) (h : p (s.data.toList.getD a 0).toNat = true) : 0 < sxLead p (s.extract a s.size) := by
  unfold sxLead
  have hl : s.data.toList.length = s.size := Array.length_toList
  have e : (s.extract a s.size).data.toList = s.data.toList.drop a := by
    simp only [ByteArray.data_extract, Array.toList_extract, List.extract_eq_take_drop]
    rw [List.take_of_length_le (by simp [hl])]
  rw [e, List.drop_eq_getElem_cons (by omega), List.takeWhile_cons]
  have h2 : s.data.toList.getD a 0 = s.data.toList[a]'(by omega) := by rw [List.getD_eq_getElem?_getD, List.getElem?_eq_getElem (by omega)]; rfl
  rw [← h2, if_pos h]
  simp
theorem line_pos {s : ByteArray} {a : Nat} (ha : a < s.size) (h : sxAt s a = 2) : 0 < sxLine (s.extract a s.size) := by
  have := lead_pos (p := fun n => UInt8.ofNat n != 10) ha (by
    have h10 : (s.data.toList.getD a 0) ≠ 10 := fun e => by
      unfold sxAt at h
      rw [e] at h
      revert h
      decide +kernel
    simpa using h10)
  unfold sxLead at this
  unfold sxLine
  simpa using this
theorem sxStep_ok {s : ByteArray} {a a' : Nat} {front f' : List Lp} {last l' : Lp} (hi : SxInv s a front last) (ha : a < s.size) (h : sxStep s a front last = .ok (a', f', l')) : a < a' ∧ SxInv s a' f' l' := by
  have z0 : (s.extract a s.size).size = s.size - a := ext_size s a
  have z1 : (s.extract (a + 1) s.size).size = s.size - (a + 1) := ext_size s (a + 1)
  have l0 := sxLead_le sxSign (s.extract a s.size)
  have l1 := sxLead_le sxSign (s.extract (a + 1) s.size)
  have l2 := sxLead_le sxQuo (s.extract (a + 1) s.size)
  have l3 := sxLine_le (s.extract a s.size)
  have hp : ∀ {b : Nat} (e : Ex), a < b → b ≤ s.size → a < b ∧ SxInv s b front (sxPut last e) := fun e h1 h2 =>
    ⟨h1, h2, hi.deep, fun p hp => Nat.le_trans (hi.few p hp) (Nat.le_of_lt h1), by unfold sxPut; simp; have := hi.fewL; omega⟩
  have hm : ∀ {b : Nat}, a < b → b ≤ s.size → a < b ∧ SxInv s b front last := fun h1 h2 =>
    ⟨h1, h2, hi.deep, fun p hp => Nat.le_trans (hi.few p hp) (Nat.le_of_lt h1), Nat.le_trans hi.fewL (Nat.le_of_lt h1)⟩
  have hsg : sxAt s a = 3 ∨ sxAt s a = 4 → 0 < sxLead sxSign (s.extract a s.size) := fun h => lead_pos ha (by
    unfold sxSign; unfold sxAt at h
    rcases h with h | h <;> rw [h] <;> rfl)
  have hln := line_pos (s := s) ha
  unfold sxStep at h
  simp only at h
  split at h
  · cases h
  · cases h; exact hm (by omega) (by omega)
  · next e => cases h; have := hln e; exact hm (by omega) (by omega)
  · next e => cases h; have := hsg (.inl e); exact hp _ (by omega) (by omega)
  · next e =>
    split at h
    · cases h; have := hsg (.inr e); exact hp _ (by omega) (by omega)
    · cases h
  · split at h
    · cases h
    · next hne =>
      split at h
      · cases h; exact hp _ (by omega) (by omega)
      · cases h
  · split at h
    · cases h
    · cases h; exact hp _ (by omega) (by omega)
  · split at h
    · cases h
    · next hne =>
      cases h
      refine ⟨by omega, by omega, by have := hi.deep; simp; omega, fun p hp => ?_, by simp⟩
      rw [List.mem_append] at hp
      rcases hp with hp | hp
      · exact Nat.le_trans (hi.few p hp) (by omega)
      · obtain rfl : p = last := by simpa using hp
        exact Nat.le_trans hi.fewL (by omega)
  · split at h
    · cases h
    · next y hy =>
      cases h
      have hym : y ∈ front := List.mem_of_getLast? hy
      refine ⟨by omega, by omega, by have := hi.deep; simp; omega, fun p hp => Nat.le_trans (hi.few p ((List.dropLast_sublist front).subset hp)) (by omega), ?_⟩
      have := hi.few y hym
      unfold sxPut; simp; omega
end Go.Proofs.Ytcpkejonpnmljaa
/- Each step of the reader is the function's. -/
namespace Go.Proofs.Ytcpkejonpnmljaa
open Go.RowKit

def RModel (B : Nat) (w : World) (g : Nat) (s : ByteArray) (r : Except (Nat × Nat) (Nat × List Lp × Lp)) (e : Ending) (w' : World) : Prop :=
  match r with
  | .error (p, er) => RErr p er w e w'
  | .ok (a', f', l') => e = .returned (.tuple #[.int .i64 0, .int .i64 0]) ∧ ∃ gl' cap' ls' x', RdAt B w' g gl' cap' s a' (ls' ++ [x']) ∧ ls'.map Lv.pr = f' ∧ x'.pr = l' ∧ Fr B w w'
def stepN : Nat → FuncId
  | 0 => 31
  | 1 => 32
  | 2 => 33
  | 3 => 34
  | 4 => 35
  | 5 => 36
  | 6 => 37
  | 7 => 38
  | _ => 39
section
variable {B g gl cap a : Nat} {s : ByteArray} {ls : List Lv} {x : Lv} {w : World}
theorem RStep.model {a' : Nat} {e : Ex} {en : Ending} {w' : World} (h : RStep B w g gl cap s a' ls x e en w') : RModel B w g s (.ok (a', ls.map Lv.pr, sxPut x.pr e)) en w' := by
  obtain ⟨h1, v', h2, h3⟩ := h
  exact ⟨h1, gl, cap, ls, _, h2, rfl, rfl, h3⟩
theorem RMove.model {a' : Nat} {en : Ending} {w' : World} (h : RMove B w g gl cap s a' (ls ++ [x]) en w') : RModel B w g s (.ok (a', ls.map Lv.pr, x.pr)) en w' := ⟨h.1, gl, cap, ls, x, h.2.1, rfl, rfl, h.2.2⟩
theorem model_0 (h : RdAt B w g gl cap s a (ls ++ [x])) (hi : SxInv s a (ls.map Lv.pr) x.pr) (ha : a < s.size) (hs : s.size ≤ 65536) (hB : B ≤ w.heap.size) (hk : sxAt s a = 0) : Calls Try.prog 31 #[.pointer (some ⟨g, 0, none⟩)] w (RModel B w g s (sxStep s a (ls.map Lv.pr) x.pr)) := by
  have e : sxStep s a (ls.map Lv.pr) x.pr = .error (a, 2) := by unfold sxStep; simp only [hk]
  rw [e]
  have hd := hi.deep
  rw [List.length_map] at hd
  have hx : x.l.length ≤ a := hi.fewL
  have hn : ls.length ≤ 1000 := by omega
  have hm : x.l.length ≤ 1000000 := by omega
  exact nothing_any B g gl cap s a ls x w h ha hs
theorem model_1 (h : RdAt B w g gl cap s a (ls ++ [x])) (hi : SxInv s a (ls.map Lv.pr) x.pr) (ha : a < s.size) (hs : s.size ≤ 65536) (hB : B ≤ w.heap.size) (hk : sxAt s a = 1) : Calls Try.prog 32 #[.pointer (some ⟨g, 0, none⟩)] w (RModel B w g s (sxStep s a (ls.map Lv.pr) x.pr)) := by
  have e : sxStep s a (ls.map Lv.pr) x.pr = .ok (a + 1, ls.map Lv.pr, x.pr) := by unfold sxStep; simp only [hk]
  rw [e]
  have hd := hi.deep
  rw [List.length_map] at hd
  have hx : x.l.length ≤ a := hi.fewL
  have hn : ls.length ≤ 1000 := by omega
  have hm : x.l.length ≤ 1000000 := by omega
  exact (blank_any B g gl cap s a ls x w h ha hs hB).mono fun _ _ h => h.model
theorem model_2 (h : RdAt B w g gl cap s a (ls ++ [x])) (hi : SxInv s a (ls.map Lv.pr) x.pr) (ha : a < s.size) (hs : s.size ≤ 65536) (hB : B ≤ w.heap.size) (hk : sxAt s a = 2) : Calls Try.prog 33 #[.pointer (some ⟨g, 0, none⟩)] w (RModel B w g s (sxStep s a (ls.map Lv.pr) x.pr)) := by
  have e : sxStep s a (ls.map Lv.pr) x.pr = .ok (a + sxLine (s.extract a s.size), ls.map Lv.pr, x.pr) := by unfold sxStep; simp only [hk]
  rw [e]
  have hd := hi.deep
  rw [List.length_map] at hd
  have hx : x.l.length ≤ a := hi.fewL
  have hn : ls.length ≤ 1000 := by omega
  have hm : x.l.length ≤ 1000000 := by omega
  exact (comment_any B g gl cap s a ls x w h ha hs).mono fun _ _ h => h.model
theorem model_3 (h : RdAt B w g gl cap s a (ls ++ [x])) (hi : SxInv s a (ls.map Lv.pr) x.pr) (ha : a < s.size) (hs : s.size ≤ 65536) (hB : B ≤ w.heap.size) (hk : sxAt s a = 3) : Calls Try.prog 34 #[.pointer (some ⟨g, 0, none⟩)] w (RModel B w g s (sxStep s a (ls.map Lv.pr) x.pr)) := by
  have e : sxStep s a (ls.map Lv.pr) x.pr = .ok (a + sxLead sxSign (s.extract a s.size), ls.map Lv.pr, sxPut x.pr (.mk 1 a ((s.extract a s.size).extract 0 (sxLead sxSign (s.extract a s.size))) [])) := by unfold sxStep; simp only [hk]
  rw [e]
  have hd := hi.deep
  rw [List.length_map] at hd
  have hx : x.l.length ≤ a := hi.fewL
  have hn : ls.length ≤ 1000 := by omega
  have hm : x.l.length ≤ 1000000 := by omega
  exact (symbol_any B g gl cap s a ls x w h ha hs hn hm hB).mono fun _ _ h => h.model
theorem model_4 (h : RdAt B w g gl cap s a (ls ++ [x])) (hi : SxInv s a (ls.map Lv.pr) x.pr) (ha : a < s.size) (hs : s.size ≤ 65536) (hB : B ≤ w.heap.size) (hk : sxAt s a = 4) : Calls Try.prog 35 #[.pointer (some ⟨g, 0, none⟩)] w (RModel B w g s (sxStep s a (ls.map Lv.pr) x.pr)) := by
  have e : sxStep s a (ls.map Lv.pr) x.pr = if sxNum ((s.extract a s.size).extract 0 (sxLead sxSign (s.extract a s.size))) then .ok (a + sxLead sxSign (s.extract a s.size), ls.map Lv.pr, sxPut x.pr (.mk 2 a ((s.extract a s.size).extract 0 (sxLead sxSign (s.extract a s.size))) [])) else .error (a, 2) := by unfold sxStep; simp only [hk]
  rw [e]
  have hd := hi.deep
  rw [List.length_map] at hd
  have hx : x.l.length ≤ a := hi.fewL
  have hn : ls.length ≤ 1000 := by omega
  have hm : x.l.length ≤ 1000000 := by omega
  have hnum := numeral_any B g gl cap s a ls x w h ha hs hn hm hB
  generalize sxNum ((s.extract a s.size).extract 0 (sxLead sxSign (s.extract a s.size))) = b at *
  cases b
  · refine hnum.mono fun _ _ h => ?_
    simp only [Bool.false_eq_true, if_false] at h ⊢
    exact h
  · refine hnum.mono fun _ _ h => ?_
    simp only [if_true] at h ⊢
    exact h.model
theorem model_5 (h : RdAt B w g gl cap s a (ls ++ [x])) (hi : SxInv s a (ls.map Lv.pr) x.pr) (ha : a < s.size) (hs : s.size ≤ 65536) (hB : B ≤ w.heap.size) (hk : sxAt s a = 5) : Calls Try.prog 36 #[.pointer (some ⟨g, 0, none⟩)] w (RModel B w g s (sxStep s a (ls.map Lv.pr) x.pr)) := by
  have e : sxStep s a (ls.map Lv.pr) x.pr = if sxLead sxQuo (s.extract (a + 1) s.size) = (s.extract (a + 1) s.size).size then .error (a, 3) else if sxHead (s.extract (a + 1) s.size) = 5 then .ok (a + (1 + sxLead sxQuo (s.extract (a + 1) s.size) + 1), ls.map Lv.pr, sxPut x.pr (.mk 1 a ((s.extract (a + 1) s.size).extract 0 (sxLead sxQuo (s.extract (a + 1) s.size))) [])) else .error (a + 1 + sxLead sxQuo (s.extract (a + 1) s.size), 2) := by unfold sxStep; simp only [hk]
  rw [e]
  have hd := hi.deep
  rw [List.length_map] at hd
  have hx : x.l.length ≤ a := hi.fewL
  have hn : ls.length ≤ 1000 := by omega
  have hm : x.l.length ≤ 1000000 := by omega
  by_cases hq : sxLead sxQuo (s.extract (a + 1) s.size) = (s.extract (a + 1) s.size).size
  · rw [if_pos hq]; exact quoted_open B g gl cap s a ls x w h ha hs hq hB
  · rw [if_neg hq]
    have hlt := Nat.lt_of_le_of_ne (sxLead_le sxQuo (s.extract (a + 1) s.size)) hq
    by_cases hc : sxHead (s.extract (a + 1) s.size) = 5
    · rw [if_pos hc]; exact (quoted_ok B g gl cap s a ls x w h ha hs hlt hc hn hm hB).mono fun _ _ h => h.model
    · rw [if_neg hc]; exact quoted_bad B g gl cap s a ls x w h ha hs hlt hc hB
theorem model_6 (h : RdAt B w g gl cap s a (ls ++ [x])) (hi : SxInv s a (ls.map Lv.pr) x.pr) (ha : a < s.size) (hs : s.size ≤ 65536) (hB : B ≤ w.heap.size) (hk : sxAt s a = 6) : Calls Try.prog 37 #[.pointer (some ⟨g, 0, none⟩)] w (RModel B w g s (sxStep s a (ls.map Lv.pr) x.pr)) := by
  have e : sxStep s a (ls.map Lv.pr) x.pr = if sxLead sxSign (s.extract (a + 1) s.size) = 0 then .error (a, 2) else .ok (a + (1 + sxLead sxSign (s.extract (a + 1) s.size)), ls.map Lv.pr, sxPut x.pr (.mk 3 a ((s.extract (a + 1) s.size).extract 0 (sxLead sxSign (s.extract (a + 1) s.size))) [])) := by unfold sxStep; simp only [hk]
  rw [e]
  have hd := hi.deep
  rw [List.length_map] at hd
  have hx : x.l.length ≤ a := hi.fewL
  have hn : ls.length ≤ 1000 := by omega
  have hm : x.l.length ≤ 1000000 := by omega
  refine (keyword_any B g gl cap s a ls x w h ha hs hn hm hB).mono fun _ _ h => ?_
  by_cases hc : sxLead sxSign (s.extract (a + 1) s.size) = 0
  · rw [if_pos hc] at h ⊢; exact h
  · rw [if_neg hc] at h ⊢; exact h.model
theorem model_7 (h : RdAt B w g gl cap s a (ls ++ [x])) (hi : SxInv s a (ls.map Lv.pr) x.pr) (ha : a < s.size) (hs : s.size ≤ 65536) (hB : B ≤ w.heap.size) (hk : sxAt s a = 7) : Calls Try.prog 38 #[.pointer (some ⟨g, 0, none⟩)] w (RModel B w g s (sxStep s a (ls.map Lv.pr) x.pr)) := by
  have e : sxStep s a (ls.map Lv.pr) x.pr = if (ls.map Lv.pr).length = 64 then .error (a, 5) else .ok (a + 1, ls.map Lv.pr ++ [x.pr], (a, [])) := by unfold sxStep; simp only [hk]
  rw [e]
  have hd := hi.deep
  rw [List.length_map] at hd
  have hx : x.l.length ≤ a := hi.fewL
  have hn : ls.length ≤ 1000 := by omega
  have hm : x.l.length ≤ 1000000 := by omega
  by_cases hc : (ls.map Lv.pr).length = 64
  · rw [if_pos hc]; exact listBegin_deep B g gl cap s a ls x w h ha hs (by simpa using hc)
  · rw [if_neg hc]
    refine (listBegin_ok B g gl cap s a ls x w h ha hs (by simp at hc; omega) hB).mono fun _ _ h => ?_
    obtain ⟨h1, gl', cap', h2, h3⟩ := h
    exact ⟨h1, gl', cap', ls ++ [x], _, h2, by simp, rfl, h3⟩
theorem model_8 (h : RdAt B w g gl cap s a (ls ++ [x])) (hi : SxInv s a (ls.map Lv.pr) x.pr) (ha : a < s.size) (hs : s.size ≤ 65536) (hB : B ≤ w.heap.size) (hk : 8 ≤ sxAt s a) : Calls Try.prog 39 #[.pointer (some ⟨g, 0, none⟩)] w (RModel B w g s (sxStep s a (ls.map Lv.pr) x.pr)) := by
  have e : sxStep s a (ls.map Lv.pr) x.pr = match (ls.map Lv.pr).getLast? with
    | none => .error (a, 4)
    | some y => .ok (a + 1, (ls.map Lv.pr).dropLast, sxPut y (.mk 4 x.at_ ⟨#[]⟩ x.l)) := by
    unfold sxStep
    generalize sxAt s a = k at hk
    match k, hk with
    | k + 8, _ => rfl
  rw [e]
  have hd := hi.deep
  rw [List.length_map] at hd
  rcases List.eq_nil_or_concat ls with rfl | ⟨l0, y, rfl⟩
  · exact listEnd_none B g gl cap s a x w h
  · rw [List.concat_eq_append] at h hd hi ⊢
    have hy := hi.few y.pr (by simp)
    have hyl : y.l.length ≤ a := hy
    refine (listEnd_ok B g gl cap s a l0 y x w h ha hs (by simp at hd; omega) (by omega) hB).mono fun _ _ h => ?_
    have h2 := h.model
    simpa [List.getLast?_append] using h2
end
end Go.Proofs.Ytcpkejonpnmljaa
/- The rule of Facts, where what comes last waits over longer chains. -/
namespace Go.Proofs.Ytcpkejonpnmljaa
open Go.RowKit

def storesWait12 (md : Region.Mode) (ops : Array Oper) (n : Nat) : Bool := (List.range ops.size).all fun i => decide (i < n) || (List.range n).all fun j => reach md ops 12 i j
theorem wpAny_facts12 {P : Program} {ops : Array Oper} {Q : Exit → Act → World → Prop} {a0 : Act} {w0 : World} (n s : Nat) (hsize : ops.size = n + s) (ds : List Tmp) (f : Nat → SFact) (al : List Nat)
    (hd : edgesDown .any ops = true) (hsw : storesWait12 .any ops n = true) (hdn : ds.Nodup) (hlen : ds.length = n) (hds : dstsAre ops n ds = true)
    (hal : ∀ i ∈ al, ∀ v w, (f i).P v w → ∃ g, v = .pointer (some ⟨g, 0, none⟩) ∧ g < w.heap.size)
    (hstep : ∀ i o, i < n → ops[i]? = some o → ∀ vs w, vs.length = n → Below w0.heap.size w0 w → (∀ e ∈ o.after, Region.binds .any e = true → (f e.on).P (vs.getD e.on undef) w) →
      ∀ K : Act → World → Prop, Shut (∀ v w', (f i).P v w' → Below w.heap.size w w' → (i ∈ al → v = .pointer (some ⟨w.heap.size, 0, none⟩)) → K ((putAll a0 ds vs).put o.dst v) w') →
        if Region.wanted o (yielded ops (putAll a0 ds vs).tmps) = true then Oper.wp P o (putAll a0 ds vs) w K Q else K ((putAll a0 ds vs).put o.dst undef) w)
    (hend : ∀ vs w, vs.length = n → Below w0.heap.size w0 w → (∀ i, i < n → (f i).P (vs.getD i undef) w) → (∀ i ∈ al, ∀ j ∈ al, i ≠ j → vs.getD i undef ≠ vs.getD j undef) →
      wpAny P .any ops Q s ((List.replicate n true ++ List.replicate s false).toArray) (putAll a0 ds vs) w) :
    ∀ (c : Nat) (L : Array Bool) (vs : List Value) (w : World), (L.toList.take n).count false = c → L.size = n + s → (∀ j, n ≤ j → j < n + s → L.getD j true = false) → Closed .any ops L → vs.length = n → Below w0.heap.size w0 w →
      (∀ i, i < n → L.getD i false = true → (f i).P (vs.getD i undef) w) → (∀ i ∈ al, ∀ j ∈ al, i < n → j < n → i ≠ j → L.getD i false = true → L.getD j false = true → vs.getD i undef ≠ vs.getD j undef) →
      (∀ i ∈ al, i < n) → wpAny P .any ops Q (c + s) L (putAll a0 ds vs) w := by
  intro c
  induction c with
  | zero =>
    intro L vs w hc hs hst hcl hvl hb hf hdist haln
    have hall : ∀ i, i < n → L.getD i false = true := fun i hi => by
      have hil : i < L.size := by omega
      cases hb : L[i] with
      | true => simp [Array.getD, hil, hb]
      | false =>
        exfalso
        have hmem : false ∈ L.toList.take n := by
          rw [List.mem_take_iff_getElem]
          exact ⟨i, by simp; omega, by simpa using hb⟩
        have := List.count_pos_iff.2 hmem
        omega
    have hL : L = (List.replicate n true ++ List.replicate s false).toArray := by
      apply Array.ext
      · simp [hs]
      · intro i hi hi2
        by_cases h : i < n
        · have := hall i h
          simp only [Array.getD, hi] at this
          simp [h]
          simpa using this
        · have := hst i (by omega) (by omega)
          simp only [Array.getD, hi] at this
          simp [List.getElem_append, h]
          simpa using this
    rw [Nat.zero_add, hL]
    exact hend vs w hvl hb (fun i hi => hf i hi (hall i hi)) (fun i hi j hj hne => hdist i hi j hj (haln i hi) (haln j hj) hne (hall i (haln i hi)) (hall j (haln j hj)))
  | succ c ih =>
    intro L vs w hc hs hst hcl hvl hb hf hdist haln
    have hnot : ¬ ∀ i, i < n → L.getD i false = true := fun hall => by
      have : (L.toList.take n).count false = 0 := by
        rw [List.count_eq_zero]
        intro hmem
        rw [List.mem_take_iff_getElem] at hmem
        obtain ⟨i, hi, hif⟩ := hmem
        have hi' : i < L.size := by simp at hi; omega
        have := hall i (by simp at hi; omega)
        have h2 : L.getD i false = L[i] := by simp [Array.getD, hi']
        rw [h2] at this
        rw [Array.getElem_toList] at hif
        rw [hif] at this
        cases this
      omega
    rw [show c + 1 + s = (c + s) + 1 by omega]
    refine ⟨fun hr => ?_, fun i hi => ?_⟩
    · exfalso
      apply hnot
      intro i hi
      have := all_listed hd (by rw [hs, hsize]) hr i (by omega)
      have hil : i < L.size := by omega
      simpa [Array.getD, hil] using this
    · obtain ⟨hun, o, ho, hall⟩ := mem_ready.1 hi
      have hio : i < ops.size := (Array.getElem?_eq_some_iff.1 ho).1
      have hil : i < L.size := by omega
      have hin : i < n := by
        rcases Nat.lt_or_ge i n with h | h
        · exact h
        · exfalso
          apply hnot
          intro j hj
          have h1 := List.all_eq_true.1 hsw i (by simpa using hio)
          simp only [Bool.or_eq_true, decide_eq_true_eq] at h1
          rcases h1 with h1 | h1
          · omega
          · exact reach_listed hcl 12 i o j ho hall (List.all_eq_true.1 h1 j (by simpa using hj))
      have hdst : o.dst = ds[i]? := by
        have h1 := List.all_eq_true.1 hds i (by simpa using hin)
        rw [ho] at h1
        simpa using h1
      have hdi : ds[i]? = some (ds[i]'(by omega)) := by simp
      refine wpOp_step ho (fun K hK => hstep i o hin ho vs w hvl hb (fun e he hbd => ?_) K (fun v w' hv hb' hp => ?_))
      · have hl := hall e he hbd
        have hlt : e.on < n := by
          rcases Nat.lt_or_ge e.on n with h | h
          · exact h
          · exfalso
            rcases Nat.lt_or_ge e.on (n + s) with h2 | h2
            · have := hst e.on h h2
              have hl2 : e.on < L.size := by omega
              simp only [Array.getD, hl2] at this hl
              simp at this hl
              rw [this] at hl; cases hl
            · have : ¬ e.on < L.size := by omega
              simp [Array.getD, this] at hl
        exact hf e.on hlt hl
      · apply hK
        rw [hdst, hdi, putAll_set hdn hdi (by omega)]
        have hset : ∀ j, i ≠ j → (L.setIfInBounds i true).getD j false = L.getD j false := fun j h => getD_set_ne false h
        refine ih (L.setIfInBounds i true) (vs.set i v) w' ?_ (by simpa using hs) ?_ ?_ (by simpa using hvl) (hb.trans (hb'.mono hb.size)) ?_ ?_ haln
        · have hf' : (L.toList.take n)[i]'(by simp; omega) = false := by
            simp only [List.getElem_take]
            simpa [Array.getD, hil] using hun
          have := count_false_set (L.toList.take n) i (by simp; omega) hf'
          rw [Array.toList_setIfInBounds, ← List.take_set] at *
          omega
        · intro j hj hj2
          rw [getD_set_ne true (by omega)]
          exact hst j hj hj2
        · intro j o' hjo hjl e he hbd
          by_cases hji : i = j
          · subst hji
            rw [ho] at hjo
            cases hjo
            exact getD_set_true (hall e he hbd)
          · rw [hset j hji] at hjl
            exact getD_set_true (hcl j o' hjo hjl e he hbd)
        · intro j hj hjl
          by_cases hji : i = j
          · subst hji
            rw [getD_set_list_self (by omega)]
            exact hv
          · rw [hset j hji] at hjl
            rw [getD_set_list hji]
            exact (f j).st _ _ _ (hf j hj hjl) hb'
        · intro j hj k hk hjn hkn hjk hjl hkl
          have old : ∀ x, x ∈ al → x < n → i ≠ x → (L.setIfInBounds i true).getD x false = true → vs.getD x undef ≠ .pointer (some ⟨w.heap.size, 0, none⟩) := fun x hx hxn hix hxl => by
            rw [hset x hix] at hxl
            obtain ⟨g, hg, hgl⟩ := hal x hx _ _ (hf x hxn hxl)
            rw [hg]
            intro e
            injection e with e
            injection e with e
            injection e with e
            omega
          by_cases hji : i = j
          · subst hji
            rw [getD_set_list_self (by omega), getD_set_list hjk, hp hj]
            exact (old k hk hkn hjk hkl).symm
          · by_cases hki : i = k
            · subst hki
              rw [getD_set_list_self (by omega), getD_set_list hji, hp hk]
              exact old j hj hjn hji hjl
            · rw [getD_set_list hji, getD_set_list hki]
              rw [hset j hji] at hjl
              rw [hset k hki] at hkl
              exact hdist j hj k hk hjn hkn hjk hjl hkl

theorem wp_region_facts12 {P : Program} {ops : Array Oper} {Q : Exit → Act → World → Prop} {id : Nat} {a0 : Act} {w0 : World} (n s : Nat) (ds : List Tmp) (vs0 : List Value) (f : Nat → SFact) (al : List Nat) (hm : P.follows .mixedOrders = true)
    (hsize : ops.size = n + s) (hd : edgesDown .any ops = true) (hsw : storesWait12 .any ops n = true) (hdn : ds.Nodup) (hlen : ds.length = n) (hds : dstsAre ops n ds = true) (hv0 : vs0.length = n) (haln : ∀ i ∈ al, i < n)
    (he : a0 = putAll a0 ds vs0) (hal : ∀ i ∈ al, ∀ v w, (f i).P v w → ∃ g, v = .pointer (some ⟨g, 0, none⟩) ∧ g < w.heap.size)
    (hstep : ∀ i o, i < n → ops[i]? = some o → ∀ vs w, vs.length = n → Below w0.heap.size w0 w → (∀ e ∈ o.after, Region.binds .any e = true → (f e.on).P (vs.getD e.on undef) w) →
      ∀ K : Act → World → Prop, Shut (∀ v w', (f i).P v w' → Below w.heap.size w w' → (i ∈ al → v = .pointer (some ⟨w.heap.size, 0, none⟩)) → K ((putAll a0 ds vs).put o.dst v) w') →
        if Region.wanted o (yielded ops (putAll a0 ds vs).tmps) = true then Oper.wp P o (putAll a0 ds vs) w K Q else K ((putAll a0 ds vs).put o.dst undef) w)
    (hend : ∀ vs w, vs.length = n → Below w0.heap.size w0 w → (∀ i, i < n → (f i).P (vs.getD i undef) w) → (∀ i ∈ al, ∀ j ∈ al, i ≠ j → vs.getD i undef ≠ vs.getD j undef) →
      wpAny P .any ops Q s ((List.replicate n true ++ List.replicate s false).toArray) (putAll a0 ds vs) w) : (Code.region id ops true).wp P Q a0 w0 := by
  refine wp_region_any hm ?_
  have := wpAny_facts12 (a0 := a0) (w0 := w0) n s hsize ds f al hd hsw hdn hlen hds hal hstep hend n (Array.replicate ops.size false) vs0 w0.drew
    (by rw [hsize]; simp [List.take_replicate, Nat.min_eq_left (Nat.le_add_right n s)]) (by simp [hsize]) (by intro j hj hj2; simp [Array.getD, hsize, hj2]) (by intro j o _ h; simp [Array.getD] at h) hv0 ((Below.refl _ _).drew)
    (by intro i _ h; simp [Array.getD] at h) (by intro i _ j _ _ _ _ h; simp [Array.getD] at h) haln
  rw [← he, ← hsize] at this
  exact this
end Go.Proofs.Ytcpkejonpnmljaa
