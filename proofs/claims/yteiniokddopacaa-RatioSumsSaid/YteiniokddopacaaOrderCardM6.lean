/- Texts put together: RefDiv, RefGcd, Rat, RatLow. -/
import Derived.Test.YteiniokddopacaaOrderCardM5
import Derived.Deep.DeepCutAuto
/- elenchusref01.Div. -/
namespace Go.Proofs.Yteiniokddopacaa
open Go.RowKit Big

def eqF (v0 : Value) : SFact := ⟨fun v _ => v = v0, fun _ _ _ h _ => h⟩
def atF (l : List Nat) : SFact := ⟨fun v w => At w .u64 v l, fun _ _ _ h hb => h.below hb⟩
def intF (z : Int) : SFact := ⟨fun v w => ∃ d p n c, v = .agg #[.bool d, .slice p n c] ∧ IntAt w v z, fun _ _ _ ⟨d, p, n, c, h1, h2⟩ hb => ⟨d, p, n, c, h1, h2.below hb⟩⟩
def varF (B : Nat) : SFact := ⟨fun v w => VarAt w B v, fun _ _ _ h hb => h.below hb⟩
theorem len15 {vs : List Value} (h : vs.length = 15) : ∃ a b c d e f g h i j k l m n o, vs = [a, b, c, d, e, f, g, h, i, j, k, l, m, n, o] := by
  match vs, h with
  | [a, b, c, d, e, f, g, h, i, j, k, l, m, n, o], _ => exact ⟨a, b, c, d, e, f, g, h, i, j, k, l, m, n, o, rfl⟩
theorem len5 {vs : List Value} (h : vs.length = 5) : ∃ a b c d e, vs = [a, b, c, d, e] := by
  match vs, h with
  | [a, b, c, d, e], _ => exact ⟨a, b, c, d, e, rfl⟩
theorem len3 {vs : List Value} (h : vs.length = 3) : ∃ a b c, vs = [a, b, c] := by
  match vs, h with
  | [a, b, c], _ => exact ⟨a, b, c, rfl⟩
/-- block g is a variable that holds this whole number -/
def IntCell (w : World) (g : Nat) (z : Int) : Prop := ∃ d p n c, w.heap[g]? = some (.cells #[.bool d, .slice p n c] 25 (0, 0)) ∧ IntAt w (.agg #[.bool d, .slice p n c]) z
theorem IntCell.pair {w : World} {g : Nat} {z : Int} (h : IntCell w g z) : Pair w g 25 := by
  obtain ⟨d, p, n, c, h, -⟩ := h
  exact ⟨d, p, n, c, h⟩
theorem IntCell.below {w w' : World} {g : Nat} {z : Int} (h : IntCell w g z) (hb : Below w.heap.size w w') : IntCell w' g z := by
  obtain ⟨d, p, n, c, h, hi⟩ := h
  exact ⟨d, p, n, c, (hb.block g (Array.getElem?_eq_some_iff.1 h).1).trans h, hi.below hb⟩
theorem IntCell.put {w : World} {g : Nat} {z : Int} {d : Bool} {p : Option Addr} {n c : Nat} (hp : Pair w g 25) (hi : IntAt w (.agg #[.bool d, .slice p n c]) z) :
    IntCell ((w.setCell ⟨g, 0, none⟩ (.bool d)).setCell ⟨g, 1, none⟩ (.slice p n c)) g z := ⟨d, p, n, c, hp.put .., hi.stored hp ..⟩
theorem IntCell.apart {w : World} {g g' : Nat} {z : Int} (h : IntCell w g z) (hp : Pair w g' 25) (hne : g ≠ g') (d : Bool) (p : Option Addr) (n c : Nat) :
    IntCell ((w.setCell ⟨g', 0, none⟩ (.bool d)).setCell ⟨g', 1, none⟩ (.slice p n c)) g z := by
  obtain ⟨d', p', n', c', h, hi⟩ := h
  exact ⟨d', p', n', c', ((Below.heap_setCell _ _ _ _ hne).trans (Below.heap_setCell _ _ _ _ hne)).trans h, hi.stored hp ..⟩
def RDivR (q r : Int) (w : World) (e : Ending) (w' : World) : Prop := ∃ v v', e = .returned (.tuple #[v, v']) ∧ IntAt w' v q ∧ IntAt w' v' r ∧ Below w.heap.size w w'

set_option maxRecDepth 100000 in
set_option maxHeartbeats 6400000 in
theorem RDiv_any (v0 v1 : Value) (a b : Int) (w : World) (h0 : RawAt w v0 a) (h1 : RawAt w v1 b) (hb0 : b ≠ 0) (ha : sz W a.natAbs ≤ 549755813888) (hbs : sz W b.natAbs ≤ 549755813888) :
    Calls Try.prog 43 #[v0, v1] w (RDivR (a / b) (a % b) w) := by
  obtain ⟨n0, s0, l0, rfl, a0, b0, c0, rfl⟩ := h0
  obtain ⟨n1, s1, l1, rfl, a1, b1, c1, rfl⟩ := h1
  rw [sg_natAbs] at ha hbs
  have g0 : ∀ W', Below w.heap.size w W' → Calls Try.prog 61 #[s0] W' (RAt .i64 (dig D (val W l0)) W') := fun W' hb => Digits_any s0 l0 W' (a0.below hb) b0 (by omega)
  have g1 : ∀ W', Below w.heap.size w W' → Calls Try.prog 61 #[s1] W' (RAt .i64 (dig D (val W l1)) W') := fun W' hb => Digits_any s1 l1 W' (a1.below hb) b1 (by omega)
  have hwb : ∀ W', Below w.heap.size w W' → Calls Try.prog 40 #[.bool false, s1] W' (RInt (val W l1 : Nat) W') := fun W' hb => by
    have := Whole_any false s1 l1 W' (a1.below hb) b1 (by omega)
    simpa [sg] using this
  have hy : 0 < val W l1 := Nat.pos_of_ne_zero fun e => hb0 (by rw [e, sg_zero])
  obtain ⟨x, hx⟩ : ∃ x, x = val W l0 := ⟨_, rfl⟩
  obtain ⟨y, hyv⟩ : ∃ y, y = val W l1 := ⟨_, rfl⟩
  rw [← hx] at g0 ha ⊢
  rw [← hyv] at g1 hwb hy hbs ⊢
  have d0 : sz D x ≤ 2199023255552 := Nat.le_trans (sz_D_W x) (by omega)
  have d1 : sz D y ≤ 2199023255552 := Nat.le_trans (sz_D_W y) (by omega)
  have dq : sz D (x / y) ≤ 2199023255552 := Nat.le_trans (sz_mono D2 (Nat.div_le_self x y)) d0
  have dr : sz D (x % y) ≤ 2199023255552 := Nat.le_trans (sz_mono D2 (Nat.mod_le x y)) d0
  have wq : sz W (x / y) ≤ 549755813888 := Nat.le_trans (sz_mono W2 (Nat.div_le_self x y)) ha
  have wr' : sz W (x % y) ≤ 549755813888 := Nat.le_trans (sz_mono W2 (Nat.mod_le x y)) ha
  have hpt : ∀ W' u u', At W' .i64 u (dig D x) → At W' .i64 u' (dig D y) → Calls Try.prog 62 #[u, u'] W' (RParts (x / y) (x % y) W') := fun W' u u' hu hu' => by
    have := rparts_any u u' _ y W' hu hu' (small_dig D2 x) hy (by show sz D x ≤ _; omega) d1
    rwa [val_dig D2] at this
  have hfr : ∀ n, sz D n ≤ 2199023255552 → ∀ W' u, At W' .i64 u (dig D n) → Calls Try.prog 60 #[u] W' (RAt .u64 (dig W n) W') := fun n hn W' u hu => by
    have := From_any u _ W' hu (small_dig D2 n) (by show sz D n ≤ _; omega)
    rwa [val_dig D2] at this
  have hwh : ∀ (neg : Bool) n, sz W n ≤ 549755813888 → ∀ W' u, At W' .u64 u (dig W n) → Calls Try.prog 40 #[.bool neg, u] W' (RInt (sg neg n) W') := fun neg n hn W' u hu => by
    have := Whole_any neg u _ W' hu (small_dig W2 n) (by show sz W n ≤ _; omega)
    rwa [val_dig W2] at this
  have Fq := hid (hfr _ dq); have Fr := hid (hfr _ dr); have Wq := hid (hwh (n0 != n1) _ wq); have Wr := hid (hwh n0 _ wr'); have G0 := hid g0; have G1 := hid g1; have HP := hid hpt; have HWB := hid hwb
  clear g0 g1 hwb hpt hfr hwh dq dr d0 d1 hx hyv a0 a1 b0 b1 c0 c1
  obtain ⟨Q, hQ⟩ : ∃ Q, Q = sg n0 x / sg n1 y := ⟨_, rfl⟩
  obtain ⟨R, hR⟩ : ∃ R, R = sg n0 x % sg n1 y := ⟨_, rfl⟩
  rw [← hQ, ← hR]
  have HQ := hid hQ; have HR := hid hR
  clear hQ hR hb0
  go_enter Try.func43, Try.ntmps43
  go_wp2_with fail
  generalize hW : World.alloc (World.alloc (World.alloc (World.alloc w _) _) _) _ = W3
  have bw : Below w.heap.size w W3 := by rw [← hW]; exact (((below1 _ _).alloc (by simp) _).alloc (by simp; omega) _).alloc (by simp; omega) _
  have hp : Pair W3 (w.heap.size + 1 + 1) 25 := by rw [← hW]; exact Pair.below (Pair.new2 ..) (below1 _ _)
  have hp' : Pair W3 (w.heap.size + 1 + 1 + 1) 25 := by rw [← hW]; exact Pair.new3 ..
  have tw : Two W3 w.heap.size (.bool n0) s0 (.bool n1) s1 := by rw [← hW]; exact (Two.new w _ _ _ _ _).below ((below1 _ _).alloc (by simp) _)
  have z3 : w.heap.size + 4 ≤ W3.heap.size := by rw [← hW]; simp
  have bw' := hid bw
  have HT := hid tw; have Hp := hid hp; have Hp' := hid hp'
  clear hW bw tw hp hp'
  have HS : Hid (∀ w', Below W3.heap.size W3 w' → w'.cell? ⟨w.heap.size, 0, none⟩ = some (.bool n0) ∧ w'.cell? ⟨w.heap.size, 1, none⟩ = some s0 ∧ w'.cell? ⟨w.heap.size + 1, 0, none⟩ = some (.bool n1) ∧ w'.cell? ⟨w.heap.size + 1, 1, none⟩ = some s1 ∧ Below W3.heap.size W3 w') := by
    intro w' hb
    have ht := HT.out.below hb
    exact ⟨ht.c00, ht.c01, ht.c10, ht.c11, hb⟩
  have HBW : Hid (∀ w', Below W3.heap.size W3 w' → Below w.heap.size w w') := fun w' hb => bw'.out.trans (hb.mono (by omega))
  go_region_held3 (fun w' => w'.cell? ⟨w.heap.size, 0, none⟩ = some (.bool n0) ∧ w'.cell? ⟨w.heap.size, 1, none⟩ = some s0 ∧ w'.cell? ⟨w.heap.size + 1, 0, none⟩ = some (.bool n1) ∧ w'.cell? ⟨w.heap.size + 1, 1, none⟩ = some s1 ∧ Below W3.heap.size W3 w')
    (first | exact HS.out _ (Below.drew (Below.refl _ _)) | (refine HS.out _ (Below.go hb ?_); go_split_ands; assumption))
    (first
      | (go_at_call_of 61 (s0); (fail_if_success have _t := i1); refine (G0.out _ (HBW.out _ (by go_split_ands; assumption))).mono ?_; rintro e w1 ⟨v1, rfl, i1, hb⟩)
      | (go_at_call_of 61 (s1); refine (G1.out _ (HBW.out _ (by go_split_ands; assumption))).mono ?_; rintro e w2 ⟨v2, rfl, i2, hb⟩; have i1' := i1.below hb; clear i1)
      | (go_at_call 62; refine (HP.out _ _ _ i1' i2).mono ?_; rintro e w3 ⟨v3, v4, rfl, i3, i4, hb⟩; clear i1' i2))
  rename_i hHeld
  go_split_ands
  have HB3 := hid (show Below W3.heap.size W3 w3 by assumption)
  have I3 := hid i3; have I4 := hid i4
  clear i3 i4
  go_upto_region 2 with fail
  have hB3 : W3.heap.size ≤ w3.heap.size := HB3.out.size
  go_cut [8, 9] (fun s8 s9 wx => ∃ g8 g9, s8 = .pointer (some ⟨g8, 0, none⟩) ∧ s9 = .pointer (some ⟨g9, 0, none⟩) ∧ g8 ≠ g9 ∧ w3.heap.size ≤ g8 ∧ w3.heap.size ≤ g9 ∧ IntCell wx g8 (sg (n0 != n1) (x / y)) ∧ IntCell wx g9 (sg n0 (x % y)) ∧ Below w3.heap.size w3 wx)
  case first =>
    rename_i Jc Kc hJc hKc
    refine wp_region_facts (w0 := w3) 15 2 [20, 21, 22, 23, 24, 25, 26, 27, 28, 29, 30, 31, 32, 8, 9] [undef, undef, undef, undef, undef, undef, undef, undef, undef, undef, undef, undef, undef, undef, undef]
      (fun i => match i with
        | 0 => eqF (.pointer (some ⟨w.heap.size, 0, none⟩)) | 1 => eqF (.bool n0) | 2 => eqF (.pointer (some ⟨w.heap.size + 1, 0, none⟩)) | 3 => eqF (.bool n1) | 4 => eqF (.bool (n0 != n1)) | 5 => eqF v3
        | 6 => atF (dig W (x / y)) | 7 => intF (sg (n0 != n1) (x / y)) | 8 => eqF (.pointer (some ⟨w.heap.size, 0, none⟩)) | 9 => eqF (.bool n0) | 10 => eqF v4 | 11 => atF (dig W (x % y)) | 12 => intF (sg n0 (x % y))
        | 13 => varF w3.heap.size | _ => varF w3.heap.size) [13, 14] (by kernel_rfl) (by kernel_rfl) (by kernel_rfl) (by kernel_rfl) (by decide) rfl (by kernel_rfl) rfl (by simp) ?he ?_ ?_ ?_
    case he => simp only [putAll, Act.put, List.setIfInBounds_toArray, List.set_cons_zero, List.set_cons_succ]
    · intro i hi v w' h
      simp only [List.mem_cons, List.not_mem_nil, or_false] at hi
      rcases hi with rfl | rfl
      · obtain ⟨g, hg, hp, -⟩ := (show VarAt w' w3.heap.size v from h); exact ⟨g, hg, hp.lt⟩
      · obtain ⟨g, hg, hp, -⟩ := (show VarAt w' w3.heap.size v from h); exact ⟨g, hg, hp.lt⟩
    · intro i o hi ho vs wx hvl hb hdep K hK
      have hvs := len15 hvl
      obtain ⟨s20, s21, s22, s23, s24, s25, s26, s27, s28, s29, s30, s31, s32, s8, s9, rfl⟩ := hvs
      have hk := HS.out wx (Below.go hb HB3.out)
      clear hvl
      go_split_ands
      rcases i with _ | _ | _ | _ | _ | _ | _ | _ | _ | _ | _ | _ | _ | _ | _ | i
      all_goals (simp only [List.getElem?_toArray, List.getElem?_cons_zero, List.getElem?_cons_succ, Option.some.injEq] at ho)
      all_goals try (subst ho)
      all_goals try simp only [putAll, Act.put, List.setIfInBounds_toArray, List.set_cons_zero, List.set_cons_succ]
      · go_simp
        have hK' := hK.out
        simp only [putAll, Act.put, List.setIfInBounds_toArray, List.set_cons_zero, List.set_cons_succ] at hK'
        exact hK' _ _ rfl (Below.refl _ _) (by simp)
      · have d0 : s20 = _ := hdep ⟨0, .data⟩ (by simp) rfl
        subst d0
        go_simp
        have hK' := hK.out
        simp only [putAll, Act.put, List.setIfInBounds_toArray, List.set_cons_zero, List.set_cons_succ] at hK'
        exact hK' _ _ rfl (Below.refl _ _) (by simp)
      · go_simp
        have hK' := hK.out
        simp only [putAll, Act.put, List.setIfInBounds_toArray, List.set_cons_zero, List.set_cons_succ] at hK'
        exact hK' _ _ rfl (Below.refl _ _) (by simp)
      · have d2 : s22 = _ := hdep ⟨2, .data⟩ (by simp) rfl
        subst d2
        go_simp
        have hK' := hK.out
        simp only [putAll, Act.put, List.setIfInBounds_toArray, List.set_cons_zero, List.set_cons_succ] at hK'
        exact hK' _ _ rfl (Below.refl _ _) (by simp)
      · have d1 : s21 = _ := hdep ⟨1, .data⟩ (by simp) rfl
        subst d1
        have d3 : s23 = _ := hdep ⟨3, .data⟩ (by simp) rfl
        subst d3
        go_simp
        have hK' := hK.out
        simp only [putAll, Act.put, List.setIfInBounds_toArray, List.set_cons_zero, List.set_cons_succ] at hK'
        exact hK' _ _ rfl (Below.refl _ _) (by simp)
      · go_simp
        have hK' := hK.out
        simp only [putAll, Act.put, List.setIfInBounds_toArray, List.set_cons_zero, List.set_cons_succ] at hK'
        exact hK' _ _ rfl (Below.refl _ _) (by simp)
      · have d5 : s25 = _ := hdep ⟨5, .data⟩ (by simp) rfl
        subst d5
        go_simp
        refine (Fq.out _ _ (I3.out.below hb)).mono ?_
        rintro e wy ⟨vy, rfl, iy, hby⟩
        go_wp2_with fail
        have hK' := hK.out
        simp only [putAll, Act.put, List.setIfInBounds_toArray, List.set_cons_zero, List.set_cons_succ] at hK'
        exact hK' _ _ iy hby (by simp)
      · have d4 : s24 = _ := hdep ⟨4, .data⟩ (by simp) rfl
        subst d4
        have d6 : At wx .u64 s26 _ := hdep ⟨6, .data⟩ (by simp) rfl
        go_simp
        refine (Wq.out _ _ d6).mono ?_
        rintro e wy ⟨vy, rfl, iy, hby⟩
        have hsh := iy.shape
        obtain ⟨p5, n5, c5, rfl, iy⟩ := hsh
        go_wp2_with fail
        have hK' := hK.out
        simp only [putAll, Act.put, List.setIfInBounds_toArray, List.set_cons_zero, List.set_cons_succ] at hK'
        exact hK' _ _ ⟨_, _, _, _, rfl, iy⟩ hby (by simp)
      · go_simp
        have hK' := hK.out
        simp only [putAll, Act.put, List.setIfInBounds_toArray, List.set_cons_zero, List.set_cons_succ] at hK'
        exact hK' _ _ rfl (Below.refl _ _) (by simp)
      · have d8 : s28 = _ := hdep ⟨8, .data⟩ (by simp) rfl
        subst d8
        go_simp
        have hK' := hK.out
        simp only [putAll, Act.put, List.setIfInBounds_toArray, List.set_cons_zero, List.set_cons_succ] at hK'
        exact hK' _ _ rfl (Below.refl _ _) (by simp)
      · go_simp
        have hK' := hK.out
        simp only [putAll, Act.put, List.setIfInBounds_toArray, List.set_cons_zero, List.set_cons_succ] at hK'
        exact hK' _ _ rfl (Below.refl _ _) (by simp)
      · have d10 : s30 = _ := hdep ⟨10, .data⟩ (by simp) rfl
        subst d10
        go_simp
        refine (Fr.out _ _ (I4.out.below hb)).mono ?_
        rintro e wy ⟨vy, rfl, iy, hby⟩
        go_wp2_with fail
        have hK' := hK.out
        simp only [putAll, Act.put, List.setIfInBounds_toArray, List.set_cons_zero, List.set_cons_succ] at hK'
        exact hK' _ _ iy hby (by simp)
      · have d9 : s29 = _ := hdep ⟨9, .data⟩ (by simp) rfl
        subst d9
        have d11 : At wx .u64 s31 _ := hdep ⟨11, .data⟩ (by simp) rfl
        go_simp
        refine (Wr.out _ _ d11).mono ?_
        rintro e wy ⟨vy, rfl, iy, hby⟩
        have hsh := iy.shape
        obtain ⟨p5, n5, c5, rfl, iy⟩ := hsh
        go_wp2_with fail
        have hK' := hK.out
        simp only [putAll, Act.put, List.setIfInBounds_toArray, List.set_cons_zero, List.set_cons_succ] at hK'
        exact hK' _ _ ⟨_, _, _, _, rfl, iy⟩ hby (by simp)
      · go_simp
        have hK' := hK.out
        simp only [putAll, Act.put, List.setIfInBounds_toArray, List.set_cons_zero, List.set_cons_succ] at hK'
        exact hK' _ _ ⟨_, rfl, Pair.new .., hb.size⟩ (below1 _ _) (fun _ => rfl)
      · go_simp
        have hK' := hK.out
        simp only [putAll, Act.put, List.setIfInBounds_toArray, List.set_cons_zero, List.set_cons_succ] at hK'
        exact hK' _ _ ⟨_, rfl, Pair.new .., hb.size⟩ (below1 _ _) (fun _ => rfl)
      · omega
    · intro vs wx hvl hb hf hdist
      have hvs := len15 hvl
      obtain ⟨s20, s21, s22, s23, s24, s25, s26, s27, s28, s29, s30, s31, s32, s8, s9, rfl⟩ := hvs
      have f7 : (intF (sg (n0 != n1) (x / y))).P s27 wx := hf 7 (by decide)
      have f12 : (intF (sg n0 (x % y))).P s32 wx := hf 12 (by decide)
      have f13 : VarAt wx w3.heap.size s8 := hf 13 (by decide)
      have f14 : VarAt wx w3.heap.size s9 := hf 14 (by decide)
      have hne : s8 ≠ s9 := hdist 13 (by simp) 14 (by simp) (by decide)
      obtain ⟨d7, p7, m7, c7, rfl, i7⟩ := f7
      obtain ⟨d12, p12, m12, c12, rfl, i12⟩ := f12
      obtain ⟨g8, rfl, hp8, hB8⟩ := f13
      obtain ⟨g9, rfl, hp9, hB9⟩ := f14
      have hgne : g8 ≠ g9 := fun e => hne (by rw [e])
      have c8 := hp8.cells
      obtain ⟨_, _, q0, q1, q2, q3⟩ := c8
      clear hf hdist hvl hne
      refine wpAny_one (i := 15) (by kernel_rfl) rfl ?_
      intro K hK
      simp only [putAll, Act.put, List.setIfInBounds_toArray, List.set_cons_zero, List.set_cons_succ]
      go_simp
      have hK' := hK.out
      apply hK'
      clear hK hK'
      have x8 := IntCell.put hp8 i7
      have hp9' := hp9.apart hgne.symm (.bool d7) (.slice p7 m7 c7)
      have i12' := i12.stored hp8 d7 p7 m7 c7
      have hb' := Below.stored hb hB8 (.bool d7) (.slice p7 m7 c7)
      clear q0 q1 q2 q3 hp8 hp9 i7 i12
      generalize ((wx.setCell ⟨g8, 0, none⟩ (.bool d7)).setCell ⟨g8, 1, none⟩ (.slice p7 m7 c7)) = wy at *
      have c9 := hp9'.cells
      obtain ⟨_, _, q0, q1, q2, q3⟩ := c9
      refine wpAny_one (i := 16) (by kernel_rfl) rfl ?_
      intro K hK
      go_simp
      have hK' := hK.out
      apply hK'
      clear hK hK'
      refine wpAny_done (by kernel_rfl) ?_ _
      refine hKc _ _ (Met.intro (hJc _ _ ?_))
      (repeat apply Exists.intro)
      exact ⟨⟨g8, g9, rfl, rfl, hgne, hB8, hB9, x8.apart hp9' hgne .., IntCell.put hp9' i12', Below.stored hb' hB9 ..⟩, rfl⟩
  case rest =>
    obtain ⟨g8, g9, rfl, rfl, hgne, hB8, hB9, C8, C9, hbc⟩ := hcut
    have z8 : w.heap.size + 4 ≤ g8 := by omega
    have z9 : w.heap.size + 4 ≤ g9 := by omega
    have y8 : W3.heap.size ≤ g8 := by omega
    have y9 : W3.heap.size ≤ g9 := by omega
    have HBc := hid (Below.go hbc HB3.out)
    clear hbc hB8 hB9 hB3
    by_cases hA : n0 = false ∨ x % y = 0
    · have EX : sg (n0 != n1) (x / y) = Q ∧ sg n0 (x % y) = R ∧ 0 ≤ R := by
        rw [HQ.out, HR.out]
        rcases hA with rfl | h0
        · have := div_pos_case (x := x) n1 hy
          have e : sg false x = (x : Int) := by simp [sg]
          have e2 : sg false (x % y) = ((x % y : Nat) : Int) := by simp [sg]
          rw [e, this.1, this.2, e2]
          exact ⟨rfl, rfl, by omega⟩
        · cases n0
          · have := div_pos_case (x := x) n1 hy
            have e : sg false x = (x : Int) := by simp [sg]
            have e2 : sg false (x % y) = ((x % y : Nat) : Int) := by simp [sg]
            rw [e, this.1, this.2, e2]
            exact ⟨rfl, rfl, by omega⟩
          · have := div_neg_even (x := x) n1 hy h0
            have e : sg true x = -(x : Int) := by simp [sg]
            rw [e, this.1, this.2, h0, sg_zero]
            exact ⟨rfl, rfl, by omega⟩
      obtain ⟨ex, ey, hR0⟩ := EX
      rw [ex] at C8
      rw [ey] at C9
      clear ex ey hA
      have hs0 : 0 ≤ R.sign := Int.sign_nonneg_iff.2 hR0
      have hs1 : ¬ R.sign < 0 := by omega
      have t9 := C9
      obtain ⟨d9, p9, m9, c9, e9, i9⟩ := t9
      have e9' := two_cells e9
      obtain ⟨x90, x91, -, -⟩ := e9'
      have hRs : sz W R.natAbs ≤ 1099511627776 := by
        rw [HR.out]
        refine Nat.le_trans (sz_mono W2 (m := y) ?_) (by omega)
        have h1 := Int.emod_nonneg (sg n0 x) (b := sg n1 y) (by intro e; have := congrArg Int.natAbs e; rw [sg_natAbs] at this; simp at this; omega)
        have h2 := Int.emod_lt (sg n0 x) (b := sg n1 y) (by intro e; have := congrArg Int.natAbs e; rw [sg_natAbs] at this; simp at this; omega)
        rw [sg_natAbs] at h2
        omega
      have hsg := hid (RSign_any _ R wc (i9.raw hRs))
      clear e9 i9 hRs
      go_wp2_with fail
      refine wp_loop_rounds 1 ?_
      rw [rounds_succ]
      go_wp2_with fail
      refine hsg.out.mono ?_
      rintro e wz ⟨rfl, hbz⟩
      have HBz := hid (Below.go hbz HBc.out)
      have C8 := C8.below hbz
      have C9 := C9.below hbz
      clear hbz x90 x91 hsg
      have t8 := C8; have t9 := C9
      obtain ⟨d8, p8, m8, c8, e8, i8⟩ := t8
      obtain ⟨d9, p9, m9, c9, e9, i9⟩ := t9
      have P4 := Hp.out.below HBz.out
      have P5 := Hp'.out.below HBz.out
      have e8' := two_cells e8
      obtain ⟨x80, x81, -, -⟩ := e8'
      have e9' := two_cells e9
      obtain ⟨x90, x91, -, -⟩ := e9'
      have P4' := P4.cells
      obtain ⟨_, _, q0, q1, q2, q3⟩ := P4'
      have P5' := P5.cells
      obtain ⟨_, _, r0, r1, r2, r3⟩ := P5'
      have P5s := P5.apart (g' := w.heap.size + 1 + 1) (by omega) (.bool d8) (.slice p8 m8 c8)
      have j8 := hid ((i8.stored P4 d8 p8 m8 c8).stored P5s d9 p9 m9 c9)
      have j9 := hid ((i9.stored P4 d8 p8 m8 c8).stored P5s d9 p9 m9 c9)
      have bz := hid (Below.stored (Below.stored (bw'.out.trans (HBz.out.mono (B' := w.heap.size) (by omega))) (g := w.heap.size + 1 + 1) (by omega) (.bool d8) (.slice p8 m8 c8)) (g := w.heap.size + 1 + 1 + 1) (by omega) (.bool d9) (.slice p9 m9 c9))
      clear P4 P5 P5s i8 i9 e8 e9 C8 C9
      go_wp2_with fail
      go_region
      go_wp2_with fail
      exact bodyPost_ret (v := .tuple #[.agg #[.bool d8, .slice p8 m8 c8], .agg #[.bool d9, .slice p9 m9 c9]])
        (by simp [results, Try.results43, go_sem, q0, q1, r0, r1]) rfl
        ⟨_, _, rfl, j8.out, j9.out, bz.out.drew⟩
    · obtain ⟨hn0, hm0⟩ : n0 = true ∧ 0 < x % y := by
        cases n0
        · exact absurd (Or.inl rfl) hA
        · exact ⟨rfl, Nat.pos_of_ne_zero fun e => hA (Or.inr e)⟩
      subst hn0
      obtain ⟨X0, hX0⟩ : ∃ z, z = sg (true != n1) (x / y) := ⟨_, rfl⟩
      obtain ⟨Y0, hY0⟩ : ∃ z, z = sg true (x % y) := ⟨_, rfl⟩
      rw [← hX0] at C8
      rw [← hY0] at C9
      have hodd := div_neg_odd (x := x) n1 hy hm0
      have ex : sg true x = -(x : Int) := by simp [sg]
      have hlt := Nat.mod_lt x hy
      have hYn : Y0 = -((x % y : Nat) : Int) := by rw [hY0]; simp [sg]
      have hYR : Y0 + (y : Int) = R := by rw [HR.out, ex, hodd.2, hYn]; omega
      have hXQ : (if n1 then X0 + 1 else X0 - 1) = Q := by
        rw [HQ.out, ex, hodd.1, hX0]
        cases n1 <;> simp [sg] <;> omega
      have hYs : Y0.sign = -1 := Int.sign_eq_neg_one_of_neg (by rw [hYn]; omega)
      have hX0s : sz W X0.natAbs ≤ 549755813888 := by rw [hX0, sg_natAbs]; exact wq
      have hY0s : sz W Y0.natAbs ≤ 549755813888 := by rw [hY0, sg_natAbs]; exact wr'
      have hys : sz W ((y : Nat) : Int).natAbs ≤ 549755813888 := hbs
      have hR0 : 0 < R := by rw [← hYR, hYn]; omega
      have hRs : sz W R.natAbs ≤ 1099511627776 := by
        refine Nat.le_trans (sz_mono W2 (m := y) ?_) (by omega)
        rw [← hYR, hYn]; omega
      have HYR := hid hYR; have HXQ := hid hXQ
      clear hX0 hY0 hodd ex hYn hXQ hYR hA hlt hm0
      have t9 := C9
      obtain ⟨d9, p9, m9, c9, e9, i9⟩ := t9
      have e9' := two_cells e9
      obtain ⟨x90, x91, -, -⟩ := e9'
      have hsg := RSign_any _ Y0 wc (i9.raw (Nat.le_trans hY0s (by decide)))
      rw [hYs] at hsg
      have Hsg := hid hsg
      clear e9 i9 hYs hsg
      go_wp2_with fail
      refine wp_loop_rounds 2 ?_
      rw [rounds_succ]
      go_wp2_with fail
      refine Hsg.out.mono ?_
      rintro e wa ⟨rfl, hba⟩
      have HBa := hid (Below.go hba HBc.out)
      have A8 := C8.below hba
      have A9 := C9.below hba
      clear hba x90 x91 Hsg C8 C9
      go_upto_region 4 with fail
      go_cut [] (fun wx => IntCell wx g8 X0 ∧ IntCell wx g9 R ∧ Below W3.heap.size W3 wx)
      case first =>
        rename_i Jc Kc hJc hKc
        have t9 := A9
        obtain ⟨d9, p9, m9, c9, e9, i9⟩ := t9
        have hy9 := i9.raw (Nat.le_trans hY0s (by decide))
        refine wp_region_facts (w0 := wa) 5 1 [36, 37, 38, 39, 40] [u36, u37, u38, u39, u40]
          (fun i => match i with | 0 => eqF (.agg #[.bool d9, .slice p9 m9 c9]) | 1 => eqF (.pointer (some ⟨w.heap.size + 1, 1, none⟩)) | 2 => eqF s1 | 3 => intF (y : Nat) | _ => intF R) [] (by kernel_rfl) (by kernel_rfl) (by kernel_rfl) (by kernel_rfl) (by decide) rfl (by kernel_rfl) rfl (by simp) ?he (by simp) ?_ ?_
        case he => simp only [putAll, Act.put, List.setIfInBounds_toArray, List.set_cons_zero, List.set_cons_succ]
        · intro i o hi ho vs wx hvl hb hdep K hK
          have hvs := len5 hvl
          obtain ⟨s0', s1', s2', s3', s4', rfl⟩ := hvs
          have hk := HS.out wx (Below.go hb HBa.out)
          have x9 := two_cells (((hb.block g9 (Array.getElem?_eq_some_iff.1 e9).1)).trans e9)
          obtain ⟨x90, x91, -, -⟩ := x9
          clear hvl
          go_split_ands
          rcases i with _ | _ | _ | _ | _ | i
          all_goals (simp only [List.getElem?_toArray, List.getElem?_cons_zero, List.getElem?_cons_succ, Option.some.injEq] at ho)
          all_goals try (subst ho)
          all_goals try simp only [putAll, Act.put, List.setIfInBounds_toArray, List.set_cons_zero, List.set_cons_succ]
          · go_simp
            have hK' := hK.out
            simp only [putAll, Act.put, List.setIfInBounds_toArray, List.set_cons_zero, List.set_cons_succ] at hK'
            exact hK' _ _ rfl (Below.refl _ _) (by simp)
          · go_simp
            have hK' := hK.out
            simp only [putAll, Act.put, List.setIfInBounds_toArray, List.set_cons_zero, List.set_cons_succ] at hK'
            exact hK' _ _ rfl (Below.refl _ _) (by simp)
          · have d1 : s1' = _ := hdep ⟨1, .data⟩ (by simp) rfl
            subst d1
            go_simp
            have hK' := hK.out
            simp only [putAll, Act.put, List.setIfInBounds_toArray, List.set_cons_zero, List.set_cons_succ] at hK'
            exact hK' _ _ rfl (Below.refl _ _) (by simp)
          · have d2 : s2' = _ := hdep ⟨2, .data⟩ (by simp) rfl
            subst d2
            go_simp
            refine (HWB.out _ (HBW.out _ (Below.go hb HBa.out))).mono ?_
            rintro e wy ⟨vy, rfl, iy, hby⟩
            have hsh := iy.shape
            obtain ⟨p5, n5, c5, rfl, iy⟩ := hsh
            go_wp2_with fail
            have hK' := hK.out
            simp only [putAll, Act.put, List.setIfInBounds_toArray, List.set_cons_zero, List.set_cons_succ] at hK'
            exact hK' _ _ ⟨_, _, _, _, rfl, iy⟩ hby (by simp)
          · have d0 : s0' = _ := hdep ⟨0, .data⟩ (by simp) rfl
            have d3 : (intF (y : Nat)).P s3' wx := hdep ⟨3, .data⟩ (by simp) rfl
            subst d0
            obtain ⟨dd, pp, nn, cc, rfl, ii⟩ := d3
            go_simp
            refine (RAdd_any _ _ Y0 (y : Nat) wx (hy9.below hb) (ii.raw (Nat.le_trans hys (by decide)))).mono ?_
            rw [HYR.out]
            rintro e wy ⟨vy, rfl, iy, hby⟩
            have hsh := iy.shape
            obtain ⟨p5, n5, c5, rfl, iy⟩ := hsh
            go_wp2_with fail
            have hK' := hK.out
            simp only [putAll, Act.put, List.setIfInBounds_toArray, List.set_cons_zero, List.set_cons_succ] at hK'
            exact hK' _ _ ⟨_, _, _, _, rfl, iy⟩ hby (by simp)
          · omega
        · intro vs wx hvl hb hf hdist
          have hvs := len5 hvl
          obtain ⟨s0', s1', s2', s3', s4', rfl⟩ := hvs
          have f4 : (intF R).P s4' wx := hf 4 (by decide)
          obtain ⟨dq, pq, mq, cq, rfl, iq⟩ := f4
          clear hf hdist hvl
          have P9 := (A9.below hb).pair
          have x9 := P9.cells
          obtain ⟨_, _, q0, q1, q2, q3⟩ := x9
          refine wpAny_one (i := 5) (by kernel_rfl) rfl ?_
          intro K hK
          simp only [putAll, Act.put, List.setIfInBounds_toArray, List.set_cons_zero, List.set_cons_succ]
          go_simp
          have hK' := hK.out
          apply hK'
          clear hK hK'
          refine wpAny_done (by kernel_rfl) ?_ _
          refine hKc _ _ (Met.intro (hJc _ _ ?_))
          (repeat apply Exists.intro)
          exact ⟨⟨(A8.below hb).apart P9 hgne .., IntCell.put P9 iq, Below.stored (Below.go hb HBa.out) (by omega) ..⟩, rfl⟩
      case rest =>
        obtain ⟨D8, D9, hbd⟩ := hcut
        have HBd := hid hbd
        clear hbd A8 A9
        have hk := HS.out _ HBd.out
        go_split_ands
        have hs0 : 0 ≤ R.sign := Int.sign_nonneg_iff.2 (by omega)
        have hs1 : ¬ R.sign < 0 := by omega
        cases n1
        · have hq1 : X0 - 1 = Q := by have := HXQ.out; simpa using this
          go_upto_region 7 with fail
          · skip
            have t8 := D8
            obtain ⟨d8, p8, m8, c8, e8, i8⟩ := t8
            have hx8 := i8.raw (Nat.le_trans hX0s (by decide))
            refine wp_region_facts (w0 := wc) 3 1 [46, 47, 48] [u46, u47, u48]
              (fun i => match i with | 0 => eqF (.agg #[.bool d8, .slice p8 m8 c8]) | 1 => intF 1 | _ => intF Q) [] (by kernel_rfl) (by kernel_rfl) (by kernel_rfl) (by kernel_rfl) (by decide) rfl (by kernel_rfl) rfl (by simp) ?he (by simp) ?_ ?_
            case he => simp only [putAll, Act.put, List.setIfInBounds_toArray, List.set_cons_zero, List.set_cons_succ]
            · intro i o hi ho vs wx hvl hb hdep K hK
              have hvs := len3 hvl
              obtain ⟨s0', s1', s2', rfl⟩ := hvs
              have x8 := two_cells (((hb.block g8 (Array.getElem?_eq_some_iff.1 e8).1)).trans e8)
              obtain ⟨x80, x81, -, -⟩ := x8
              clear hvl
              rcases i with _ | _ | _ | i
              all_goals (simp only [List.getElem?_toArray, List.getElem?_cons_zero, List.getElem?_cons_succ, Option.some.injEq] at ho)
              all_goals try (subst ho)
              all_goals try simp only [putAll, Act.put, List.setIfInBounds_toArray, List.set_cons_zero, List.set_cons_succ]
              · go_simp
                have hK' := hK.out
                simp only [putAll, Act.put, List.setIfInBounds_toArray, List.set_cons_zero, List.set_cons_succ] at hK'
                exact hK' _ _ rfl (Below.refl _ _) (by simp)
              · go_simp
                refine (ROf_any 1 wx (by decide) (by decide)).mono ?_
                rintro e wy ⟨vy, rfl, iy, hby⟩
                have hsh := iy.shape
                obtain ⟨p5, n5, c5, rfl, iy⟩ := hsh
                go_wp2_with fail
                have hK' := hK.out
                simp only [putAll, Act.put, List.setIfInBounds_toArray, List.set_cons_zero, List.set_cons_succ] at hK'
                exact hK' _ _ ⟨_, _, _, _, rfl, iy⟩ hby (by simp)
              · have d0 : s0' = _ := hdep ⟨0, .data⟩ (by simp) rfl
                have d1 : (intF 1).P s1' wx := hdep ⟨1, .data⟩ (by simp) rfl
                subst d0
                obtain ⟨dd, pp, nn, cc, rfl, ii⟩ := d1
                go_simp
                refine (RSub_any _ _ X0 1 wx (hx8.below hb) (ii.raw (by decide))).mono ?_
                rw [hq1]
                rintro e wy ⟨vy, rfl, iy, hby⟩
                have hsh := iy.shape
                obtain ⟨p5, n5, c5, rfl, iy⟩ := hsh
                go_wp2_with fail
                have hK' := hK.out
                simp only [putAll, Act.put, List.setIfInBounds_toArray, List.set_cons_zero, List.set_cons_succ] at hK'
                exact hK' _ _ ⟨_, _, _, _, rfl, iy⟩ hby (by simp)
              · omega
            · intro vs wx hvl hb hf hdist
              have hvs := len3 hvl
              obtain ⟨s0', s1', s2', rfl⟩ := hvs
              have f2 : (intF Q).P s2' wx := hf 2 (by decide)
              obtain ⟨dq, pq, mq, cq, rfl, iq⟩ := f2
              clear hf hdist hvl
              have P8 := (D8.below hb).pair
              have x8 := P8.cells
              obtain ⟨_, _, q0, q1, q2, q3⟩ := x8
              refine wpAny_one (i := 3) (by kernel_rfl) rfl ?_
              intro K hK
              simp only [putAll, Act.put, List.setIfInBounds_toArray, List.set_cons_zero, List.set_cons_succ]
              go_simp
              have hK' := hK.out
              apply hK'
              clear hK hK'
              refine wpAny_done (by kernel_rfl) ?_ _
              have C8 := IntCell.put P8 iq
              have C9 := (D9.below hb).apart P8 hgne.symm dq pq mq cq
              have HBf := hid (Below.stored (Below.go hb HBd.out) (g := g8) (by omega) (.bool dq) (.slice pq mq cq))
              generalize ((wx.setCell ⟨g8, 0, none⟩ (.bool dq)).setCell ⟨g8, 1, none⟩ (.slice pq mq cq)) = wf at *
              clear D8 D9 P8 q0 q1 q2 q3 hb
              have t9 := C9
              obtain ⟨d9, p9, m9, c9, e9, i9⟩ := t9
              have e9' := two_cells e9
              obtain ⟨x90, x91, -, -⟩ := e9'
              have hsg2 := hid (RSign_any _ R _ (i9.raw hRs))
              clear e9 i9
              go_wp2_with fail
              rw [rounds_succ]
              go_wp2_with fail
              refine hsg2.out.mono ?_
              rintro e wz ⟨rfl, hbz⟩
              have HBz := hid (Below.go hbz HBf.out)
              have C8 := C8.below hbz
              have C9 := C9.below hbz
              clear hbz x90 x91 hsg2
              have t8 := C8; have t9 := C9
              obtain ⟨d8, p8, m8, c8, e8, i8⟩ := t8
              obtain ⟨d9, p9, m9, c9, e9, i9⟩ := t9
              have P4 := Hp.out.below HBz.out
              have P5 := Hp'.out.below HBz.out
              have e8' := two_cells e8
              obtain ⟨x80, x81, -, -⟩ := e8'
              have e9' := two_cells e9
              obtain ⟨x90, x91, -, -⟩ := e9'
              have P4' := P4.cells
              obtain ⟨_, _, q0, q1, q2, q3⟩ := P4'
              have P5' := P5.cells
              obtain ⟨_, _, r0, r1, r2, r3⟩ := P5'
              have P5s := P5.apart (g' := w.heap.size + 1 + 1) (by omega) (.bool d8) (.slice p8 m8 c8)
              have j8 := hid ((i8.stored P4 d8 p8 m8 c8).stored P5s d9 p9 m9 c9)
              have j9 := hid ((i9.stored P4 d8 p8 m8 c8).stored P5s d9 p9 m9 c9)
              have bz := hid (Below.stored (Below.stored (bw'.out.trans (HBz.out.mono (B' := w.heap.size) (by omega))) (g := w.heap.size + 1 + 1) (by omega) (.bool d8) (.slice p8 m8 c8)) (g := w.heap.size + 1 + 1 + 1) (by omega) (.bool d9) (.slice p9 m9 c9))
              clear P4 P5 P5s i8 i9 e8 e9 C8 C9
              go_wp2_with fail
              go_region
              go_wp2_with fail
              exact bodyPost_ret (v := .tuple #[.agg #[.bool d8, .slice p8 m8 c8], .agg #[.bool d9, .slice p9 m9 c9]])
                (by simp [results, Try.results43, go_sem, q0, q1, r0, r1]) rfl
                ⟨_, _, rfl, j8.out, j9.out, bz.out.drew⟩
        · have hq1 : X0 + 1 = Q := by have := HXQ.out; simpa using this
          go_upto_region 6 with fail
          · skip
            have t8 := D8
            obtain ⟨d8, p8, m8, c8, e8, i8⟩ := t8
            have hx8 := i8.raw (Nat.le_trans hX0s (by decide))
            refine wp_region_facts (w0 := wc) 3 1 [43, 44, 45] [u43, u44, u45]
              (fun i => match i with | 0 => eqF (.agg #[.bool d8, .slice p8 m8 c8]) | 1 => intF 1 | _ => intF Q) [] (by kernel_rfl) (by kernel_rfl) (by kernel_rfl) (by kernel_rfl) (by decide) rfl (by kernel_rfl) rfl (by simp) ?he (by simp) ?_ ?_
            case he => simp only [putAll, Act.put, List.setIfInBounds_toArray, List.set_cons_zero, List.set_cons_succ]
            · intro i o hi ho vs wx hvl hb hdep K hK
              have hvs := len3 hvl
              obtain ⟨s0', s1', s2', rfl⟩ := hvs
              have x8 := two_cells (((hb.block g8 (Array.getElem?_eq_some_iff.1 e8).1)).trans e8)
              obtain ⟨x80, x81, -, -⟩ := x8
              clear hvl
              rcases i with _ | _ | _ | i
              all_goals (simp only [List.getElem?_toArray, List.getElem?_cons_zero, List.getElem?_cons_succ, Option.some.injEq] at ho)
              all_goals try (subst ho)
              all_goals try simp only [putAll, Act.put, List.setIfInBounds_toArray, List.set_cons_zero, List.set_cons_succ]
              · go_simp
                have hK' := hK.out
                simp only [putAll, Act.put, List.setIfInBounds_toArray, List.set_cons_zero, List.set_cons_succ] at hK'
                exact hK' _ _ rfl (Below.refl _ _) (by simp)
              · go_simp
                refine (ROf_any 1 wx (by decide) (by decide)).mono ?_
                rintro e wy ⟨vy, rfl, iy, hby⟩
                have hsh := iy.shape
                obtain ⟨p5, n5, c5, rfl, iy⟩ := hsh
                go_wp2_with fail
                have hK' := hK.out
                simp only [putAll, Act.put, List.setIfInBounds_toArray, List.set_cons_zero, List.set_cons_succ] at hK'
                exact hK' _ _ ⟨_, _, _, _, rfl, iy⟩ hby (by simp)
              · have d0 : s0' = _ := hdep ⟨0, .data⟩ (by simp) rfl
                have d1 : (intF 1).P s1' wx := hdep ⟨1, .data⟩ (by simp) rfl
                subst d0
                obtain ⟨dd, pp, nn, cc, rfl, ii⟩ := d1
                go_simp
                refine (RAdd_any _ _ X0 1 wx (hx8.below hb) (ii.raw (by decide))).mono ?_
                rw [hq1]
                rintro e wy ⟨vy, rfl, iy, hby⟩
                have hsh := iy.shape
                obtain ⟨p5, n5, c5, rfl, iy⟩ := hsh
                go_wp2_with fail
                have hK' := hK.out
                simp only [putAll, Act.put, List.setIfInBounds_toArray, List.set_cons_zero, List.set_cons_succ] at hK'
                exact hK' _ _ ⟨_, _, _, _, rfl, iy⟩ hby (by simp)
              · omega
            · intro vs wx hvl hb hf hdist
              have hvs := len3 hvl
              obtain ⟨s0', s1', s2', rfl⟩ := hvs
              have f2 : (intF Q).P s2' wx := hf 2 (by decide)
              obtain ⟨dq, pq, mq, cq, rfl, iq⟩ := f2
              clear hf hdist hvl
              have P8 := (D8.below hb).pair
              have x8 := P8.cells
              obtain ⟨_, _, q0, q1, q2, q3⟩ := x8
              refine wpAny_one (i := 3) (by kernel_rfl) rfl ?_
              intro K hK
              simp only [putAll, Act.put, List.setIfInBounds_toArray, List.set_cons_zero, List.set_cons_succ]
              go_simp
              have hK' := hK.out
              apply hK'
              clear hK hK'
              refine wpAny_done (by kernel_rfl) ?_ _
              have C8 := IntCell.put P8 iq
              have C9 := (D9.below hb).apart P8 hgne.symm dq pq mq cq
              have HBf := hid (Below.stored (Below.go hb HBd.out) (g := g8) (by omega) (.bool dq) (.slice pq mq cq))
              generalize ((wx.setCell ⟨g8, 0, none⟩ (.bool dq)).setCell ⟨g8, 1, none⟩ (.slice pq mq cq)) = wf at *
              clear D8 D9 P8 q0 q1 q2 q3 hb
              have t9 := C9
              obtain ⟨d9, p9, m9, c9, e9, i9⟩ := t9
              have e9' := two_cells e9
              obtain ⟨x90, x91, -, -⟩ := e9'
              have hsg2 := hid (RSign_any _ R _ (i9.raw hRs))
              clear e9 i9
              go_wp2_with fail
              rw [rounds_succ]
              go_wp2_with fail
              refine hsg2.out.mono ?_
              rintro e wz ⟨rfl, hbz⟩
              have HBz := hid (Below.go hbz HBf.out)
              have C8 := C8.below hbz
              have C9 := C9.below hbz
              clear hbz x90 x91 hsg2
              have t8 := C8; have t9 := C9
              obtain ⟨d8, p8, m8, c8, e8, i8⟩ := t8
              obtain ⟨d9, p9, m9, c9, e9, i9⟩ := t9
              have P4 := Hp.out.below HBz.out
              have P5 := Hp'.out.below HBz.out
              have e8' := two_cells e8
              obtain ⟨x80, x81, -, -⟩ := e8'
              have e9' := two_cells e9
              obtain ⟨x90, x91, -, -⟩ := e9'
              have P4' := P4.cells
              obtain ⟨_, _, q0, q1, q2, q3⟩ := P4'
              have P5' := P5.cells
              obtain ⟨_, _, r0, r1, r2, r3⟩ := P5'
              have P5s := P5.apart (g' := w.heap.size + 1 + 1) (by omega) (.bool d8) (.slice p8 m8 c8)
              have j8 := hid ((i8.stored P4 d8 p8 m8 c8).stored P5s d9 p9 m9 c9)
              have j9 := hid ((i9.stored P4 d8 p8 m8 c8).stored P5s d9 p9 m9 c9)
              have bz := hid (Below.stored (Below.stored (bw'.out.trans (HBz.out.mono (B' := w.heap.size) (by omega))) (g := w.heap.size + 1 + 1) (by omega) (.bool d8) (.slice p8 m8 c8)) (g := w.heap.size + 1 + 1 + 1) (by omega) (.bool d9) (.slice p9 m9 c9))
              clear P4 P5 P5s i8 i9 e8 e9 C8 C9
              go_wp2_with fail
              go_region
              go_wp2_with fail
              exact bodyPost_ret (v := .tuple #[.agg #[.bool d8, .slice p8 m8 c8], .agg #[.bool d9, .slice p9 m9 c9]])
                (by simp [results, Try.results43, go_sem, q0, q1, r0, r1]) rfl
                ⟨_, _, rfl, j8.out, j9.out, bz.out.drew⟩
end Go.Proofs.Yteiniokddopacaa
/- elenchusref01.Gcd. -/
namespace Go.Proofs.Yteiniokddopacaa
open Go.RowKit Big

theorem len8 {vs : List Value} (h : vs.length = 8) : ∃ a b c d e f g h, vs = [a, b, c, d, e, f, g, h] := by
  match vs, h with
  | [a, b, c, d, e, f, g, h], _ => exact ⟨a, b, c, d, e, f, g, h, rfl⟩

set_option maxRecDepth 100000 in
set_option maxHeartbeats 6400000 in
theorem RGcd_any (v0 v1 : Value) (a b : Int) (w : World) (h0 : RawAt w v0 a) (h1 : RawAt w v1 b) (ha : sz W a.natAbs ≤ 549755813888) (hbs : sz W b.natAbs ≤ 549755813888) :
    Calls Try.prog 42 #[v0, v1] w (RInt (Nat.gcd a.natAbs b.natAbs : Nat) w) := by
  obtain ⟨n0, s0, l0, rfl, a0, b0, c0, rfl⟩ := h0
  obtain ⟨n1, s1, l1, rfl, a1, b1, c1, rfl⟩ := h1
  rw [sg_natAbs] at ha hbs ⊢
  rw [sg_natAbs]
  have g0 : ∀ W', Below w.heap.size w W' → Calls Try.prog 40 #[.bool false, s0] W' (RInt (val W l0 : Nat) W') := fun W' hb => by
    have := Whole_any false s0 l0 W' (a0.below hb) b0 (by omega)
    simpa [sg] using this
  have g1 : ∀ W', Below w.heap.size w W' → Calls Try.prog 40 #[.bool false, s1] W' (RInt (val W l1 : Nat) W') := fun W' hb => by
    have := Whole_any false s1 l1 W' (a1.below hb) b1 (by omega)
    simpa [sg] using this
  have G0 := hid g0; have G1 := hid g1
  clear g0 g1 a0 a1 b0 b1 c0 c1
  generalize val W l0 = x at *
  generalize val W l1 = y at *
  obtain ⟨G, hG⟩ : ∃ G, G = Nat.gcd x y := ⟨_, rfl⟩
  rw [← hG]
  have HG := hid hG
  clear hG
  go_enter Try.func42, Try.ntmps42
  go_wp2_with fail
  generalize hW : World.alloc (World.alloc (World.alloc w _) _) _ = W3
  have bw : Below w.heap.size w W3 := by rw [← hW]; exact ((below1 _ _).alloc (by simp) _).alloc (by simp; omega) _
  have hp : Pair W3 (w.heap.size + 1 + 1) 25 := by rw [← hW]; exact Pair.new2 ..
  have tw : Two W3 w.heap.size (.bool n0) s0 (.bool n1) s1 := by rw [← hW]; exact (Two.new w _ _ _ _ _).below (below1 _ _)
  have z3 : w.heap.size + 3 ≤ W3.heap.size := by rw [← hW]; simp
  have bw' := hid bw; have HT := hid tw; have Hp := hid hp
  clear hW bw tw hp
  have HS : Hid (∀ w', Below W3.heap.size W3 w' → w'.cell? ⟨w.heap.size, 1, none⟩ = some s0 ∧ w'.cell? ⟨w.heap.size + 1, 1, none⟩ = some s1) := by
    intro w' hb
    have ht := HT.out.below hb
    exact ⟨ht.c01, ht.c11⟩
  have HBW : Hid (∀ w', Below W3.heap.size W3 w' → Below w.heap.size w w') := fun w' hb => bw'.out.trans (hb.mono (by omega))
  go_upto_region 1 with fail
  go_cut [5, 6] (fun s5 s6 wx => ∃ g5 g6, s5 = .pointer (some ⟨g5, 0, none⟩) ∧ s6 = .pointer (some ⟨g6, 0, none⟩) ∧ g5 ≠ g6 ∧ W3.heap.size ≤ g5 ∧ W3.heap.size ≤ g6 ∧ IntCell wx g5 (x : Nat) ∧ IntCell wx g6 (y : Nat) ∧ Below W3.heap.size W3 wx)
  case first =>
    rename_i Jc Kc hJc hKc
    refine wp_region_facts (w0 := W3) 8 2 [9, 10, 11, 12, 13, 14, 5, 6] [undef, undef, undef, undef, undef, undef, undef, undef]
      (fun i => match i with
        | 0 => eqF (.pointer (some ⟨w.heap.size, 1, none⟩)) | 1 => eqF s0 | 2 => intF (x : Nat) | 3 => eqF (.pointer (some ⟨w.heap.size + 1, 1, none⟩)) | 4 => eqF s1 | 5 => intF (y : Nat)
        | 6 => varF W3.heap.size | _ => varF W3.heap.size) [6, 7] (by kernel_rfl) (by kernel_rfl) (by kernel_rfl) (by kernel_rfl) (by decide) rfl (by kernel_rfl) rfl (by simp) ?he ?_ ?_ ?_
    case he => simp only [putAll, Act.put, List.setIfInBounds_toArray, List.set_cons_zero, List.set_cons_succ]
    · intro i hi v w' h
      simp only [List.mem_cons, List.not_mem_nil, or_false] at hi
      rcases hi with rfl | rfl
      · obtain ⟨g, hg, hp, -⟩ := (show VarAt w' W3.heap.size v from h); exact ⟨g, hg, hp.lt⟩
      · obtain ⟨g, hg, hp, -⟩ := (show VarAt w' W3.heap.size v from h); exact ⟨g, hg, hp.lt⟩
    · intro i o hi ho vs wx hvl hb hdep K hK
      have hvs := len8 hvl
      obtain ⟨s9, s10, s11, s12, s13, s14, s5, s6, rfl⟩ := hvs
      have hk := HS.out wx hb
      clear hvl
      go_split_ands
      rcases i with _ | _ | _ | _ | _ | _ | _ | _ | i
      all_goals (simp only [List.getElem?_toArray, List.getElem?_cons_zero, List.getElem?_cons_succ, Option.some.injEq] at ho)
      all_goals try (subst ho)
      all_goals try simp only [putAll, Act.put, List.setIfInBounds_toArray, List.set_cons_zero, List.set_cons_succ]
      · go_simp
        have hK' := hK.out
        simp only [putAll, Act.put, List.setIfInBounds_toArray, List.set_cons_zero, List.set_cons_succ] at hK'
        exact hK' _ _ rfl (Below.refl _ _) (by simp)
      · have d0 : s9 = _ := hdep ⟨0, .data⟩ (by simp) rfl
        subst d0
        go_simp
        have hK' := hK.out
        simp only [putAll, Act.put, List.setIfInBounds_toArray, List.set_cons_zero, List.set_cons_succ] at hK'
        exact hK' _ _ rfl (Below.refl _ _) (by simp)
      · have d1 : s10 = _ := hdep ⟨1, .data⟩ (by simp) rfl
        subst d1
        go_simp
        refine (G0.out _ (HBW.out _ hb)).mono ?_
        rintro e wy ⟨vy, rfl, iy, hby⟩
        have hsh := iy.shape
        obtain ⟨p5, n5, c5, rfl, iy⟩ := hsh
        go_wp2_with fail
        have hK' := hK.out
        simp only [putAll, Act.put, List.setIfInBounds_toArray, List.set_cons_zero, List.set_cons_succ] at hK'
        exact hK' _ _ ⟨_, _, _, _, rfl, iy⟩ hby (by simp)
      · go_simp
        have hK' := hK.out
        simp only [putAll, Act.put, List.setIfInBounds_toArray, List.set_cons_zero, List.set_cons_succ] at hK'
        exact hK' _ _ rfl (Below.refl _ _) (by simp)
      · have d3 : s12 = _ := hdep ⟨3, .data⟩ (by simp) rfl
        subst d3
        go_simp
        have hK' := hK.out
        simp only [putAll, Act.put, List.setIfInBounds_toArray, List.set_cons_zero, List.set_cons_succ] at hK'
        exact hK' _ _ rfl (Below.refl _ _) (by simp)
      · have d4 : s13 = _ := hdep ⟨4, .data⟩ (by simp) rfl
        subst d4
        go_simp
        refine (G1.out _ (HBW.out _ hb)).mono ?_
        rintro e wy ⟨vy, rfl, iy, hby⟩
        have hsh := iy.shape
        obtain ⟨p5, n5, c5, rfl, iy⟩ := hsh
        go_wp2_with fail
        have hK' := hK.out
        simp only [putAll, Act.put, List.setIfInBounds_toArray, List.set_cons_zero, List.set_cons_succ] at hK'
        exact hK' _ _ ⟨_, _, _, _, rfl, iy⟩ hby (by simp)
      · go_simp
        have hK' := hK.out
        simp only [putAll, Act.put, List.setIfInBounds_toArray, List.set_cons_zero, List.set_cons_succ] at hK'
        exact hK' _ _ ⟨_, rfl, Pair.new .., hb.size⟩ (below1 _ _) (fun _ => rfl)
      · go_simp
        have hK' := hK.out
        simp only [putAll, Act.put, List.setIfInBounds_toArray, List.set_cons_zero, List.set_cons_succ] at hK'
        exact hK' _ _ ⟨_, rfl, Pair.new .., hb.size⟩ (below1 _ _) (fun _ => rfl)
      · omega
    · intro vs wx hvl hb hf hdist
      have hvs := len8 hvl
      obtain ⟨s9, s10, s11, s12, s13, s14, s5, s6, rfl⟩ := hvs
      have f7 : (intF (x : Nat)).P s11 wx := hf 2 (by decide)
      have f12 : (intF (y : Nat)).P s14 wx := hf 5 (by decide)
      have f13 : VarAt wx W3.heap.size s5 := hf 6 (by decide)
      have f14 : VarAt wx W3.heap.size s6 := hf 7 (by decide)
      have hne : s5 ≠ s6 := hdist 6 (by simp) 7 (by simp) (by decide)
      obtain ⟨d7, p7, m7, c7, rfl, i7⟩ := f7
      obtain ⟨d12, p12, m12, c12, rfl, i12⟩ := f12
      obtain ⟨g8, rfl, hp8, hB8⟩ := f13
      obtain ⟨g9, rfl, hp9, hB9⟩ := f14
      have hgne : g8 ≠ g9 := fun e => hne (by rw [e])
      have c8 := hp8.cells
      obtain ⟨_, _, q0, q1, q2, q3⟩ := c8
      clear hf hdist hvl hne
      refine wpAny_one (i := 8) (by kernel_rfl) rfl ?_
      intro K hK
      simp only [putAll, Act.put, List.setIfInBounds_toArray, List.set_cons_zero, List.set_cons_succ]
      go_simp
      have hK' := hK.out
      apply hK'
      clear hK hK'
      have x8 := IntCell.put hp8 i7
      have hp9' := hp9.apart hgne.symm (.bool d7) (.slice p7 m7 c7)
      have i12' := i12.stored hp8 d7 p7 m7 c7
      have hb' := Below.stored hb hB8 (.bool d7) (.slice p7 m7 c7)
      clear q0 q1 q2 q3 hp8 hp9 i7 i12
      generalize ((wx.setCell ⟨g8, 0, none⟩ (.bool d7)).setCell ⟨g8, 1, none⟩ (.slice p7 m7 c7)) = wy at *
      have c9 := hp9'.cells
      obtain ⟨_, _, q0, q1, q2, q3⟩ := c9
      refine wpAny_one (i := 9) (by kernel_rfl) rfl ?_
      intro K hK
      go_simp
      have hK' := hK.out
      apply hK'
      clear hK hK'
      refine wpAny_done (by kernel_rfl) ?_ _
      refine hKc _ _ (Met.intro (hJc _ _ ?_))
      (repeat apply Exists.intro)
      exact ⟨⟨g8, g9, rfl, rfl, hgne, hB8, hB9, x8.apart hp9' hgne .., IntCell.put hp9' i12', Below.stored hb' hB9 ..⟩, rfl⟩
  case rest =>
    obtain ⟨g5, g6, rfl, rfl, hgne, hB5, hB6, C5, C6, hbc⟩ := hcut
    have hgc : Hid (Nat.gcd x y = G) := HG.out.symm
    have HBc := hid hbc
    clear hbc HG HS HBW HT G0 G1
    go_wp2_with fail
    go_loopg [] y (fun gk wr => ∃ p : Nat, IntCell wr g5 (p : Nat) ∧ IntCell wr g6 (gk : Nat) ∧ sz W p ≤ 549755813888 ∧ sz W gk ≤ 549755813888 ∧ Hid (Nat.gcd p gk = G) ∧ Hid (Below W3.heap.size W3 wr))
    case atStart => exact ⟨x, C5, C6, ha, hbs, hgc.out, HBc.out⟩
    case round =>
      obtain ⟨p, D5, D6, hp, hq, hgcd, HBr⟩ := hrel
      have t6 := D6
      obtain ⟨d6, p6, m6, c6, e6, i6⟩ := t6
      have e6' := two_cells e6
      obtain ⟨x60, x61, -, -⟩ := e6'
      by_cases h0 : gk = 0
      · have hsg := RSign_any _ _ wr (i6.raw (by show sz W gk ≤ _; omega))
        rw [h0] at hsg
        have hsg' : Hid (Calls Try.prog 15 #[.agg #[.bool d6, .slice p6 m6 c6]] wr (RNum .i64 0 wr)) := hsg
        have hres : Hid (p = G) := by have := hgcd.out; rw [h0, Nat.gcd_zero_right] at this; exact this
        clear hsg e6 i6 h0 hgcd
        go_wp2_with fail
        refine hsg'.out.mono ?_
        rintro e wz ⟨rfl, hbz⟩
        have HBz := hid (Below.go hbz HBr.out)
        have t5 := D5.below hbz
        obtain ⟨d5, p5, m5, c5, e5, i5⟩ := t5
        have e5' := two_cells e5
        obtain ⟨x50, x51, -, -⟩ := e5'
        have P4 := Hp.out.below HBz.out
        have P4' := P4.cells
        obtain ⟨_, _, q0, q1, q2, q3⟩ := P4'
        rw [hres.out] at i5
        have j5 := hid (i5.stored P4 d5 p5 m5 c5)
        have bz := hid (Below.stored (bw'.out.trans (HBz.out.mono (B' := w.heap.size) (by omega))) (g := w.heap.size + 1 + 1) (by omega) (.bool d5) (.slice p5 m5 c5))
        clear hbz x60 x61 e5 i5 P4
        go_wp2_with fail
        exact bodyPost_ret (v := .agg #[.bool d5, .slice p5 m5 c5]) (by simp [results, Try.results42, go_sem, q0, q1]) rfl ⟨_, rfl, j5.out, bz.out⟩
      · have hsg := RSign_any _ _ wr (i6.raw (by show sz W gk ≤ _; omega))
        rw [Int.sign_eq_one_of_pos (show (0 : Int) < (gk : Int) by omega)] at hsg
        have Hsg := hid hsg
        have hg' := hid ((gcd_step p gk).trans hgcd.out)
        have hlt : p % gk < gk := Nat.mod_lt _ (by omega)
        have hsz : sz W (p % gk) ≤ 549755813888 := Nat.le_trans (sz_mono W2 (Nat.le_of_lt hlt)) hq
        clear hsg e6 hgcd
        go_wp2_with fail
        refine Hsg.out.mono ?_
        rintro e wa ⟨rfl, hba⟩
        have HBa := hid (Below.go hba HBr.out)
        have A5 := D5.below hba
        have A6 := D6.below hba
        have i6' := i6.below hba
        have t5 := A5
        obtain ⟨d5, p5, m5, c5, e5, i5⟩ := t5
        have e5' := two_cells e5
        obtain ⟨x50, x51, -, -⟩ := e5'
        have c6' := (hba.cell (p := ⟨g6, 0, none⟩) (World.block_lt_of_cell? wr _ x60)).trans x60
        have c6'' := (hba.cell (p := ⟨g6, 1, none⟩) (World.block_lt_of_cell? wr _ x61)).trans x61
        have hdiv := RDiv_any _ _ _ _ wa (i5.raw (by show sz W p ≤ _; omega)) (i6'.raw (by show sz W gk ≤ _; omega)) (show ((gk : Nat) : Int) ≠ 0 by omega) hp hq
        have Hdiv := hid hdiv
        clear hba x60 x61 i6 i6' e5 hdiv D5 D6 Hsg i5
        go_wp2_with fail
        refine Hdiv.out.mono ?_
        rintro e wb ⟨vq, vr, rfl, hqq, hrr, hbb⟩
        have hqq := hqq.shape
        obtain ⟨pq, nq, cq, rfl, -⟩ := hqq
        have hrr := hrr.shape
        obtain ⟨pr, nr, cr, rfl, hrr⟩ := hrr
        have hmod : ((p : Int) % (gk : Int)) = ((p % gk : Nat) : Int) := (Int.natCast_emod p gk).symm
        rw [hmod] at hrr ⊢
        obtain ⟨dr, hdr⟩ : ∃ d, d = decide (((p % gk : Nat) : Int) < 0) := ⟨_, rfl⟩
        rw [← hdr] at hrr ⊢
        obtain ⟨dq, hdq⟩ : ∃ d, d = decide ((p : Int) / (gk : Int) < 0) := ⟨_, rfl⟩
        rw [← hdq]
        have HBb := hid (Below.go hbb HBa.out)
        have B5 := A5.below hbb
        have B6 := A6.below hbb
        clear hbb hdr hdq hmod A5 A6 x50 x51 c6' c6''
        go_upto_region 4 with fail
        generalize hW : World.alloc (World.alloc wb _) _ = wc4
        have X4 : Below wb.heap.size wb wc4 ∧ Two wc4 wb.heap.size (.bool dq) (.slice pq nq cq) (.bool dr) (.slice pr nr cr) := by
          rw [← hW]; exact ⟨((Below.refl _ _).alloc (Nat.le_refl _) _).alloc (by simp) _, Two.new ..⟩
        have HB4 := hid (Below.go X4.1 HBb.out)
        have E5 := B5.below X4.1
        have E6 := B6.below X4.1
        have hr4 := hrr.below X4.1
        have hr40 := X4.2.c10
        have hr41 := X4.2.c11
        have hl5 := B5.pair.lt
        have hl6 := B6.pair.lt
        clear hW X4 hrr B5 B6
        obtain ⟨gr, hgr⟩ : ∃ g, g = wb.heap.size + 1 := ⟨_, rfl⟩
        rw [← hgr] at hr40 hr41 ⊢
        have hgr5 : gr ≠ g5 := by omega
        have hgr6 : gr ≠ g6 := by omega
        clear hgr hl5 hl6
        have t6 := E6
        obtain ⟨d7, p7, m7, c7, e7, i7⟩ := t6
        have e7' := two_cells e7
        obtain ⟨x70, x71, -, -⟩ := e7'
        have P5 := E5.pair
        have P5' := P5.cells
        obtain ⟨_, _, q0, q1, q2, q3⟩ := P5'
        have F5 := IntCell.put P5 i7
        have F6 := E6.apart P5 hgne.symm d7 p7 m7 c7
        have fr := hr4.stored P5 d7 p7 m7 c7
        have fr0 := (cell_stored wc4 (p := ⟨gr, 0, none⟩) hgr5 (.bool d7) (.slice p7 m7 c7)).trans hr40
        have fr1 := (cell_stored wc4 (p := ⟨gr, 1, none⟩) hgr5 (.bool d7) (.slice p7 m7 c7)).trans hr41
        have HB5' := hid (Below.stored HB4.out hB5 (.bool d7) (.slice p7 m7 c7))
        clear e7 i7 hr4 hr40 hr41 E5 E6 P5
        go_upto_region 5 with fail
        generalize ((wc4.setCell ⟨g5, 0, none⟩ (.bool d7)).setCell ⟨g5, 1, none⟩ (.slice p7 m7 c7)) = w5 at *
        clear q0 q1 q2 q3 x70 x71
        have P6 := F6.pair
        have P6' := P6.cells
        obtain ⟨_, _, q0, q1, q2, q3⟩ := P6'
        have K6 := IntCell.put P6 fr
        have K5 := F5.apart P6 hgne dr pr nr cr
        have HB6 := hid (Below.stored HB5'.out hB6 (.bool dr) (.slice pr nr cr))
        clear P6 F5 F6 fr
        go_wp2_with fail
        go_roundg (p % gk)
        case measure => exact hlt
        case rel => exact ⟨gk, K5, K6, hq, hsz, hg'.out, HB6.out⟩
end Go.Proofs.Yteiniokddopacaa
/- Fractions in memory: a fraction as it is handed in (RatRaw), a pair of numbers (PairAt), a fraction as it is told (RatTold). -/
namespace Go.Proofs.Yteiniokddopacaa
open Go.RowKit Big

def nonInt : Value → Bool | .int _ _ => false | _ => true
/-- block g holds these cells -/
def Rec (w : World) (g : Nat) (t : TypeId) (cs : Array Value) : Prop := w.heap[g]? = some (.cells cs t (0, 0))
theorem Rec.below {w w' : World} {g : Nat} {t : TypeId} {cs : Array Value} (h : Rec w g t cs) (hb : Below w.heap.size w w') : Rec w' g t cs := (hb.block g (Array.getElem?_eq_some_iff.1 h).1).trans h
theorem Rec.lt {w : World} {g : Nat} {t : TypeId} {cs : Array Value} (h : Rec w g t cs) : g < w.heap.size := (Array.getElem?_eq_some_iff.1 h).1
theorem Rec.new (w : World) (cs : Array Value) (t : TypeId) : Rec (w.alloc (.cells cs t)) w.heap.size t cs := heap_alloc_new w _
theorem Rec.cell {w : World} {g : Nat} {t : TypeId} {cs : Array Value} (h : Rec w g t cs) (j : Nat) : w.cell? ⟨g, j, none⟩ = cs[j]? := cell_of_row w g j _ t (0, 0) h
theorem Rec.frozen {w : World} {g : Nat} {t : TypeId} {cs : Array Value} (h : Rec w g t cs) (j : Nat) : w.frozen? ⟨g, j, none⟩ = false := frozen_of_row w g j _ t h
theorem Rec.set {w : World} {g : Nat} {t : TypeId} {cs : Array Value} (h : Rec w g t cs) (j : Nat) (u : Value) : Rec (w.setCell ⟨g, j, none⟩ u) g t (cs.setIfInBounds j u) := heap_setCell_same w g j _ t u h
theorem Rec.apart {w : World} {g g' : Nat} {t : TypeId} {cs : Array Value} (h : Rec w g t cs) (hne : g ≠ g') (j : Nat) (u : Value) : Rec (w.setCell ⟨g', j, none⟩ u) g t cs := (Below.heap_setCell _ _ _ _ hne).trans h
theorem At.setF {w : World} {k : IntKind} {v : Value} {l : List Nat} {g : Nat} {t : TypeId} {cs : Array Value} (h : At w k v l) (hp : Rec w g t cs) (hf : cs.all nonInt = true) (j : Nat) (u : Value) : At (w.setCell ⟨g, j, none⟩ u) k v l := by
  obtain ⟨p, cap, hv, h1, h2, h3, h4⟩ := h
  refine ⟨p, cap, hv, h1, h2, h3, fun hl => ?_⟩
  obtain ⟨b, off, h5, h6, h7⟩ := h4 hl
  have hne : b ≠ g := by
    rintro rfl
    have h0 := h7 0 hl
    rw [hp.cell] at h0
    obtain ⟨hi, he⟩ := Array.getElem?_eq_some_iff.1 h0
    have := Array.all_eq_true.1 hf _ hi
    rw [he] at this
    cases this
  refine ⟨b, off, h5, by simpa [World.setCell] using h6, fun i hi => ?_⟩
  rw [← h7 i hi]
  exact World.cell?_of_block (w := w) (Below.heap_setCell w _ u b hne)
theorem RawAt.setF {w : World} {v : Value} {z : Int} {g : Nat} {t : TypeId} {cs : Array Value} (h : RawAt w v z) (hp : Rec w g t cs) (hf : cs.all nonInt = true) (j : Nat) (u : Value) : RawAt (w.setCell ⟨g, j, none⟩ u) v z := by
  obtain ⟨neg, s, l, hs, ha, r⟩ := h
  exact ⟨neg, s, l, hs, ha.setF hp hf j u, r⟩
theorem IntAt.setF {w : World} {v : Value} {z : Int} {g : Nat} {t : TypeId} {cs : Array Value} (h : IntAt w v z) (hp : Rec w g t cs) (hf : cs.all nonInt = true) (j : Nat) (u : Value) : IntAt (w.setCell ⟨g, j, none⟩ u) v z := by
  obtain ⟨s, hs, ha⟩ := h
  exact ⟨s, hs, ha.setF hp hf j u⟩
/-- one store of a cell that is no number: what stays -/
structure Stay (w w' : World) (g : Nat) : Prop where
  raw : ∀ v z, RawAt w v z → RawAt w' v z
  int : ∀ v z, IntAt w v z → IntAt w' v z
  rcs : ∀ g' t cs, g' ≠ g → Rec w g' t cs → Rec w' g' t cs
  bel : ∀ B u, B ≤ g → Below B u w → Below B u w'
theorem Stay.refl (w : World) (g : Nat) : Stay w w g := ⟨fun _ _ h => h, fun _ _ h => h, fun _ _ _ _ h => h, fun _ _ _ h => h⟩
theorem Stay.set {w w' : World} {g : Nat} (h : Stay w w' g) {t : TypeId} {cs : Array Value} (hp : Rec w' g t cs) (hf : cs.all nonInt = true) (j : Nat) (u : Value) : Stay w (w'.setCell ⟨g, j, none⟩ u) g :=
  ⟨fun v z hv => (h.raw v z hv).setF hp hf j u, fun v z hv => (h.int v z hv).setF hp hf j u, fun g' t' cs' hne hr => (h.rcs g' t' cs' hne hr).apart hne j u, fun B u' hB hb => (h.bel B u' hB hb).setCell (p := ⟨g, j, none⟩) hB u⟩
theorem put4 {w : World} {g : Nat} {t : TypeId} {a b c d : Value} (h : Rec w g t #[a, b, c, d]) (hf : (#[a, b, c, d] : Array Value).all nonInt = true) (a' b' c' d' : Value) (hf' : (#[a', b', c', d'] : Array Value).all nonInt = true) :
    Rec ((((w.setCell ⟨g, 0, none⟩ a').setCell ⟨g, 1, none⟩ b').setCell ⟨g, 2, none⟩ c').setCell ⟨g, 3, none⟩ d') g t #[a', b', c', d'] ∧ Stay w ((((w.setCell ⟨g, 0, none⟩ a').setCell ⟨g, 1, none⟩ b').setCell ⟨g, 2, none⟩ c').setCell ⟨g, 3, none⟩ d') g := by
  simp at hf hf'
  have h1 : Rec (w.setCell ⟨g, 0, none⟩ a') g t #[a', b, c, d] := h.set 0 a'
  have h2 : Rec ((w.setCell ⟨g, 0, none⟩ a').setCell ⟨g, 1, none⟩ b') g t #[a', b', c, d] := h1.set 1 b'
  have h3 : Rec (((w.setCell ⟨g, 0, none⟩ a').setCell ⟨g, 1, none⟩ b').setCell ⟨g, 2, none⟩ c') g t #[a', b', c', d] := h2.set 2 c'
  have h4 : Rec ((((w.setCell ⟨g, 0, none⟩ a').setCell ⟨g, 1, none⟩ b').setCell ⟨g, 2, none⟩ c').setCell ⟨g, 3, none⟩ d') g t #[a', b', c', d'] := h3.set 3 d'
  exact ⟨h4, ((((Stay.refl w g).set h (by simp [hf]) 0 a').set h1 (by simp [hf, hf']) 1 b').set h2 (by simp [hf, hf']) 2 c').set h3 (by simp [hf, hf']) 3 d'⟩
theorem put3 {w : World} {g : Nat} {t : TypeId} {a b c : Value} (h : Rec w g t #[a, b, c]) (hf : (#[a, b, c] : Array Value).all nonInt = true) (a' b' c' : Value) (hf' : (#[a', b', c'] : Array Value).all nonInt = true) :
    Rec (((w.setCell ⟨g, 0, none⟩ a').setCell ⟨g, 1, none⟩ b').setCell ⟨g, 2, none⟩ c') g t #[a', b', c'] ∧ Stay w (((w.setCell ⟨g, 0, none⟩ a').setCell ⟨g, 1, none⟩ b').setCell ⟨g, 2, none⟩ c') g := by
  simp at hf hf'
  have h1 : Rec (w.setCell ⟨g, 0, none⟩ a') g t #[a', b, c] := h.set 0 a'
  have h2 : Rec ((w.setCell ⟨g, 0, none⟩ a').setCell ⟨g, 1, none⟩ b') g t #[a', b', c] := h1.set 1 b'
  have h3 : Rec (((w.setCell ⟨g, 0, none⟩ a').setCell ⟨g, 1, none⟩ b').setCell ⟨g, 2, none⟩ c') g t #[a', b', c'] := h2.set 2 c'
  exact ⟨h3, (((Stay.refl w g).set h (by simp [hf]) 0 a').set h1 (by simp [hf, hf']) 1 b').set h2 (by simp [hf, hf']) 2 c'⟩
theorem put2 {w : World} {g : Nat} {t : TypeId} {a b : Value} (h : Rec w g t #[a, b]) (hf : (#[a, b] : Array Value).all nonInt = true) (a' b' : Value) (hf' : (#[a', b'] : Array Value).all nonInt = true) :
    Rec ((w.setCell ⟨g, 0, none⟩ a').setCell ⟨g, 1, none⟩ b') g t #[a', b'] ∧ Stay w ((w.setCell ⟨g, 0, none⟩ a').setCell ⟨g, 1, none⟩ b') g := by
  simp at hf hf'
  have h1 : Rec (w.setCell ⟨g, 0, none⟩ a') g t #[a', b] := h.set 0 a'
  have h2 : Rec ((w.setCell ⟨g, 0, none⟩ a').setCell ⟨g, 1, none⟩ b') g t #[a', b'] := h1.set 1 b'
  exact ⟨h2, ((Stay.refl w g).set h (by simp [hf]) 0 a').set h1 (by simp [hf, hf']) 1 b'⟩
theorem put24 {w : World} {g : Nat} {t : TypeId} {a b c d : Value} (h : Rec w g t #[a, b, c, d]) (hf : (#[a, b, c, d] : Array Value).all nonInt = true) (c' d' : Value) (hf' : (#[c', d'] : Array Value).all nonInt = true) :
    Rec ((w.setCell ⟨g, 2, none⟩ c').setCell ⟨g, 3, none⟩ d') g t #[a, b, c', d'] ∧ Stay w ((w.setCell ⟨g, 2, none⟩ c').setCell ⟨g, 3, none⟩ d') g := by
  simp at hf hf'
  have h3 : Rec (w.setCell ⟨g, 2, none⟩ c') g t #[a, b, c', d] := h.set 2 c'
  have h4 : Rec ((w.setCell ⟨g, 2, none⟩ c').setCell ⟨g, 3, none⟩ d') g t #[a, b, c', d'] := h3.set 3 d'
  exact ⟨h4, ((Stay.refl w g).set h (by simp [hf]) 2 c').set h3 (by simp [hf, hf']) 3 d'⟩
theorem cells4 {w : World} {g : Nat} {t : TypeId} {a b c d : Value} (h : Rec w g t #[a, b, c, d]) : w.cell? ⟨g, 0, none⟩ = some a ∧ w.cell? ⟨g, 1, none⟩ = some b ∧ w.cell? ⟨g, 2, none⟩ = some c ∧ w.cell? ⟨g, 3, none⟩ = some d :=
  ⟨h.cell 0, h.cell 1, h.cell 2, h.cell 3⟩
theorem cells3 {w : World} {g : Nat} {t : TypeId} {a b c : Value} (h : Rec w g t #[a, b, c]) : w.cell? ⟨g, 0, none⟩ = some a ∧ w.cell? ⟨g, 1, none⟩ = some b ∧ w.cell? ⟨g, 2, none⟩ = some c := ⟨h.cell 0, h.cell 1, h.cell 2⟩
theorem frozen4 {w : World} {g : Nat} {t : TypeId} {cs : Array Value} (h : Rec w g t cs) : w.frozen? ⟨g, 0, none⟩ = false ∧ w.frozen? ⟨g, 1, none⟩ = false ∧ w.frozen? ⟨g, 2, none⟩ = false ∧ w.frozen? ⟨g, 3, none⟩ = false :=
  ⟨h.frozen 0, h.frozen 1, h.frozen 2, h.frozen 3⟩

/-- a fraction as it is handed in: p by q, where q may be 0 -/
def RatRaw (w : World) (v : Value) (p q : Int) : Prop := ∃ b p0 n0 c0 p1 n1 c1, v = .agg #[.bool b, .slice p0 n0 c0, .slice p1 n1 c1] ∧ RawAt w (.agg #[.bool b, .slice p0 n0 c0]) p ∧ RawAt w (.agg #[.bool false, .slice p1 n1 c1]) q
def dn (q : Int) : Int := if q = 0 then 1 else q
def PairAt (w : World) (v : Value) (p q : Int) : Prop := ∃ b p0 n0 c0 b' p1 n1 c1, v = .agg #[.bool b, .slice p0 n0 c0, .bool b', .slice p1 n1 c1] ∧ RawAt w (.agg #[.bool b, .slice p0 n0 c0]) p ∧ RawAt w (.agg #[.bool b', .slice p1 n1 c1]) q
def RPair (p q : Int) (w : World) (e : Ending) (w' : World) : Prop := ∃ v, e = .returned v ∧ PairAt w' v p q ∧ Below w.heap.size w w'
def RatTold (w : World) (v : Value) (x : Rat) : Prop := ∃ b p0 n0 c0 p1 n1 c1, v = .agg #[.bool b, .slice p0 n0 c0, .slice p1 n1 c1] ∧ IntAt w (.agg #[.bool b, .slice p0 n0 c0]) x.num ∧ IntAt w (.agg #[.bool false, .slice p1 n1 c1]) (x.den : Nat)
def RRat (x : Rat) (w : World) (e : Ending) (w' : World) : Prop := ∃ v, e = .returned v ∧ RatTold w' v x ∧ Below w.heap.size w w'
theorem RatRaw.below {w w' : World} {v : Value} {p q : Int} (h : RatRaw w v p q) (hb : Below w.heap.size w w') : RatRaw w' v p q := by
  obtain ⟨b, p0, n0, c0, p1, n1, c1, hv, h0, h1⟩ := h
  exact ⟨b, p0, n0, c0, p1, n1, c1, hv, h0.below hb, h1.below hb⟩
theorem PairAt.below {w w' : World} {v : Value} {p q : Int} (h : PairAt w v p q) (hb : Below w.heap.size w w') : PairAt w' v p q := by
  obtain ⟨b, p0, n0, c0, b', p1, n1, c1, hv, h0, h1⟩ := h
  exact ⟨b, p0, n0, c0, b', p1, n1, c1, hv, h0.below hb, h1.below hb⟩
theorem RatTold.below {w w' : World} {v : Value} {x : Rat} (h : RatTold w v x) (hb : Below w.heap.size w w') : RatTold w' v x := by
  obtain ⟨b, p0, n0, c0, p1, n1, c1, hv, h0, h1⟩ := h
  exact ⟨b, p0, n0, c0, p1, n1, c1, hv, h0.below hb, h1.below hb⟩
theorem RawAt.parts {w : World} {v : Value} {z : Int} (h : RawAt w v z) : ∃ b p n c, v = .agg #[.bool b, .slice p n c] := by
  obtain ⟨neg, s, l, rfl, ⟨p, c, rfl, -⟩, -⟩ := h
  exact ⟨neg, p, _, c, rfl⟩
theorem IntAt.parts' {w : World} {v : Value} {z : Int} (h : IntAt w v z) : ∃ b p n c, v = .agg #[.bool b, .slice p n c] ∧ IntAt w (.agg #[.bool b, .slice p n c]) z := by
  obtain ⟨p, n, c, hv, hi⟩ := h.shape
  exact ⟨_, p, n, c, hv, hi⟩

set_option maxRecDepth 100000 in
set_option maxHeartbeats 1600000 in
theorem read_any (v : Value) (p q : Int) (w : World) (h : RatRaw w v p q) :
    Calls Try.prog 44 #[v] w (RPair p (dn q) w) := by
  obtain ⟨b, p0, n0, c0, p1, n1, c1, rfl, h0, h1⟩ := h
  have H0 := hid h0; have H1 := hid h1
  obtain ⟨d, hd⟩ : ∃ d, d = dn q := ⟨_, rfl⟩
  rw [← hd]
  have Hd := hid hd
  clear h0 h1 hd
  go_enter Try.func44, Try.ntmps44
  go_upto_region 2 with fail
  generalize hW : World.alloc (World.alloc (World.alloc w _) _) _ = W3
  have bw : Below w.heap.size w W3 := by rw [← hW]; exact ((below1 _ _).alloc (by simp) _).alloc (by simp; omega) _
  have r2 : Rec W3 (w.heap.size + 1) 51 #[.bool false, .slice none 0 0, .bool false, .slice none 0 0] := by
    rw [← hW]
    have := (Rec.new (w.alloc (.cells #[.bool b, .slice p0 n0 c0, .slice p1 n1 c1] 29)) #[.bool false, .slice none 0 0, .bool false, .slice none 0 0] 51).below (below1 _ (.cells #[.bool b, .slice p0 n0 c0, .bool false, .slice p1 n1 c1] 51))
    rwa [size_alloc] at this
  have r3 : Rec W3 (w.heap.size + 1 + 1) 51 #[.bool b, .slice p0 n0 c0, .bool false, .slice p1 n1 c1] := by
    rw [← hW]
    have := Rec.new ((w.alloc (.cells #[.bool b, .slice p0 n0 c0, .slice p1 n1 c1] 29)).alloc (.cells #[.bool false, .slice none 0 0, .bool false, .slice none 0 0] 51)) #[.bool b, .slice p0 n0 c0, .bool false, .slice p1 n1 c1] 51
    rwa [size_alloc, size_alloc] at this
  clear hW
  have R0 := hid (H0.out.below bw); have R1 := hid (H1.out.below bw)
  have c3 := cells4 r3
  obtain ⟨x0, x1, x2, x3⟩ := c3
  have hsg := Sign_any _ q W3 R1.out
  have Hsg := hid hsg
  have Hr2 := hid r2; have Hr3 := hid r3; have Hbw := hid bw
  clear hsg r2 r3 bw H0 H1
  by_cases hq : q = 0
  · subst hq
    have Hd1 : Hid (d = 1) := by unfold Hid; rw [Hd.out]; rfl
    rw [Int.sign_zero] at Hsg
    go_wp2_with fail
    refine Hsg.out.mono ?_
    rintro e W4 ⟨rfl, b4⟩
    have b14 : Below w.heap.size w W4 := Hbw.out.trans (b4.mono (B' := w.heap.size) Hbw.out.size)
    have r2 := Hr2.out.below b4; have r3 := Hr3.out.below b4; have R0' := R0.out.below b4
    clear b4 x0 x1 x2 x3 Hr2 Hr3 R0 R1
    have Hr2 := hid r2; have Hr3 := hid r3; have R0 := hid R0'; have Hb := hid b14
    clear r2 r3 R0' b14
    go_wp2_with fail
    refine (Of_any 1 _ (by decide) (by decide)).mono ?_
    rintro e W5 ⟨v5, rfl, i5, b5⟩
    have i5s := i5.parts'
    obtain ⟨d5, p5, n5, c5, rfl, i5⟩ := i5s
    have b15 : Below w.heap.size w W5 := Hb.out.trans (b5.mono (B' := w.heap.size) Hb.out.size)
    have r2 := Hr2.out.below b5; have r3 := Hr3.out.below b5; have R0' := R0.out.below b5
    have x := cells4 r3
    obtain ⟨x0, x1, x2, x3⟩ := x
    have y := frozen4 r3
    obtain ⟨y0, y1, y2, y3⟩ := y
    have k3 := put24 r3 (by simp [nonInt]) (.bool d5) (.slice p5 n5 c5) (by simp [nonInt])
    have k2 := k3.2.rcs _ _ _ (show w.heap.size + 1 ≠ w.heap.size + 1 + 1 by omega) r2
    have kr := k3.2.raw _ _ R0'
    have ki := k3.2.int _ _ i5
    have kb := k3.2.bel w.heap.size w (by omega) b15
    have k3' := k3.1
    clear k3 r2 r3 R0' i5 b15 b5 Hr2 Hr3 R0 Hb
    go_upto_region 4 with fail
    generalize ((W5.setCell ⟨w.heap.size + 1 + 1, 2, none⟩ (.bool d5)).setCell ⟨w.heap.size + 1 + 1, 3, none⟩ (.slice p5 n5 c5)) = W6 at *
    clear x0 x1 x2 x3 y0 y1 y2 y3
    have x := cells4 k3'
    obtain ⟨x0, x1, x2, x3⟩ := x
    have x' := cells4 k2
    obtain ⟨z0, z1, z2, z3⟩ := x'
    have y := frozen4 k2
    obtain ⟨y0, y1, y2, y3⟩ := y
    have m2 := put4 k2 (by simp [nonInt]) (.bool b) (.slice p0 n0 c0) (.bool d5) (.slice p5 n5 c5) (by simp [nonInt])
    have mr := hid (m2.2.raw _ _ kr)
    have mi := hid ((m2.2.int _ _ ki).raw (by decide))
    have mb := hid (m2.2.bel w.heap.size w (by omega) kb)
    clear m2 kr ki kb k2 k3'
    go_wp2
    exact bodyPost_ret (v := .agg #[.bool b, .slice p0 n0 c0, .bool d5, .slice p5 n5 c5]) (by simp [results, Try.results44, go_sem, z0, z1, z2, z3]) rfl ⟨_, rfl, ⟨_, _, _, _, _, _, _, _, rfl, mr.out, by rw [Hd1.out]; exact mi.out⟩, mb.out⟩
  · have Hdq : Hid (d = q) := by unfold Hid; rw [Hd.out]; unfold dn; rw [if_neg hq]
    have hs : (q.sign == 0) = false := beq_eq_false_iff_ne.2 (fun e => hq (Int.sign_eq_zero_iff_zero.1 e))
    clear hq
    go_wp2_with fail
    refine Hsg.out.mono ?_
    rintro e W4 ⟨rfl, b4⟩
    have b14 : Below w.heap.size w W4 := Hbw.out.trans (b4.mono (B' := w.heap.size) Hbw.out.size)
    have k2 := Hr2.out.below b4; have k3' := Hr3.out.below b4; have kr := R0.out.below b4; have ki := R1.out.below b4
    have kb := b14
    clear b4 x0 x1 x2 x3 Hr2 Hr3 R0 R1 b14
    have x := cells4 k3'
    obtain ⟨x0, x1, x2, x3⟩ := x
    have x' := cells4 k2
    obtain ⟨z0, z1, z2, z3⟩ := x'
    have y := frozen4 k2
    obtain ⟨y0, y1, y2, y3⟩ := y
    have m2 := put4 k2 (by simp [nonInt]) (.bool b) (.slice p0 n0 c0) (.bool false) (.slice p1 n1 c1) (by simp [nonInt])
    have mr := hid (m2.2.raw _ _ kr)
    have mi := hid (m2.2.raw _ _ ki)
    have mb := hid (m2.2.bel w.heap.size w (by omega) kb)
    clear m2 kr ki kb k2 k3' Hbw
    go_wp2
    exact bodyPost_ret (v := .agg #[.bool b, .slice p0 n0 c0, .bool false, .slice p1 n1 c1]) (by simp [results, Try.results44, go_sem, z0, z1, z2, z3]) rfl ⟨_, rfl, ⟨_, _, _, _, _, _, _, _, rfl, mr.out, by rw [Hdq.out]; exact mi.out⟩, mb.out⟩
end Go.Proofs.Yteiniokddopacaa
/- (ratio.pair).low: the form in which fractions are told. -/
namespace Go.Proofs.Yteiniokddopacaa
open Go.RowKit Big

theorem sz_lowBy {p q : Int} (hq : q ≠ 0) (h : sz W q.natAbs ≤ 1099511627776) : sz W (lowBy p q).natAbs ≤ 1099511627776 := by
  refine Nat.le_trans (sz_mono W2 ?_) h
  have h1 : Nat.gcd p.natAbs q.natAbs ≤ q.natAbs := Nat.gcd_le_right _ (by omega)
  unfold lowBy
  split <;> omega

set_option maxRecDepth 100000 in
set_option maxHeartbeats 3200000 in
theorem low_any (v : Value) (p q : Int) (w : World) (h : PairAt w v p q) (hq : q ≠ 0) :
    Calls Try.prog 37 #[v] w (RRat (Rat.divInt p q) w) := by
  obtain ⟨b, p0, n0, c0, b', p1, n1, c1, rfl, h0, h1⟩ := h
  have szc := hid (sz_lowBy (p := p) hq h1.sz)
  have H0 := hid h0; have H1 := hid h1
  clear h0 h1
  go_enter Try.func37, Try.ntmps37
  go_upto_region 1 with fail
  generalize hW : World.alloc (World.alloc w _) _ = W2
  have bw : Below w.heap.size w W2 := by rw [← hW]; exact (below1 _ _).alloc (by simp) _
  have r1 : Rec W2 w.heap.size 51 #[.bool b, .slice p0 n0 c0, .bool b', .slice p1 n1 c1] := by
    rw [← hW]; exact (Rec.new ..).below (below1 _ _)
  have r2 : Rec W2 (w.heap.size + 1) 29 #[.bool false, .slice none 0 0, .slice none 0 0] := by
    rw [← hW]
    have := Rec.new (w.alloc (.cells #[.bool b, .slice p0 n0 c0, .bool b', .slice p1 n1 c1] 51)) #[.bool false, .slice none 0 0, .slice none 0 0] 29
    rwa [size_alloc] at this
  clear hW
  have R0 := hid (H0.out.below bw); have R1 := hid (H1.out.below bw)
  have x := cells4 r1
  obtain ⟨x0, x1, x2, x3⟩ := x
  have Hr1 := hid r1; have Hr2 := hid r2; have Hbw := hid bw
  clear r1 r2 bw H0 H1
  go_wp2_with fail
  refine (Gcd_any _ _ p q W2 R0.out R1.out).mono ?_
  rintro e W3 ⟨v3, rfl, i3, b3⟩
  have i3s := i3.parts'
  obtain ⟨d3, p3, n3, c3, rfl, i3⟩ := i3s
  go_upto_region 2 with fail
  generalize hW : World.alloc W3 _ = W4
  have X4 : Below W2.heap.size W2 W4 ∧ IntCell W4 W3.heap.size (Nat.gcd p.natAbs q.natAbs : Nat) := by
    rw [← hW]; exact ⟨b3.trans ((below1 _ _).mono (B' := W2.heap.size) b3.size), _, _, _, _, heap_alloc_new W3 _, i3.below (below1 _ _)⟩
  have r1 := Hr1.out.below X4.1; have r2 := Hr2.out.below X4.1; have R0' := R0.out.below X4.1; have R1' := R1.out.below X4.1
  have b4 : Below w.heap.size w W4 := Hbw.out.trans (X4.1.mono (B' := w.heap.size) Hbw.out.size)
  have C4 := X4.2
  obtain ⟨g3, hg3⟩ : ∃ g, g = W3.heap.size := ⟨_, rfl⟩
  have hg3' : w.heap.size + 1 ≠ g3 ∧ w.heap.size ≠ g3 ∧ w.heap.size ≤ g3 := by have := b3.size; have := Hr2.out.lt; omega
  obtain ⟨hg31, hg32, hg33⟩ := hg3'
  rw [← hg3] at C4 ⊢
  clear hW X4 x0 x1 x2 x3 b3 i3 Hr1 Hr2 Hbw R0 R1 hg3
  have x := cells4 r1
  obtain ⟨x0, x1, x2, x3⟩ := x
  have hsg := Sign_any _ q W4 R1'
  have Hsg := hid hsg
  have Hr1 := hid r1; have Hr2 := hid r2; have HR0 := hid R0'; have HR1 := hid R1'; have Hb4 := hid b4; have HC4 := hid C4
  clear hsg r1 r2 R0' R1' b4 C4
  by_cases hneg : q < 0
  · rw [Int.sign_eq_neg_one_of_neg hneg] at Hsg
    have hlb : Hid (-((Nat.gcd p.natAbs q.natAbs : Nat) : Int) = lowBy p q) := by unfold Hid lowBy; rw [if_pos hneg]
    have szg : Hid (sz W ((Nat.gcd p.natAbs q.natAbs : Nat) : Int).natAbs ≤ 1099511627776) := by
      have := szc.out
      rw [← hlb.out, Int.natAbs_neg] at this
      exact this
    clear hneg
    go_wp2_with fail
    refine Hsg.out.mono ?_
    rintro e W5 ⟨rfl, b5⟩
    have r1 := Hr1.out.below b5; have r2 := Hr2.out.below b5; have R0' := HR0.out.below b5; have R1' := HR1.out.below b5; have C5 := HC4.out.below b5
    have b5' : Below w.heap.size w W5 := Hb4.out.trans (b5.mono (B' := w.heap.size) Hb4.out.size)
    clear x0 x1 x2 x3 Hr1 Hr2 HR0 HR1 HC4 b5 Hb4 Hsg
    obtain ⟨d6, p6, n6, c6, e6, i6⟩ := id C5
    have e6' := two_cells e6
    obtain ⟨y0, y1, -, -⟩ := e6'
    have hng := Neg_any _ _ W5 (i6.raw szg.out)
    have Hng := hid hng
    have Hr1 := hid r1; have Hr2 := hid r2; have HR0 := hid R0'; have HR1 := hid R1'; have Hb5 := hid b5'; have HC5 := hid C5
    clear hng r1 r2 R0' R1' b5' C5 e6 i6
    go_wp2_with fail
    refine Hng.out.mono ?_
    rintro e W5b ⟨v5, rfl, i5, b5⟩
    have i5s := i5.parts'
    obtain ⟨d5, p5, n5, c5, rfl, i5⟩ := i5s
    have P5 := (HC5.out.below b5).pair
    have r1 := Hr1.out.below b5; have r2 := Hr2.out.below b5; have R0' := HR0.out.below b5; have R1' := HR1.out.below b5
    have b5' : Below w.heap.size w W5b := Hb5.out.trans (b5.mono (B' := w.heap.size) Hb5.out.size)
    have P5' := P5.cells
    obtain ⟨_, _, q0, q1, q2, q3⟩ := P5'
    have C6 := IntCell.put P5 i5
    rw [hlb.out] at C6
    obtain ⟨xx, pp, nn, cc, hh⟩ := P5
    have k2 := put2 hh (by simp [nonInt]) (.bool d5) (.slice p5 n5 c5) (by simp [nonInt])
    have r1 := k2.2.rcs _ _ _ hg32 r1
    have r2 := k2.2.rcs _ _ _ hg31 r2
    have R0 := k2.2.raw _ _ R0'
    have R1 := k2.2.raw _ _ R1'
    have b6 := k2.2.bel w.heap.size w hg33 b5'
    clear k2 hh R0' R1' b5' i5 b5 Hr1 Hr2 HR0 HR1 HC5 Hb5 Hng y0 y1 hlb szg
    go_upto_region 4 with fail
    generalize ((W5b.setCell ⟨g3, 0, none⟩ (.bool d5)).setCell ⟨g3, 1, none⟩ (.slice p5 n5 c5)) = W6 at *
    clear q0 q1 q2 q3
    have cg := lowBy_ne (p := p) hq
    have hnum := low_num (p := p) hq
    have hden := low_den (p := p) hq
    generalize lowBy p q = c at *
    have szc' := szc.out
    obtain ⟨d6, p6, n6, c6, e6, i6⟩ := id C6
    have e6' := two_cells e6
    obtain ⟨y0, y1, -, -⟩ := e6'
    have x := cells4 r1
    obtain ⟨x0, x1, x2, x3⟩ := x
    have hdiv := Div_any _ _ p c W6 R0 (i6.raw szc') cg
    have Hdiv := hid hdiv
    have Hr1 := hid r1; have Hr2 := hid r2; have HC6 := hid C6; have HR0 := hid R0; have HR1 := hid R1; have Hb6 := hid b6
    have Hnum := hid hnum; have Hden := hid hden; have Hcg := hid cg
    clear hdiv r1 r2 C6 R0 R1 b6 e6 i6 hnum hden cg hq
    go_wp2_with fail
    refine Hdiv.out.mono ?_
    rintro e W7 ⟨vq, vr, rfl, hqq, hrr, b7⟩
    have hqq := hqq.parts'
    obtain ⟨dq, pq, nq, cq', rfl, hqq⟩ := hqq
    have hrr := hrr.parts'
    obtain ⟨dr, pr, nr, cr, rfl, -⟩ := hrr
    go_upto_region 5 with fail
    generalize hW : World.alloc (World.alloc W7 _) _ = W8
    have X8 : Below W7.heap.size W7 W8 ∧ Rec W8 W7.heap.size 25 #[.bool dq, .slice pq nq cq'] := by
      rw [← hW]; exact ⟨((Below.refl _ _).alloc (Nat.le_refl _) _).alloc (by simp) _, (Rec.new ..).below (below1 _ _)⟩
    have b68 : Below W6.heap.size W6 W8 := b7.trans (X8.1.mono (B' := W6.heap.size) b7.size)
    have k4 := X8.2
    have i4 := hqq.below X8.1
    have r1 := Hr1.out.below b68; have r2 := Hr2.out.below b68; have C8 := HC6.out.below b68; have R1 := HR1.out.below b68
    have b8 : Below w.heap.size w W8 := Hb6.out.trans (b68.mono (B' := w.heap.size) Hb6.out.size)
    obtain ⟨g4, hg4⟩ : ∃ g, g = W7.heap.size := ⟨_, rfl⟩
    have hg4' : w.heap.size + 1 ≠ g4 := by have := b7.size; have := Hr2.out.lt; omega
    rw [← hg4] at k4 ⊢
    clear hW X8 y0 y1 x0 x1 x2 x3 b7 hqq b68 Hr1 Hr2 HC6 HR0 HR1 Hb6 Hdiv hg4
    obtain ⟨d6', p6', n6', c6', e6, i6⟩ := id C8
    have e6' := two_cells e6
    obtain ⟨y0, y1, -, -⟩ := e6'
    have x := cells4 r1
    obtain ⟨x0, x1, x2, x3⟩ := x
    have hdiv := Div_any _ _ q c W8 R1 (i6.raw szc') Hcg.out
    have Hdiv := hid hdiv
    have Hr2 := hid r2; have Hb8 := hid b8; have Hk4 := hid k4; have Hi4 := hid i4
    clear hdiv r1 r2 C8 R1 b8 e6 i6 k4 i4
    go_wp2_with fail
    refine Hdiv.out.mono ?_
    rintro e W9 ⟨vq, vr, rfl, hqq, hrr, b9⟩
    rw [Hden.out] at hqq
    have hqq := hqq.shape
    obtain ⟨pd, nd, cd, rfl, hqq⟩ := hqq
    have hrr := hrr.parts'
    obtain ⟨dr', pr', nr', cr', rfl, -⟩ := hrr
    have hneg : decide (((Rat.divInt p q).den : Int) < 0) = false := decide_eq_false (by omega)
    rw [hneg] at hqq ⊢
    go_upto_region 6 with fail
    generalize hW : World.alloc (World.alloc W9 _) _ = W10
    have X10 : Below W9.heap.size W9 W10 ∧ Rec W10 W9.heap.size 25 #[.bool false, .slice pd nd cd] := by
      rw [← hW]; exact ⟨((Below.refl _ _).alloc (Nat.le_refl _) _).alloc (by simp) _, (Rec.new ..).below (below1 _ _)⟩
    have b810 : Below W8.heap.size W8 W10 := b9.trans (X10.1.mono (B' := W8.heap.size) b9.size)
    have k7 := X10.2
    have i7 := hqq.below X10.1
    have r2 := Hr2.out.below b810; have k4 := Hk4.out.below b810; have i4 := Hi4.out.below b810
    have b10 : Below w.heap.size w W10 := Hb8.out.trans (b810.mono (B' := w.heap.size) Hb8.out.size)
    clear hW X10 y0 y1 x0 x1 x2 x3 b9 hqq b810 Hr2 Hk4 Hi4 Hb8 Hdiv hneg
    have y0 := k4.cell 0; have y1 := k4.cell 1; have z1 := k7.cell 1
    simp only [List.getElem?_toArray, List.getElem?_cons_zero, List.getElem?_cons_succ] at y0 y1 z1
    have x := cells3 r2
    obtain ⟨x0, x1, x2⟩ := x
    have f := frozen4 r2
    obtain ⟨f0, f1, f2, -⟩ := f
    rw [Hnum.out] at i4
    have m2 := put3 r2 (by simp [nonInt]) (.bool dq) (.slice pq nq cq') (.slice pd nd cd) (by simp [nonInt])
    have mi := hid (m2.2.int _ _ i4)
    have md := hid (m2.2.int _ _ i7)
    have mb := hid (m2.2.bel w.heap.size w (by omega) b10)
    clear m2 i4 i7 b10 r2 k4 k7
    go_wp2
    exact bodyPost_ret (v := .agg #[.bool dq, .slice pq nq cq', .slice pd nd cd]) (by simp [results, Try.results37, go_sem, x0, x1, x2]) rfl ⟨_, rfl, ⟨_, _, _, _, _, _, _, rfl, mi.out, md.out⟩, mb.out⟩
  · rw [Int.sign_eq_one_of_pos (show 0 < q by omega)] at Hsg
    have hlb : Hid (((Nat.gcd p.natAbs q.natAbs : Nat) : Int) = lowBy p q) := by unfold Hid lowBy; rw [if_neg hneg]
    clear hneg
    go_wp2_with fail
    refine Hsg.out.mono ?_
    rintro e W6 ⟨rfl, b5⟩
    have r1 := Hr1.out.below b5; have r2 := Hr2.out.below b5; have R0 := HR0.out.below b5; have R1 := HR1.out.below b5; have C6 := HC4.out.below b5
    have b6 : Below w.heap.size w W6 := Hb4.out.trans (b5.mono (B' := w.heap.size) Hb4.out.size)
    rw [hlb.out] at C6
    clear x0 x1 x2 x3 Hr1 Hr2 HR0 HR1 HC4 b5 Hb4 Hsg hlb
    have cg := lowBy_ne (p := p) hq
    have hnum := low_num (p := p) hq
    have hden := low_den (p := p) hq
    generalize lowBy p q = c at *
    have szc' := szc.out
    obtain ⟨d6, p6, n6, c6, e6, i6⟩ := id C6
    have e6' := two_cells e6
    obtain ⟨y0, y1, -, -⟩ := e6'
    have x := cells4 r1
    obtain ⟨x0, x1, x2, x3⟩ := x
    have hdiv := Div_any _ _ p c W6 R0 (i6.raw szc') cg
    have Hdiv := hid hdiv
    have Hr1 := hid r1; have Hr2 := hid r2; have HC6 := hid C6; have HR0 := hid R0; have HR1 := hid R1; have Hb6 := hid b6
    have Hnum := hid hnum; have Hden := hid hden; have Hcg := hid cg
    clear hdiv r1 r2 C6 R0 R1 b6 e6 i6 hnum hden cg hq
    go_wp2_with fail
    refine Hdiv.out.mono ?_
    rintro e W7 ⟨vq, vr, rfl, hqq, hrr, b7⟩
    have hqq := hqq.parts'
    obtain ⟨dq, pq, nq, cq', rfl, hqq⟩ := hqq
    have hrr := hrr.parts'
    obtain ⟨dr, pr, nr, cr, rfl, -⟩ := hrr
    go_upto_region 5 with fail
    generalize hW : World.alloc (World.alloc W7 _) _ = W8
    have X8 : Below W7.heap.size W7 W8 ∧ Rec W8 W7.heap.size 25 #[.bool dq, .slice pq nq cq'] := by
      rw [← hW]; exact ⟨((Below.refl _ _).alloc (Nat.le_refl _) _).alloc (by simp) _, (Rec.new ..).below (below1 _ _)⟩
    have b68 : Below W6.heap.size W6 W8 := b7.trans (X8.1.mono (B' := W6.heap.size) b7.size)
    have k4 := X8.2
    have i4 := hqq.below X8.1
    have r1 := Hr1.out.below b68; have r2 := Hr2.out.below b68; have C8 := HC6.out.below b68; have R1 := HR1.out.below b68
    have b8 : Below w.heap.size w W8 := Hb6.out.trans (b68.mono (B' := w.heap.size) Hb6.out.size)
    obtain ⟨g4, hg4⟩ : ∃ g, g = W7.heap.size := ⟨_, rfl⟩
    have hg4' : w.heap.size + 1 ≠ g4 := by have := b7.size; have := Hr2.out.lt; omega
    rw [← hg4] at k4 ⊢
    clear hW X8 y0 y1 x0 x1 x2 x3 b7 hqq b68 Hr1 Hr2 HC6 HR0 HR1 Hb6 Hdiv hg4
    obtain ⟨d6', p6', n6', c6', e6, i6⟩ := id C8
    have e6' := two_cells e6
    obtain ⟨y0, y1, -, -⟩ := e6'
    have x := cells4 r1
    obtain ⟨x0, x1, x2, x3⟩ := x
    have hdiv := Div_any _ _ q c W8 R1 (i6.raw szc') Hcg.out
    have Hdiv := hid hdiv
    have Hr2 := hid r2; have Hb8 := hid b8; have Hk4 := hid k4; have Hi4 := hid i4
    clear hdiv r1 r2 C8 R1 b8 e6 i6 k4 i4
    go_wp2_with fail
    refine Hdiv.out.mono ?_
    rintro e W9 ⟨vq, vr, rfl, hqq, hrr, b9⟩
    rw [Hden.out] at hqq
    have hqq := hqq.shape
    obtain ⟨pd, nd, cd, rfl, hqq⟩ := hqq
    have hrr := hrr.parts'
    obtain ⟨dr', pr', nr', cr', rfl, -⟩ := hrr
    have hneg : decide (((Rat.divInt p q).den : Int) < 0) = false := decide_eq_false (by omega)
    rw [hneg] at hqq ⊢
    go_upto_region 6 with fail
    generalize hW : World.alloc (World.alloc W9 _) _ = W10
    have X10 : Below W9.heap.size W9 W10 ∧ Rec W10 W9.heap.size 25 #[.bool false, .slice pd nd cd] := by
      rw [← hW]; exact ⟨((Below.refl _ _).alloc (Nat.le_refl _) _).alloc (by simp) _, (Rec.new ..).below (below1 _ _)⟩
    have b810 : Below W8.heap.size W8 W10 := b9.trans (X10.1.mono (B' := W8.heap.size) b9.size)
    have k7 := X10.2
    have i7 := hqq.below X10.1
    have r2 := Hr2.out.below b810; have k4 := Hk4.out.below b810; have i4 := Hi4.out.below b810
    have b10 : Below w.heap.size w W10 := Hb8.out.trans (b810.mono (B' := w.heap.size) Hb8.out.size)
    clear hW X10 y0 y1 x0 x1 x2 x3 b9 hqq b810 Hr2 Hk4 Hi4 Hb8 Hdiv hneg
    have y0 := k4.cell 0; have y1 := k4.cell 1; have z1 := k7.cell 1
    simp only [List.getElem?_toArray, List.getElem?_cons_zero, List.getElem?_cons_succ] at y0 y1 z1
    have x := cells3 r2
    obtain ⟨x0, x1, x2⟩ := x
    have f := frozen4 r2
    obtain ⟨f0, f1, f2, -⟩ := f
    rw [Hnum.out] at i4
    have m2 := put3 r2 (by simp [nonInt]) (.bool dq) (.slice pq nq cq') (.slice pd nd cd) (by simp [nonInt])
    have mi := hid (m2.2.int _ _ i4)
    have md := hid (m2.2.int _ _ i7)
    have mb := hid (m2.2.bel w.heap.size w (by omega) b10)
    clear m2 i4 i7 b10 r2 k4 k7
    go_wp2
    exact bodyPost_ret (v := .agg #[.bool dq, .slice pq nq cq', .slice pd nd cd]) (by simp [results, Try.results37, go_sem, x0, x1, x2]) rfl ⟨_, rfl, ⟨_, _, _, _, _, _, _, rfl, mi.out, md.out⟩, mb.out⟩
end Go.Proofs.Yteiniokddopacaa
