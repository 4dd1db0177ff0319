/- Texts put together: RefDiv, RefGcd, Late. -/
import Derived.Test.YtjfcocadohgneaaGreatLinearTightCardM2
import Derived.Deep.DeepCutAuto
/- elenchusref01.Div. -/
namespace Go.Proofs.YtjfcocadohgneaaGreat
open Go.RowKit Big

def eqF (v0 : Value) : SFact := ⟨fun v _ => v = v0, fun _ _ _ h _ => h⟩
def atF (l : List Nat) : SFact := ⟨fun v w => At w .u64 v l, fun _ _ _ h hb => h.below hb⟩
def intF (z : Int) : SFact := ⟨fun v w => ∃ d p n c, v = .agg #[.bool d, .slice p n c] ∧ IntAt w v z, fun _ _ _ ⟨d, p, n, c, h1, h2⟩ hb => ⟨d, p, n, c, h1, h2.below hb⟩⟩
def varF (B : Nat) : SFact := ⟨fun v w => VarAt w B v, fun _ _ _ h hb => h.below hb⟩
theorem len15 {vs : List Value} (h : vs.length = 15) : ∃ a b c d e f g h i j k l m n o, vs = [a, b, c, d, e, f, g, h, i, j, k, l, m, n, o] := by
  match vs, h with
  | [a, b, c, d, e, f, g, h, i, j, k, l, m, n, o], _ => exact ⟨a, b, c, d, e, f, g, h, i, j, k, l, m, n, o, rfl⟩
theorem len5 {vs : List Value} (h : vs.length = 5) : ∃ a b c d e, vs = [a, b, c, d, e] := by
  match vs, h with
  | [a, b, c, d, e], _ => exact ⟨a, b, c, d, e, rfl⟩
theorem len3 {vs : List Value} (h : vs.length = 3) : ∃ a b c, vs = [a, b, c] := by
  match vs, h with
  | [a, b, c], _ => exact ⟨a, b, c, rfl⟩
/-- block g is a variable that holds this whole number -/
def IntCell (w : World) (g : Nat) (z : Int) : Prop := ∃ d p n c, w.heap[g]? = some (.cells #[.bool d, .slice p n c] 39 (0, 0)) ∧ IntAt w (.agg #[.bool d, .slice p n c]) z
theorem IntCell.pair {w : World} {g : Nat} {z : Int} (h : IntCell w g z) : Pair w g 39 := by
  obtain ⟨d, p, n, c, h, -⟩ := h
  exact ⟨d, p, n, c, h⟩
theorem IntCell.below {w w' : World} {g : Nat} {z : Int} (h : IntCell w g z) (hb : Below w.heap.size w w') : IntCell w' g z := by
  obtain ⟨d, p, n, c, h, hi⟩ := h
  exact ⟨d, p, n, c, (hb.block g (Array.getElem?_eq_some_iff.1 h).1).trans h, hi.below hb⟩
theorem IntCell.put {w : World} {g : Nat} {z : Int} {d : Bool} {p : Option Addr} {n c : Nat} (hp : Pair w g 39) (hi : IntAt w (.agg #[.bool d, .slice p n c]) z) :
    IntCell ((w.setCell ⟨g, 0, none⟩ (.bool d)).setCell ⟨g, 1, none⟩ (.slice p n c)) g z := ⟨d, p, n, c, hp.put .., hi.stored hp ..⟩
theorem IntCell.apart {w : World} {g g' : Nat} {z : Int} (h : IntCell w g z) (hp : Pair w g' 39) (hne : g ≠ g') (d : Bool) (p : Option Addr) (n c : Nat) :
    IntCell ((w.setCell ⟨g', 0, none⟩ (.bool d)).setCell ⟨g', 1, none⟩ (.slice p n c)) g z := by
  obtain ⟨d', p', n', c', h, hi⟩ := h
  exact ⟨d', p', n', c', ((Below.heap_setCell _ _ _ _ hne).trans (Below.heap_setCell _ _ _ _ hne)).trans h, hi.stored hp ..⟩
def RDivR (q r : Int) (w : World) (e : Ending) (w' : World) : Prop := ∃ v v', e = .returned (.tuple #[v, v']) ∧ IntAt w' v q ∧ IntAt w' v' r ∧ Below w.heap.size w w'

set_option maxRecDepth 100000 in
set_option maxHeartbeats 6400000 in
theorem RDiv_any (v0 v1 : Value) (a b : Int) (w : World) (h0 : RawAt w v0 a) (h1 : RawAt w v1 b) (hb0 : b ≠ 0) (ha : sz W a.natAbs ≤ 549755813888) (hbs : sz W b.natAbs ≤ 549755813888) :
    Calls Tryz.prog 73 #[v0, v1] w (RDivR (a / b) (a % b) w) := by
  obtain ⟨n0, s0, l0, rfl, a0, b0, c0, rfl⟩ := h0
  obtain ⟨n1, s1, l1, rfl, a1, b1, c1, rfl⟩ := h1
  rw [sg_natAbs] at ha hbs
  have g0 : ∀ W', Below w.heap.size w W' → Calls Tryz.prog 55 #[s0] W' (RAt .i64 (dig D (val W l0)) W') := fun W' hb => Digits_any s0 l0 W' (a0.below hb) b0 (by omega)
  have g1 : ∀ W', Below w.heap.size w W' → Calls Tryz.prog 55 #[s1] W' (RAt .i64 (dig D (val W l1)) W') := fun W' hb => Digits_any s1 l1 W' (a1.below hb) b1 (by omega)
  have hwb : ∀ W', Below w.heap.size w W' → Calls Tryz.prog 52 #[.bool false, s1] W' (RInt (val W l1 : Nat) W') := fun W' hb => by
    have := Whole_any false s1 l1 W' (a1.below hb) b1 (by omega)
    simpa [sg] using this
  have hy : 0 < val W l1 := Nat.pos_of_ne_zero fun e => hb0 (by rw [e, sg_zero])
  obtain ⟨x, hx⟩ : ∃ x, x = val W l0 := ⟨_, rfl⟩
  obtain ⟨y, hyv⟩ : ∃ y, y = val W l1 := ⟨_, rfl⟩
  rw [← hx] at g0 ha ⊢
  rw [← hyv] at g1 hwb hy hbs ⊢
  have d0 : sz D x ≤ 2199023255552 := Nat.le_trans (sz_D_W x) (by omega)
  have d1 : sz D y ≤ 2199023255552 := Nat.le_trans (sz_D_W y) (by omega)
  have dq : sz D (x / y) ≤ 2199023255552 := Nat.le_trans (sz_mono D2 (Nat.div_le_self x y)) d0
  have dr : sz D (x % y) ≤ 2199023255552 := Nat.le_trans (sz_mono D2 (Nat.mod_le x y)) d0
  have wq : sz W (x / y) ≤ 549755813888 := Nat.le_trans (sz_mono W2 (Nat.div_le_self x y)) ha
  have wr' : sz W (x % y) ≤ 549755813888 := Nat.le_trans (sz_mono W2 (Nat.mod_le x y)) ha
  have hpt : ∀ W' u u', At W' .i64 u (dig D x) → At W' .i64 u' (dig D y) → Calls Tryz.prog 106 #[u, u'] W' (RParts (x / y) (x % y) W') := fun W' u u' hu hu' => by
    have := rparts_any u u' _ y W' hu hu' (small_dig D2 x) hy (by show sz D x ≤ _; omega) d1
    rwa [val_dig D2] at this
  have hfr : ∀ n, sz D n ≤ 2199023255552 → ∀ W' u, At W' .i64 u (dig D n) → Calls Tryz.prog 53 #[u] W' (RAt .u64 (dig W n) W') := fun n hn W' u hu => by
    have := From_any u _ W' hu (small_dig D2 n) (by show sz D n ≤ _; omega)
    rwa [val_dig D2] at this
  have hwh : ∀ (neg : Bool) n, sz W n ≤ 549755813888 → ∀ W' u, At W' .u64 u (dig W n) → Calls Tryz.prog 52 #[.bool neg, u] W' (RInt (sg neg n) W') := fun neg n hn W' u hu => by
    have := Whole_any neg u _ W' hu (small_dig W2 n) (by show sz W n ≤ _; omega)
    rwa [val_dig W2] at this
  have Fq := hid (hfr _ dq); have Fr := hid (hfr _ dr); have Wq := hid (hwh (n0 != n1) _ wq); have Wr := hid (hwh n0 _ wr'); have G0 := hid g0; have G1 := hid g1; have HP := hid hpt; have HWB := hid hwb
  clear g0 g1 hwb hpt hfr hwh dq dr d0 d1 hx hyv a0 a1 b0 b1 c0 c1
  obtain ⟨Q, hQ⟩ : ∃ Q, Q = sg n0 x / sg n1 y := ⟨_, rfl⟩
  obtain ⟨R, hR⟩ : ∃ R, R = sg n0 x % sg n1 y := ⟨_, rfl⟩
  rw [← hQ, ← hR]
  have HQ := hid hQ; have HR := hid hR
  clear hQ hR hb0
  go_enter Tryz.func73, Tryz.ntmps73
  go_wp2_with fail
  generalize hW : World.alloc (World.alloc (World.alloc (World.alloc w _) _) _) _ = W3
  have bw : Below w.heap.size w W3 := by rw [← hW]; exact (((below1 _ _).alloc (by simp) _).alloc (by simp; omega) _).alloc (by simp; omega) _
  have hp : Pair W3 (w.heap.size + 1 + 1) 39 := by rw [← hW]; exact Pair.below (Pair.new2 ..) (below1 _ _)
  have hp' : Pair W3 (w.heap.size + 1 + 1 + 1) 39 := by rw [← hW]; exact Pair.new3 ..
  have tw : Two W3 w.heap.size (.bool n0) s0 (.bool n1) s1 := by rw [← hW]; exact (Two.new w _ _ _ _ _).below ((below1 _ _).alloc (by simp) _)
  have z3 : w.heap.size + 4 ≤ W3.heap.size := by rw [← hW]; simp
  have bw' := hid bw
  have HT := hid tw; have Hp := hid hp; have Hp' := hid hp'
  clear hW bw tw hp hp'
  have HS : Hid (∀ w', Below W3.heap.size W3 w' → w'.cell? ⟨w.heap.size, 0, none⟩ = some (.bool n0) ∧ w'.cell? ⟨w.heap.size, 1, none⟩ = some s0 ∧ w'.cell? ⟨w.heap.size + 1, 0, none⟩ = some (.bool n1) ∧ w'.cell? ⟨w.heap.size + 1, 1, none⟩ = some s1 ∧ Below W3.heap.size W3 w') := by
    intro w' hb
    have ht := HT.out.below hb
    exact ⟨ht.c00, ht.c01, ht.c10, ht.c11, hb⟩
  have HBW : Hid (∀ w', Below W3.heap.size W3 w' → Below w.heap.size w w') := fun w' hb => bw'.out.trans (hb.mono (by omega))
  go_region_held3 (fun w' => w'.cell? ⟨w.heap.size, 0, none⟩ = some (.bool n0) ∧ w'.cell? ⟨w.heap.size, 1, none⟩ = some s0 ∧ w'.cell? ⟨w.heap.size + 1, 0, none⟩ = some (.bool n1) ∧ w'.cell? ⟨w.heap.size + 1, 1, none⟩ = some s1 ∧ Below W3.heap.size W3 w')
    (first | exact HS.out _ (Below.drew (Below.refl _ _)) | (refine HS.out _ (Below.go hb ?_); go_split_ands; assumption))
    (first
      | (go_at_call_of 55 (s0); (fail_if_success have _t := i1); refine (G0.out _ (HBW.out _ (by go_split_ands; assumption))).mono ?_; rintro e w1 ⟨v1, rfl, i1, hb⟩)
      | (go_at_call_of 55 (s1); refine (G1.out _ (HBW.out _ (by go_split_ands; assumption))).mono ?_; rintro e w2 ⟨v2, rfl, i2, hb⟩; have i1' := i1.below hb; clear i1)
      | (go_at_call 106; refine (HP.out _ _ _ i1' i2).mono ?_; rintro e w3 ⟨v3, v4, rfl, i3, i4, hb⟩; clear i1' i2))
  rename_i hHeld
  go_split_ands
  have HB3 := hid (show Below W3.heap.size W3 w3 by assumption)
  have I3 := hid i3; have I4 := hid i4
  clear i3 i4
  go_upto_region 2 with fail
  have hB3 : W3.heap.size ≤ w3.heap.size := HB3.out.size
  go_cut [8, 9] (fun s8 s9 wx => ∃ g8 g9, s8 = .pointer (some ⟨g8, 0, none⟩) ∧ s9 = .pointer (some ⟨g9, 0, none⟩) ∧ g8 ≠ g9 ∧ w3.heap.size ≤ g8 ∧ w3.heap.size ≤ g9 ∧ IntCell wx g8 (sg (n0 != n1) (x / y)) ∧ IntCell wx g9 (sg n0 (x % y)) ∧ Below w3.heap.size w3 wx)
  case first =>
    rename_i Jc Kc hJc hKc
    refine wp_region_facts (w0 := w3) 15 2 [20, 21, 22, 23, 24, 25, 26, 27, 28, 29, 30, 31, 32, 8, 9] [undef, undef, undef, undef, undef, undef, undef, undef, undef, undef, undef, undef, undef, undef, undef]
      (fun i => match i with
        | 0 => eqF (.pointer (some ⟨w.heap.size, 0, none⟩)) | 1 => eqF (.bool n0) | 2 => eqF (.pointer (some ⟨w.heap.size + 1, 0, none⟩)) | 3 => eqF (.bool n1) | 4 => eqF (.bool (n0 != n1)) | 5 => eqF v3
        | 6 => atF (dig W (x / y)) | 7 => intF (sg (n0 != n1) (x / y)) | 8 => eqF (.pointer (some ⟨w.heap.size, 0, none⟩)) | 9 => eqF (.bool n0) | 10 => eqF v4 | 11 => atF (dig W (x % y)) | 12 => intF (sg n0 (x % y))
        | 13 => varF w3.heap.size | _ => varF w3.heap.size) [13, 14] (by kernel_rfl) (by kernel_rfl) (by kernel_rfl) (by kernel_rfl) (by decide) rfl (by kernel_rfl) rfl (by simp) ?he ?_ ?_ ?_
    case he => simp only [putAll, Act.put, List.setIfInBounds_toArray, List.set_cons_zero, List.set_cons_succ]
    · intro i hi v w' h
      simp only [List.mem_cons, List.not_mem_nil, or_false] at hi
      rcases hi with rfl | rfl
      · obtain ⟨g, hg, hp, -⟩ := (show VarAt w' w3.heap.size v from h); exact ⟨g, hg, hp.lt⟩
      · obtain ⟨g, hg, hp, -⟩ := (show VarAt w' w3.heap.size v from h); exact ⟨g, hg, hp.lt⟩
    · intro i o hi ho vs wx hvl hb hdep K hK
      have hvs := len15 hvl
      obtain ⟨s20, s21, s22, s23, s24, s25, s26, s27, s28, s29, s30, s31, s32, s8, s9, rfl⟩ := hvs
      have hk := HS.out wx (Below.go hb HB3.out)
      clear hvl
      go_split_ands
      rcases i with _ | _ | _ | _ | _ | _ | _ | _ | _ | _ | _ | _ | _ | _ | _ | i
      all_goals (simp only [List.getElem?_toArray, List.getElem?_cons_zero, List.getElem?_cons_succ, Option.some.injEq] at ho)
      all_goals try (subst ho)
      all_goals try simp only [putAll, Act.put, List.setIfInBounds_toArray, List.set_cons_zero, List.set_cons_succ]
      · go_simp
        have hK' := hK.out
        simp only [putAll, Act.put, List.setIfInBounds_toArray, List.set_cons_zero, List.set_cons_succ] at hK'
        exact hK' _ _ rfl (Below.refl _ _) (by simp)
      · have d0 : s20 = _ := hdep ⟨0, .data⟩ (by simp) rfl
        subst d0
        go_simp
        have hK' := hK.out
        simp only [putAll, Act.put, List.setIfInBounds_toArray, List.set_cons_zero, List.set_cons_succ] at hK'
        exact hK' _ _ rfl (Below.refl _ _) (by simp)
      · go_simp
        have hK' := hK.out
        simp only [putAll, Act.put, List.setIfInBounds_toArray, List.set_cons_zero, List.set_cons_succ] at hK'
        exact hK' _ _ rfl (Below.refl _ _) (by simp)
      · have d2 : s22 = _ := hdep ⟨2, .data⟩ (by simp) rfl
        subst d2
        go_simp
        have hK' := hK.out
        simp only [putAll, Act.put, List.setIfInBounds_toArray, List.set_cons_zero, List.set_cons_succ] at hK'
        exact hK' _ _ rfl (Below.refl _ _) (by simp)
      · have d1 : s21 = _ := hdep ⟨1, .data⟩ (by simp) rfl
        subst d1
        have d3 : s23 = _ := hdep ⟨3, .data⟩ (by simp) rfl
        subst d3
        go_simp
        have hK' := hK.out
        simp only [putAll, Act.put, List.setIfInBounds_toArray, List.set_cons_zero, List.set_cons_succ] at hK'
        exact hK' _ _ rfl (Below.refl _ _) (by simp)
      · go_simp
        have hK' := hK.out
        simp only [putAll, Act.put, List.setIfInBounds_toArray, List.set_cons_zero, List.set_cons_succ] at hK'
        exact hK' _ _ rfl (Below.refl _ _) (by simp)
      · have d5 : s25 = _ := hdep ⟨5, .data⟩ (by simp) rfl
        subst d5
        go_simp
        refine (Fq.out _ _ (I3.out.below hb)).mono ?_
        rintro e wy ⟨vy, rfl, iy, hby⟩
        go_wp2_with fail
        have hK' := hK.out
        simp only [putAll, Act.put, List.setIfInBounds_toArray, List.set_cons_zero, List.set_cons_succ] at hK'
        exact hK' _ _ iy hby (by simp)
      · have d4 : s24 = _ := hdep ⟨4, .data⟩ (by simp) rfl
        subst d4
        have d6 : At wx .u64 s26 _ := hdep ⟨6, .data⟩ (by simp) rfl
        go_simp
        refine (Wq.out _ _ d6).mono ?_
        rintro e wy ⟨vy, rfl, iy, hby⟩
        have hsh := iy.shape
        obtain ⟨p5, n5, c5, rfl, iy⟩ := hsh
        go_wp2_with fail
        have hK' := hK.out
        simp only [putAll, Act.put, List.setIfInBounds_toArray, List.set_cons_zero, List.set_cons_succ] at hK'
        exact hK' _ _ ⟨_, _, _, _, rfl, iy⟩ hby (by simp)
      · go_simp
        have hK' := hK.out
        simp only [putAll, Act.put, List.setIfInBounds_toArray, List.set_cons_zero, List.set_cons_succ] at hK'
        exact hK' _ _ rfl (Below.refl _ _) (by simp)
      · have d8 : s28 = _ := hdep ⟨8, .data⟩ (by simp) rfl
        subst d8
        go_simp
        have hK' := hK.out
        simp only [putAll, Act.put, List.setIfInBounds_toArray, List.set_cons_zero, List.set_cons_succ] at hK'
        exact hK' _ _ rfl (Below.refl _ _) (by simp)
      · go_simp
        have hK' := hK.out
        simp only [putAll, Act.put, List.setIfInBounds_toArray, List.set_cons_zero, List.set_cons_succ] at hK'
        exact hK' _ _ rfl (Below.refl _ _) (by simp)
      · have d10 : s30 = _ := hdep ⟨10, .data⟩ (by simp) rfl
        subst d10
        go_simp
        refine (Fr.out _ _ (I4.out.below hb)).mono ?_
        rintro e wy ⟨vy, rfl, iy, hby⟩
        go_wp2_with fail
        have hK' := hK.out
        simp only [putAll, Act.put, List.setIfInBounds_toArray, List.set_cons_zero, List.set_cons_succ] at hK'
        exact hK' _ _ iy hby (by simp)
      · have d9 : s29 = _ := hdep ⟨9, .data⟩ (by simp) rfl
        subst d9
        have d11 : At wx .u64 s31 _ := hdep ⟨11, .data⟩ (by simp) rfl
        go_simp
        refine (Wr.out _ _ d11).mono ?_
        rintro e wy ⟨vy, rfl, iy, hby⟩
        have hsh := iy.shape
        obtain ⟨p5, n5, c5, rfl, iy⟩ := hsh
        go_wp2_with fail
        have hK' := hK.out
        simp only [putAll, Act.put, List.setIfInBounds_toArray, List.set_cons_zero, List.set_cons_succ] at hK'
        exact hK' _ _ ⟨_, _, _, _, rfl, iy⟩ hby (by simp)
      · go_simp
        have hK' := hK.out
        simp only [putAll, Act.put, List.setIfInBounds_toArray, List.set_cons_zero, List.set_cons_succ] at hK'
        exact hK' _ _ ⟨_, rfl, Pair.new .., hb.size⟩ (below1 _ _) (fun _ => rfl)
      · go_simp
        have hK' := hK.out
        simp only [putAll, Act.put, List.setIfInBounds_toArray, List.set_cons_zero, List.set_cons_succ] at hK'
        exact hK' _ _ ⟨_, rfl, Pair.new .., hb.size⟩ (below1 _ _) (fun _ => rfl)
      · omega
    · intro vs wx hvl hb hf hdist
      have hvs := len15 hvl
      obtain ⟨s20, s21, s22, s23, s24, s25, s26, s27, s28, s29, s30, s31, s32, s8, s9, rfl⟩ := hvs
      have f7 : (intF (sg (n0 != n1) (x / y))).P s27 wx := hf 7 (by decide)
      have f12 : (intF (sg n0 (x % y))).P s32 wx := hf 12 (by decide)
      have f13 : VarAt wx w3.heap.size s8 := hf 13 (by decide)
      have f14 : VarAt wx w3.heap.size s9 := hf 14 (by decide)
      have hne : s8 ≠ s9 := hdist 13 (by simp) 14 (by simp) (by decide)
      obtain ⟨d7, p7, m7, c7, rfl, i7⟩ := f7
      obtain ⟨d12, p12, m12, c12, rfl, i12⟩ := f12
      obtain ⟨g8, rfl, hp8, hB8⟩ := f13
      obtain ⟨g9, rfl, hp9, hB9⟩ := f14
      have hgne : g8 ≠ g9 := fun e => hne (by rw [e])
      have c8 := hp8.cells
      obtain ⟨_, _, q0, q1, q2, q3⟩ := c8
      clear hf hdist hvl hne
      refine wpAny_one (i := 15) (by kernel_rfl) rfl ?_
      intro K hK
      simp only [putAll, Act.put, List.setIfInBounds_toArray, List.set_cons_zero, List.set_cons_succ]
      go_simp
      have hK' := hK.out
      apply hK'
      clear hK hK'
      have x8 := IntCell.put hp8 i7
      have hp9' := hp9.apart hgne.symm (.bool d7) (.slice p7 m7 c7)
      have i12' := i12.stored hp8 d7 p7 m7 c7
      have hb' := Below.stored hb hB8 (.bool d7) (.slice p7 m7 c7)
      clear q0 q1 q2 q3 hp8 hp9 i7 i12
      generalize ((wx.setCell ⟨g8, 0, none⟩ (.bool d7)).setCell ⟨g8, 1, none⟩ (.slice p7 m7 c7)) = wy at *
      have c9 := hp9'.cells
      obtain ⟨_, _, q0, q1, q2, q3⟩ := c9
      refine wpAny_one (i := 16) (by kernel_rfl) rfl ?_
      intro K hK
      go_simp
      have hK' := hK.out
      apply hK'
      clear hK hK'
      refine wpAny_done (by kernel_rfl) ?_ _
      refine hKc _ _ (Met.intro (hJc _ _ ?_))
      (repeat apply Exists.intro)
      exact ⟨⟨g8, g9, rfl, rfl, hgne, hB8, hB9, x8.apart hp9' hgne .., IntCell.put hp9' i12', Below.stored hb' hB9 ..⟩, rfl⟩
  case rest =>
    obtain ⟨g8, g9, rfl, rfl, hgne, hB8, hB9, C8, C9, hbc⟩ := hcut
    have z8 : w.heap.size + 4 ≤ g8 := by omega
    have z9 : w.heap.size + 4 ≤ g9 := by omega
    have y8 : W3.heap.size ≤ g8 := by omega
    have y9 : W3.heap.size ≤ g9 := by omega
    have HBc := hid (Below.go hbc HB3.out)
    clear hbc hB8 hB9 hB3
    by_cases hA : n0 = false ∨ x % y = 0
    · have EX : sg (n0 != n1) (x / y) = Q ∧ sg n0 (x % y) = R ∧ 0 ≤ R := by
        rw [HQ.out, HR.out]
        rcases hA with rfl | h0
        · have := div_pos_case (x := x) n1 hy
          have e : sg false x = (x : Int) := by simp [sg]
          have e2 : sg false (x % y) = ((x % y : Nat) : Int) := by simp [sg]
          rw [e, this.1, this.2, e2]
          exact ⟨rfl, rfl, by omega⟩
        · cases n0
          · have := div_pos_case (x := x) n1 hy
            have e : sg false x = (x : Int) := by simp [sg]
            have e2 : sg false (x % y) = ((x % y : Nat) : Int) := by simp [sg]
            rw [e, this.1, this.2, e2]
            exact ⟨rfl, rfl, by omega⟩
          · have := div_neg_even (x := x) n1 hy h0
            have e : sg true x = -(x : Int) := by simp [sg]
            rw [e, this.1, this.2, h0, sg_zero]
            exact ⟨rfl, rfl, by omega⟩
      obtain ⟨ex, ey, hR0⟩ := EX
      rw [ex] at C8
      rw [ey] at C9
      clear ex ey hA
      have hs0 : 0 ≤ R.sign := Int.sign_nonneg_iff.2 hR0
      have hs1 : ¬ R.sign < 0 := by omega
      have t9 := C9
      obtain ⟨d9, p9, m9, c9, e9, i9⟩ := t9
      have e9' := two_cells e9
      obtain ⟨x90, x91, -, -⟩ := e9'
      have hRs : sz W R.natAbs ≤ 1099511627776 := by
        rw [HR.out]
        refine Nat.le_trans (sz_mono W2 (m := y) ?_) (by omega)
        have h1 := Int.emod_nonneg (sg n0 x) (b := sg n1 y) (by intro e; have := congrArg Int.natAbs e; rw [sg_natAbs] at this; simp at this; omega)
        have h2 := Int.emod_lt (sg n0 x) (b := sg n1 y) (by intro e; have := congrArg Int.natAbs e; rw [sg_natAbs] at this; simp at this; omega)
        rw [sg_natAbs] at h2
        omega
      have hsg := hid (RSign_any _ R wc (i9.raw hRs))
      clear e9 i9 hRs
      go_wp2_with fail
      refine wp_loop_rounds 1 ?_
      rw [rounds_succ]
      go_wp2_with fail
      refine hsg.out.mono ?_
      rintro e wz ⟨rfl, hbz⟩
      have HBz := hid (Below.go hbz HBc.out)
      have C8 := C8.below hbz
      have C9 := C9.below hbz
      clear hbz x90 x91 hsg
      have t8 := C8; have t9 := C9
      obtain ⟨d8, p8, m8, c8, e8, i8⟩ := t8
      obtain ⟨d9, p9, m9, c9, e9, i9⟩ := t9
      have P4 := Hp.out.below HBz.out
      have P5 := Hp'.out.below HBz.out
      have e8' := two_cells e8
      obtain ⟨x80, x81, -, -⟩ := e8'
      have e9' := two_cells e9
      obtain ⟨x90, x91, -, -⟩ := e9'
      have P4' := P4.cells
      obtain ⟨_, _, q0, q1, q2, q3⟩ := P4'
      have P5' := P5.cells
      obtain ⟨_, _, r0, r1, r2, r3⟩ := P5'
      have P5s := P5.apart (g' := w.heap.size + 1 + 1) (by omega) (.bool d8) (.slice p8 m8 c8)
      have j8 := hid ((i8.stored P4 d8 p8 m8 c8).stored P5s d9 p9 m9 c9)
      have j9 := hid ((i9.stored P4 d8 p8 m8 c8).stored P5s d9 p9 m9 c9)
      have bz := hid (Below.stored (Below.stored (bw'.out.trans (HBz.out.mono (B' := w.heap.size) (by omega))) (g := w.heap.size + 1 + 1) (by omega) (.bool d8) (.slice p8 m8 c8)) (g := w.heap.size + 1 + 1 + 1) (by omega) (.bool d9) (.slice p9 m9 c9))
      clear P4 P5 P5s i8 i9 e8 e9 C8 C9
      go_wp2_with fail
      go_region
      go_wp2_with fail
      exact bodyPost_ret (v := .tuple #[.agg #[.bool d8, .slice p8 m8 c8], .agg #[.bool d9, .slice p9 m9 c9]])
        (by simp [results, Tryz.results73, go_sem, q0, q1, r0, r1]) rfl
        ⟨_, _, rfl, j8.out, j9.out, bz.out.drew⟩
    · obtain ⟨hn0, hm0⟩ : n0 = true ∧ 0 < x % y := by
        cases n0
        · exact absurd (Or.inl rfl) hA
        · exact ⟨rfl, Nat.pos_of_ne_zero fun e => hA (Or.inr e)⟩
      subst hn0
      obtain ⟨X0, hX0⟩ : ∃ z, z = sg (true != n1) (x / y) := ⟨_, rfl⟩
      obtain ⟨Y0, hY0⟩ : ∃ z, z = sg true (x % y) := ⟨_, rfl⟩
      rw [← hX0] at C8
      rw [← hY0] at C9
      have hodd := div_neg_odd (x := x) n1 hy hm0
      have ex : sg true x = -(x : Int) := by simp [sg]
      have hlt := Nat.mod_lt x hy
      have hYn : Y0 = -((x % y : Nat) : Int) := by rw [hY0]; simp [sg]
      have hYR : Y0 + (y : Int) = R := by rw [HR.out, ex, hodd.2, hYn]; omega
      have hXQ : (if n1 then X0 + 1 else X0 - 1) = Q := by
        rw [HQ.out, ex, hodd.1, hX0]
        cases n1 <;> simp [sg] <;> omega
      have hYs : Y0.sign = -1 := Int.sign_eq_neg_one_of_neg (by rw [hYn]; omega)
      have hX0s : sz W X0.natAbs ≤ 549755813888 := by rw [hX0, sg_natAbs]; exact wq
      have hY0s : sz W Y0.natAbs ≤ 549755813888 := by rw [hY0, sg_natAbs]; exact wr'
      have hys : sz W ((y : Nat) : Int).natAbs ≤ 549755813888 := hbs
      have hR0 : 0 < R := by rw [← hYR, hYn]; omega
      have hRs : sz W R.natAbs ≤ 1099511627776 := by
        refine Nat.le_trans (sz_mono W2 (m := y) ?_) (by omega)
        rw [← hYR, hYn]; omega
      have HYR := hid hYR; have HXQ := hid hXQ
      clear hX0 hY0 hodd ex hYn hXQ hYR hA hlt hm0
      have t9 := C9
      obtain ⟨d9, p9, m9, c9, e9, i9⟩ := t9
      have e9' := two_cells e9
      obtain ⟨x90, x91, -, -⟩ := e9'
      have hsg := RSign_any _ Y0 wc (i9.raw (Nat.le_trans hY0s (by decide)))
      rw [hYs] at hsg
      have Hsg := hid hsg
      clear e9 i9 hYs hsg
      go_wp2_with fail
      refine wp_loop_rounds 2 ?_
      rw [rounds_succ]
      go_wp2_with fail
      refine Hsg.out.mono ?_
      rintro e wa ⟨rfl, hba⟩
      have HBa := hid (Below.go hba HBc.out)
      have A8 := C8.below hba
      have A9 := C9.below hba
      clear hba x90 x91 Hsg C8 C9
      go_upto_region 4 with fail
      go_cut [] (fun wx => IntCell wx g8 X0 ∧ IntCell wx g9 R ∧ Below W3.heap.size W3 wx)
      case first =>
        rename_i Jc Kc hJc hKc
        have t9 := A9
        obtain ⟨d9, p9, m9, c9, e9, i9⟩ := t9
        have hy9 := i9.raw (Nat.le_trans hY0s (by decide))
        refine wp_region_facts (w0 := wa) 5 1 [36, 37, 38, 39, 40] [u36, u37, u38, u39, u40]
          (fun i => match i with | 0 => eqF (.agg #[.bool d9, .slice p9 m9 c9]) | 1 => eqF (.pointer (some ⟨w.heap.size + 1, 1, none⟩)) | 2 => eqF s1 | 3 => intF (y : Nat) | _ => intF R) [] (by kernel_rfl) (by kernel_rfl) (by kernel_rfl) (by kernel_rfl) (by decide) rfl (by kernel_rfl) rfl (by simp) ?he (by simp) ?_ ?_
        case he => simp only [putAll, Act.put, List.setIfInBounds_toArray, List.set_cons_zero, List.set_cons_succ]
        · intro i o hi ho vs wx hvl hb hdep K hK
          have hvs := len5 hvl
          obtain ⟨s0', s1', s2', s3', s4', rfl⟩ := hvs
          have hk := HS.out wx (Below.go hb HBa.out)
          have x9 := two_cells (((hb.block g9 (Array.getElem?_eq_some_iff.1 e9).1)).trans e9)
          obtain ⟨x90, x91, -, -⟩ := x9
          clear hvl
          go_split_ands
          rcases i with _ | _ | _ | _ | _ | i
          all_goals (simp only [List.getElem?_toArray, List.getElem?_cons_zero, List.getElem?_cons_succ, Option.some.injEq] at ho)
          all_goals try (subst ho)
          all_goals try simp only [putAll, Act.put, List.setIfInBounds_toArray, List.set_cons_zero, List.set_cons_succ]
          · go_simp
            have hK' := hK.out
            simp only [putAll, Act.put, List.setIfInBounds_toArray, List.set_cons_zero, List.set_cons_succ] at hK'
            exact hK' _ _ rfl (Below.refl _ _) (by simp)
          · go_simp
            have hK' := hK.out
            simp only [putAll, Act.put, List.setIfInBounds_toArray, List.set_cons_zero, List.set_cons_succ] at hK'
            exact hK' _ _ rfl (Below.refl _ _) (by simp)
          · have d1 : s1' = _ := hdep ⟨1, .data⟩ (by simp) rfl
            subst d1
            go_simp
            have hK' := hK.out
            simp only [putAll, Act.put, List.setIfInBounds_toArray, List.set_cons_zero, List.set_cons_succ] at hK'
            exact hK' _ _ rfl (Below.refl _ _) (by simp)
          · have d2 : s2' = _ := hdep ⟨2, .data⟩ (by simp) rfl
            subst d2
            go_simp
            refine (HWB.out _ (HBW.out _ (Below.go hb HBa.out))).mono ?_
            rintro e wy ⟨vy, rfl, iy, hby⟩
            have hsh := iy.shape
            obtain ⟨p5, n5, c5, rfl, iy⟩ := hsh
            go_wp2_with fail
            have hK' := hK.out
            simp only [putAll, Act.put, List.setIfInBounds_toArray, List.set_cons_zero, List.set_cons_succ] at hK'
            exact hK' _ _ ⟨_, _, _, _, rfl, iy⟩ hby (by simp)
          · have d0 : s0' = _ := hdep ⟨0, .data⟩ (by simp) rfl
            have d3 : (intF (y : Nat)).P s3' wx := hdep ⟨3, .data⟩ (by simp) rfl
            subst d0
            obtain ⟨dd, pp, nn, cc, rfl, ii⟩ := d3
            go_simp
            refine (RAdd_any _ _ Y0 (y : Nat) wx (hy9.below hb) (ii.raw (Nat.le_trans hys (by decide)))).mono ?_
            rw [HYR.out]
            rintro e wy ⟨vy, rfl, iy, hby⟩
            have hsh := iy.shape
            obtain ⟨p5, n5, c5, rfl, iy⟩ := hsh
            go_wp2_with fail
            have hK' := hK.out
            simp only [putAll, Act.put, List.setIfInBounds_toArray, List.set_cons_zero, List.set_cons_succ] at hK'
            exact hK' _ _ ⟨_, _, _, _, rfl, iy⟩ hby (by simp)
          · omega
        · intro vs wx hvl hb hf hdist
          have hvs := len5 hvl
          obtain ⟨s0', s1', s2', s3', s4', rfl⟩ := hvs
          have f4 : (intF R).P s4' wx := hf 4 (by decide)
          obtain ⟨dq, pq, mq, cq, rfl, iq⟩ := f4
          clear hf hdist hvl
          have P9 := (A9.below hb).pair
          have x9 := P9.cells
          obtain ⟨_, _, q0, q1, q2, q3⟩ := x9
          refine wpAny_one (i := 5) (by kernel_rfl) rfl ?_
          intro K hK
          simp only [putAll, Act.put, List.setIfInBounds_toArray, List.set_cons_zero, List.set_cons_succ]
          go_simp
          have hK' := hK.out
          apply hK'
          clear hK hK'
          refine wpAny_done (by kernel_rfl) ?_ _
          refine hKc _ _ (Met.intro (hJc _ _ ?_))
          (repeat apply Exists.intro)
          exact ⟨⟨(A8.below hb).apart P9 hgne .., IntCell.put P9 iq, Below.stored (Below.go hb HBa.out) (by omega) ..⟩, rfl⟩
      case rest =>
        obtain ⟨D8, D9, hbd⟩ := hcut
        have HBd := hid hbd
        clear hbd A8 A9
        have hk := HS.out _ HBd.out
        go_split_ands
        have hs0 : 0 ≤ R.sign := Int.sign_nonneg_iff.2 (by omega)
        have hs1 : ¬ R.sign < 0 := by omega
        cases n1
        · have hq1 : X0 - 1 = Q := by have := HXQ.out; simpa using this
          go_upto_region 7 with fail
          · skip
            have t8 := D8
            obtain ⟨d8, p8, m8, c8, e8, i8⟩ := t8
            have hx8 := i8.raw (Nat.le_trans hX0s (by decide))
            refine wp_region_facts (w0 := wc) 3 1 [46, 47, 48] [u46, u47, u48]
              (fun i => match i with | 0 => eqF (.agg #[.bool d8, .slice p8 m8 c8]) | 1 => intF 1 | _ => intF Q) [] (by kernel_rfl) (by kernel_rfl) (by kernel_rfl) (by kernel_rfl) (by decide) rfl (by kernel_rfl) rfl (by simp) ?he (by simp) ?_ ?_
            case he => simp only [putAll, Act.put, List.setIfInBounds_toArray, List.set_cons_zero, List.set_cons_succ]
            · intro i o hi ho vs wx hvl hb hdep K hK
              have hvs := len3 hvl
              obtain ⟨s0', s1', s2', rfl⟩ := hvs
              have x8 := two_cells (((hb.block g8 (Array.getElem?_eq_some_iff.1 e8).1)).trans e8)
              obtain ⟨x80, x81, -, -⟩ := x8
              clear hvl
              rcases i with _ | _ | _ | i
              all_goals (simp only [List.getElem?_toArray, List.getElem?_cons_zero, List.getElem?_cons_succ, Option.some.injEq] at ho)
              all_goals try (subst ho)
              all_goals try simp only [putAll, Act.put, List.setIfInBounds_toArray, List.set_cons_zero, List.set_cons_succ]
              · go_simp
                have hK' := hK.out
                simp only [putAll, Act.put, List.setIfInBounds_toArray, List.set_cons_zero, List.set_cons_succ] at hK'
                exact hK' _ _ rfl (Below.refl _ _) (by simp)
              · go_simp
                refine (ROf_any 1 wx (by decide) (by decide)).mono ?_
                rintro e wy ⟨vy, rfl, iy, hby⟩
                have hsh := iy.shape
                obtain ⟨p5, n5, c5, rfl, iy⟩ := hsh
                go_wp2_with fail
                have hK' := hK.out
                simp only [putAll, Act.put, List.setIfInBounds_toArray, List.set_cons_zero, List.set_cons_succ] at hK'
                exact hK' _ _ ⟨_, _, _, _, rfl, iy⟩ hby (by simp)
              · have d0 : s0' = _ := hdep ⟨0, .data⟩ (by simp) rfl
                have d1 : (intF 1).P s1' wx := hdep ⟨1, .data⟩ (by simp) rfl
                subst d0
                obtain ⟨dd, pp, nn, cc, rfl, ii⟩ := d1
                go_simp
                refine (RSub_any _ _ X0 1 wx (hx8.below hb) (ii.raw (by decide))).mono ?_
                rw [hq1]
                rintro e wy ⟨vy, rfl, iy, hby⟩
                have hsh := iy.shape
                obtain ⟨p5, n5, c5, rfl, iy⟩ := hsh
                go_wp2_with fail
                have hK' := hK.out
                simp only [putAll, Act.put, List.setIfInBounds_toArray, List.set_cons_zero, List.set_cons_succ] at hK'
                exact hK' _ _ ⟨_, _, _, _, rfl, iy⟩ hby (by simp)
              · omega
            · intro vs wx hvl hb hf hdist
              have hvs := len3 hvl
              obtain ⟨s0', s1', s2', rfl⟩ := hvs
              have f2 : (intF Q).P s2' wx := hf 2 (by decide)
              obtain ⟨dq, pq, mq, cq, rfl, iq⟩ := f2
              clear hf hdist hvl
              have P8 := (D8.below hb).pair
              have x8 := P8.cells
              obtain ⟨_, _, q0, q1, q2, q3⟩ := x8
              refine wpAny_one (i := 3) (by kernel_rfl) rfl ?_
              intro K hK
              simp only [putAll, Act.put, List.setIfInBounds_toArray, List.set_cons_zero, List.set_cons_succ]
              go_simp
              have hK' := hK.out
              apply hK'
              clear hK hK'
              refine wpAny_done (by kernel_rfl) ?_ _
              have C8 := IntCell.put P8 iq
              have C9 := (D9.below hb).apart P8 hgne.symm dq pq mq cq
              have HBf := hid (Below.stored (Below.go hb HBd.out) (g := g8) (by omega) (.bool dq) (.slice pq mq cq))
              generalize ((wx.setCell ⟨g8, 0, none⟩ (.bool dq)).setCell ⟨g8, 1, none⟩ (.slice pq mq cq)) = wf at *
              clear D8 D9 P8 q0 q1 q2 q3 hb
              have t9 := C9
              obtain ⟨d9, p9, m9, c9, e9, i9⟩ := t9
              have e9' := two_cells e9
              obtain ⟨x90, x91, -, -⟩ := e9'
              have hsg2 := hid (RSign_any _ R _ (i9.raw hRs))
              clear e9 i9
              go_wp2_with fail
              rw [rounds_succ]
              go_wp2_with fail
              refine hsg2.out.mono ?_
              rintro e wz ⟨rfl, hbz⟩
              have HBz := hid (Below.go hbz HBf.out)
              have C8 := C8.below hbz
              have C9 := C9.below hbz
              clear hbz x90 x91 hsg2
              have t8 := C8; have t9 := C9
              obtain ⟨d8, p8, m8, c8, e8, i8⟩ := t8
              obtain ⟨d9, p9, m9, c9, e9, i9⟩ := t9
              have P4 := Hp.out.below HBz.out
              have P5 := Hp'.out.below HBz.out
              have e8' := two_cells e8
              obtain ⟨x80, x81, -, -⟩ := e8'
              have e9' := two_cells e9
              obtain ⟨x90, x91, -, -⟩ := e9'
              have P4' := P4.cells
              obtain ⟨_, _, q0, q1, q2, q3⟩ := P4'
              have P5' := P5.cells
              obtain ⟨_, _, r0, r1, r2, r3⟩ := P5'
              have P5s := P5.apart (g' := w.heap.size + 1 + 1) (by omega) (.bool d8) (.slice p8 m8 c8)
              have j8 := hid ((i8.stored P4 d8 p8 m8 c8).stored P5s d9 p9 m9 c9)
              have j9 := hid ((i9.stored P4 d8 p8 m8 c8).stored P5s d9 p9 m9 c9)
              have bz := hid (Below.stored (Below.stored (bw'.out.trans (HBz.out.mono (B' := w.heap.size) (by omega))) (g := w.heap.size + 1 + 1) (by omega) (.bool d8) (.slice p8 m8 c8)) (g := w.heap.size + 1 + 1 + 1) (by omega) (.bool d9) (.slice p9 m9 c9))
              clear P4 P5 P5s i8 i9 e8 e9 C8 C9
              go_wp2_with fail
              go_region
              go_wp2_with fail
              exact bodyPost_ret (v := .tuple #[.agg #[.bool d8, .slice p8 m8 c8], .agg #[.bool d9, .slice p9 m9 c9]])
                (by simp [results, Tryz.results73, go_sem, q0, q1, r0, r1]) rfl
                ⟨_, _, rfl, j8.out, j9.out, bz.out.drew⟩
        · have hq1 : X0 + 1 = Q := by have := HXQ.out; simpa using this
          go_upto_region 6 with fail
          · skip
            have t8 := D8
            obtain ⟨d8, p8, m8, c8, e8, i8⟩ := t8
            have hx8 := i8.raw (Nat.le_trans hX0s (by decide))
            refine wp_region_facts (w0 := wc) 3 1 [43, 44, 45] [u43, u44, u45]
              (fun i => match i with | 0 => eqF (.agg #[.bool d8, .slice p8 m8 c8]) | 1 => intF 1 | _ => intF Q) [] (by kernel_rfl) (by kernel_rfl) (by kernel_rfl) (by kernel_rfl) (by decide) rfl (by kernel_rfl) rfl (by simp) ?he (by simp) ?_ ?_
            case he => simp only [putAll, Act.put, List.setIfInBounds_toArray, List.set_cons_zero, List.set_cons_succ]
            · intro i o hi ho vs wx hvl hb hdep K hK
              have hvs := len3 hvl
              obtain ⟨s0', s1', s2', rfl⟩ := hvs
              have x8 := two_cells (((hb.block g8 (Array.getElem?_eq_some_iff.1 e8).1)).trans e8)
              obtain ⟨x80, x81, -, -⟩ := x8
              clear hvl
              rcases i with _ | _ | _ | i
              all_goals (simp only [List.getElem?_toArray, List.getElem?_cons_zero, List.getElem?_cons_succ, Option.some.injEq] at ho)
              all_goals try (subst ho)
              all_goals try simp only [putAll, Act.put, List.setIfInBounds_toArray, List.set_cons_zero, List.set_cons_succ]
              · go_simp
                have hK' := hK.out
                simp only [putAll, Act.put, List.setIfInBounds_toArray, List.set_cons_zero, List.set_cons_succ] at hK'
                exact hK' _ _ rfl (Below.refl _ _) (by simp)
              · go_simp
                refine (ROf_any 1 wx (by decide) (by decide)).mono ?_
                rintro e wy ⟨vy, rfl, iy, hby⟩
                have hsh := iy.shape
                obtain ⟨p5, n5, c5, rfl, iy⟩ := hsh
                go_wp2_with fail
                have hK' := hK.out
                simp only [putAll, Act.put, List.setIfInBounds_toArray, List.set_cons_zero, List.set_cons_succ] at hK'
                exact hK' _ _ ⟨_, _, _, _, rfl, iy⟩ hby (by simp)
              · have d0 : s0' = _ := hdep ⟨0, .data⟩ (by simp) rfl
                have d1 : (intF 1).P s1' wx := hdep ⟨1, .data⟩ (by simp) rfl
                subst d0
                obtain ⟨dd, pp, nn, cc, rfl, ii⟩ := d1
                go_simp
                refine (RAdd_any _ _ X0 1 wx (hx8.below hb) (ii.raw (by decide))).mono ?_
                rw [hq1]
                rintro e wy ⟨vy, rfl, iy, hby⟩
                have hsh := iy.shape
                obtain ⟨p5, n5, c5, rfl, iy⟩ := hsh
                go_wp2_with fail
                have hK' := hK.out
                simp only [putAll, Act.put, List.setIfInBounds_toArray, List.set_cons_zero, List.set_cons_succ] at hK'
                exact hK' _ _ ⟨_, _, _, _, rfl, iy⟩ hby (by simp)
              · omega
            · intro vs wx hvl hb hf hdist
              have hvs := len3 hvl
              obtain ⟨s0', s1', s2', rfl⟩ := hvs
              have f2 : (intF Q).P s2' wx := hf 2 (by decide)
              obtain ⟨dq, pq, mq, cq, rfl, iq⟩ := f2
              clear hf hdist hvl
              have P8 := (D8.below hb).pair
              have x8 := P8.cells
              obtain ⟨_, _, q0, q1, q2, q3⟩ := x8
              refine wpAny_one (i := 3) (by kernel_rfl) rfl ?_
              intro K hK
              simp only [putAll, Act.put, List.setIfInBounds_toArray, List.set_cons_zero, List.set_cons_succ]
              go_simp
              have hK' := hK.out
              apply hK'
              clear hK hK'
              refine wpAny_done (by kernel_rfl) ?_ _
              have C8 := IntCell.put P8 iq
              have C9 := (D9.below hb).apart P8 hgne.symm dq pq mq cq
              have HBf := hid (Below.stored (Below.go hb HBd.out) (g := g8) (by omega) (.bool dq) (.slice pq mq cq))
              generalize ((wx.setCell ⟨g8, 0, none⟩ (.bool dq)).setCell ⟨g8, 1, none⟩ (.slice pq mq cq)) = wf at *
              clear D8 D9 P8 q0 q1 q2 q3 hb
              have t9 := C9
              obtain ⟨d9, p9, m9, c9, e9, i9⟩ := t9
              have e9' := two_cells e9
              obtain ⟨x90, x91, -, -⟩ := e9'
              have hsg2 := hid (RSign_any _ R _ (i9.raw hRs))
              clear e9 i9
              go_wp2_with fail
              rw [rounds_succ]
              go_wp2_with fail
              refine hsg2.out.mono ?_
              rintro e wz ⟨rfl, hbz⟩
              have HBz := hid (Below.go hbz HBf.out)
              have C8 := C8.below hbz
              have C9 := C9.below hbz
              clear hbz x90 x91 hsg2
              have t8 := C8; have t9 := C9
              obtain ⟨d8, p8, m8, c8, e8, i8⟩ := t8
              obtain ⟨d9, p9, m9, c9, e9, i9⟩ := t9
              have P4 := Hp.out.below HBz.out
              have P5 := Hp'.out.below HBz.out
              have e8' := two_cells e8
              obtain ⟨x80, x81, -, -⟩ := e8'
              have e9' := two_cells e9
              obtain ⟨x90, x91, -, -⟩ := e9'
              have P4' := P4.cells
              obtain ⟨_, _, q0, q1, q2, q3⟩ := P4'
              have P5' := P5.cells
              obtain ⟨_, _, r0, r1, r2, r3⟩ := P5'
              have P5s := P5.apart (g' := w.heap.size + 1 + 1) (by omega) (.bool d8) (.slice p8 m8 c8)
              have j8 := hid ((i8.stored P4 d8 p8 m8 c8).stored P5s d9 p9 m9 c9)
              have j9 := hid ((i9.stored P4 d8 p8 m8 c8).stored P5s d9 p9 m9 c9)
              have bz := hid (Below.stored (Below.stored (bw'.out.trans (HBz.out.mono (B' := w.heap.size) (by omega))) (g := w.heap.size + 1 + 1) (by omega) (.bool d8) (.slice p8 m8 c8)) (g := w.heap.size + 1 + 1 + 1) (by omega) (.bool d9) (.slice p9 m9 c9))
              clear P4 P5 P5s i8 i9 e8 e9 C8 C9
              go_wp2_with fail
              go_region
              go_wp2_with fail
              exact bodyPost_ret (v := .tuple #[.agg #[.bool d8, .slice p8 m8 c8], .agg #[.bool d9, .slice p9 m9 c9]])
                (by simp [results, Tryz.results73, go_sem, q0, q1, r0, r1]) rfl
                ⟨_, _, rfl, j8.out, j9.out, bz.out.drew⟩
end Go.Proofs.YtjfcocadohgneaaGreat
/- elenchusref01.Gcd. -/
namespace Go.Proofs.YtjfcocadohgneaaGreat
open Go.RowKit Big

theorem len8 {vs : List Value} (h : vs.length = 8) : ∃ a b c d e f g h, vs = [a, b, c, d, e, f, g, h] := by
  match vs, h with
  | [a, b, c, d, e, f, g, h], _ => exact ⟨a, b, c, d, e, f, g, h, rfl⟩

set_option maxRecDepth 100000 in
set_option maxHeartbeats 6400000 in
theorem RGcd_any (v0 v1 : Value) (a b : Int) (w : World) (h0 : RawAt w v0 a) (h1 : RawAt w v1 b) (ha : sz W a.natAbs ≤ 549755813888) (hbs : sz W b.natAbs ≤ 549755813888) :
    Calls Tryz.prog 72 #[v0, v1] w (RInt (Nat.gcd a.natAbs b.natAbs : Nat) w) := by
  obtain ⟨n0, s0, l0, rfl, a0, b0, c0, rfl⟩ := h0
  obtain ⟨n1, s1, l1, rfl, a1, b1, c1, rfl⟩ := h1
  rw [sg_natAbs] at ha hbs ⊢
  rw [sg_natAbs]
  have g0 : ∀ W', Below w.heap.size w W' → Calls Tryz.prog 52 #[.bool false, s0] W' (RInt (val W l0 : Nat) W') := fun W' hb => by
    have := Whole_any false s0 l0 W' (a0.below hb) b0 (by omega)
    simpa [sg] using this
  have g1 : ∀ W', Below w.heap.size w W' → Calls Tryz.prog 52 #[.bool false, s1] W' (RInt (val W l1 : Nat) W') := fun W' hb => by
    have := Whole_any false s1 l1 W' (a1.below hb) b1 (by omega)
    simpa [sg] using this
  have G0 := hid g0; have G1 := hid g1
  clear g0 g1 a0 a1 b0 b1 c0 c1
  generalize val W l0 = x at *
  generalize val W l1 = y at *
  obtain ⟨G, hG⟩ : ∃ G, G = Nat.gcd x y := ⟨_, rfl⟩
  rw [← hG]
  have HG := hid hG
  clear hG
  go_enter Tryz.func72, Tryz.ntmps72
  go_wp2_with fail
  generalize hW : World.alloc (World.alloc (World.alloc w _) _) _ = W3
  have bw : Below w.heap.size w W3 := by rw [← hW]; exact ((below1 _ _).alloc (by simp) _).alloc (by simp; omega) _
  have hp : Pair W3 (w.heap.size + 1 + 1) 39 := by rw [← hW]; exact Pair.new2 ..
  have tw : Two W3 w.heap.size (.bool n0) s0 (.bool n1) s1 := by rw [← hW]; exact (Two.new w _ _ _ _ _).below (below1 _ _)
  have z3 : w.heap.size + 3 ≤ W3.heap.size := by rw [← hW]; simp
  have bw' := hid bw; have HT := hid tw; have Hp := hid hp
  clear hW bw tw hp
  have HS : Hid (∀ w', Below W3.heap.size W3 w' → w'.cell? ⟨w.heap.size, 1, none⟩ = some s0 ∧ w'.cell? ⟨w.heap.size + 1, 1, none⟩ = some s1) := by
    intro w' hb
    have ht := HT.out.below hb
    exact ⟨ht.c01, ht.c11⟩
  have HBW : Hid (∀ w', Below W3.heap.size W3 w' → Below w.heap.size w w') := fun w' hb => bw'.out.trans (hb.mono (by omega))
  go_upto_region 1 with fail
  go_cut [5, 6] (fun s5 s6 wx => ∃ g5 g6, s5 = .pointer (some ⟨g5, 0, none⟩) ∧ s6 = .pointer (some ⟨g6, 0, none⟩) ∧ g5 ≠ g6 ∧ W3.heap.size ≤ g5 ∧ W3.heap.size ≤ g6 ∧ IntCell wx g5 (x : Nat) ∧ IntCell wx g6 (y : Nat) ∧ Below W3.heap.size W3 wx)
  case first =>
    rename_i Jc Kc hJc hKc
    refine wp_region_facts (w0 := W3) 8 2 [9, 10, 11, 12, 13, 14, 5, 6] [undef, undef, undef, undef, undef, undef, undef, undef]
      (fun i => match i with
        | 0 => eqF (.pointer (some ⟨w.heap.size, 1, none⟩)) | 1 => eqF s0 | 2 => intF (x : Nat) | 3 => eqF (.pointer (some ⟨w.heap.size + 1, 1, none⟩)) | 4 => eqF s1 | 5 => intF (y : Nat)
        | 6 => varF W3.heap.size | _ => varF W3.heap.size) [6, 7] (by kernel_rfl) (by kernel_rfl) (by kernel_rfl) (by kernel_rfl) (by decide) rfl (by kernel_rfl) rfl (by simp) ?he ?_ ?_ ?_
    case he => simp only [putAll, Act.put, List.setIfInBounds_toArray, List.set_cons_zero, List.set_cons_succ]
    · intro i hi v w' h
      simp only [List.mem_cons, List.not_mem_nil, or_false] at hi
      rcases hi with rfl | rfl
      · obtain ⟨g, hg, hp, -⟩ := (show VarAt w' W3.heap.size v from h); exact ⟨g, hg, hp.lt⟩
      · obtain ⟨g, hg, hp, -⟩ := (show VarAt w' W3.heap.size v from h); exact ⟨g, hg, hp.lt⟩
    · intro i o hi ho vs wx hvl hb hdep K hK
      have hvs := len8 hvl
      obtain ⟨s9, s10, s11, s12, s13, s14, s5, s6, rfl⟩ := hvs
      have hk := HS.out wx hb
      clear hvl
      go_split_ands
      rcases i with _ | _ | _ | _ | _ | _ | _ | _ | i
      all_goals (simp only [List.getElem?_toArray, List.getElem?_cons_zero, List.getElem?_cons_succ, Option.some.injEq] at ho)
      all_goals try (subst ho)
      all_goals try simp only [putAll, Act.put, List.setIfInBounds_toArray, List.set_cons_zero, List.set_cons_succ]
      · go_simp
        have hK' := hK.out
        simp only [putAll, Act.put, List.setIfInBounds_toArray, List.set_cons_zero, List.set_cons_succ] at hK'
        exact hK' _ _ rfl (Below.refl _ _) (by simp)
      · have d0 : s9 = _ := hdep ⟨0, .data⟩ (by simp) rfl
        subst d0
        go_simp
        have hK' := hK.out
        simp only [putAll, Act.put, List.setIfInBounds_toArray, List.set_cons_zero, List.set_cons_succ] at hK'
        exact hK' _ _ rfl (Below.refl _ _) (by simp)
      · have d1 : s10 = _ := hdep ⟨1, .data⟩ (by simp) rfl
        subst d1
        go_simp
        refine (G0.out _ (HBW.out _ hb)).mono ?_
        rintro e wy ⟨vy, rfl, iy, hby⟩
        have hsh := iy.shape
        obtain ⟨p5, n5, c5, rfl, iy⟩ := hsh
        go_wp2_with fail
        have hK' := hK.out
        simp only [putAll, Act.put, List.setIfInBounds_toArray, List.set_cons_zero, List.set_cons_succ] at hK'
        exact hK' _ _ ⟨_, _, _, _, rfl, iy⟩ hby (by simp)
      · go_simp
        have hK' := hK.out
        simp only [putAll, Act.put, List.setIfInBounds_toArray, List.set_cons_zero, List.set_cons_succ] at hK'
        exact hK' _ _ rfl (Below.refl _ _) (by simp)
      · have d3 : s12 = _ := hdep ⟨3, .data⟩ (by simp) rfl
        subst d3
        go_simp
        have hK' := hK.out
        simp only [putAll, Act.put, List.setIfInBounds_toArray, List.set_cons_zero, List.set_cons_succ] at hK'
        exact hK' _ _ rfl (Below.refl _ _) (by simp)
      · have d4 : s13 = _ := hdep ⟨4, .data⟩ (by simp) rfl
        subst d4
        go_simp
        refine (G1.out _ (HBW.out _ hb)).mono ?_
        rintro e wy ⟨vy, rfl, iy, hby⟩
        have hsh := iy.shape
        obtain ⟨p5, n5, c5, rfl, iy⟩ := hsh
        go_wp2_with fail
        have hK' := hK.out
        simp only [putAll, Act.put, List.setIfInBounds_toArray, List.set_cons_zero, List.set_cons_succ] at hK'
        exact hK' _ _ ⟨_, _, _, _, rfl, iy⟩ hby (by simp)
      · go_simp
        have hK' := hK.out
        simp only [putAll, Act.put, List.setIfInBounds_toArray, List.set_cons_zero, List.set_cons_succ] at hK'
        exact hK' _ _ ⟨_, rfl, Pair.new .., hb.size⟩ (below1 _ _) (fun _ => rfl)
      · go_simp
        have hK' := hK.out
        simp only [putAll, Act.put, List.setIfInBounds_toArray, List.set_cons_zero, List.set_cons_succ] at hK'
        exact hK' _ _ ⟨_, rfl, Pair.new .., hb.size⟩ (below1 _ _) (fun _ => rfl)
      · omega
    · intro vs wx hvl hb hf hdist
      have hvs := len8 hvl
      obtain ⟨s9, s10, s11, s12, s13, s14, s5, s6, rfl⟩ := hvs
      have f7 : (intF (x : Nat)).P s11 wx := hf 2 (by decide)
      have f12 : (intF (y : Nat)).P s14 wx := hf 5 (by decide)
      have f13 : VarAt wx W3.heap.size s5 := hf 6 (by decide)
      have f14 : VarAt wx W3.heap.size s6 := hf 7 (by decide)
      have hne : s5 ≠ s6 := hdist 6 (by simp) 7 (by simp) (by decide)
      obtain ⟨d7, p7, m7, c7, rfl, i7⟩ := f7
      obtain ⟨d12, p12, m12, c12, rfl, i12⟩ := f12
      obtain ⟨g8, rfl, hp8, hB8⟩ := f13
      obtain ⟨g9, rfl, hp9, hB9⟩ := f14
      have hgne : g8 ≠ g9 := fun e => hne (by rw [e])
      have c8 := hp8.cells
      obtain ⟨_, _, q0, q1, q2, q3⟩ := c8
      clear hf hdist hvl hne
      refine wpAny_one (i := 8) (by kernel_rfl) rfl ?_
      intro K hK
      simp only [putAll, Act.put, List.setIfInBounds_toArray, List.set_cons_zero, List.set_cons_succ]
      go_simp
      have hK' := hK.out
      apply hK'
      clear hK hK'
      have x8 := IntCell.put hp8 i7
      have hp9' := hp9.apart hgne.symm (.bool d7) (.slice p7 m7 c7)
      have i12' := i12.stored hp8 d7 p7 m7 c7
      have hb' := Below.stored hb hB8 (.bool d7) (.slice p7 m7 c7)
      clear q0 q1 q2 q3 hp8 hp9 i7 i12
      generalize ((wx.setCell ⟨g8, 0, none⟩ (.bool d7)).setCell ⟨g8, 1, none⟩ (.slice p7 m7 c7)) = wy at *
      have c9 := hp9'.cells
      obtain ⟨_, _, q0, q1, q2, q3⟩ := c9
      refine wpAny_one (i := 9) (by kernel_rfl) rfl ?_
      intro K hK
      go_simp
      have hK' := hK.out
      apply hK'
      clear hK hK'
      refine wpAny_done (by kernel_rfl) ?_ _
      refine hKc _ _ (Met.intro (hJc _ _ ?_))
      (repeat apply Exists.intro)
      exact ⟨⟨g8, g9, rfl, rfl, hgne, hB8, hB9, x8.apart hp9' hgne .., IntCell.put hp9' i12', Below.stored hb' hB9 ..⟩, rfl⟩
  case rest =>
    obtain ⟨g5, g6, rfl, rfl, hgne, hB5, hB6, C5, C6, hbc⟩ := hcut
    have hgc : Hid (Nat.gcd x y = G) := HG.out.symm
    have HBc := hid hbc
    clear hbc HG HS HBW HT G0 G1
    go_wp2_with fail
    go_loopg [] y (fun gk wr => ∃ p : Nat, IntCell wr g5 (p : Nat) ∧ IntCell wr g6 (gk : Nat) ∧ sz W p ≤ 549755813888 ∧ sz W gk ≤ 549755813888 ∧ Hid (Nat.gcd p gk = G) ∧ Hid (Below W3.heap.size W3 wr))
    case atStart => exact ⟨x, C5, C6, ha, hbs, hgc.out, HBc.out⟩
    case round =>
      obtain ⟨p, D5, D6, hp, hq, hgcd, HBr⟩ := hrel
      have t6 := D6
      obtain ⟨d6, p6, m6, c6, e6, i6⟩ := t6
      have e6' := two_cells e6
      obtain ⟨x60, x61, -, -⟩ := e6'
      by_cases h0 : gk = 0
      · have hsg := RSign_any _ _ wr (i6.raw (by show sz W gk ≤ _; omega))
        rw [h0] at hsg
        have hsg' : Hid (Calls Tryz.prog 35 #[.agg #[.bool d6, .slice p6 m6 c6]] wr (RNum .i64 0 wr)) := hsg
        have hres : Hid (p = G) := by have := hgcd.out; rw [h0, Nat.gcd_zero_right] at this; exact this
        clear hsg e6 i6 h0 hgcd
        go_wp2_with fail
        refine hsg'.out.mono ?_
        rintro e wz ⟨rfl, hbz⟩
        have HBz := hid (Below.go hbz HBr.out)
        have t5 := D5.below hbz
        obtain ⟨d5, p5, m5, c5, e5, i5⟩ := t5
        have e5' := two_cells e5
        obtain ⟨x50, x51, -, -⟩ := e5'
        have P4 := Hp.out.below HBz.out
        have P4' := P4.cells
        obtain ⟨_, _, q0, q1, q2, q3⟩ := P4'
        rw [hres.out] at i5
        have j5 := hid (i5.stored P4 d5 p5 m5 c5)
        have bz := hid (Below.stored (bw'.out.trans (HBz.out.mono (B' := w.heap.size) (by omega))) (g := w.heap.size + 1 + 1) (by omega) (.bool d5) (.slice p5 m5 c5))
        clear hbz x60 x61 e5 i5 P4
        go_wp2_with fail
        exact bodyPost_ret (v := .agg #[.bool d5, .slice p5 m5 c5]) (by simp [results, Tryz.results72, go_sem, q0, q1]) rfl ⟨_, rfl, j5.out, bz.out⟩
      · have hsg := RSign_any _ _ wr (i6.raw (by show sz W gk ≤ _; omega))
        rw [Int.sign_eq_one_of_pos (show (0 : Int) < (gk : Int) by omega)] at hsg
        have Hsg := hid hsg
        have hg' := hid ((gcd_step p gk).trans hgcd.out)
        have hlt : p % gk < gk := Nat.mod_lt _ (by omega)
        have hsz : sz W (p % gk) ≤ 549755813888 := Nat.le_trans (sz_mono W2 (Nat.le_of_lt hlt)) hq
        clear hsg e6 hgcd
        go_wp2_with fail
        refine Hsg.out.mono ?_
        rintro e wa ⟨rfl, hba⟩
        have HBa := hid (Below.go hba HBr.out)
        have A5 := D5.below hba
        have A6 := D6.below hba
        have i6' := i6.below hba
        have t5 := A5
        obtain ⟨d5, p5, m5, c5, e5, i5⟩ := t5
        have e5' := two_cells e5
        obtain ⟨x50, x51, -, -⟩ := e5'
        have c6' := (hba.cell (p := ⟨g6, 0, none⟩) (World.block_lt_of_cell? wr _ x60)).trans x60
        have c6'' := (hba.cell (p := ⟨g6, 1, none⟩) (World.block_lt_of_cell? wr _ x61)).trans x61
        have hdiv := RDiv_any _ _ _ _ wa (i5.raw (by show sz W p ≤ _; omega)) (i6'.raw (by show sz W gk ≤ _; omega)) (show ((gk : Nat) : Int) ≠ 0 by omega) hp hq
        have Hdiv := hid hdiv
        clear hba x60 x61 i6 i6' e5 hdiv D5 D6 Hsg i5
        go_wp2_with fail
        refine Hdiv.out.mono ?_
        rintro e wb ⟨vq, vr, rfl, hqq, hrr, hbb⟩
        have hqq := hqq.shape
        obtain ⟨pq, nq, cq, rfl, -⟩ := hqq
        have hrr := hrr.shape
        obtain ⟨pr, nr, cr, rfl, hrr⟩ := hrr
        have hmod : ((p : Int) % (gk : Int)) = ((p % gk : Nat) : Int) := (Int.natCast_emod p gk).symm
        rw [hmod] at hrr ⊢
        obtain ⟨dr, hdr⟩ : ∃ d, d = decide (((p % gk : Nat) : Int) < 0) := ⟨_, rfl⟩
        rw [← hdr] at hrr ⊢
        obtain ⟨dq, hdq⟩ : ∃ d, d = decide ((p : Int) / (gk : Int) < 0) := ⟨_, rfl⟩
        rw [← hdq]
        have HBb := hid (Below.go hbb HBa.out)
        have B5 := A5.below hbb
        have B6 := A6.below hbb
        clear hbb hdr hdq hmod A5 A6 x50 x51 c6' c6''
        go_upto_region 4 with fail
        generalize hW : World.alloc (World.alloc wb _) _ = wc4
        have X4 : Below wb.heap.size wb wc4 ∧ Two wc4 wb.heap.size (.bool dq) (.slice pq nq cq) (.bool dr) (.slice pr nr cr) := by
          rw [← hW]; exact ⟨((Below.refl _ _).alloc (Nat.le_refl _) _).alloc (by simp) _, Two.new ..⟩
        have HB4 := hid (Below.go X4.1 HBb.out)
        have E5 := B5.below X4.1
        have E6 := B6.below X4.1
        have hr4 := hrr.below X4.1
        have hr40 := X4.2.c10
        have hr41 := X4.2.c11
        have hl5 := B5.pair.lt
        have hl6 := B6.pair.lt
        clear hW X4 hrr B5 B6
        obtain ⟨gr, hgr⟩ : ∃ g, g = wb.heap.size + 1 := ⟨_, rfl⟩
        rw [← hgr] at hr40 hr41 ⊢
        have hgr5 : gr ≠ g5 := by omega
        have hgr6 : gr ≠ g6 := by omega
        clear hgr hl5 hl6
        have t6 := E6
        obtain ⟨d7, p7, m7, c7, e7, i7⟩ := t6
        have e7' := two_cells e7
        obtain ⟨x70, x71, -, -⟩ := e7'
        have P5 := E5.pair
        have P5' := P5.cells
        obtain ⟨_, _, q0, q1, q2, q3⟩ := P5'
        have F5 := IntCell.put P5 i7
        have F6 := E6.apart P5 hgne.symm d7 p7 m7 c7
        have fr := hr4.stored P5 d7 p7 m7 c7
        have fr0 := (cell_stored wc4 (p := ⟨gr, 0, none⟩) hgr5 (.bool d7) (.slice p7 m7 c7)).trans hr40
        have fr1 := (cell_stored wc4 (p := ⟨gr, 1, none⟩) hgr5 (.bool d7) (.slice p7 m7 c7)).trans hr41
        have HB5' := hid (Below.stored HB4.out hB5 (.bool d7) (.slice p7 m7 c7))
        clear e7 i7 hr4 hr40 hr41 E5 E6 P5
        go_upto_region 5 with fail
        generalize ((wc4.setCell ⟨g5, 0, none⟩ (.bool d7)).setCell ⟨g5, 1, none⟩ (.slice p7 m7 c7)) = w5 at *
        clear q0 q1 q2 q3 x70 x71
        have P6 := F6.pair
        have P6' := P6.cells
        obtain ⟨_, _, q0, q1, q2, q3⟩ := P6'
        have K6 := IntCell.put P6 fr
        have K5 := F5.apart P6 hgne dr pr nr cr
        have HB6 := hid (Below.stored HB5'.out hB6 (.bool dr) (.slice pr nr cr))
        clear P6 F5 F6 fr
        go_wp2_with fail
        go_roundg (p % gk)
        case measure => exact hlt
        case rel => exact ⟨gk, K5, K6, hq, hsz, hg'.out, HB6.out⟩
end Go.Proofs.YtjfcocadohgneaaGreat
/- A region that draws its order, one operation of which may come behind a store (two results, stored into two variables). -/
namespace Go.Proofs.YtjfcocadohgneaaGreat
open Go.RowKit

def storesWaitBut (md : Region.Mode) (ops : Array Oper) (n late : Nat) : Bool := (List.range ops.size).all fun i => decide (i < n) || (List.range n).all fun j => j == late || reach md ops 6 i j
theorem wpAny_late {P : Program} {ops : Array Oper} {Q : Exit → Act → World → Prop} {a0 : Act} {w0 : World} (n s : Nat) (hsize : ops.size = n + s) (ds : List Tmp) (f : Nat → SFact) (al : List Nat)
    (hd : edgesDown .any ops = true) (late : Nat) (hln : late < n) (hsw : storesWaitBut .any ops n late = true) (hdn : ds.Nodup) (hlen : ds.length = n) (hds : dstsAre ops n ds = true)
    (hal : ∀ i ∈ al, ∀ v w, (f i).P v w → ∃ g, v = .pointer (some ⟨g, 0, none⟩) ∧ g < w.heap.size)
    (hstep : ∀ i o, i < n → ops[i]? = some o → ∀ vs w, vs.length = n → Below w0.heap.size w0 w → (∀ e ∈ o.after, Region.binds .any e = true → (f e.on).P (vs.getD e.on undef) w) →
      ∀ K : Act → World → Prop, Shut (∀ v w', (f i).P v w' → Below w.heap.size w w' → (i ∈ al → v = .pointer (some ⟨w.heap.size, 0, none⟩)) → K ((putAll a0 ds vs).put o.dst v) w') →
        if Region.wanted o (yielded ops (putAll a0 ds vs).tmps) = true then Oper.wp P o (putAll a0 ds vs) w K Q else K ((putAll a0 ds vs).put o.dst undef) w)
    (hend : ∀ vs w, vs.length = n → Below w0.heap.size w0 w → (∀ i, i < n → (f i).P (vs.getD i undef) w) → (∀ i ∈ al, ∀ j ∈ al, i ≠ j → vs.getD i undef ≠ vs.getD j undef) →
      wpAny P .any ops Q s ((List.replicate n true ++ List.replicate s false).toArray) (putAll a0 ds vs) w)
    (hlate : ∀ vs w, vs.length = n → Below w0.heap.size w0 w → (∀ i, i < n → i ≠ late → (f i).P (vs.getD i undef) w) → (∀ i ∈ al, ∀ j ∈ al, i ≠ j → i ≠ late → j ≠ late → vs.getD i undef ≠ vs.getD j undef) →
      wpAny P .any ops Q (s + 1) (((List.replicate n true).set late false ++ List.replicate s false).toArray) (putAll a0 ds vs) w) :
    ∀ (c : Nat) (L : Array Bool) (vs : List Value) (w : World), (L.toList.take n).count false = c → L.size = n + s → (∀ j, n ≤ j → j < n + s → L.getD j true = false) → Closed .any ops L → vs.length = n → Below w0.heap.size w0 w →
      (∀ i, i < n → L.getD i false = true → (f i).P (vs.getD i undef) w) → (∀ i ∈ al, ∀ j ∈ al, i < n → j < n → i ≠ j → L.getD i false = true → L.getD j false = true → vs.getD i undef ≠ vs.getD j undef) →
      (∀ i ∈ al, i < n) → wpAny P .any ops Q (c + s) L (putAll a0 ds vs) w := by
  intro c
  induction c with
  | zero =>
    intro L vs w hc hs hst hcl hvl hb hf hdist haln
    have hall : ∀ i, i < n → L.getD i false = true := fun i hi => by
      have hil : i < L.size := by omega
      cases hb : L[i] with
      | true => simp [Array.getD, hil, hb]
      | false =>
        exfalso
        have hmem : false ∈ L.toList.take n := by
          rw [List.mem_take_iff_getElem]
          exact ⟨i, by simp; omega, by simpa using hb⟩
        have := List.count_pos_iff.2 hmem
        omega
    have hL : L = (List.replicate n true ++ List.replicate s false).toArray := by
      apply Array.ext
      · simp [hs]
      · intro i hi hi2
        by_cases h : i < n
        · have := hall i h
          simp only [Array.getD, hi] at this
          simp [h]
          simpa using this
        · have := hst i (by omega) (by omega)
          simp only [Array.getD, hi] at this
          simp [List.getElem_append, h]
          simpa using this
    rw [Nat.zero_add, hL]
    exact hend vs w hvl hb (fun i hi => hf i hi (hall i hi)) (fun i hi j hj hne => hdist i hi j hj (haln i hi) (haln j hj) hne (hall i (haln i hi)) (hall j (haln j hj)))
  | succ c ih =>
    intro L vs w hc hs hst hcl hvl hb hf hdist haln
    have hnot : ¬ ∀ i, i < n → L.getD i false = true := fun hall => by
      have : (L.toList.take n).count false = 0 := by
        rw [List.count_eq_zero]
        intro hmem
        rw [List.mem_take_iff_getElem] at hmem
        obtain ⟨i, hi, hif⟩ := hmem
        have hi' : i < L.size := by simp at hi; omega
        have := hall i (by simp at hi; omega)
        have h2 : L.getD i false = L[i] := by simp [Array.getD, hi']
        rw [h2] at this
        rw [Array.getElem_toList] at hif
        rw [hif] at this
        cases this
      omega
    by_cases hmiss : ∀ i, i < n → i ≠ late → L.getD i false = true
    · have hlf : L.getD late false = false := by
        cases hb : L.getD late false with
        | false => rfl
        | true => exact absurd (fun i hi => by by_cases h : i = late; · rw [h]; exact hb
                                               · exact hmiss i hi h) hnot
      have hL : L = (((List.replicate n true).set late false ++ List.replicate s false)).toArray := by
        apply Array.ext
        · simp [hs]
        · intro i hi hi2
          by_cases h : i < n
          · by_cases h2 : i = late
            · subst h2
              simp only [Array.getD, hi] at hlf
              simp [h]
              simpa using hlf
            · have := hmiss i h h2
              simp only [Array.getD, hi] at this
              simp [h, List.getElem_set_ne (Ne.symm h2)]
              simpa using this
          · have := hst i (by omega) (by omega)
            simp only [Array.getD, hi] at this
            simp [List.getElem_append, h]
            simpa using this
      have hc0 : c = 0 := by
        have h1 : L.toList.take n = (List.replicate n true).set late false := by
          rw [hL]; simp
        rw [h1, List.count_set (by simpa using hln), List.count_replicate, List.getElem_replicate] at hc
        have e1 : (true == false) = false := rfl
        rw [e1] at hc
        simp only [beq_self_eq_true, if_true, Bool.false_eq_true, if_false] at hc
        omega
      subst hc0
      rw [show 0 + 1 + s = s + 1 by omega, hL]
      exact hlate vs w hvl hb (fun i hi hne => hf i hi (hmiss i hi hne)) (fun i hi j hj hne h1 h2 => hdist i hi j hj (haln i hi) (haln j hj) hne (hmiss i (haln i hi) h1) (hmiss j (haln j hj) h2))
    rw [show c + 1 + s = (c + s) + 1 by omega]
    refine ⟨fun hr => ?_, fun i hi => ?_⟩
    · exfalso
      apply hnot
      intro i hi
      have := all_listed hd (by rw [hs, hsize]) hr i (by omega)
      have hil : i < L.size := by omega
      simpa [Array.getD, hil] using this
    · obtain ⟨hun, o, ho, hall⟩ := mem_ready.1 hi
      have hio : i < ops.size := (Array.getElem?_eq_some_iff.1 ho).1
      have hil : i < L.size := by omega
      have hin : i < n := by
        rcases Nat.lt_or_ge i n with h | h
        · exact h
        · exfalso
          apply hmiss
          intro j hj hjl
          have h1 := List.all_eq_true.1 hsw i (by simpa using hio)
          simp only [Bool.or_eq_true, decide_eq_true_eq] at h1
          rcases h1 with h1 | h1
          · omega
          · have h2 := List.all_eq_true.1 h1 j (by simpa using hj)
            simp only [Bool.or_eq_true, beq_iff_eq] at h2
            rcases h2 with h2 | h2
            · exact absurd h2 hjl
            · exact reach_listed hcl 6 i o j ho hall h2
      have hdst : o.dst = ds[i]? := by
        have h1 := List.all_eq_true.1 hds i (by simpa using hin)
        rw [ho] at h1
        simpa using h1
      have hdi : ds[i]? = some (ds[i]'(by omega)) := by simp
      refine wpOp_step ho (fun K hK => hstep i o hin ho vs w hvl hb (fun e he hbd => ?_) K (fun v w' hv hb' hp => ?_))
      · have hl := hall e he hbd
        have hlt : e.on < n := by
          rcases Nat.lt_or_ge e.on n with h | h
          · exact h
          · exfalso
            rcases Nat.lt_or_ge e.on (n + s) with h2 | h2
            · have := hst e.on h h2
              have hl2 : e.on < L.size := by omega
              simp only [Array.getD, hl2] at this hl
              simp at this hl
              rw [this] at hl; cases hl
            · have : ¬ e.on < L.size := by omega
              simp [Array.getD, this] at hl
        exact hf e.on hlt hl
      · apply hK
        rw [hdst, hdi, putAll_set hdn hdi (by omega)]
        have hset : ∀ j, i ≠ j → (L.setIfInBounds i true).getD j false = L.getD j false := fun j h => getD_set_ne false h
        refine ih (L.setIfInBounds i true) (vs.set i v) w' ?_ (by simpa using hs) ?_ ?_ (by simpa using hvl) (hb.trans (hb'.mono hb.size)) ?_ ?_ haln
        · have hf' : (L.toList.take n)[i]'(by simp; omega) = false := by
            simp only [List.getElem_take]
            simpa [Array.getD, hil] using hun
          have := count_false_set (L.toList.take n) i (by simp; omega) hf'
          rw [Array.toList_setIfInBounds, ← List.take_set] at *
          omega
        · intro j hj hj2
          rw [getD_set_ne true (by omega)]
          exact hst j hj hj2
        · intro j o' hjo hjl e he hbd
          by_cases hji : i = j
          · subst hji
            rw [ho] at hjo
            cases hjo
            exact getD_set_true (hall e he hbd)
          · rw [hset j hji] at hjl
            exact getD_set_true (hcl j o' hjo hjl e he hbd)
        · intro j hj hjl
          by_cases hji : i = j
          · subst hji
            rw [getD_set_list_self (by omega)]
            exact hv
          · rw [hset j hji] at hjl
            rw [getD_set_list hji]
            exact (f j).st _ _ _ (hf j hj hjl) hb'
        · intro j hj k hk hjn hkn hjk hjl hkl
          have old : ∀ x, x ∈ al → x < n → i ≠ x → (L.setIfInBounds i true).getD x false = true → vs.getD x undef ≠ .pointer (some ⟨w.heap.size, 0, none⟩) := fun x hx hxn hix hxl => by
            rw [hset x hix] at hxl
            obtain ⟨g, hg, hgl⟩ := hal x hx _ _ (hf x hxn hxl)
            rw [hg]
            intro e
            injection e with e
            injection e with e
            injection e with e
            omega
          by_cases hji : i = j
          · subst hji
            rw [getD_set_list_self (by omega), getD_set_list hjk, hp hj]
            exact (old k hk hkn hjk hkl).symm
          · by_cases hki : i = k
            · subst hki
              rw [getD_set_list_self (by omega), getD_set_list hji, hp hk]
              exact old j hj hjn hji hjl
            · rw [getD_set_list hji, getD_set_list hki]
              rw [hset j hji] at hjl
              rw [hset k hki] at hkl
              exact hdist j hj k hk hjn hkn hjk hjl hkl

theorem wp_region_late {P : Program} {ops : Array Oper} {Q : Exit → Act → World → Prop} {id : Nat} {a0 : Act} {w0 : World} (n s : Nat) (ds : List Tmp) (vs0 : List Value) (f : Nat → SFact) (al : List Nat) (hm : P.follows .mixedOrders = true)
    (hsize : ops.size = n + s) (hd : edgesDown .any ops = true) (late : Nat) (hln : late < n) (hsw : storesWaitBut .any ops n late = true) (hdn : ds.Nodup) (hlen : ds.length = n) (hds : dstsAre ops n ds = true) (hv0 : vs0.length = n) (haln : ∀ i ∈ al, i < n)
    (he : a0 = putAll a0 ds vs0) (hal : ∀ i ∈ al, ∀ v w, (f i).P v w → ∃ g, v = .pointer (some ⟨g, 0, none⟩) ∧ g < w.heap.size)
    (hstep : ∀ i o, i < n → ops[i]? = some o → ∀ vs w, vs.length = n → Below w0.heap.size w0 w → (∀ e ∈ o.after, Region.binds .any e = true → (f e.on).P (vs.getD e.on undef) w) →
      ∀ K : Act → World → Prop, Shut (∀ v w', (f i).P v w' → Below w.heap.size w w' → (i ∈ al → v = .pointer (some ⟨w.heap.size, 0, none⟩)) → K ((putAll a0 ds vs).put o.dst v) w') →
        if Region.wanted o (yielded ops (putAll a0 ds vs).tmps) = true then Oper.wp P o (putAll a0 ds vs) w K Q else K ((putAll a0 ds vs).put o.dst undef) w)
    (hend : ∀ vs w, vs.length = n → Below w0.heap.size w0 w → (∀ i, i < n → (f i).P (vs.getD i undef) w) → (∀ i ∈ al, ∀ j ∈ al, i ≠ j → vs.getD i undef ≠ vs.getD j undef) →
      wpAny P .any ops Q s ((List.replicate n true ++ List.replicate s false).toArray) (putAll a0 ds vs) w)
    (hlate : ∀ vs w, vs.length = n → Below w0.heap.size w0 w → (∀ i, i < n → i ≠ late → (f i).P (vs.getD i undef) w) → (∀ i ∈ al, ∀ j ∈ al, i ≠ j → i ≠ late → j ≠ late → vs.getD i undef ≠ vs.getD j undef) →
      wpAny P .any ops Q (s + 1) (((List.replicate n true).set late false ++ List.replicate s false).toArray) (putAll a0 ds vs) w) : (Code.region id ops true).wp P Q a0 w0 := by
  refine wp_region_any hm ?_
  have := wpAny_late (a0 := a0) (w0 := w0) n s hsize ds f al hd late hln hsw hdn hlen hds hal hstep hend hlate n (Array.replicate ops.size false) vs0 w0.drew
    (by rw [hsize]; simp [List.take_replicate, Nat.min_eq_left (Nat.le_add_right n s)]) (by simp [hsize]) (by intro j hj hj2; simp [Array.getD, hsize, hj2]) (by intro j o _ h; simp [Array.getD] at h) hv0 ((Below.refl _ _).drew)
    (by intro i _ h; simp [Array.getD] at h) (by intro i _ j _ _ _ _ h; simp [Array.getD] at h) haln
  rw [← he, ← hsize] at this
  exact this
theorem wpAny_two {P : Program} {ops : Array Oper} {Q : Exit → Act → World → Prop} {md : Region.Mode} {i j fuel : Nat} {o o' : Oper} {listed : Array Bool} {a : Act} {w : World} (hr : Region.ready md ops listed = [i, j]) (ho : ops[i]? = some o) (ho' : ops[j]? = some o')
    (h : ∀ K : Act → World → Prop, Shut (∀ a w, wpAny P md ops Q fuel (listed.setIfInBounds i true) a w → K a w) → if Region.wanted o (yielded ops a.tmps) = true then Oper.wp P o a w K Q else K (a.put o.dst undef) w)
    (h' : ∀ K : Act → World → Prop, Shut (∀ a w, wpAny P md ops Q fuel (listed.setIfInBounds j true) a w → K a w) → if Region.wanted o' (yielded ops a.tmps) = true then Oper.wp P o' a w K Q else K (a.put o'.dst undef) w) : wpAny P md ops Q (fuel + 1) listed a w := by
  refine ⟨fun h0 => (by rw [hr] at h0; cases h0), ?_⟩
  rw [hr]
  intro x hx
  simp only [List.mem_cons, List.not_mem_nil, or_false] at hx
  rcases hx with rfl | rfl
  · exact wpOp_step ho (fun K hK => h K hK)
  · exact wpOp_step ho' (fun K hK => h' K hK)
end Go.Proofs.YtjfcocadohgneaaGreat
