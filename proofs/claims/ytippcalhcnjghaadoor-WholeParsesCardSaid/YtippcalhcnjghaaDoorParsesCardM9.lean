/- Texts put together: RefDiv, Tens, Builder. -/
import Derived.Test.YtippcalhcnjghaaDoorParsesCardM8
import Derived.Deep.DeepCutAuto
import Derived.Lib.Builder
import Derived.Lib.AppendStr
import Derived.OneCell
/- elenchusref01.Div. -/
namespace Go.Proofs.YtippcalhcnjghaaDoor
open Go.RowKit Big

def eqF (v0 : Value) : SFact := ⟨fun v _ => v = v0, fun _ _ _ h _ => h⟩
def atF (l : List Nat) : SFact := ⟨fun v w => At w .u64 v l, fun _ _ _ h hb => h.below hb⟩
def intF (z : Int) : SFact := ⟨fun v w => ∃ d p n c, v = .agg #[.bool d, .slice p n c] ∧ IntAt w v z, fun _ _ _ ⟨d, p, n, c, h1, h2⟩ hb => ⟨d, p, n, c, h1, h2.below hb⟩⟩
def varF (B : Nat) : SFact := ⟨fun v w => VarAt w B v, fun _ _ _ h hb => h.below hb⟩
theorem len15 {vs : List Value} (h : vs.length = 15) : ∃ a b c d e f g h i j k l m n o, vs = [a, b, c, d, e, f, g, h, i, j, k, l, m, n, o] := by
  match vs, h with
  | [a, b, c, d, e, f, g, h, i, j, k, l, m, n, o], _ => exact ⟨a, b, c, d, e, f, g, h, i, j, k, l, m, n, o, rfl⟩
theorem len5 {vs : List Value} (h : vs.length = 5) : ∃ a b c d e, vs = [a, b, c, d, e] := by
  match vs, h with
  | [a, b, c, d, e], _ => exact ⟨a, b, c, d, e, rfl⟩
theorem len3 {vs : List Value} (h : vs.length = 3) : ∃ a b c, vs = [a, b, c] := by
  match vs, h with
  | [a, b, c], _ => exact ⟨a, b, c, rfl⟩
/-- block g is a variable that holds this whole number -/
def IntCell (w : World) (g : Nat) (z : Int) : Prop := ∃ d p n c, w.heap[g]? = some (.cells #[.bool d, .slice p n c] 25 (0, 0)) ∧ IntAt w (.agg #[.bool d, .slice p n c]) z
theorem IntCell.pair {w : World} {g : Nat} {z : Int} (h : IntCell w g z) : Pair w g 25 := by
  obtain ⟨d, p, n, c, h, -⟩ := h
  exact ⟨d, p, n, c, h⟩
theorem IntCell.below {w w' : World} {g : Nat} {z : Int} (h : IntCell w g z) (hb : Below w.heap.size w w') : IntCell w' g z := by
  obtain ⟨d, p, n, c, h, hi⟩ := h
  exact ⟨d, p, n, c, (hb.block g (Array.getElem?_eq_some_iff.1 h).1).trans h, hi.below hb⟩
theorem IntCell.put {w : World} {g : Nat} {z : Int} {d : Bool} {p : Option Addr} {n c : Nat} (hp : Pair w g 25) (hi : IntAt w (.agg #[.bool d, .slice p n c]) z) :
    IntCell ((w.setCell ⟨g, 0, none⟩ (.bool d)).setCell ⟨g, 1, none⟩ (.slice p n c)) g z := ⟨d, p, n, c, hp.put .., hi.stored hp ..⟩
theorem IntCell.apart {w : World} {g g' : Nat} {z : Int} (h : IntCell w g z) (hp : Pair w g' 25) (hne : g ≠ g') (d : Bool) (p : Option Addr) (n c : Nat) :
    IntCell ((w.setCell ⟨g', 0, none⟩ (.bool d)).setCell ⟨g', 1, none⟩ (.slice p n c)) g z := by
  obtain ⟨d', p', n', c', h, hi⟩ := h
  exact ⟨d', p', n', c', ((Below.heap_setCell _ _ _ _ hne).trans (Below.heap_setCell _ _ _ _ hne)).trans h, hi.stored hp ..⟩
def RDivR (q r : Int) (w : World) (e : Ending) (w' : World) : Prop := ∃ v v', e = .returned (.tuple #[v, v']) ∧ IntAt w' v q ∧ IntAt w' v' r ∧ Below w.heap.size w w'

set_option maxRecDepth 100000 in
set_option maxHeartbeats 6400000 in
theorem RDiv_any (v0 v1 : Value) (a b : Int) (w : World) (h0 : RawAt w v0 a) (h1 : RawAt w v1 b) (hb0 : b ≠ 0) (ha : sz W a.natAbs ≤ 549755813888) (hbs : sz W b.natAbs ≤ 549755813888) :
    Calls Tryd.prog 30 #[v0, v1] w (RDivR (a / b) (a % b) w) := by
  obtain ⟨n0, s0, l0, rfl, a0, b0, c0, rfl⟩ := h0
  obtain ⟨n1, s1, l1, rfl, a1, b1, c1, rfl⟩ := h1
  rw [sg_natAbs] at ha hbs
  have g0 : ∀ W', Below w.heap.size w W' → Calls Tryd.prog 45 #[s0] W' (RAt .i64 (dig D (val W l0)) W') := fun W' hb => Digits_any s0 l0 W' (a0.below hb) b0 (by omega)
  have g1 : ∀ W', Below w.heap.size w W' → Calls Tryd.prog 45 #[s1] W' (RAt .i64 (dig D (val W l1)) W') := fun W' hb => Digits_any s1 l1 W' (a1.below hb) b1 (by omega)
  have hwb : ∀ W', Below w.heap.size w W' → Calls Tryd.prog 24 #[.bool false, s1] W' (RInt (val W l1 : Nat) W') := fun W' hb => by
    have := Whole_any false s1 l1 W' (a1.below hb) b1 (by omega)
    simpa [sg] using this
  have hy : 0 < val W l1 := Nat.pos_of_ne_zero fun e => hb0 (by rw [e, sg_zero])
  obtain ⟨x, hx⟩ : ∃ x, x = val W l0 := ⟨_, rfl⟩
  obtain ⟨y, hyv⟩ : ∃ y, y = val W l1 := ⟨_, rfl⟩
  rw [← hx] at g0 ha ⊢
  rw [← hyv] at g1 hwb hy hbs ⊢
  have d0 : sz D x ≤ 2199023255552 := Nat.le_trans (sz_D_W x) (by omega)
  have d1 : sz D y ≤ 2199023255552 := Nat.le_trans (sz_D_W y) (by omega)
  have dq : sz D (x / y) ≤ 2199023255552 := Nat.le_trans (sz_mono D2 (Nat.div_le_self x y)) d0
  have dr : sz D (x % y) ≤ 2199023255552 := Nat.le_trans (sz_mono D2 (Nat.mod_le x y)) d0
  have wq : sz W (x / y) ≤ 549755813888 := Nat.le_trans (sz_mono W2 (Nat.div_le_self x y)) ha
  have wr' : sz W (x % y) ≤ 549755813888 := Nat.le_trans (sz_mono W2 (Nat.mod_le x y)) ha
  have hpt : ∀ W' u u', At W' .i64 u (dig D x) → At W' .i64 u' (dig D y) → Calls Tryd.prog 54 #[u, u'] W' (RParts (x / y) (x % y) W') := fun W' u u' hu hu' => by
    have := rparts_any u u' _ y W' hu hu' (small_dig D2 x) hy (by show sz D x ≤ _; omega) d1
    rwa [val_dig D2] at this
  have hfr : ∀ n, sz D n ≤ 2199023255552 → ∀ W' u, At W' .i64 u (dig D n) → Calls Tryd.prog 43 #[u] W' (RAt .u64 (dig W n) W') := fun n hn W' u hu => by
    have := From_any u _ W' hu (small_dig D2 n) (by show sz D n ≤ _; omega)
    rwa [val_dig D2] at this
  have hwh : ∀ (neg : Bool) n, sz W n ≤ 549755813888 → ∀ W' u, At W' .u64 u (dig W n) → Calls Tryd.prog 24 #[.bool neg, u] W' (RInt (sg neg n) W') := fun neg n hn W' u hu => by
    have := Whole_any neg u _ W' hu (small_dig W2 n) (by show sz W n ≤ _; omega)
    rwa [val_dig W2] at this
  have Fq := hid (hfr _ dq); have Fr := hid (hfr _ dr); have Wq := hid (hwh (n0 != n1) _ wq); have Wr := hid (hwh n0 _ wr'); have G0 := hid g0; have G1 := hid g1; have HP := hid hpt; have HWB := hid hwb
  clear g0 g1 hwb hpt hfr hwh dq dr d0 d1 hx hyv a0 a1 b0 b1 c0 c1
  obtain ⟨Q, hQ⟩ : ∃ Q, Q = sg n0 x / sg n1 y := ⟨_, rfl⟩
  obtain ⟨R, hR⟩ : ∃ R, R = sg n0 x % sg n1 y := ⟨_, rfl⟩
  rw [← hQ, ← hR]
  have HQ := hid hQ; have HR := hid hR
  clear hQ hR hb0
  go_enter Tryd.func30, Tryd.ntmps30
  go_wp2_with fail
  generalize hW : World.alloc (World.alloc (World.alloc (World.alloc w _) _) _) _ = W3
  have bw : Below w.heap.size w W3 := by rw [← hW]; exact (((below1 _ _).alloc (by simp) _).alloc (by simp; omega) _).alloc (by simp; omega) _
  have hp : Pair W3 (w.heap.size + 1 + 1) 25 := by rw [← hW]; exact Pair.below (Pair.new2 ..) (below1 _ _)
  have hp' : Pair W3 (w.heap.size + 1 + 1 + 1) 25 := by rw [← hW]; exact Pair.new3 ..
  have tw : Two W3 w.heap.size (.bool n0) s0 (.bool n1) s1 := by rw [← hW]; exact (Two.new w _ _ _ _ _).below ((below1 _ _).alloc (by simp) _)
  have z3 : w.heap.size + 4 ≤ W3.heap.size := by rw [← hW]; simp
  have bw' := hid bw
  have HT := hid tw; have Hp := hid hp; have Hp' := hid hp'
  clear hW bw tw hp hp'
  have HS : Hid (∀ w', Below W3.heap.size W3 w' → w'.cell? ⟨w.heap.size, 0, none⟩ = some (.bool n0) ∧ w'.cell? ⟨w.heap.size, 1, none⟩ = some s0 ∧ w'.cell? ⟨w.heap.size + 1, 0, none⟩ = some (.bool n1) ∧ w'.cell? ⟨w.heap.size + 1, 1, none⟩ = some s1 ∧ Below W3.heap.size W3 w') := by
    intro w' hb
    have ht := HT.out.below hb
    exact ⟨ht.c00, ht.c01, ht.c10, ht.c11, hb⟩
  have HBW : Hid (∀ w', Below W3.heap.size W3 w' → Below w.heap.size w w') := fun w' hb => bw'.out.trans (hb.mono (by omega))
  go_region_held3 (fun w' => w'.cell? ⟨w.heap.size, 0, none⟩ = some (.bool n0) ∧ w'.cell? ⟨w.heap.size, 1, none⟩ = some s0 ∧ w'.cell? ⟨w.heap.size + 1, 0, none⟩ = some (.bool n1) ∧ w'.cell? ⟨w.heap.size + 1, 1, none⟩ = some s1 ∧ Below W3.heap.size W3 w')
    (first | exact HS.out _ (Below.drew (Below.refl _ _)) | (refine HS.out _ (Below.go hb ?_); go_split_ands; assumption))
    (first
      | (go_at_call_of 45 (s0); (fail_if_success have _t := i1); refine (G0.out _ (HBW.out _ (by go_split_ands; assumption))).mono ?_; rintro e w1 ⟨v1, rfl, i1, hb⟩)
      | (go_at_call_of 45 (s1); refine (G1.out _ (HBW.out _ (by go_split_ands; assumption))).mono ?_; rintro e w2 ⟨v2, rfl, i2, hb⟩; have i1' := i1.below hb; clear i1)
      | (go_at_call 54; refine (HP.out _ _ _ i1' i2).mono ?_; rintro e w3 ⟨v3, v4, rfl, i3, i4, hb⟩; clear i1' i2))
  rename_i hHeld
  go_split_ands
  have HB3 := hid (show Below W3.heap.size W3 w3 by assumption)
  have I3 := hid i3; have I4 := hid i4
  clear i3 i4
  go_upto_region 2 with fail
  have hB3 : W3.heap.size ≤ w3.heap.size := HB3.out.size
  go_cut [8, 9] (fun s8 s9 wx => ∃ g8 g9, s8 = .pointer (some ⟨g8, 0, none⟩) ∧ s9 = .pointer (some ⟨g9, 0, none⟩) ∧ g8 ≠ g9 ∧ w3.heap.size ≤ g8 ∧ w3.heap.size ≤ g9 ∧ IntCell wx g8 (sg (n0 != n1) (x / y)) ∧ IntCell wx g9 (sg n0 (x % y)) ∧ Below w3.heap.size w3 wx)
  case first =>
    rename_i Jc Kc hJc hKc
    refine wp_region_facts (w0 := w3) 15 2 [20, 21, 22, 23, 24, 25, 26, 27, 28, 29, 30, 31, 32, 8, 9] [undef, undef, undef, undef, undef, undef, undef, undef, undef, undef, undef, undef, undef, undef, undef]
      (fun i => match i with
        | 0 => eqF (.pointer (some ⟨w.heap.size, 0, none⟩)) | 1 => eqF (.bool n0) | 2 => eqF (.pointer (some ⟨w.heap.size + 1, 0, none⟩)) | 3 => eqF (.bool n1) | 4 => eqF (.bool (n0 != n1)) | 5 => eqF v3
        | 6 => atF (dig W (x / y)) | 7 => intF (sg (n0 != n1) (x / y)) | 8 => eqF (.pointer (some ⟨w.heap.size, 0, none⟩)) | 9 => eqF (.bool n0) | 10 => eqF v4 | 11 => atF (dig W (x % y)) | 12 => intF (sg n0 (x % y))
        | 13 => varF w3.heap.size | _ => varF w3.heap.size) [13, 14] (by kernel_rfl) (by kernel_rfl) (by kernel_rfl) (by kernel_rfl) (by decide) rfl (by kernel_rfl) rfl (by simp) ?he ?_ ?_ ?_
    case he => simp only [putAll, Act.put, List.setIfInBounds_toArray, List.set_cons_zero, List.set_cons_succ]
    · intro i hi v w' h
      simp only [List.mem_cons, List.not_mem_nil, or_false] at hi
      rcases hi with rfl | rfl
      · obtain ⟨g, hg, hp, -⟩ := (show VarAt w' w3.heap.size v from h); exact ⟨g, hg, hp.lt⟩
      · obtain ⟨g, hg, hp, -⟩ := (show VarAt w' w3.heap.size v from h); exact ⟨g, hg, hp.lt⟩
    · intro i o hi ho vs wx hvl hb hdep K hK
      have hvs := len15 hvl
      obtain ⟨s20, s21, s22, s23, s24, s25, s26, s27, s28, s29, s30, s31, s32, s8, s9, rfl⟩ := hvs
      have hk := HS.out wx (Below.go hb HB3.out)
      clear hvl
      go_split_ands
      rcases i with _ | _ | _ | _ | _ | _ | _ | _ | _ | _ | _ | _ | _ | _ | _ | i
      all_goals (simp only [List.getElem?_toArray, List.getElem?_cons_zero, List.getElem?_cons_succ, Option.some.injEq] at ho)
      all_goals try (subst ho)
      all_goals try simp only [putAll, Act.put, List.setIfInBounds_toArray, List.set_cons_zero, List.set_cons_succ]
      · go_simp
        have hK' := hK.out
        simp only [putAll, Act.put, List.setIfInBounds_toArray, List.set_cons_zero, List.set_cons_succ] at hK'
        exact hK' _ _ rfl (Below.refl _ _) (by simp)
      · have d0 : s20 = _ := hdep ⟨0, .data⟩ (by simp) rfl
        subst d0
        go_simp
        have hK' := hK.out
        simp only [putAll, Act.put, List.setIfInBounds_toArray, List.set_cons_zero, List.set_cons_succ] at hK'
        exact hK' _ _ rfl (Below.refl _ _) (by simp)
      · go_simp
        have hK' := hK.out
        simp only [putAll, Act.put, List.setIfInBounds_toArray, List.set_cons_zero, List.set_cons_succ] at hK'
        exact hK' _ _ rfl (Below.refl _ _) (by simp)
      · have d2 : s22 = _ := hdep ⟨2, .data⟩ (by simp) rfl
        subst d2
        go_simp
        have hK' := hK.out
        simp only [putAll, Act.put, List.setIfInBounds_toArray, List.set_cons_zero, List.set_cons_succ] at hK'
        exact hK' _ _ rfl (Below.refl _ _) (by simp)
      · have d1 : s21 = _ := hdep ⟨1, .data⟩ (by simp) rfl
        subst d1
        have d3 : s23 = _ := hdep ⟨3, .data⟩ (by simp) rfl
        subst d3
        go_simp
        have hK' := hK.out
        simp only [putAll, Act.put, List.setIfInBounds_toArray, List.set_cons_zero, List.set_cons_succ] at hK'
        exact hK' _ _ rfl (Below.refl _ _) (by simp)
      · go_simp
        have hK' := hK.out
        simp only [putAll, Act.put, List.setIfInBounds_toArray, List.set_cons_zero, List.set_cons_succ] at hK'
        exact hK' _ _ rfl (Below.refl _ _) (by simp)
      · have d5 : s25 = _ := hdep ⟨5, .data⟩ (by simp) rfl
        subst d5
        go_simp
        refine (Fq.out _ _ (I3.out.below hb)).mono ?_
        rintro e wy ⟨vy, rfl, iy, hby⟩
        go_wp2_with fail
        have hK' := hK.out
        simp only [putAll, Act.put, List.setIfInBounds_toArray, List.set_cons_zero, List.set_cons_succ] at hK'
        exact hK' _ _ iy hby (by simp)
      · have d4 : s24 = _ := hdep ⟨4, .data⟩ (by simp) rfl
        subst d4
        have d6 : At wx .u64 s26 _ := hdep ⟨6, .data⟩ (by simp) rfl
        go_simp
        refine (Wq.out _ _ d6).mono ?_
        rintro e wy ⟨vy, rfl, iy, hby⟩
        have hsh := iy.shape
        obtain ⟨p5, n5, c5, rfl, iy⟩ := hsh
        go_wp2_with fail
        have hK' := hK.out
        simp only [putAll, Act.put, List.setIfInBounds_toArray, List.set_cons_zero, List.set_cons_succ] at hK'
        exact hK' _ _ ⟨_, _, _, _, rfl, iy⟩ hby (by simp)
      · go_simp
        have hK' := hK.out
        simp only [putAll, Act.put, List.setIfInBounds_toArray, List.set_cons_zero, List.set_cons_succ] at hK'
        exact hK' _ _ rfl (Below.refl _ _) (by simp)
      · have d8 : s28 = _ := hdep ⟨8, .data⟩ (by simp) rfl
        subst d8
        go_simp
        have hK' := hK.out
        simp only [putAll, Act.put, List.setIfInBounds_toArray, List.set_cons_zero, List.set_cons_succ] at hK'
        exact hK' _ _ rfl (Below.refl _ _) (by simp)
      · go_simp
        have hK' := hK.out
        simp only [putAll, Act.put, List.setIfInBounds_toArray, List.set_cons_zero, List.set_cons_succ] at hK'
        exact hK' _ _ rfl (Below.refl _ _) (by simp)
      · have d10 : s30 = _ := hdep ⟨10, .data⟩ (by simp) rfl
        subst d10
        go_simp
        refine (Fr.out _ _ (I4.out.below hb)).mono ?_
        rintro e wy ⟨vy, rfl, iy, hby⟩
        go_wp2_with fail
        have hK' := hK.out
        simp only [putAll, Act.put, List.setIfInBounds_toArray, List.set_cons_zero, List.set_cons_succ] at hK'
        exact hK' _ _ iy hby (by simp)
      · have d9 : s29 = _ := hdep ⟨9, .data⟩ (by simp) rfl
        subst d9
        have d11 : At wx .u64 s31 _ := hdep ⟨11, .data⟩ (by simp) rfl
        go_simp
        refine (Wr.out _ _ d11).mono ?_
        rintro e wy ⟨vy, rfl, iy, hby⟩
        have hsh := iy.shape
        obtain ⟨p5, n5, c5, rfl, iy⟩ := hsh
        go_wp2_with fail
        have hK' := hK.out
        simp only [putAll, Act.put, List.setIfInBounds_toArray, List.set_cons_zero, List.set_cons_succ] at hK'
        exact hK' _ _ ⟨_, _, _, _, rfl, iy⟩ hby (by simp)
      · go_simp
        have hK' := hK.out
        simp only [putAll, Act.put, List.setIfInBounds_toArray, List.set_cons_zero, List.set_cons_succ] at hK'
        exact hK' _ _ ⟨_, rfl, Pair.new .., hb.size⟩ (below1 _ _) (fun _ => rfl)
      · go_simp
        have hK' := hK.out
        simp only [putAll, Act.put, List.setIfInBounds_toArray, List.set_cons_zero, List.set_cons_succ] at hK'
        exact hK' _ _ ⟨_, rfl, Pair.new .., hb.size⟩ (below1 _ _) (fun _ => rfl)
      · omega
    · intro vs wx hvl hb hf hdist
      have hvs := len15 hvl
      obtain ⟨s20, s21, s22, s23, s24, s25, s26, s27, s28, s29, s30, s31, s32, s8, s9, rfl⟩ := hvs
      have f7 : (intF (sg (n0 != n1) (x / y))).P s27 wx := hf 7 (by decide)
      have f12 : (intF (sg n0 (x % y))).P s32 wx := hf 12 (by decide)
      have f13 : VarAt wx w3.heap.size s8 := hf 13 (by decide)
      have f14 : VarAt wx w3.heap.size s9 := hf 14 (by decide)
      have hne : s8 ≠ s9 := hdist 13 (by simp) 14 (by simp) (by decide)
      obtain ⟨d7, p7, m7, c7, rfl, i7⟩ := f7
      obtain ⟨d12, p12, m12, c12, rfl, i12⟩ := f12
      obtain ⟨g8, rfl, hp8, hB8⟩ := f13
      obtain ⟨g9, rfl, hp9, hB9⟩ := f14
      have hgne : g8 ≠ g9 := fun e => hne (by rw [e])
      have c8 := hp8.cells
      obtain ⟨_, _, q0, q1, q2, q3⟩ := c8
      clear hf hdist hvl hne
      refine wpAny_one (i := 15) (by kernel_rfl) rfl ?_
      intro K hK
      simp only [putAll, Act.put, List.setIfInBounds_toArray, List.set_cons_zero, List.set_cons_succ]
      go_simp
      have hK' := hK.out
      apply hK'
      clear hK hK'
      have x8 := IntCell.put hp8 i7
      have hp9' := hp9.apart hgne.symm (.bool d7) (.slice p7 m7 c7)
      have i12' := i12.stored hp8 d7 p7 m7 c7
      have hb' := Below.stored hb hB8 (.bool d7) (.slice p7 m7 c7)
      clear q0 q1 q2 q3 hp8 hp9 i7 i12
      generalize ((wx.setCell ⟨g8, 0, none⟩ (.bool d7)).setCell ⟨g8, 1, none⟩ (.slice p7 m7 c7)) = wy at *
      have c9 := hp9'.cells
      obtain ⟨_, _, q0, q1, q2, q3⟩ := c9
      refine wpAny_one (i := 16) (by kernel_rfl) rfl ?_
      intro K hK
      go_simp
      have hK' := hK.out
      apply hK'
      clear hK hK'
      refine wpAny_done (by kernel_rfl) ?_ _
      refine hKc _ _ (Met.intro (hJc _ _ ?_))
      (repeat apply Exists.intro)
      exact ⟨⟨g8, g9, rfl, rfl, hgne, hB8, hB9, x8.apart hp9' hgne .., IntCell.put hp9' i12', Below.stored hb' hB9 ..⟩, rfl⟩
  case rest =>
    obtain ⟨g8, g9, rfl, rfl, hgne, hB8, hB9, C8, C9, hbc⟩ := hcut
    have z8 : w.heap.size + 4 ≤ g8 := by omega
    have z9 : w.heap.size + 4 ≤ g9 := by omega
    have y8 : W3.heap.size ≤ g8 := by omega
    have y9 : W3.heap.size ≤ g9 := by omega
    have HBc := hid (Below.go hbc HB3.out)
    clear hbc hB8 hB9 hB3
    by_cases hA : n0 = false ∨ x % y = 0
    · have EX : sg (n0 != n1) (x / y) = Q ∧ sg n0 (x % y) = R ∧ 0 ≤ R := by
        rw [HQ.out, HR.out]
        rcases hA with rfl | h0
        · have := div_pos_case (x := x) n1 hy
          have e : sg false x = (x : Int) := by simp [sg]
          have e2 : sg false (x % y) = ((x % y : Nat) : Int) := by simp [sg]
          rw [e, this.1, this.2, e2]
          exact ⟨rfl, rfl, by omega⟩
        · cases n0
          · have := div_pos_case (x := x) n1 hy
            have e : sg false x = (x : Int) := by simp [sg]
            have e2 : sg false (x % y) = ((x % y : Nat) : Int) := by simp [sg]
            rw [e, this.1, this.2, e2]
            exact ⟨rfl, rfl, by omega⟩
          · have := div_neg_even (x := x) n1 hy h0
            have e : sg true x = -(x : Int) := by simp [sg]
            rw [e, this.1, this.2, h0, sg_zero]
            exact ⟨rfl, rfl, by omega⟩
      obtain ⟨ex, ey, hR0⟩ := EX
      rw [ex] at C8
      rw [ey] at C9
      clear ex ey hA
      have hs0 : 0 ≤ R.sign := Int.sign_nonneg_iff.2 hR0
      have hs1 : ¬ R.sign < 0 := by omega
      have t9 := C9
      obtain ⟨d9, p9, m9, c9, e9, i9⟩ := t9
      have e9' := two_cells e9
      obtain ⟨x90, x91, -, -⟩ := e9'
      have hRs : sz W R.natAbs ≤ 1099511627776 := by
        rw [HR.out]
        refine Nat.le_trans (sz_mono W2 (m := y) ?_) (by omega)
        have h1 := Int.emod_nonneg (sg n0 x) (b := sg n1 y) (by intro e; have := congrArg Int.natAbs e; rw [sg_natAbs] at this; simp at this; omega)
        have h2 := Int.emod_lt (sg n0 x) (b := sg n1 y) (by intro e; have := congrArg Int.natAbs e; rw [sg_natAbs] at this; simp at this; omega)
        rw [sg_natAbs] at h2
        omega
      have hsg := hid (RSign_any _ R wc (i9.raw hRs))
      clear e9 i9 hRs
      go_wp2_with fail
      refine wp_loop_rounds 1 ?_
      rw [rounds_succ]
      go_wp2_with fail
      refine hsg.out.mono ?_
      rintro e wz ⟨rfl, hbz⟩
      have HBz := hid (Below.go hbz HBc.out)
      have C8 := C8.below hbz
      have C9 := C9.below hbz
      clear hbz x90 x91 hsg
      have t8 := C8; have t9 := C9
      obtain ⟨d8, p8, m8, c8, e8, i8⟩ := t8
      obtain ⟨d9, p9, m9, c9, e9, i9⟩ := t9
      have P4 := Hp.out.below HBz.out
      have P5 := Hp'.out.below HBz.out
      have e8' := two_cells e8
      obtain ⟨x80, x81, -, -⟩ := e8'
      have e9' := two_cells e9
      obtain ⟨x90, x91, -, -⟩ := e9'
      have P4' := P4.cells
      obtain ⟨_, _, q0, q1, q2, q3⟩ := P4'
      have P5' := P5.cells
      obtain ⟨_, _, r0, r1, r2, r3⟩ := P5'
      have P5s := P5.apart (g' := w.heap.size + 1 + 1) (by omega) (.bool d8) (.slice p8 m8 c8)
      have j8 := hid ((i8.stored P4 d8 p8 m8 c8).stored P5s d9 p9 m9 c9)
      have j9 := hid ((i9.stored P4 d8 p8 m8 c8).stored P5s d9 p9 m9 c9)
      have bz := hid (Below.stored (Below.stored (bw'.out.trans (HBz.out.mono (B' := w.heap.size) (by omega))) (g := w.heap.size + 1 + 1) (by omega) (.bool d8) (.slice p8 m8 c8)) (g := w.heap.size + 1 + 1 + 1) (by omega) (.bool d9) (.slice p9 m9 c9))
      clear P4 P5 P5s i8 i9 e8 e9 C8 C9
      go_wp2_with fail
      go_region
      go_wp2_with fail
      exact bodyPost_ret (v := .tuple #[.agg #[.bool d8, .slice p8 m8 c8], .agg #[.bool d9, .slice p9 m9 c9]])
        (by simp [results, Tryd.results30, go_sem, q0, q1, r0, r1]) rfl
        ⟨_, _, rfl, j8.out, j9.out, bz.out.drew⟩
    · obtain ⟨hn0, hm0⟩ : n0 = true ∧ 0 < x % y := by
        cases n0
        · exact absurd (Or.inl rfl) hA
        · exact ⟨rfl, Nat.pos_of_ne_zero fun e => hA (Or.inr e)⟩
      subst hn0
      obtain ⟨X0, hX0⟩ : ∃ z, z = sg (true != n1) (x / y) := ⟨_, rfl⟩
      obtain ⟨Y0, hY0⟩ : ∃ z, z = sg true (x % y) := ⟨_, rfl⟩
      rw [← hX0] at C8
      rw [← hY0] at C9
      have hodd := div_neg_odd (x := x) n1 hy hm0
      have ex : sg true x = -(x : Int) := by simp [sg]
      have hlt := Nat.mod_lt x hy
      have hYn : Y0 = -((x % y : Nat) : Int) := by rw [hY0]; simp [sg]
      have hYR : Y0 + (y : Int) = R := by rw [HR.out, ex, hodd.2, hYn]; omega
      have hXQ : (if n1 then X0 + 1 else X0 - 1) = Q := by
        rw [HQ.out, ex, hodd.1, hX0]
        cases n1 <;> simp [sg] <;> omega
      have hYs : Y0.sign = -1 := Int.sign_eq_neg_one_of_neg (by rw [hYn]; omega)
      have hX0s : sz W X0.natAbs ≤ 549755813888 := by rw [hX0, sg_natAbs]; exact wq
      have hY0s : sz W Y0.natAbs ≤ 549755813888 := by rw [hY0, sg_natAbs]; exact wr'
      have hys : sz W ((y : Nat) : Int).natAbs ≤ 549755813888 := hbs
      have hR0 : 0 < R := by rw [← hYR, hYn]; omega
      have hRs : sz W R.natAbs ≤ 1099511627776 := by
        refine Nat.le_trans (sz_mono W2 (m := y) ?_) (by omega)
        rw [← hYR, hYn]; omega
      have HYR := hid hYR; have HXQ := hid hXQ
      clear hX0 hY0 hodd ex hYn hXQ hYR hA hlt hm0
      have t9 := C9
      obtain ⟨d9, p9, m9, c9, e9, i9⟩ := t9
      have e9' := two_cells e9
      obtain ⟨x90, x91, -, -⟩ := e9'
      have hsg := RSign_any _ Y0 wc (i9.raw (Nat.le_trans hY0s (by decide)))
      rw [hYs] at hsg
      have Hsg := hid hsg
      clear e9 i9 hYs hsg
      go_wp2_with fail
      refine wp_loop_rounds 2 ?_
      rw [rounds_succ]
      go_wp2_with fail
      refine Hsg.out.mono ?_
      rintro e wa ⟨rfl, hba⟩
      have HBa := hid (Below.go hba HBc.out)
      have A8 := C8.below hba
      have A9 := C9.below hba
      clear hba x90 x91 Hsg C8 C9
      go_upto_region 4 with fail
      go_cut [] (fun wx => IntCell wx g8 X0 ∧ IntCell wx g9 R ∧ Below W3.heap.size W3 wx)
      case first =>
        rename_i Jc Kc hJc hKc
        have t9 := A9
        obtain ⟨d9, p9, m9, c9, e9, i9⟩ := t9
        have hy9 := i9.raw (Nat.le_trans hY0s (by decide))
        refine wp_region_facts (w0 := wa) 5 1 [36, 37, 38, 39, 40] [u36, u37, u38, u39, u40]
          (fun i => match i with | 0 => eqF (.agg #[.bool d9, .slice p9 m9 c9]) | 1 => eqF (.pointer (some ⟨w.heap.size + 1, 1, none⟩)) | 2 => eqF s1 | 3 => intF (y : Nat) | _ => intF R) [] (by kernel_rfl) (by kernel_rfl) (by kernel_rfl) (by kernel_rfl) (by decide) rfl (by kernel_rfl) rfl (by simp) ?he (by simp) ?_ ?_
        case he => simp only [putAll, Act.put, List.setIfInBounds_toArray, List.set_cons_zero, List.set_cons_succ]
        · intro i o hi ho vs wx hvl hb hdep K hK
          have hvs := len5 hvl
          obtain ⟨s0', s1', s2', s3', s4', rfl⟩ := hvs
          have hk := HS.out wx (Below.go hb HBa.out)
          have x9 := two_cells (((hb.block g9 (Array.getElem?_eq_some_iff.1 e9).1)).trans e9)
          obtain ⟨x90, x91, -, -⟩ := x9
          clear hvl
          go_split_ands
          rcases i with _ | _ | _ | _ | _ | i
          all_goals (simp only [List.getElem?_toArray, List.getElem?_cons_zero, List.getElem?_cons_succ, Option.some.injEq] at ho)
          all_goals try (subst ho)
          all_goals try simp only [putAll, Act.put, List.setIfInBounds_toArray, List.set_cons_zero, List.set_cons_succ]
          · go_simp
            have hK' := hK.out
            simp only [putAll, Act.put, List.setIfInBounds_toArray, List.set_cons_zero, List.set_cons_succ] at hK'
            exact hK' _ _ rfl (Below.refl _ _) (by simp)
          · go_simp
            have hK' := hK.out
            simp only [putAll, Act.put, List.setIfInBounds_toArray, List.set_cons_zero, List.set_cons_succ] at hK'
            exact hK' _ _ rfl (Below.refl _ _) (by simp)
          · have d1 : s1' = _ := hdep ⟨1, .data⟩ (by simp) rfl
            subst d1
            go_simp
            have hK' := hK.out
            simp only [putAll, Act.put, List.setIfInBounds_toArray, List.set_cons_zero, List.set_cons_succ] at hK'
            exact hK' _ _ rfl (Below.refl _ _) (by simp)
          · have d2 : s2' = _ := hdep ⟨2, .data⟩ (by simp) rfl
            subst d2
            go_simp
            refine (HWB.out _ (HBW.out _ (Below.go hb HBa.out))).mono ?_
            rintro e wy ⟨vy, rfl, iy, hby⟩
            have hsh := iy.shape
            obtain ⟨p5, n5, c5, rfl, iy⟩ := hsh
            go_wp2_with fail
            have hK' := hK.out
            simp only [putAll, Act.put, List.setIfInBounds_toArray, List.set_cons_zero, List.set_cons_succ] at hK'
            exact hK' _ _ ⟨_, _, _, _, rfl, iy⟩ hby (by simp)
          · have d0 : s0' = _ := hdep ⟨0, .data⟩ (by simp) rfl
            have d3 : (intF (y : Nat)).P s3' wx := hdep ⟨3, .data⟩ (by simp) rfl
            subst d0
            obtain ⟨dd, pp, nn, cc, rfl, ii⟩ := d3
            go_simp
            refine (RAdd_any _ _ Y0 (y : Nat) wx (hy9.below hb) (ii.raw (Nat.le_trans hys (by decide)))).mono ?_
            rw [HYR.out]
            rintro e wy ⟨vy, rfl, iy, hby⟩
            have hsh := iy.shape
            obtain ⟨p5, n5, c5, rfl, iy⟩ := hsh
            go_wp2_with fail
            have hK' := hK.out
            simp only [putAll, Act.put, List.setIfInBounds_toArray, List.set_cons_zero, List.set_cons_succ] at hK'
            exact hK' _ _ ⟨_, _, _, _, rfl, iy⟩ hby (by simp)
          · omega
        · intro vs wx hvl hb hf hdist
          have hvs := len5 hvl
          obtain ⟨s0', s1', s2', s3', s4', rfl⟩ := hvs
          have f4 : (intF R).P s4' wx := hf 4 (by decide)
          obtain ⟨dq, pq, mq, cq, rfl, iq⟩ := f4
          clear hf hdist hvl
          have P9 := (A9.below hb).pair
          have x9 := P9.cells
          obtain ⟨_, _, q0, q1, q2, q3⟩ := x9
          refine wpAny_one (i := 5) (by kernel_rfl) rfl ?_
          intro K hK
          simp only [putAll, Act.put, List.setIfInBounds_toArray, List.set_cons_zero, List.set_cons_succ]
          go_simp
          have hK' := hK.out
          apply hK'
          clear hK hK'
          refine wpAny_done (by kernel_rfl) ?_ _
          refine hKc _ _ (Met.intro (hJc _ _ ?_))
          (repeat apply Exists.intro)
          exact ⟨⟨(A8.below hb).apart P9 hgne .., IntCell.put P9 iq, Below.stored (Below.go hb HBa.out) (by omega) ..⟩, rfl⟩
      case rest =>
        obtain ⟨D8, D9, hbd⟩ := hcut
        have HBd := hid hbd
        clear hbd A8 A9
        have hk := HS.out _ HBd.out
        go_split_ands
        have hs0 : 0 ≤ R.sign := Int.sign_nonneg_iff.2 (by omega)
        have hs1 : ¬ R.sign < 0 := by omega
        cases n1
        · have hq1 : X0 - 1 = Q := by have := HXQ.out; simpa using this
          go_upto_region 7 with fail
          · skip
            have t8 := D8
            obtain ⟨d8, p8, m8, c8, e8, i8⟩ := t8
            have hx8 := i8.raw (Nat.le_trans hX0s (by decide))
            refine wp_region_facts (w0 := wc) 3 1 [46, 47, 48] [u46, u47, u48]
              (fun i => match i with | 0 => eqF (.agg #[.bool d8, .slice p8 m8 c8]) | 1 => intF 1 | _ => intF Q) [] (by kernel_rfl) (by kernel_rfl) (by kernel_rfl) (by kernel_rfl) (by decide) rfl (by kernel_rfl) rfl (by simp) ?he (by simp) ?_ ?_
            case he => simp only [putAll, Act.put, List.setIfInBounds_toArray, List.set_cons_zero, List.set_cons_succ]
            · intro i o hi ho vs wx hvl hb hdep K hK
              have hvs := len3 hvl
              obtain ⟨s0', s1', s2', rfl⟩ := hvs
              have x8 := two_cells (((hb.block g8 (Array.getElem?_eq_some_iff.1 e8).1)).trans e8)
              obtain ⟨x80, x81, -, -⟩ := x8
              clear hvl
              rcases i with _ | _ | _ | i
              all_goals (simp only [List.getElem?_toArray, List.getElem?_cons_zero, List.getElem?_cons_succ, Option.some.injEq] at ho)
              all_goals try (subst ho)
              all_goals try simp only [putAll, Act.put, List.setIfInBounds_toArray, List.set_cons_zero, List.set_cons_succ]
              · go_simp
                have hK' := hK.out
                simp only [putAll, Act.put, List.setIfInBounds_toArray, List.set_cons_zero, List.set_cons_succ] at hK'
                exact hK' _ _ rfl (Below.refl _ _) (by simp)
              · go_simp
                refine (ROf_any 1 wx (by decide) (by decide)).mono ?_
                rintro e wy ⟨vy, rfl, iy, hby⟩
                have hsh := iy.shape
                obtain ⟨p5, n5, c5, rfl, iy⟩ := hsh
                go_wp2_with fail
                have hK' := hK.out
                simp only [putAll, Act.put, List.setIfInBounds_toArray, List.set_cons_zero, List.set_cons_succ] at hK'
                exact hK' _ _ ⟨_, _, _, _, rfl, iy⟩ hby (by simp)
              · have d0 : s0' = _ := hdep ⟨0, .data⟩ (by simp) rfl
                have d1 : (intF 1).P s1' wx := hdep ⟨1, .data⟩ (by simp) rfl
                subst d0
                obtain ⟨dd, pp, nn, cc, rfl, ii⟩ := d1
                go_simp
                refine (RSub_any _ _ X0 1 wx (hx8.below hb) (ii.raw (by decide))).mono ?_
                rw [hq1]
                rintro e wy ⟨vy, rfl, iy, hby⟩
                have hsh := iy.shape
                obtain ⟨p5, n5, c5, rfl, iy⟩ := hsh
                go_wp2_with fail
                have hK' := hK.out
                simp only [putAll, Act.put, List.setIfInBounds_toArray, List.set_cons_zero, List.set_cons_succ] at hK'
                exact hK' _ _ ⟨_, _, _, _, rfl, iy⟩ hby (by simp)
              · omega
            · intro vs wx hvl hb hf hdist
              have hvs := len3 hvl
              obtain ⟨s0', s1', s2', rfl⟩ := hvs
              have f2 : (intF Q).P s2' wx := hf 2 (by decide)
              obtain ⟨dq, pq, mq, cq, rfl, iq⟩ := f2
              clear hf hdist hvl
              have P8 := (D8.below hb).pair
              have x8 := P8.cells
              obtain ⟨_, _, q0, q1, q2, q3⟩ := x8
              refine wpAny_one (i := 3) (by kernel_rfl) rfl ?_
              intro K hK
              simp only [putAll, Act.put, List.setIfInBounds_toArray, List.set_cons_zero, List.set_cons_succ]
              go_simp
              have hK' := hK.out
              apply hK'
              clear hK hK'
              refine wpAny_done (by kernel_rfl) ?_ _
              have C8 := IntCell.put P8 iq
              have C9 := (D9.below hb).apart P8 hgne.symm dq pq mq cq
              have HBf := hid (Below.stored (Below.go hb HBd.out) (g := g8) (by omega) (.bool dq) (.slice pq mq cq))
              generalize ((wx.setCell ⟨g8, 0, none⟩ (.bool dq)).setCell ⟨g8, 1, none⟩ (.slice pq mq cq)) = wf at *
              clear D8 D9 P8 q0 q1 q2 q3 hb
              have t9 := C9
              obtain ⟨d9, p9, m9, c9, e9, i9⟩ := t9
              have e9' := two_cells e9
              obtain ⟨x90, x91, -, -⟩ := e9'
              have hsg2 := hid (RSign_any _ R _ (i9.raw hRs))
              clear e9 i9
              go_wp2_with fail
              rw [rounds_succ]
              go_wp2_with fail
              refine hsg2.out.mono ?_
              rintro e wz ⟨rfl, hbz⟩
              have HBz := hid (Below.go hbz HBf.out)
              have C8 := C8.below hbz
              have C9 := C9.below hbz
              clear hbz x90 x91 hsg2
              have t8 := C8; have t9 := C9
              obtain ⟨d8, p8, m8, c8, e8, i8⟩ := t8
              obtain ⟨d9, p9, m9, c9, e9, i9⟩ := t9
              have P4 := Hp.out.below HBz.out
              have P5 := Hp'.out.below HBz.out
              have e8' := two_cells e8
              obtain ⟨x80, x81, -, -⟩ := e8'
              have e9' := two_cells e9
              obtain ⟨x90, x91, -, -⟩ := e9'
              have P4' := P4.cells
              obtain ⟨_, _, q0, q1, q2, q3⟩ := P4'
              have P5' := P5.cells
              obtain ⟨_, _, r0, r1, r2, r3⟩ := P5'
              have P5s := P5.apart (g' := w.heap.size + 1 + 1) (by omega) (.bool d8) (.slice p8 m8 c8)
              have j8 := hid ((i8.stored P4 d8 p8 m8 c8).stored P5s d9 p9 m9 c9)
              have j9 := hid ((i9.stored P4 d8 p8 m8 c8).stored P5s d9 p9 m9 c9)
              have bz := hid (Below.stored (Below.stored (bw'.out.trans (HBz.out.mono (B' := w.heap.size) (by omega))) (g := w.heap.size + 1 + 1) (by omega) (.bool d8) (.slice p8 m8 c8)) (g := w.heap.size + 1 + 1 + 1) (by omega) (.bool d9) (.slice p9 m9 c9))
              clear P4 P5 P5s i8 i9 e8 e9 C8 C9
              go_wp2_with fail
              go_region
              go_wp2_with fail
              exact bodyPost_ret (v := .tuple #[.agg #[.bool d8, .slice p8 m8 c8], .agg #[.bool d9, .slice p9 m9 c9]])
                (by simp [results, Tryd.results30, go_sem, q0, q1, r0, r1]) rfl
                ⟨_, _, rfl, j8.out, j9.out, bz.out.drew⟩
        · have hq1 : X0 + 1 = Q := by have := HXQ.out; simpa using this
          go_upto_region 6 with fail
          · skip
            have t8 := D8
            obtain ⟨d8, p8, m8, c8, e8, i8⟩ := t8
            have hx8 := i8.raw (Nat.le_trans hX0s (by decide))
            refine wp_region_facts (w0 := wc) 3 1 [43, 44, 45] [u43, u44, u45]
              (fun i => match i with | 0 => eqF (.agg #[.bool d8, .slice p8 m8 c8]) | 1 => intF 1 | _ => intF Q) [] (by kernel_rfl) (by kernel_rfl) (by kernel_rfl) (by kernel_rfl) (by decide) rfl (by kernel_rfl) rfl (by simp) ?he (by simp) ?_ ?_
            case he => simp only [putAll, Act.put, List.setIfInBounds_toArray, List.set_cons_zero, List.set_cons_succ]
            · intro i o hi ho vs wx hvl hb hdep K hK
              have hvs := len3 hvl
              obtain ⟨s0', s1', s2', rfl⟩ := hvs
              have x8 := two_cells (((hb.block g8 (Array.getElem?_eq_some_iff.1 e8).1)).trans e8)
              obtain ⟨x80, x81, -, -⟩ := x8
              clear hvl
              rcases i with _ | _ | _ | i
              all_goals (simp only [List.getElem?_toArray, List.getElem?_cons_zero, List.getElem?_cons_succ, Option.some.injEq] at ho)
              all_goals try (subst ho)
              all_goals try simp only [putAll, Act.put, List.setIfInBounds_toArray, List.set_cons_zero, List.set_cons_succ]
              · go_simp
                have hK' := hK.out
                simp only [putAll, Act.put, List.setIfInBounds_toArray, List.set_cons_zero, List.set_cons_succ] at hK'
                exact hK' _ _ rfl (Below.refl _ _) (by simp)
              · go_simp
                refine (ROf_any 1 wx (by decide) (by decide)).mono ?_
                rintro e wy ⟨vy, rfl, iy, hby⟩
                have hsh := iy.shape
                obtain ⟨p5, n5, c5, rfl, iy⟩ := hsh
                go_wp2_with fail
                have hK' := hK.out
                simp only [putAll, Act.put, List.setIfInBounds_toArray, List.set_cons_zero, List.set_cons_succ] at hK'
                exact hK' _ _ ⟨_, _, _, _, rfl, iy⟩ hby (by simp)
              · have d0 : s0' = _ := hdep ⟨0, .data⟩ (by simp) rfl
                have d1 : (intF 1).P s1' wx := hdep ⟨1, .data⟩ (by simp) rfl
                subst d0
                obtain ⟨dd, pp, nn, cc, rfl, ii⟩ := d1
                go_simp
                refine (RAdd_any _ _ X0 1 wx (hx8.below hb) (ii.raw (by decide))).mono ?_
                rw [hq1]
                rintro e wy ⟨vy, rfl, iy, hby⟩
                have hsh := iy.shape
                obtain ⟨p5, n5, c5, rfl, iy⟩ := hsh
                go_wp2_with fail
                have hK' := hK.out
                simp only [putAll, Act.put, List.setIfInBounds_toArray, List.set_cons_zero, List.set_cons_succ] at hK'
                exact hK' _ _ ⟨_, _, _, _, rfl, iy⟩ hby (by simp)
              · omega
            · intro vs wx hvl hb hf hdist
              have hvs := len3 hvl
              obtain ⟨s0', s1', s2', rfl⟩ := hvs
              have f2 : (intF Q).P s2' wx := hf 2 (by decide)
              obtain ⟨dq, pq, mq, cq, rfl, iq⟩ := f2
              clear hf hdist hvl
              have P8 := (D8.below hb).pair
              have x8 := P8.cells
              obtain ⟨_, _, q0, q1, q2, q3⟩ := x8
              refine wpAny_one (i := 3) (by kernel_rfl) rfl ?_
              intro K hK
              simp only [putAll, Act.put, List.setIfInBounds_toArray, List.set_cons_zero, List.set_cons_succ]
              go_simp
              have hK' := hK.out
              apply hK'
              clear hK hK'
              refine wpAny_done (by kernel_rfl) ?_ _
              have C8 := IntCell.put P8 iq
              have C9 := (D9.below hb).apart P8 hgne.symm dq pq mq cq
              have HBf := hid (Below.stored (Below.go hb HBd.out) (g := g8) (by omega) (.bool dq) (.slice pq mq cq))
              generalize ((wx.setCell ⟨g8, 0, none⟩ (.bool dq)).setCell ⟨g8, 1, none⟩ (.slice pq mq cq)) = wf at *
              clear D8 D9 P8 q0 q1 q2 q3 hb
              have t9 := C9
              obtain ⟨d9, p9, m9, c9, e9, i9⟩ := t9
              have e9' := two_cells e9
              obtain ⟨x90, x91, -, -⟩ := e9'
              have hsg2 := hid (RSign_any _ R _ (i9.raw hRs))
              clear e9 i9
              go_wp2_with fail
              rw [rounds_succ]
              go_wp2_with fail
              refine hsg2.out.mono ?_
              rintro e wz ⟨rfl, hbz⟩
              have HBz := hid (Below.go hbz HBf.out)
              have C8 := C8.below hbz
              have C9 := C9.below hbz
              clear hbz x90 x91 hsg2
              have t8 := C8; have t9 := C9
              obtain ⟨d8, p8, m8, c8, e8, i8⟩ := t8
              obtain ⟨d9, p9, m9, c9, e9, i9⟩ := t9
              have P4 := Hp.out.below HBz.out
              have P5 := Hp'.out.below HBz.out
              have e8' := two_cells e8
              obtain ⟨x80, x81, -, -⟩ := e8'
              have e9' := two_cells e9
              obtain ⟨x90, x91, -, -⟩ := e9'
              have P4' := P4.cells
              obtain ⟨_, _, q0, q1, q2, q3⟩ := P4'
              have P5' := P5.cells
              obtain ⟨_, _, r0, r1, r2, r3⟩ := P5'
              have P5s := P5.apart (g' := w.heap.size + 1 + 1) (by omega) (.bool d8) (.slice p8 m8 c8)
              have j8 := hid ((i8.stored P4 d8 p8 m8 c8).stored P5s d9 p9 m9 c9)
              have j9 := hid ((i9.stored P4 d8 p8 m8 c8).stored P5s d9 p9 m9 c9)
              have bz := hid (Below.stored (Below.stored (bw'.out.trans (HBz.out.mono (B' := w.heap.size) (by omega))) (g := w.heap.size + 1 + 1) (by omega) (.bool d8) (.slice p8 m8 c8)) (g := w.heap.size + 1 + 1 + 1) (by omega) (.bool d9) (.slice p9 m9 c9))
              clear P4 P5 P5s i8 i9 e8 e9 C8 C9
              go_wp2_with fail
              go_region
              go_wp2_with fail
              exact bodyPost_ret (v := .tuple #[.agg #[.bool d8, .slice p8 m8 c8], .agg #[.bool d9, .slice p9 m9 c9]])
                (by simp [results, Tryd.results30, go_sem, q0, q1, r0, r1]) rfl
                ⟨_, _, rfl, j8.out, j9.out, bz.out.drew⟩
end Go.Proofs.YtippcalhcnjghaaDoor
/- whole.tens: groups of nine digits. -/
namespace Go.Proofs.YtippcalhcnjghaaDoor
open Go.RowKit Big

def T : Nat := 1000000000
theorem T2 : 2 ≤ T := by decide
theorem Own.far {w w' : World} {base B : Nat} {e : TypeId} {k : IntKind} {v : Value} {l : List Nat} (h : Own w B e k v l) (hf : ∀ g, v.ownBlock = some g → g < base) (hb : Below base w w') : Own w' B e k v l := by
  refine ⟨h.1, ?_⟩
  rcases h.2 with hn | ⟨g, cap, cur, rfl, h1, hg, r⟩
  · exact Or.inl hn
  · exact Or.inr ⟨g, cap, cur, rfl, h1, by rw [hb.block g (hf g rfl)]; exact hg, r⟩
theorem Own.apart {w w' : World} {B : Nat} {e : TypeId} {k : IntKind} {v : Value} {l : List Nat} {g : Nat} (h : Own w B e k v l) (hg : g < B) (hw : w.grownBy w' (some g)) : Own w' B e k v l := by
  refine World.ownsRow.kept h hw ?_
  right
  intro e
  have := Own.row h g e
  omega
theorem cutTo_block (v : Value) (m : Nat) : (cutTo v m).ownBlock = v.ownBlock := by
  cases v <;> try rfl
  rename_i p n c
  cases p <;> rfl
theorem grown_below {w w' : World} {g : Nat} {B : Nat} (h : w.grownBy w' (some g)) (hg : B ≤ g) (hB : B ≤ w.heap.size) : Below B w w' := (Below.refl B w).grown h hB (fun k hk => by cases hk; exact hg)
theorem below_grown {w w' w'' : World} {g B : Nat} (h : w.grownBy w' (some g)) (hb : Below B w' w'') (hB : w.heap.size ≤ B) : w.grownBy w'' (some g) :=
  ⟨hb.os.trans h.os, hb.tape.trans h.tape, hb.output.trans h.output, Nat.le_trans h.size hb.size, fun i hi hne => (hb.block i (by omega)).trans (h.block i hi hne)⟩

theorem Own.len {w : World} {B : Nat} {e : TypeId} {k : IntKind} {v : Value} {l : List Nat} (h : Own w B e k v l) : lenOf v = l.length := by
  obtain ⟨p, c, rfl, -⟩ := h.at
  rfl
def RTens (n : Nat) (v : Value) (w : World) (e : Ending) (w' : World) : Prop := ∃ v', e = .returned v' ∧ Own w' w.heap.size 67 .u32 v' (dig T n) ∧ w.grownBy w' v.ownBlock

set_option maxRecDepth 100000 in
set_option maxHeartbeats 1600000 in
theorem tens_any (B : Nat) (v : Value) (n : Nat) (w : World) (h : Own w B 67 .u32 v (dig H n)) (hn : sz T n ≤ 8796093022208) :
    Calls Tryd.prog 60 #[v] w (RTens n v w) := by
  by_cases h0 : n = 0
  · subst h0
    obtain ⟨p, c, rfl, b1, b2, b3, -⟩ := h.at
    have hl : (dig H 0).length = 0 := rfl
    rw [hl] at *
    clear hl h
    go_enter Tryd.func60, Tryd.ntmps60
    go_wp2_with fail
    refine wp_loop_rounds 1 ?_
    rw [rounds_succ]
    go_wp2
    go_ret
    exact ⟨_, rfl, Own.nil _ _ _ _, World.grownBy.refl _ _⟩
  · have hpos : 0 < (dig H n).length := Nat.pos_of_ne_zero fun e => h0 ((sz_eq_zero H2).1 e)
    obtain ⟨g, cap, hv, hBg, hg, hc1, hc2⟩ := h.shape hpos
    have hvb : v.ownBlock = some g := by rw [hv]; rfl
    clear hpos
    have hunf : ∀ w' : World, w.grownBy w' (some g) → w.grownBy w' v.ownBlock := fun w' hh => by rw [hvb]; exact hh
    have Hunf := hid hunf
    have Hvb := hid hvb
    obtain ⟨post, hpost⟩ : ∃ post, post = RTens n v w := ⟨_, rfl⟩
    rw [← hpost]
    have Hpost := hid hpost
    clear hunf hvb hpost
    have ho := hid h
    unfold maxLen at hc2
    subst hv
    go_enter Tryd.func60, Tryd.ntmps60
    go_wp2_with fail
    go_loopw [0, 3] (fun hv gv wr => ∃ (m len cp : Nat) (G : List Nat), hv = .slice (some ⟨g, 0, none⟩) len cp ∧ Hid (len = sz H m) ∧ len ≤ cp ∧ cp ≤ 2 ^ 63 - 1 ∧ Hid (Own wr B 67 .u32 hv (dig H m)) ∧ Own wr w.heap.size 67 .u32 gv G ∧
        Hid (dig T n = G ++ dig T m) ∧ w.grownBy wr (some g)) (fun _ gv _ => sz T n - lenOf gv)
    case atStart => exact ⟨n, _, cap, [], rfl, rfl, hc1, hc2, h, Own.nil _ _ _ _, rfl, World.grownBy.refl _ _⟩
    case round =>
      obtain ⟨m, len, cp, G, rfl, hlen, hcl, hcp, hown, hG, hcat, hgr⟩ := hrel
      by_cases hm : 0 < len
      · have hm0 : m ≠ 0 := fun e => by have := hlen.out; rw [e, sz_zero] at this; omega
        have Hm0 := hid hm0
        have hds := divideShort_any B _ (dig H m) T wr hown.out (small_dig H2 _) (by decide) (by decide)
        rw [val_dig H2] at hds
        have Hds := hid hds
        have hGl : Hid (G.length + sz T (m / T) + 1 = sz T n) := by
          have := congrArg List.length hcat.out
          rw [List.length_append] at this
          have e := sz_pos T2 (n := m) (by omega)
          unfold Hid sz at *
          omega
        clear hds hm0
        have hgw : g < wr.heap.size := Nat.lt_of_lt_of_le hg hgr.size
        go_wp2_with fail
        refine Hds.out.mono ?_
        rintro e w1 ⟨rfl, ho1, hg1⟩
        have hG1 := hG.apart (w' := w1) hg (by simpa [Value.ownBlock] using hg1)
        have hg1' : wr.grownBy w1 (some g) := by simpa [Value.ownBlock] using hg1
        have ho1' := hid ho1
        have hz1 := hg1'.size
        clear ho1 hg1 hG
        have hsz1 : sz H (m / T) ≤ cp := by
          have := sz_mono H2 (Nat.div_le_self m T)
          have := hlen.out
          omega
        have hmod : m % T < 4294967296 := Nat.lt_trans (Nat.mod_lt m (by decide)) (by decide)
        go_wp2_with (at_builtin; refine wpList_append_at rfl _ _ 65 rfl elemHalves w.heap.size _ G rfl (hG1.alloc _) _ [m % T] rfl (At.oneI _ _ _ _ _ (by first | rfl | omega)) (by have := hGl.out; simp [maxLen]; omega) (by have := hGl.out; simp; omega) (by have := hgr.size; simp; omega) ?_; intro v2 w2 ho2 hb2 hs2)
        have l2 := hid ho2.len
        have l1 := hid hG1.len
        have hfin : w.grownBy w2 (some g) := below_grown (below_grown (grown_trans hgr hg1') ((below1 _ _).mono (B' := w.heap.size) (by have := hgr.size; omega)) (Nat.le_refl _)) hb2 (Nat.le_refl _)
        have hown2 : Own w2 B 67 .u32 (cutTo (.slice (some ⟨g, 0, none⟩) len cp) (sz H (m / T))) (dig H (m / T)) :=
          ((ho1'.out.far (base := w.heap.size) (fun g' e => by simp [cutTo, Value.ownBlock] at e; omega) ((below1 _ _).mono (by have := hgr.size; omega)))).far (fun g' e => by simp [cutTo, Value.ownBlock] at e; omega) hb2
        go_roundw
        case rel => exact ⟨m / T, sz H (m / T), cp, G ++ [m % T], rfl, rfl, hsz1, hcp, hown2, ho2, by
          have := hcat.out
          unfold Hid
          rw [this, dig_pos T2 (Nat.pos_of_ne_zero Hm0.out)]; simp, hfin⟩
        case measure =>
          rw [l2.out, l1.out, List.length_append]
          have := hGl.out
          simp
          omega
      · have hm0 : m = 0 := by
          have := hlen.out
          exact (sz_eq_zero H2).1 (by omega)
        have hc : Hid (dig T n = G) := by
          have := hcat.out
          rw [hm0, dig_zero, List.append_nil] at this
          exact this
        obtain rfl : len = 0 := by omega
        clear hlen hown hm0 hcat
        go_wp2
        rw [Hpost.out]
        exact ⟨_, rfl, by rw [hc.out]; exact hG, Hunf.out _ hgr⟩
end Go.Proofs.YtippcalhcnjghaaDoor
/- strings.Builder: copyCheck, WriteByte, WriteString, over a builder that a call has laid itself. -/
namespace Go.Proofs.YtippcalhcnjghaaDoor
open Go.RowKit Big Go.Lib

theorem sizeBuilder : (Tryd.prog.info? 74).map (·.size) = some 2 := by kernel_rfl
theorem liesBuilder : liesAt Tryd.prog Tryd.prog.depth 74 (2 / Tryd.prog.cellsOf 74) 0 74 1 = true := by kernel_rfl
theorem infoByte : (Tryd.prog.info? 5).map (fun i => (i.zero, i.size, i.bytes)) = some (some (.int .u8 0), 1, 1) := by kernel_rfl

set_option maxRecDepth 100000 in
set_option maxHeartbeats 1000000 in
theorem copyCheck_any (B b : Nat) (bs : List Value) (w : World) (h : IsBuilder 74 5 B b bs w) :
    Calls Tryd.prog 82 #[.pointer (some ⟨b, 0, none⟩)] w fun e w' => e = .returned (.tuple #[]) ∧ BuilderAt 74 5 B b (.pointer (some ⟨b, 0, none⟩)) bs w' ∧ Below B w w' := by
  obtain ⟨j, hj, hjs⟩ := Option.map_eq_some_iff.1 sizeBuilder
  rcases h with h | h
  · have c0 := h.cell0
    have hsh := h.shape
    have f0 := h.frozen0
    have H := hid h
    clear h
    go_enter Tryd.func82, Tryd.ntmps82
    go_wp2
    rw [run_to_unsafe w ⟨b, 0, none⟩ Tryd.underlying71 Tryd.underlying107 hj (by rw [hjs]; decide) hsh (Nat.zero_lt_succ 1)]
    simp only [Result.andThen]
    rw [Oper.upon_value]
    go_wp2
    rw [run_callFunc_extern Tryd.func91 (by kernel_rfl) (by kernel_rfl) (by kernel_rfl) (e := Extern.AbiNoEscape.same) (by kernel_rfl), run_noEscape]
    simp only [Result.andThen]
    rw [Oper.upon_value]
    go_wp2
    rw [run_from_unsafe w ⟨b, 0, none⟩ Tryd.underlying107 Tryd.underlying71 hj hsh liesBuilder]
    simp only [Result.andThen]
    rw [Oper.upon_value]
    go_wp2
    go_end0
    exact ⟨rfl, H.out.used _, (Below.refl B w).setCell (p := ⟨b, 0, none⟩) H.out.1 _⟩
  · have c0 := h.cell0
    have H := hid h
    clear h
    go_enter Tryd.func82, Tryd.ntmps82
    go_wp2
    rw [run_neq_ptr_same w _ Tryd.underlying71 hj]
    go_wp2
    go_end0
    exact ⟨rfl, H.out, Below.refl B _⟩

def RBuilt (B b : Nat) (v : Value) (bs : List Value) (w : World) (e : Ending) (w' : World) : Prop := e = .returned v ∧ IsBuilder 74 5 B b bs w' ∧ Below B w w'

set_option maxRecDepth 100000 in
set_option maxHeartbeats 1000000 in
theorem WriteByte_any (B b : Nat) (bs : List Value) (c : Int) (w : World) (h : IsBuilder 74 5 B b bs w) (hlen : bs.length + 1 ≤ 140737488355328) (hBw : B ≤ w.heap.size) :
    Calls Tryd.prog 62 #[.pointer (some ⟨b, 0, none⟩), .int .u8 c] w (RBuilt B b .nilIface (bs ++ [.int .u8 c]) w) := by
  obtain ⟨i0, hi, hz0, hz1, hz2⟩ := info_parts infoByte
  have H := hid h
  clear h
  go_enter Tryd.func62, Tryd.ntmps62
  go_wp2_with fail
  refine (copyCheck_any B b bs _ H.out).mono ?_
  rintro e w1 ⟨rfl, h1, hb1⟩
  have hlt := h1.lt
  obtain ⟨hB, v, hbk, hown, hne⟩ := h1
  have c0 : w1.cell? ⟨b, 0, none⟩ = some (.pointer (some ⟨b, 0, none⟩)) := by rw [cell_of_row w1 b 0 _ _ (0, 0) hbk]; rfl
  have c1 : w1.cell? ⟨b, 1, none⟩ = some v := by rw [cell_of_row w1 b 1 _ _ (0, 0) hbk]; rfl
  have z1 : B ≤ w1.heap.size := Nat.le_trans hBw hb1.size
  go_wp2_with (at_builtin; refine wpList_append_own _ rfl _ _ 72 rfl B 5 i0 (.int .u8 0) 1 1 Tryd.underlying72 hi hz0 hz1 hz2 rfl (by decide) _ _ _ rfl (hown.alloc _) ⟨w1.heap.size, 0, none⟩ 1 1 [.int .u8 c] rfl rfl ?c1 ?c2 ?c3 ?c4 ?c5 ?_)
  case c1 =>
    intro j u hj
    match j, hj with
    | 0, hj => simp at hj; subst hj; simp [Addr.add]
  case c2 => intro u hu; simp at hu; subst hu; rfl
  case c3 => unfold maxLen; omega
  case c4 => omega
  case c5 => simp; omega
  intro v' w2 hown' hgrow _
  have hb2 : w2.heap[b]? = some (.cells #[.pointer (some ⟨b, 0, none⟩), v] 74 (0, 0)) := by
    rw [hgrow.block b (by simp; omega) (fun e => hne e.symm), heap_alloc_old w1 _ hlt]
    exact hbk
  have d0 : w2.cell? ⟨b, 0, none⟩ = some (.pointer (some ⟨b, 0, none⟩)) := by rw [cell_of_row w2 b 0 _ _ (0, 0) hb2]; rfl
  have d1 : w2.cell? ⟨b, 1, none⟩ = some v := by rw [cell_of_row w2 b 1 _ _ (0, 0) hb2]; rfl
  have f1 : w2.frozen? ⟨b, 1, none⟩ = false := frozen_of_row w2 b 1 _ _ hb2
  obtain ⟨g, cap, rfl⟩ : ∃ g cap, v' = .slice (some ⟨g, 0, none⟩) (bs.length + 1) cap := by
    rcases hown'.2 with ⟨_, h0⟩ | ⟨g, cap, cur, hv, _⟩
    · omega
    · exact ⟨g, cap, hv⟩
  go_wp2
  go_ret
  refine ⟨rfl, Or.inr ?_, ?_⟩
  · exact BuilderAt.put (T := 74) (e := 5) hB hb2 (bs' := bs ++ [.int .u8 c]) (by simpa using hown') (by decide)
  · exact ((hb1.alloc z1 _).grown hgrow (by simp; omega) (fun k hk => (hown.lt k hk).1)).setCell (p := ⟨b, 1, none⟩) hB _

set_option maxRecDepth 100000 in
set_option maxHeartbeats 1000000 in
theorem WriteString_any (B b : Nat) (bs : List Value) (s : ByteArray) (w : World) (h : IsBuilder 74 5 B b bs w) (hlen : bs.length + s.size ≤ 140737488355328) (hBw : B ≤ w.heap.size) :
    Calls Tryd.prog 63 #[.pointer (some ⟨b, 0, none⟩), .string s] w (RBuilt B b (.tuple #[.int .i64 s.size, .nilIface]) (bs ++ strCells s) w) := by
  obtain ⟨i0, hi, hz0, hz1, hz2⟩ := info_parts infoByte
  have H := hid h
  clear h
  go_enter Tryd.func63, Tryd.ntmps63
  go_wp2_with fail
  refine (copyCheck_any B b bs _ H.out).mono ?_
  rintro e w1 ⟨rfl, h1, hb1⟩
  have hlt := h1.lt
  obtain ⟨hB, v, hbk, hown, hne⟩ := h1
  have c0 : w1.cell? ⟨b, 0, none⟩ = some (.pointer (some ⟨b, 0, none⟩)) := by rw [cell_of_row w1 b 0 _ _ (0, 0) hbk]; rfl
  have c1 : w1.cell? ⟨b, 1, none⟩ = some v := by rw [cell_of_row w1 b 1 _ _ (0, 0) hbk]; rfl
  have z1 : B ≤ w1.heap.size := Nat.le_trans hBw hb1.size
  go_wp2_with (at_builtin; refine wpList_append_own_string _ rfl _ _ 72 9 rfl B 5 i0 Tryd.underlying72 Tryd.underlying9 hi hz0 hz1 hz2 _ _ _ rfl hown s rfl ?c3 ?c4 ?c5 ?_)
  case c3 => unfold maxLen; omega
  case c4 => omega
  case c5 => omega
  intro v' w2 hown' hgrow _
  have hb2 : w2.heap[b]? = some (.cells #[.pointer (some ⟨b, 0, none⟩), v] 74 (0, 0)) := by
    rw [hgrow.block b hlt (fun e => hne e.symm)]
    exact hbk
  have d0 : w2.cell? ⟨b, 0, none⟩ = some (.pointer (some ⟨b, 0, none⟩)) := by rw [cell_of_row w2 b 0 _ _ (0, 0) hb2]; rfl
  have d1 : w2.cell? ⟨b, 1, none⟩ = some v := by rw [cell_of_row w2 b 1 _ _ (0, 0) hb2]; rfl
  have f1 : w2.frozen? ⟨b, 1, none⟩ = false := frozen_of_row w2 b 1 _ _ hb2
  obtain ⟨ao, n', cap, rfl⟩ : ∃ ao n' cap, v' = .slice ao n' cap := by
    rcases hown'.2 with ⟨hv, h0⟩ | ⟨g, cap, cur, hv, _⟩
    · exact ⟨none, 0, 0, hv⟩
    · exact ⟨_, _, cap, hv⟩
  have hs : (s.size : Int) ≤ 140737488355328 := by omega
  go_wp2
  go_ret2
  refine ⟨rfl, Or.inr ?_, ?_⟩
  · exact BuilderAt.put (T := 74) (e := 5) hB hb2 (bs' := bs ++ strCells s) (by simpa [strCells] using hown') (by decide)
  · exact (hb1.grown hgrow (by omega) (fun k hk => (hown.lt k hk).1)).setCell (p := ⟨b, 1, none⟩) hB _
end Go.Proofs.YtippcalhcnjghaaDoor
