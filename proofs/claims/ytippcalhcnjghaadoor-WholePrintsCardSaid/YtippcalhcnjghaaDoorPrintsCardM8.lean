/- Texts put together: Print, PrintAny, WholeSub, Fixed, RefPrint. -/
import Derived.Test.YtippcalhcnjghaaDoorPrintsCardM7
import Derived.Deep.DeepCutAuto
import Derived.Deep.LoopGhost
/- whole.Print of any number. -/
namespace Go.Proofs.YtippcalhcnjghaaDoor
open Go.RowKit Big Go.Lib

theorem repeat_any (k : Nat) (hk : k ≤ 9) (w : World) : Calls Tryd.prog 65 #[.string ⟨#[48]⟩, .int .i64 (k : Nat)] w fun e w' => e = .returned (.string ⟨(List.replicate k (48 : UInt8)).toArray⟩) ∧ Below w.heap.size w w' := by
  have hrep : ∀ k, repeatL [(48 : UInt8)] k = List.replicate k 48 := by
    intro k
    induction k with
    | zero => rfl
    | succ k ih => simp [repeatL, List.replicate_succ] at ih ⊢; try exact ih
  by_cases h0 : k = 0
  · subst h0
    exact (Tryd.strings_Repeat_zero ⟨#[48]⟩ w).mono fun e w' ⟨he, hw⟩ => ⟨he, hw ▸ Below.refl _ _⟩
  · by_cases h1 : k = 1
    · subst h1
      exact (Tryd.strings_Repeat_one ⟨#[48]⟩ w).mono fun e w' ⟨he, hw⟩ => ⟨he, hw ▸ Below.refl _ _⟩
    · refine (Tryd.strings_Repeat_main ⟨#[48]⟩ k w (by omega) (by omega) (by show 1 * k ≤ _; omega) (by decide)).mono fun e w' ⟨he, hw⟩ => ⟨?_, hw⟩
      rw [he, ← hrep]

theorem decI_pos (neg : Bool) (n : Nat) (h : 0 < n) : decI (sg neg n) = (if neg then [45] else []) ++ decDigits n := by
  have hs := sg_neg neg n (by omega)
  unfold decI
  rw [sg_natAbs]
  cases neg with
  | false => rw [if_neg (by simpa using hs)]; rfl
  | true => rw [if_pos (by simpa using hs)]; rfl

/-- the loop's text so far -/
def soFar (neg : Bool) (l : List Nat) (i : Nat) : List UInt8 := (if neg then [45] else []) ++ groupText (l.drop i)
theorem soFar_step (neg : Bool) (l : List Nat) (i : Nat) (h : i + 1 < l.length) (hg : (l[i]'(by omega)) < T) :
    soFar neg l i = soFar neg l (i + 1) ++ List.replicate (9 - (decDigits (l[i]'(by omega))).length) 48 ++ decDigits (l[i]'(by omega)) := by
  unfold soFar
  rw [groupText_drop l i h, padTo_eq 9 _ (by decide) hg]
  simp [List.append_assoc]

theorem _root_.Go.Lib.IsBuilder.below {T e : TypeId} {B b : Nat} {bs : List Value} {w w' : World} (h : IsBuilder T e B b bs w) (hb : Below w.heap.size w w') : IsBuilder T e B b bs w' := by
  have key : ∀ p, BuilderAt T e B b p bs w → BuilderAt T e B b p bs w' := fun p h => by
    have hlt := h.lt
    obtain ⟨h1, v, h2, h3, h4⟩ := h
    exact ⟨h1, v, (hb.block b hlt).trans h2, ⟨h3.1, by
      rcases h3.2 with hn | ⟨g, cap, cur, rfl, k1, hg, r⟩
      · exact Or.inl hn
      · exact Or.inr ⟨g, cap, cur, rfl, k1, by rw [hb.block g (Array.getElem?_eq_some_iff.1 hg).1]; exact hg, r⟩⟩, h4⟩
  rcases h with h | h
  · exact Or.inl (key _ h)
  · exact Or.inr (key _ h)
theorem Below.far2 {B : Nat} {w w' w'' : World} (h : Below B w w') (hb : Below w'.heap.size w' w'') (hB : B ≤ w.heap.size := by omega) : Below B w w'' := h.trans (hb.mono (Nat.le_trans hB h.size))
theorem print_plan (neg : Bool) (n : Nat) (h0 : 0 < n) (hn : sz T n ≤ 1000000) : ∃ (m : Nat) (D : Nat → Nat) (X : Nat → List UInt8), m + 1 = (dig T n).length ∧ (∀ i (h : i < (dig T n).length), (dig T n)[i] = D i) ∧ m < 1000000 ∧
    X m = (if neg then [45] else []) ++ decDigits (D m) ∧ (∀ i, i < m → X i = X (i + 1) ++ List.replicate (9 - (decDigits (D i)).length) 48 ++ decDigits (D i)) ∧ (∀ i, (X i).length ≤ 10000000) ∧ X 0 = decI (sg neg n) ∧
    ∀ i, i ≤ m → D i < 1000000000 ∧ (decDigits (D i)).length ≤ 9 := by
  obtain ⟨G, hG⟩ : ∃ G, G = dig T n := ⟨_, rfl⟩
  rw [← hG]
  have hGn : 0 < G.length := by rw [hG, dig_pos T2 h0]; simp
  have hGs : Small T G := by rw [hG]; exact small_dig T2 n
  have hGl : G.length ≤ 1000000 := by rw [hG]; exact hn
  have hD : ∀ i (h : i < G.length), G[i] = G.getD i 0 := fun i h => by simp [List.getD, h]
  have hs : ∀ i, i < G.length → G.getD i 0 < T := fun i h => by rw [← hD i h]; exact hGs _ (List.getElem_mem h)
  refine ⟨G.length - 1, fun i => G.getD i 0, soFar neg G, by omega, hD, by omega, ?_, fun i hi => ?_, fun i => ?_, ?_, fun i hi => ⟨hs i (by omega), decDigits_le (by decide) (hs i (by omega))⟩⟩
  · unfold soFar
    rw [groupText_last G hGn, hD]
  · rw [soFar_step neg G i (by omega) (by rw [hD]; exact hs i (by omega)), hD]
  · unfold soFar
    have := groupText_le (G.drop i) (fun g hg => hGs g (List.mem_of_mem_drop hg))
    rw [List.length_drop] at this
    cases neg <;> simp <;> omega
  · unfold soFar
    rw [List.drop_zero, hG, groupText_dig n h0, decI_pos neg n h0]

set_option maxRecDepth 100000 in
set_option maxHeartbeats 3200000 in
theorem Print_pos (v : Value) (neg : Bool) (n : Nat) (w : World) (h : RawAt w v (sg neg n)) (h0 : 0 < n) (hn : sz T n ≤ 1000000) (htab : Tab w) :
    Calls Tryd.prog 35 #[v] w (RStr (decI (sg neg n)) w) := by
  obtain ⟨neg', s, l, rfl, ha, hs, hl, hz⟩ := h
  have hv : val W l = n := by have := congrArg Int.natAbs hz; rw [sg_natAbs, sg_natAbs] at this; exact this.symm
  have hneg : neg' = neg := by
    rw [hv] at hz
    have a := sg_neg neg n (by omega)
    have b := sg_neg neg' n (by omega)
    rw [hz, b] at a; exact a
  subst hneg
  have hsl := strip_dig W2 hs
  rw [hv] at hsl
  have ht := fun W' hb => trim_val s l W' (ha.below (w' := W') hb)
  have hst := fun W' hb => (ha.below (w' := W') hb).strip
  rw [hsl] at hst
  rw [hsl] at ht
  have Ht : Hid (∀ W', Below w.heap.size w W' → Calls Tryd.prog 38 #[s] W' (fun e w' => e = .returned (cutTo s (dig W n).length) ∧ w' = W')) := ht
  have Hst : Hid (∀ W', Below w.heap.size w W' → At W' .u64 (cutTo s (dig W n).length) (dig W n)) := hst
  have hnW : sz W n ≤ 1099511627776 := by rw [← hv]; exact Nat.le_trans (sz_val W2 hs) hl
  have HnW := hid hnW
  have Htab : Hid (∀ W', Below w.heap.size w W' → Tab W') := fun W' hb => htab.below hb
  obtain ⟨m, D, X, hm, hGD, hmb, hfirst, hstep, hlen, hfin, hD⟩ := print_plan neg' n h0 hn
  obtain ⟨L, hL⟩ : ∃ L, L = decI (sg neg' n) := ⟨_, rfl⟩
  rw [← hL] at hfin ⊢
  have Hm := hid hm; have HGD := hid hGD; have Hfirst := hid hfirst; have Hstep := hid hstep; have Hlen := hid hlen; have Hfin := hid hfin; have HD := hid hD
  have Hn := hid hn
  clear ht hst hsl hv hz hs hl ha hnW hm hGD hfirst hstep hlen hfin hD htab hL hn h0
  generalize hu : cutTo s (dig W n).length = u at *
  clear hu
  go_enter Tryd.func35, Tryd.ntmps35
  go_wp2_with fail
  refine (Ht.out _ (below1 _ _)).mono ?_
  rintro e w1 ⟨rfl, rfl⟩
  go_wp2_with fail
  refine (split_any u _ _ (Hst.out _ (below1 _ _)) (small_dig W2 _) HnW.out).mono ?_
  rintro e w2 ⟨v2, rfl, ho2, hb2⟩
  rw [val_dig W2] at ho2
  go_wp2_with fail
  refine (tens_any _ v2 n _ ho2 (by have := Hn.out; omega)).mono ?_
  rintro e w3 ⟨v3, rfl, ho3, hg3⟩
  have hb3 : Below (w.heap.size + 1) w2 w3 := by
    have hz := hb2.size
    rw [size_alloc] at hz
    cases hvb : v2.ownBlock with
    | none => rw [hvb] at hg3; exact (Below.refl _ w2).grown hg3 hz (fun k hk => by cases hk)
    | some g => rw [hvb] at hg3; exact grown_below hg3 (by have := ho2.row g hvb; rwa [size_alloc] at this) hz
  have bw3 : Below (w.heap.size + 1) (w.alloc (.cells #[.bool neg', s] 25)) w3 := (hb2.mono (B' := w.heap.size + 1) (by rw [size_alloc]; omega)).trans hb3
  have bw : Below w.heap.size w w3 := (below1 _ _).trans (bw3.mono (by omega))
  have c0 : w3.cell? ⟨w.heap.size, 0, none⟩ = some (.bool neg') := (bw3.cell (p := ⟨w.heap.size, 0, none⟩) (by show w.heap.size < _; omega)).trans (by simp [go_sem])
  have z3 : w.heap.size + 1 ≤ w3.heap.size := by have := bw3.size; rwa [size_alloc] at this
  obtain ⟨g, cap, hv3, hgB, hgl, hcap, hcap2⟩ := ho3.shape (by rw [← Hm.out]; omega)
  have e0 : Hid (∀ i, i ≤ m → w3.cell? ⟨g, i, none⟩ = some (.int .u32 (D i : Nat))) := fun i h => by
    rw [hv3] at ho3
    have := (ho3.cell i (by rw [← Hm.out]; omega)).1
    rw [HGD.out i (by rw [← Hm.out]; omega)] at this
    exact this
  rw [← Hm.out] at hv3 hcap
  subst hv3
  unfold maxLen at hcap2
  have bwH := hid bw
  clear ho3 hg3 ho2 hb2 hb3 Ht Hst bw3 bw
  have hbl : IsBuilder 74 5 w3.heap.size w3.heap.size [] (w3.alloc (.cells #[.pointer none, .slice none 0 0] 74)) :=
    Or.inl ⟨Nat.le_refl _, .slice none 0 0, heap_alloc_new w3 _, World.ownsRow_nil _ _ _ _, by simp [Value.ownBlock]⟩
  have Hbl := hid hbl
  clear hbl
  have Hcs : Hid (∀ W', Below w3.heap.size w3 W' → ∀ i, i ≤ m → W'.cell? ⟨g, i, none⟩ = some (.int .u32 (D i : Nat))) := fun W' hb i h => (hb.cell (p := ⟨g, i, none⟩) hgl).trans (e0.out i h)
  have Htabs : Hid (∀ W', Below w3.heap.size w3 W' → Tab W') := fun W' hb => Htab.out W' (bwH.out.trans (hb.mono (B' := w.heap.size) (by omega)))
  clear e0 Hm HGD Hn HnW
  have hc0' : ∀ o, (w3.alloc o).cell? ⟨w.heap.size, 0, none⟩ = some (.bool neg') := fun o => ((below1 w3 o).cell (p := ⟨w.heap.size, 0, none⟩) (by show w.heap.size < _; omega)).trans c0
  clear c0
  -- behind the sign: the world W4, whose builder holds the sign
  have tail : Hid (∀ (W4 : World) (sign : List UInt8), X m = sign ++ decDigits (D m) → sign.length ≤ 1 → IsBuilder 74 5 w3.heap.size w3.heap.size (byteCells sign) W4 → Below w3.heap.size w3 W4 → True) := fun _ _ _ _ _ _ => trivial
  clear tail
  cases neg'
  · go_upto_region 7 with fail
    generalize hW : World.alloc w3 _ = W4
    have hb4 : IsBuilder 74 5 w3.heap.size w3.heap.size (byteCells []) W4 := by rw [← hW]; exact Hbl.out
    have hbel4 : Below w3.heap.size w3 W4 := by rw [← hW]; exact below1 _ _
    clear hW
    have Hfirst : Hid (X m = [] ++ decDigits (D m)) := Hfirst.out
    have hsl : ([] : List UInt8).length ≤ 1 := by decide
    obtain ⟨sign, hsgn⟩ : ∃ x, x = ([] : List UInt8) := ⟨_, rfl⟩
    rw [← hsgn] at Hfirst hb4 hsl
    clear hsgn
    clear Hbl hc0'
    have q0 := Hcs.out W4 hbel4 m (Nat.le_refl _)
    have hdg := fun i (hi : i ≤ m) W' hb => digits_any (D i) (by have := HD.out i hi; omega) W' (Htabs.out W' hb)
    have Hdg := hid hdg
    have z4 := hbel4.size
    have H4 := hid hb4; have Hbel4 := hid hbel4
    clear hdg hb4 hbel4
    go_wp2_with fail
    refine (Hdg.out m (Nat.le_refl _) _ Hbel4.out).mono ?_
    rintro e W5 ⟨rfl, hb5⟩
    have h5 := H4.out.below hb5
    have Hbel5 := hid (Below.far2 Hbel4.out hb5)
    have hS : (⟨(decDigits (D m)).toArray⟩ : ByteArray).size ≤ 9 := (HD.out m (Nat.le_refl _)).2
    have Hcat : Hid (byteCells sign ++ strCells ⟨(decDigits (D m)).toArray⟩ = byteCells (X m)) := by unfold Hid; rw [strCells_toArray, ← byteCells_append, Hfirst.out]
    generalize hSS : (⟨(decDigits (D m)).toArray⟩ : ByteArray) = S at *
    clear hSS
    have z5 := Hbel5.out.size
    have hb5' := hid hb5
    clear q0 H4 hb5
    go_wp2_with fail
    refine (WriteString_any _ _ _ S _ h5 (by rw [byteCells_length]; omega) (by omega)).mono ?_
    rintro e W6 ⟨rfl, h6, hb6⟩
    rw [Hcat.out] at h6
    have Hbel6 := hid (Hbel5.out.trans hb6)
    have z6 := Hbel6.out.size
    clear Hbel5 hb5' h5 hb6 Hcat z5 z4 Hbel4 hS
    go_wp2_with fail
    go_loopw [6] (fun i wr => ∃ j : Int, i = .int .i64 j ∧ -1 ≤ j ∧ j < m ∧ Hid (IsBuilder 74 5 w3.heap.size w3.heap.size (byteCells (X (j + 1).toNat)) wr) ∧ Hid (Below w3.heap.size w3 wr) ∧ w3.heap.size ≤ wr.heap.size) (fun i _ => (RowKit.intOf i + 1).toNat)
    case atStart =>
      refine ⟨_, rfl, by omega, by omega, ?_, Hbel6.out, z6⟩
      unfold Hid
      rw [show ((m : Int) - 1 + 1).toNat = m by omega]
      exact h6
    case round =>
      obtain ⟨j, rfl, hj1, hj2, hbl, hbel, hz⟩ := hrel
      by_cases hj0 : 0 ≤ j
      · obtain ⟨k, rfl⟩ : ∃ k : Nat, j = k := ⟨j.toNat, by omega⟩
        have hkm : k < m := by omega
        have q0 := Hcs.out wr hbel.out k (by omega)
        have Hst : Hid (X k = X (k + 1) ++ List.replicate (9 - (decDigits (D k)).length) 48 ++ decDigits (D k)) := Hstep.out k hkm
        have hS : (⟨(decDigits (D k)).toArray⟩ : ByteArray).size ≤ 9 := (HD.out k (by omega)).2
        have Hdk := hid (Hdg.out k (by omega) wr hbel.out)
        have Hbl : Hid (IsBuilder 74 5 w3.heap.size w3.heap.size (byteCells (X (k + 1))) wr) := hbl.out
        have hl1 := Hlen.out (k + 1)
        clear hbl h6
        go_wp2_with fail
        refine Hdk.out.mono ?_
        rintro e W7 ⟨rfl, hb7⟩
        have Hcat : Hid ((byteCells (X (k + 1)) ++ strCells ⟨(List.replicate (9 - (decDigits (D k)).length) 48).toArray⟩) ++ strCells ⟨(decDigits (D k)).toArray⟩ = byteCells (X k)) := by
          unfold Hid; rw [strCells_toArray, strCells_toArray, ← byteCells_append, ← byteCells_append, Hst.out]
        have hlen9 : (decDigits (D k)).length = (⟨(decDigits (D k)).toArray⟩ : ByteArray).size := rfl
        rw [hlen9] at Hcat
        have h7 := hid (Hbl.out.below hb7)
        have Hbel7 := hid (Below.far2 hbel.out hb7)
        have z7 := Hbel7.out.size
        generalize hSS : (⟨(decDigits (D k)).toArray⟩ : ByteArray) = S at *
        clear hSS hlen9 Hst Hdk Hbl q0 hb7
        obtain ⟨r, hr⟩ : ∃ r, r = 9 - S.size := ⟨_, rfl⟩
        have hrr : (9 : Int) - (S.size : Int) = (r : Nat) := by omega
        have hr9 : r ≤ 9 := by omega
        rw [← hr] at Hcat
        have Hrr := hid hrr
        clear hr hrr
        go_wp2_with fail
        rw [Hrr.out]
        refine (repeat_any r hr9 _).mono ?_
        rintro e W8 ⟨rfl, hb8⟩
        have h8 := h7.out.below hb8
        have Hbel8 := hid (Below.far2 Hbel7.out hb8)
        have z8 := Hbel8.out.size
        have hRs : (⟨(List.replicate r (48 : UInt8)).toArray⟩ : ByteArray).size ≤ 9 := by show (List.replicate r (48 : UInt8)).toArray.size ≤ 9; simp; exact hr9
        clear h7 hb8
        generalize hRR : (⟨(List.replicate r (48 : UInt8)).toArray⟩ : ByteArray) = R at *
        clear hRR
        go_wp2_with fail
        refine (WriteString_any _ _ _ _ _ h8 (by rw [byteCells_length]; omega) (by omega)).mono ?_
        rintro e W9 ⟨rfl, h9, hb9⟩
        have Hbel9 := hid (Hbel8.out.trans hb9)
        have z9 := Hbel9.out.size
        clear h8 hb9
        go_wp2_with fail
        refine (WriteString_any _ _ _ S _ h9 (by rw [List.length_append, byteCells_length, strCells_length]; omega) (by omega)).mono ?_
        rintro e W10 ⟨rfl, h10, hb10⟩
        rw [Hcat.out] at h10
        have Hbel10 := hid (Hbel9.out.trans hb10)
        have z10 := Hbel10.out.size
        clear h9 hb10 Hcat
        go_wp2_with fail
        go_roundw
        case rel => exact ⟨(k : Int) - 1, by go_num, by omega, by omega, by unfold Hid; rw [show ((k : Int) - 1 + 1).toNat = k by omega]; exact h10, Hbel10.out, z10⟩
        case measure => (simp [RowKit.intOf] <;> omega)
      · obtain rfl : j = -1 := by omega
        have hbl0 : IsBuilder 74 5 w3.heap.size w3.heap.size (byteCells (X 0)) wr := hbl.out
        rw [Hfin.out] at hbl0
        clear hbl h6
        go_wp2_with fail
        refine (Tryd.Builder_String_any w3.heap.size w3.heap.size L wr hbl0 (by omega)).mono ?_
        rintro e W11 ⟨rfl, hb11⟩
        go_wp2_with fail
        go_ret
        exact ⟨rfl, bwH.out.trans ((hbel.out.trans hb11).mono (by omega))⟩
  · go_wp2_with fail
    refine (WriteByte_any _ _ _ _ _ Hbl.out (by simp) (by simp)).mono ?_
    rintro e W4 ⟨rfl, hb4, hbel4⟩
    have hb4 : IsBuilder 74 5 w3.heap.size w3.heap.size (byteCells [45]) W4 := hb4
    have hbel4 : Below w3.heap.size w3 W4 := (below1 _ _).trans hbel4
    have Hfirst : Hid (X m = [45] ++ decDigits (D m)) := Hfirst.out
    have hsl : ([45] : List UInt8).length ≤ 1 := by decide
    go_upto_region 7 with fail
    obtain ⟨sign, hsgn⟩ : ∃ x, x = ([45] : List UInt8) := ⟨_, rfl⟩
    rw [← hsgn] at Hfirst hb4 hsl
    clear hsgn
    clear Hbl hc0'
    have q0 := Hcs.out W4 hbel4 m (Nat.le_refl _)
    have hdg := fun i (hi : i ≤ m) W' hb => digits_any (D i) (by have := HD.out i hi; omega) W' (Htabs.out W' hb)
    have Hdg := hid hdg
    have z4 := hbel4.size
    have H4 := hid hb4; have Hbel4 := hid hbel4
    clear hdg hb4 hbel4
    go_wp2_with fail
    refine (Hdg.out m (Nat.le_refl _) _ Hbel4.out).mono ?_
    rintro e W5 ⟨rfl, hb5⟩
    have h5 := H4.out.below hb5
    have Hbel5 := hid (Below.far2 Hbel4.out hb5)
    have hS : (⟨(decDigits (D m)).toArray⟩ : ByteArray).size ≤ 9 := (HD.out m (Nat.le_refl _)).2
    have Hcat : Hid (byteCells sign ++ strCells ⟨(decDigits (D m)).toArray⟩ = byteCells (X m)) := by unfold Hid; rw [strCells_toArray, ← byteCells_append, Hfirst.out]
    generalize hSS : (⟨(decDigits (D m)).toArray⟩ : ByteArray) = S at *
    clear hSS
    have z5 := Hbel5.out.size
    have hb5' := hid hb5
    clear q0 H4 hb5
    go_wp2_with fail
    refine (WriteString_any _ _ _ S _ h5 (by rw [byteCells_length]; omega) (by omega)).mono ?_
    rintro e W6 ⟨rfl, h6, hb6⟩
    rw [Hcat.out] at h6
    have Hbel6 := hid (Hbel5.out.trans hb6)
    have z6 := Hbel6.out.size
    clear Hbel5 hb5' h5 hb6 Hcat z5 z4 Hbel4 hS
    go_wp2_with fail
    go_loopw [6] (fun i wr => ∃ j : Int, i = .int .i64 j ∧ -1 ≤ j ∧ j < m ∧ Hid (IsBuilder 74 5 w3.heap.size w3.heap.size (byteCells (X (j + 1).toNat)) wr) ∧ Hid (Below w3.heap.size w3 wr) ∧ w3.heap.size ≤ wr.heap.size) (fun i _ => (RowKit.intOf i + 1).toNat)
    case atStart =>
      refine ⟨_, rfl, by omega, by omega, ?_, Hbel6.out, z6⟩
      unfold Hid
      rw [show ((m : Int) - 1 + 1).toNat = m by omega]
      exact h6
    case round =>
      obtain ⟨j, rfl, hj1, hj2, hbl, hbel, hz⟩ := hrel
      by_cases hj0 : 0 ≤ j
      · obtain ⟨k, rfl⟩ : ∃ k : Nat, j = k := ⟨j.toNat, by omega⟩
        have hkm : k < m := by omega
        have q0 := Hcs.out wr hbel.out k (by omega)
        have Hst : Hid (X k = X (k + 1) ++ List.replicate (9 - (decDigits (D k)).length) 48 ++ decDigits (D k)) := Hstep.out k hkm
        have hS : (⟨(decDigits (D k)).toArray⟩ : ByteArray).size ≤ 9 := (HD.out k (by omega)).2
        have Hdk := hid (Hdg.out k (by omega) wr hbel.out)
        have Hbl : Hid (IsBuilder 74 5 w3.heap.size w3.heap.size (byteCells (X (k + 1))) wr) := hbl.out
        have hl1 := Hlen.out (k + 1)
        clear hbl h6
        go_wp2_with fail
        refine Hdk.out.mono ?_
        rintro e W7 ⟨rfl, hb7⟩
        have Hcat : Hid ((byteCells (X (k + 1)) ++ strCells ⟨(List.replicate (9 - (decDigits (D k)).length) 48).toArray⟩) ++ strCells ⟨(decDigits (D k)).toArray⟩ = byteCells (X k)) := by
          unfold Hid; rw [strCells_toArray, strCells_toArray, ← byteCells_append, ← byteCells_append, Hst.out]
        have hlen9 : (decDigits (D k)).length = (⟨(decDigits (D k)).toArray⟩ : ByteArray).size := rfl
        rw [hlen9] at Hcat
        have h7 := hid (Hbl.out.below hb7)
        have Hbel7 := hid (Below.far2 hbel.out hb7)
        have z7 := Hbel7.out.size
        generalize hSS : (⟨(decDigits (D k)).toArray⟩ : ByteArray) = S at *
        clear hSS hlen9 Hst Hdk Hbl q0 hb7
        obtain ⟨r, hr⟩ : ∃ r, r = 9 - S.size := ⟨_, rfl⟩
        have hrr : (9 : Int) - (S.size : Int) = (r : Nat) := by omega
        have hr9 : r ≤ 9 := by omega
        rw [← hr] at Hcat
        have Hrr := hid hrr
        clear hr hrr
        go_wp2_with fail
        rw [Hrr.out]
        refine (repeat_any r hr9 _).mono ?_
        rintro e W8 ⟨rfl, hb8⟩
        have h8 := h7.out.below hb8
        have Hbel8 := hid (Below.far2 Hbel7.out hb8)
        have z8 := Hbel8.out.size
        have hRs : (⟨(List.replicate r (48 : UInt8)).toArray⟩ : ByteArray).size ≤ 9 := by show (List.replicate r (48 : UInt8)).toArray.size ≤ 9; simp; exact hr9
        clear h7 hb8
        generalize hRR : (⟨(List.replicate r (48 : UInt8)).toArray⟩ : ByteArray) = R at *
        clear hRR
        go_wp2_with fail
        refine (WriteString_any _ _ _ _ _ h8 (by rw [byteCells_length]; omega) (by omega)).mono ?_
        rintro e W9 ⟨rfl, h9, hb9⟩
        have Hbel9 := hid (Hbel8.out.trans hb9)
        have z9 := Hbel9.out.size
        clear h8 hb9
        go_wp2_with fail
        refine (WriteString_any _ _ _ S _ h9 (by rw [List.length_append, byteCells_length, strCells_length]; omega) (by omega)).mono ?_
        rintro e W10 ⟨rfl, h10, hb10⟩
        rw [Hcat.out] at h10
        have Hbel10 := hid (Hbel9.out.trans hb10)
        have z10 := Hbel10.out.size
        clear h9 hb10 Hcat
        go_wp2_with fail
        go_roundw
        case rel => exact ⟨(k : Int) - 1, by go_num, by omega, by omega, by unfold Hid; rw [show ((k : Int) - 1 + 1).toNat = k by omega]; exact h10, Hbel10.out, z10⟩
        case measure => (simp [RowKit.intOf] <;> omega)
      · obtain rfl : j = -1 := by omega
        have hbl0 : IsBuilder 74 5 w3.heap.size w3.heap.size (byteCells (X 0)) wr := hbl.out
        rw [Hfin.out] at hbl0
        clear hbl h6
        go_wp2_with fail
        refine (Tryd.Builder_String_any w3.heap.size w3.heap.size L wr hbl0 (by omega)).mono ?_
        rintro e W11 ⟨rfl, hb11⟩
        go_wp2_with fail
        go_ret
        exact ⟨rfl, bwH.out.trans ((hbel.out.trans hb11).mono (by omega))⟩
end Go.Proofs.YtippcalhcnjghaaDoor
/- whole.Print of any number that isn't too great, 0 too. -/
namespace Go.Proofs.YtippcalhcnjghaaDoor
open Go.RowKit Big Go.Lib

set_option maxRecDepth 100000 in
set_option maxHeartbeats 1600000 in
theorem Print_zero (v : Value) (w : World) (h : RawAt w v 0) : Calls Tryd.prog 35 #[v] w (RStr (decI 0) w) := by
  obtain ⟨neg', s, l, rfl, ha, hs, hl, hz⟩ := h
  have hv : val W l = 0 := by have := congrArg Int.natAbs hz; rw [sg_natAbs] at this; exact this.symm
  have hsl := strip_dig W2 hs
  rw [hv] at hsl
  have hd0 : dig W 0 = [] := dig_zero W
  rw [hd0] at hsl
  have ht := fun W' hb => trim_val s l W' (ha.below (w' := W') hb)
  have hst := fun W' hb => (ha.below (w' := W') hb).strip
  rw [hsl] at hst
  rw [hsl] at ht
  have Ht : Hid (∀ W', Below w.heap.size w W' → Calls Tryd.prog 38 #[s] W' (fun e w' => e = .returned (cutTo s 0) ∧ w' = W')) := ht
  have Hst : Hid (∀ W', Below w.heap.size w W' → At W' .u64 (cutTo s 0) []) := hst
  have htx : decI 0 = [48] := by decide +kernel
  rw [htx]
  clear ht hst hsl hv hz hs hl ha hd0 htx
  generalize hu : cutTo s 0 = u at *
  clear hu
  go_enter Tryd.func35, Tryd.ntmps35
  go_wp2_with fail
  refine (Ht.out _ (below1 _ _)).mono ?_
  rintro e w1 ⟨rfl, rfl⟩
  go_wp2_with fail
  refine (split_any u [] _ (Hst.out _ (below1 _ _)) (fun _ h => by cases h) (by simp)).mono ?_
  rintro e w2 ⟨v2, rfl, ho2, hb2⟩
  have hval : val W [] = 0 := rfl
  rw [hval] at ho2
  go_wp2_with fail
  refine (tens_any _ v2 0 _ ho2 (by rw [sz_zero]; omega)).mono ?_
  rintro e w3 ⟨v3, rfl, ho3, hg3⟩
  have hb3 : Below (w.heap.size + 1) w2 w3 := by
    have hz := hb2.size
    rw [size_alloc] at hz
    cases hvb : v2.ownBlock with
    | none => rw [hvb] at hg3; exact (Below.refl _ w2).grown hg3 hz (fun k hk => by cases hk)
    | some g => rw [hvb] at hg3; exact grown_below hg3 (by have := ho2.row g hvb; rwa [size_alloc] at this) hz
  have bw3 : Below (w.heap.size + 1) (w.alloc (.cells #[.bool neg', s] 25)) w3 := (hb2.mono (B' := w.heap.size + 1) (by rw [size_alloc]; omega)).trans hb3
  have bw : Below w.heap.size w w3 := (below1 _ _).trans (bw3.mono (by omega))
  have hd : dig T 0 = [] := dig_zero T
  rw [hd] at ho3
  obtain ⟨p3, c3, rfl, -⟩ := ho3.at
  simp only [List.length_nil]
  clear ho3 hg3 ho2 hb2 hb3 Ht Hst bw3 hd hval
  go_wp2_with fail
  go_ret
  exact ⟨rfl, bw⟩

theorem Print_any (v : Value) (z : Int) (w : World) (h : RawAt w v z) (hn : sz T z.natAbs ≤ 1000000) (htab : Tab w) : Calls Tryd.prog 35 #[v] w (RStr (decI z) w) := by
  by_cases h0 : z = 0
  · subst h0; exact Print_zero v w h
  · have e : z = sg (decide (z < 0)) z.natAbs := by
      unfold sg
      by_cases hz : z < 0 <;> simp [hz] <;> omega
    rw [e] at h ⊢
    exact Print_pos v _ _ w h (by omega) hn htab
end Go.Proofs.YtippcalhcnjghaaDoor
/- whole.Sub, Of. -/
namespace Go.Proofs.YtippcalhcnjghaaDoor
open Go.RowKit Big

set_option maxHeartbeats 1600000 in
theorem Sub_any (v0 v1 : Value) (a b : Int) (w : World) (h0 : RawAt w v0 a) (h1 : RawAt w v1 b) : Calls Tryd.prog 15 #[v0, v1] w (RInt (a - b) w) := by
  obtain ⟨n1, s1, l1, rfl, a1, b1, c1, hb⟩ := h1
  have hn : ∀ W, Below w.heap.size w W → RawAt W (.agg #[.bool (!n1), s1]) (-b) := fun W h => ⟨!n1, s1, l1, rfl, a1.below h, b1, c1, by rw [hb]; unfold sg; cases n1 <;> simp⟩
  have hs : a - b = a + -b := by omega
  rw [hs]
  have Hn := hid hn
  obtain ⟨p1', c1', rfl, -⟩ := a1
  clear hn hs hb b1 c1
  obtain ⟨n0, s0, l0, rfl, r0⟩ := id h0
  clear r0
  go_enter Tryd.func15, Tryd.ntmps15
  go_wp2_with fail
  refine (Add_any _ _ _ _ _ (h0.below (((below1 _ _).alloc (by simp) _).alloc (by simp; omega) _)) (Hn.out _ (((below1 _ _).alloc (by simp) _).alloc (by simp; omega) _))).mono ?_
  rintro e w1 ⟨v1, rfl, hi1, hb1⟩
  obtain ⟨p1, m1, c1, rfl, hi1⟩ := hi1.shape
  have hpr : Pair w1 (w.heap.size + 1 + 1) 25 := Pair.below (Pair.new2 ..) hb1
  obtain ⟨_, _, q0, q1, q2, q3⟩ := hpr.cells
  have bw : Below w.heap.size w w1 := (((below1 _ _).alloc (by simp) _).alloc (by simp; omega) _).trans (hb1.mono (B' := w.heap.size) (by simp; omega))
  have z1 : w.heap.size + 3 ≤ w1.heap.size := by have := hb1.size; simp at this; omega
  clear hb1
  go_wp2
  exact bodyPost_ret (v := .agg #[.bool (decide (a + -b < 0)), .slice p1 m1 c1]) (by simp [results, Tryd.results15, go_sem, q0, q1]) rfl
    ⟨_, rfl, hi1.stored hpr _ _ _ _, Below.stored bw (by omega) _ _⟩
theorem wrap_neg_neg (n : Nat) (h0 : 0 < n) (h : n < W) : IntKind.u64.wrap (-IntKind.u64.wrap (-(n : Int))) = (n : Int) := by
  unfold W at h
  simp only [IntKind.wrap, IntKind.bits, IntKind.signed]
  simp
  omega

set_option maxHeartbeats 800000 in
theorem Of_any (z : Int) (w : World) (h0 : -9223372036854775808 ≤ z) (h1 : z ≤ 9223372036854775807) : Calls Tryd.prog 31 #[.int .i64 z] w (RInt z w) := by
  by_cases hz : z < 0
  · obtain ⟨n, hn⟩ : ∃ n : Nat, z = -(n : Int) := ⟨z.natAbs, by omega⟩
    have Hn := hid hn
    have hnW : n < W := by unfold W; omega
    have Hz : Hid (sg true n = z) := by rw [hn]; rfl
    have hn0 : 0 < n := by omega
    clear hn
    subst_vars
    go_enter Tryd.func31, Tryd.ntmps31
    go_wp2_with fail
    rw [wrap_neg_neg n hn0 hnW]
    refine (ownWord_any n _ hnW).mono ?_
    rintro e w1 ⟨v1, rfl, ho1, hb1⟩
    go_wp2_with fail
    refine (told_any true v1 n _ ho1).mono ?_
    rintro e w2 ⟨v2, rfl, hi2, hb2⟩
    obtain ⟨p2, n2, c2, rfl, hi2⟩ := hi2.shape
    have hpr : Pair w2 w.heap.size 25 := Pair.below (Pair.below (Pair.new ..) hb1) hb2
    obtain ⟨_, _, q0, q1, q2, q3⟩ := hpr.cells
    have z1 : w.heap.size + 1 ≤ w1.heap.size := by have := hb1.size; simp at this; omega
    have bw : Below w.heap.size w w2 := ((below1 _ _).trans (hb1.mono (B' := w.heap.size) (by simp))).trans (hb2.mono (B' := w.heap.size) (by omega))
    have Hi := hid hi2
    clear hb1 hb2 hi2
    go_wp2
    exact bodyPost_ret (v := .agg #[.bool (decide (sg true n < 0)), .slice p2 n2 c2]) (by simp [results, Tryd.results31, go_sem, q0, q1]) rfl
      ⟨_, rfl, by rw [← Hz.out]; exact Hi.out.stored hpr _ _ _ _, Below.stored bw (by omega) _ _⟩
  · obtain ⟨n, hn⟩ : ∃ n : Nat, z = (n : Int) := ⟨z.natAbs, by omega⟩
    subst hn
    have hnW : n < W := by unfold W; omega
    go_enter Tryd.func31, Tryd.ntmps31
    go_wp2_with fail
    refine (ownWord_any n _ hnW).mono ?_
    rintro e w1 ⟨v1, rfl, ho1, hb1⟩
    go_wp2_with fail
    refine (told_any false v1 n _ ho1).mono ?_
    rintro e w2 ⟨v2, rfl, hi2, hb2⟩
    obtain ⟨p2, n2, c2, rfl, hi2⟩ := hi2.shape
    have hpr : Pair w2 w.heap.size 25 := Pair.below (Pair.below (Pair.new ..) hb1) hb2
    obtain ⟨_, _, q0, q1, q2, q3⟩ := hpr.cells
    have z1 : w.heap.size + 1 ≤ w1.heap.size := by have := hb1.size; simp at this; omega
    have bw : Below w.heap.size w w2 := ((below1 _ _).trans (hb1.mono (B' := w.heap.size) (by simp))).trans (hb2.mono (B' := w.heap.size) (by omega))
    have Hi := hid hi2
    clear hb1 hb2 hi2
    go_wp2
    exact bodyPost_ret (v := .agg #[.bool (decide (sg false n < 0)), .slice p2 n2 c2]) (by simp [results, Tryd.results31, go_sem, q0, q1]) rfl
      ⟨_, rfl, Hi.out.stored hpr _ _ _ _, Below.stored bw (by omega) _ _⟩
end Go.Proofs.YtippcalhcnjghaaDoor
/- elenchuslaw01.fixed answers true. -/
namespace Go.Proofs.YtippcalhcnjghaaDoor
open Go.RowKit Big

theorem IntAt.any {w : World} {v : Value} {z : Int} (h : IntAt w v z) : ∃ b p n c, v = .agg #[.bool b, .slice p n c] ∧ IntAt w (.agg #[.bool b, .slice p n c]) z := by
  obtain ⟨p, n, c, hv, hi⟩ := h.shape
  exact ⟨_, p, n, c, hv, hi⟩
theorem smallRaw {w : World} {v : Value} {z : Int} (h : IntAt w v z) (hz : z.natAbs < W) : RawAt w v z := h.raw (Nat.le_trans (sz_word hz) (by omega))
theorem DivSmall_any (v0 v1 : Value) (a b : Int) (w : World) (h0 : IntAt w v0 a) (h1 : IntAt w v1 b) (ha : a.natAbs < W) (hb : b.natAbs < W) (hb0 : b ≠ 0) :
    Calls Tryd.prog 25 #[v0, v1] w (RDiv (a / b) (a % b) 0 w) :=
  Div_of v0 v1 a b w (smallRaw h0 ha) (smallRaw h1 hb) hb0 fun W' u u' hu hu' => divide_small u u' _ _ W' hu hu' ha hb (by omega)
theorem Div_m7 (v0 v1 : Value) (w : World) (h0 : IntAt w v0 (-7)) (h1 : IntAt w v1 2) : Calls Tryd.prog 25 #[v0, v1] w (RDiv (-4) 1 0 w) :=
  DivSmall_any v0 v1 (-7) 2 w h0 h1 (by decide) (by decide) (by decide)
theorem Div_7 (v0 v1 : Value) (w : World) (h0 : IntAt w v0 7) (h1 : IntAt w v1 (-2)) : Calls Tryd.prog 25 #[v0, v1] w (RDiv (-3) 1 0 w) :=
  DivSmall_any v0 v1 7 (-2) w h0 h1 (by decide) (by decide) (by decide)
theorem print_1 (v : Value) (w : World) (h : IntAt w v 1) : Calls Tryd.prog 35 #[v] w (RStr [49] w) := by
  have := Print_small v false 1 w (smallRaw h (by decide)) (by decide) (by decide)
  rwa [show ((if false = true then [45] else []) ++ Lib.decDigits 1 : List UInt8) = [49] by decide +kernel] at this
theorem print_m3 (v : Value) (w : World) (h : IntAt w v (-3)) : Calls Tryd.prog 35 #[v] w (RStr [45, 51] w) := by
  have := Print_small v true 3 w (smallRaw h (by decide)) (by decide) (by decide)
  rwa [show ((if true = true then [45] else []) ++ Lib.decDigits 3 : List UInt8) = [45, 51] by decide +kernel] at this
theorem print_m4 (v : Value) (w : World) (h : IntAt w v (-4)) : Calls Tryd.prog 35 #[v] w (RStr [45, 52] w) := by
  have := Print_small v true 4 w (smallRaw h (by decide)) (by decide) (by decide)
  rwa [show ((if true = true then [45] else []) ++ Lib.decDigits 4 : List UInt8) = [45, 52] by decide +kernel] at this

/-- a variable that holds a whole number -/
def Var (w : World) (g : Nat) (b : Bool) (p : Option Addr) (n c : Nat) (z : Int) : Prop :=
  w.cell? ⟨g, 0, none⟩ = some (.bool b) ∧ w.cell? ⟨g, 1, none⟩ = some (.slice p n c) ∧ g < w.heap.size ∧ IntAt w (.agg #[.bool b, .slice p n c]) z
theorem Var.below {w w' : World} {g : Nat} {b : Bool} {p : Option Addr} {n c : Nat} {z : Int} (h : Var w g b p n c z) (hb : Below w.heap.size w w') : Var w' g b p n c z :=
  ⟨(hb.cell (p := ⟨g, 0, none⟩) h.2.2.1).trans h.1, (hb.cell (p := ⟨g, 1, none⟩) h.2.2.1).trans h.2.1, Nat.lt_of_lt_of_le h.2.2.1 hb.size, h.2.2.2.below hb⟩
theorem Var.new {w : World} {b : Bool} {p : Option Addr} {n c : Nat} {z : Int} {t : TypeId} (h : IntAt w (.agg #[.bool b, .slice p n c]) z) : Var (w.alloc (.cells #[.bool b, .slice p n c] t)) w.heap.size b p n c z :=
  ⟨(two_cells (heap_alloc_new w _)).1, (two_cells (heap_alloc_new w _)).2.1, by simp, h.below (below1 _ _)⟩
theorem Var.new1 {w : World} {o : Obj} {b : Bool} {p : Option Addr} {n c : Nat} {z : Int} {t : TypeId} (h : IntAt w (.agg #[.bool b, .slice p n c]) z) : Var ((w.alloc o).alloc (.cells #[.bool b, .slice p n c] t)) (w.heap.size + 1) b p n c z := by
  have := Var.new (t := t) (h.below (below1 w o))
  rwa [size_alloc] at this

set_option maxRecDepth 100000 in
set_option maxHeartbeats 1600000 in
theorem fixed_any (w : World) : Calls Tryd.prog 9 #[] w (RBool true w) := by
  go_enter Tryd.func9, Tryd.ntmps9
  go_wp2_with fail
  refine (Of_any (-7) _ (by decide) (by decide)).mono ?_
  rintro e w1 ⟨v1, rfl, i1, b1⟩
  go_wp2_with fail
  refine (Of_any 2 _ (by decide) (by decide)).mono ?_
  rintro e w2 ⟨v2, rfl, i2, b2⟩
  go_wp2_with fail
  refine (Div_m7 v1 v2 _ (i1.below b2) i2).mono ?_
  rintro e w3 ⟨q, r, rfl, iq, ir, b3⟩
  have bw3 := hid (b1.trans ((b2.mono (B' := w.heap.size) b1.size).trans (b3.mono (B' := w.heap.size) (Nat.le_trans b1.size b2.size))))
  obtain ⟨bq, pq, nq, cq, rfl, iq'⟩ := iq.any
  obtain ⟨br, pr, nr, cr, rfl, ir'⟩ := ir.any
  have Vq := (Var.new (t := 25) iq').below (below1 _ (.cells #[.bool br, .slice pr nr cr] 25))
  have Vr := Var.new1 (t := 25) (o := .cells #[.bool bq, .slice pq nq cq] 25) ir'
  have HVq := hid Vq; have HVr := hid Vr
  clear b1 b2 b3 i1 i2 iq ir iq' ir' Vq Vr
  go_wp2_with fail
  refine (Of_any 7 _ (by decide) (by decide)).mono ?_
  rintro e w4 ⟨v4, rfl, i4, b4⟩
  go_wp2_with fail
  refine (Of_any (-2) _ (by decide) (by decide)).mono ?_
  rintro e w5 ⟨v5, rfl, i5, b5⟩
  go_wp2_with fail
  refine (Div_7 v4 v5 _ (i4.below b5) i5).mono ?_
  rintro e w6 ⟨x, y, rfl, ix, iy, b6⟩
  have bw6 : Below w.heap.size w w6 := by
    have a := bw3.out
    have z := a.size
    have z4 := b4.size
    have z5 := b5.size
    simp at z4
    exact (((a.alloc (by omega) _).alloc (by simp; omega) _).trans (b4.mono (B' := w.heap.size) (by simp; omega))).trans ((b5.mono (B' := w.heap.size) (by omega)).trans (b6.mono (B' := w.heap.size) (by omega)))
  have Vq := ((HVq.out.below b4).below b5).below b6
  have Vr := ((HVr.out.below b4).below b5).below b6
  obtain ⟨bx, px, nx, cx, rfl, ix'⟩ := ix.any
  obtain ⟨by', py, ny, cy, rfl, iy'⟩ := iy.any
  have Vx := (Var.new (t := 25) ix').below (below1 _ (.cells #[.bool by', .slice py ny cy] 25))
  have Vy := Var.new1 (t := 25) (o := .cells #[.bool bx, .slice px nx cx] 25) iy'
  have b67 : Below w6.heap.size w6 ((w6.alloc (.cells #[.bool bx, .slice px nx cx] 25)).alloc (.cells #[.bool by', .slice py ny cy] 25)) := (below1 _ _).alloc (by simp) _
  have HVq' := hid (Vq.below b67); have HVr' := hid (Vr.below b67)
  have HVx := hid Vx; have HVy := hid Vy
  have bw7 := hid (bw6.trans (b67.mono (B' := w.heap.size) bw6.size))
  clear b4 b5 b6 i4 i5 ix iy ix' iy' Vq Vr Vx Vy HVq HVr bw3 bw6 b67
  go_wp2_with fail
  refine (Parse_bad _).mono ?_
  rintro e w8 ⟨z, rfl, iz, b8⟩
  obtain ⟨bz, pz, nz, cz, rfl, -⟩ := iz.any
  have b89 : ∀ o, Below w8.heap.size w8 (w8.alloc o) := fun o => below1 w8 o
  have Vq := hid (fun o => (HVq'.out.below b8).below (b89 o)); have Vr := hid (fun o => (HVr'.out.below b8).below (b89 o))
  have Vx := hid (fun o => (HVx.out.below b8).below (b89 o)); have Vy := hid (fun o => (HVy.out.below b8).below (b89 o))
  have bw9 := hid (fun o => (bw7.out.trans (b8.mono (B' := w.heap.size) bw7.out.size)).trans ((b89 o).mono (B' := w.heap.size) (Nat.le_trans bw7.out.size b8.size)))
  clear HVq' HVr' HVx HVy bw7 b8 b89 iz
  have q0 := (Vq.out (.cells #[.bool bz, .slice pz nz cz] 25)).1; have q1 := (Vq.out (.cells #[.bool bz, .slice pz nz cz] 25)).2.1
  go_wp2_with fail
  generalize hW : World.alloc w8 _ = W9
  have Vr9 := Vr.out (.cells #[.bool bz, .slice pz nz cz] 25)
  have Vx9 := Vx.out (.cells #[.bool bz, .slice pz nz cz] 25)
  have Vy9 := Vy.out (.cells #[.bool bz, .slice pz nz cz] 25)
  have Iq9 := (Vq.out (.cells #[.bool bz, .slice pz nz cz] 25)).2.2.2
  have bw10 := bw9.out (.cells #[.bool bz, .slice pz nz cz] 25)
  rw [hW] at Vr9 Vx9 Vy9 Iq9 bw10
  clear q0 q1 Vq Vr Vx Vy bw9 hW
  refine (print_m4 _ _ Iq9).mono ?_
  rintro e w10 ⟨rfl, b10⟩
  have Vr10 := Vr9.below b10; have Vx10 := Vx9.below b10; have Vy10 := Vy9.below b10
  have bw11 := bw10.trans (b10.mono (B' := w.heap.size) bw10.size)
  obtain ⟨d0, d1, -, Ir⟩ := Vr10
  clear Iq9 Vr9 Vx9 Vy9 b10 bw10
  have HVx := hid Vx10; have HVy := hid Vy10; have HIr := hid Ir; have Hbw := hid bw11
  clear Vx10 Vy10 Ir bw11
  go_wp2_with fail
  refine (print_1 _ _ HIr.out).mono ?_
  rintro e w11 ⟨rfl, b11⟩
  have Vx11 := HVx.out.below b11; have Vy11 := HVy.out.below b11
  have bw12 := Hbw.out.trans (b11.mono (B' := w.heap.size) Hbw.out.size)
  clear d0 d1 HIr HVx HVy Hbw b11
  obtain ⟨d0, d1, -, Ix⟩ := Vx11
  have HVy := hid Vy11; have HIx := hid Ix; have Hbw := hid bw12
  clear Vy11 Ix bw12
  go_wp2_with fail
  refine (print_m3 _ _ HIx.out).mono ?_
  rintro e w12 ⟨rfl, b12⟩
  have Vy12 := HVy.out.below b12
  have bw13 := Hbw.out.trans (b12.mono (B' := w.heap.size) Hbw.out.size)
  clear d0 d1 HIx HVy Hbw b12
  obtain ⟨d0, d1, -, Iy⟩ := Vy12
  have HIy := hid Iy; have Hbw := hid bw13
  clear Iy bw13
  go_wp2_with fail
  refine (print_1 _ _ HIy.out).mono ?_
  rintro e w13 ⟨rfl, b13⟩
  have bw14 := hid (Hbw.out.trans (b13.mono (B' := w.heap.size) Hbw.out.size))
  clear d0 d1 HIy Hbw b13
  go_wp2_with fail
  go_ret
  exact ⟨rfl, bw14.out⟩
end Go.Proofs.YtippcalhcnjghaaDoor
/- elenchusref01.Print of any number. -/
namespace Go.Proofs.YtippcalhcnjghaaDoor
open Go.RowKit Big
open Go.Lib (decDigits decDigits_one)

def twoF (q r : Int) : SFact := ⟨fun v w => ∃ d p n c d' p' n' c', v = .tuple #[.agg #[.bool d, .slice p n c], .agg #[.bool d', .slice p' n' c']] ∧ IntAt w (.agg #[.bool d, .slice p n c]) q ∧ IntAt w (.agg #[.bool d', .slice p' n' c']) r,
  fun _ _ _ ⟨d, p, n, c, d', p', n', c', h1, h2, h3⟩ hb => ⟨d, p, n, c, d', p', n', c', h1, h2.below hb, h3.below hb⟩⟩
theorem digit_step (n x : Nat) (S : List UInt8) (h : (S = [] ∧ x = n) ∨ (S ≠ [] ∧ x ≠ 0 ∧ decDigits n = decDigits x ++ S)) :
    decDigits n = (if x / 10 = 0 then [] else decDigits (x / 10)) ++ (UInt8.ofNat (48 + x % 10) :: S) := by
  have e : decDigits n = decDigits x ++ S := by
    rcases h with ⟨h1, h2⟩ | ⟨-, -, h⟩
    · rw [h1, h2, List.append_nil]
    · exact h
  rw [e]
  by_cases hx : x < 10
  · rw [if_pos (Nat.div_eq_of_lt hx), decDigits_one hx, Nat.mod_eq_of_lt hx]; rfl
  · rw [if_neg (by omega), decDigits_big hx, List.append_assoc]; rfl
theorem digits_sz (n k : Nat) (hk : 0 < k) (h : sz W n ≤ k) : (decDigits n).length ≤ 20 * k := by
  refine decDigits_le (by omega) (Nat.lt_of_lt_of_le (lt_pow_sz W2 n) (Nat.le_trans (Nat.pow_le_pow_right (by decide) h) ?_))
  rw [Nat.pow_mul]
  exact Nat.pow_le_pow_left (by decide) _
theorem cat_digit (c : UInt8) (S : ByteArray) : ((⟨#[c]⟩ : ByteArray) ++ S).data.toList = c :: S.data.toList := by
  rw [ByteArray.data_append]; simp
theorem ofNat_48 (r : Nat) : 48 + UInt8.ofNat r = UInt8.ofNat (48 + r) := by rw [UInt8.ofNat_add]; rfl
theorem run_byte_string (W : World) (t : TypeId) (d : Nat) (hd : d < 10) (e : Int) (he : e = ((48 + d : Nat) : Int)) :
    (convert 72 9 (.slice (some ⟨W.heap.size, 0, none⟩) 1 1)).run Tryd.prog (W.alloc (.cells #[.int .u8 e] t)) = .ok (.string ⟨#[UInt8.ofNat (48 + d)]⟩) (W.alloc (.cells #[.int .u8 e] t)) := by
  subst he
  have h := Go.run_convert_bytes_back (P := Tryd.prog) (W.alloc (.cells #[.int .u8 ((48 + d : Nat) : Int)] t)) 72 9 5 ⟨W.heap.size, 0, none⟩ 1 [UInt8.ofNat (48 + d)] Tryd.underlying72 Tryd.underlying5 Tryd.underlying9 (fun j hj => by
    obtain rfl : j = 0 := by simpa using hj
    simp [go_sem, Addr.add]
    omega)
  exact h

set_option maxRecDepth 100000 in
set_option maxHeartbeats 6400000 in
theorem RPrint_any (v : Value) (z : Int) (w : World) (h : RawAt w v z) (hz : sz W z.natAbs ≤ 1000) : Calls Tryd.prog 36 #[v] w (RStr (decI z) w) := by
  obtain ⟨neg, s, l, rfl, ha, hs, hl, rfl⟩ := h
  rw [sg_natAbs] at hz
  have g0 : ∀ W', Below w.heap.size w W' → Calls Tryd.prog 24 #[.bool neg, s] W' (RInt (sg neg (val W l)) W') := fun W' hb => Whole_any neg s l W' (ha.below hb) hs (by omega)
  have G0 := hid g0
  have H := hid ha
  obtain ⟨p, c, rfl, -⟩ := ha
  clear g0 hs hl
  generalize val W l = n at *
  obtain ⟨L, hL⟩ : ∃ L, L = decI (sg neg n) := ⟨_, rfl⟩
  rw [← hL]
  have HL := hid hL
  have Hdl : Hid ((decDigits n).length ≤ 20000) := by
    have := digits_sz n 1000 (by decide) hz
    unfold Hid; omega
  clear hL
  go_enter Tryd.func36, Tryd.ntmps36
  go_wp2_with fail
  refine (G0.out _ (below1 _ _)).mono ?_
  rintro e w1 ⟨v1, rfl, i1, b1⟩
  have i1s := i1.any
  obtain ⟨d1, p1, n1, c1, rfl, i1⟩ := i1s
  have P1 := (Pair.new w neg p l.length c 25).below b1
  have bw1 := (below1 w (.cells #[.bool neg, .slice p l.length c] 25)).trans (b1.mono (B' := w.heap.size) (by simp))
  have X1 := IntCell.put P1 i1
  have j1 := i1.stored P1 d1 p1 n1 c1
  have hbw := Below.stored bw1 (Nat.le_refl _) (.bool d1) (.slice p1 n1 c1)
  have P1' := P1.cells
  obtain ⟨_, _, q0, q1, q2, q3⟩ := P1'
  clear G0 b1 bw1 i1 H P1
  go_upto_region 2 with fail
  generalize ((w1.setCell ⟨w.heap.size, 0, none⟩ (.bool d1)).setCell ⟨w.heap.size, 1, none⟩ (.slice p1 n1 c1)) = w2 at *
  clear q0 q1 q2 q3
  clear j1
  obtain ⟨d9, p9, n9, c9, e9, i9⟩ := id X1
  have e9' := two_cells e9
  obtain ⟨x0, x1, -, -⟩ := e9'
  have hat : At w2 .u64 (.slice p9 n9 c9) (dig W n) := by
    obtain ⟨u, hu, hua⟩ := i9
    injection hu with hu
    simp at hu
    rw [hu.2]
    rwa [sg_natAbs] at hua
  have hwh := Whole_any false _ _ w2 hat (small_dig W2 _) (by show sz W n ≤ _; omega)
  rw [val_dig W2] at hwh
  have e0 : sg false n = ((n : Nat) : Int) := by simp [sg]
  rw [e0] at hwh
  have Hwh := hid hwh
  have hX1 := hid X1
  clear e0 hwh hat i9 e9 X1
  go_wp2_with fail
  refine Hwh.out.mono ?_
  rintro e w3 ⟨v3, rfl, i3, b3⟩
  have i3s := i3.any
  obtain ⟨d3, p3, n3, c3, rfl, i3⟩ := i3s
  have X3 := hX1.out.below b3
  have z3 := b3.size
  have zl := X3.pair.lt
  have hbw3 := hbw.trans (b3.mono (B' := w.heap.size) hbw.size)
  clear hX1 Hwh x0 x1 b3 hbw
  go_wp2_with fail
  generalize hW : World.alloc w3 _ = W4
  have B4 : Below w.heap.size w W4 := by rw [← hW]; exact hbw3.trans ((below1 _ _).mono (by omega))
  have C3 : IntCell W4 w3.heap.size (n : Nat) := by rw [← hW]; exact ⟨_, _, _, _, heap_alloc_new w3 _, i3.below (below1 _ _)⟩
  have C0 : IntCell W4 w.heap.size (sg neg n) := by rw [← hW]; exact X3.below (below1 _ _)
  obtain ⟨g3, hg3⟩ : ∃ g, g = w3.heap.size := ⟨_, rfl⟩
  have hg : w.heap.size < g3 := by omega
  rw [← hg3] at C3 ⊢
  have HB4 := hid B4
  clear hW hg3 i3 X3 hbw3 z3 zl B4
  go_loopg [4] (n + 1) (fun gk s wr => ∃ (x : Nat) (S : ByteArray), s = .string S ∧ IntCell wr g3 (x : Nat) ∧ IntCell wr w.heap.size (sg neg n) ∧ Hid (Below w.heap.size w wr) ∧ sz W x ≤ 1000 ∧
    Hid ((S.data.toList = [] ∧ x = n ∧ gk = n + 1) ∨ (S.data.toList ≠ [] ∧ gk = x ∧ decDigits n = (if x = 0 then [] else decDigits x) ++ S.data.toList)))
  case atStart => exact ⟨n, ⟨#[]⟩, rfl, C3, C0, HB4.out, hz, .inl ⟨rfl, rfl, rfl⟩⟩
  case round =>
    obtain ⟨x, S, rfl, D3, D0, HBr, hx, hinv⟩ := hrel
    have hS : S.size ≤ 20000 := by
      have hl : S.data.toList.length = S.size := Array.length_toList
      rcases hinv.out with ⟨h, -, -⟩ | ⟨-, -, h⟩
      · rw [h] at hl; simp at hl; omega
      · have := congrArg List.length h
        rw [List.length_append] at this
        have := Hdl.out
        omega
    by_cases hS0 : S.data.toList = []
    · obtain rfl : S = ⟨#[]⟩ := bytes_eq2 hS0
      obtain ⟨hxn, hM⟩ : x = n ∧ gk = n + 1 := by
        rcases hinv.out with ⟨-, h, h'⟩ | ⟨h, -, -⟩
        · exact ⟨h, h'⟩
        · exact absurd rfl h
      have hd : Hid ((⟨#[]⟩ : ByteArray).data.toList = [] ∧ x = n ∨ (⟨#[]⟩ : ByteArray).data.toList ≠ [] ∧ x ≠ 0 ∧ decDigits n = decDigits x ++ (⟨#[]⟩ : ByteArray).data.toList) := .inl ⟨rfl, hxn⟩
      have hlt : Hid (x / 10 < gk) := by unfold Hid; omega
      clear hinv hS0 hxn hM
      have HBa := hid HBr.out
      clear HBr
      go_upto_region 5 with fail
      go_cut [5, 6] (fun s5 s6 wz => ∃ g5 g6, s5 = .pointer (some ⟨g5, 0, none⟩) ∧ s6 = .pointer (some ⟨g6, 0, none⟩) ∧ g5 ≠ g6 ∧ g3 < g5 ∧ g3 < g6 ∧ IntCell wz g5 ((x : Int) / 10) ∧ IntCell wz g6 ((x : Int) % 10) ∧ IntCell wz g3 (x : Nat) ∧ IntCell wz w.heap.size (sg neg n) ∧ Below w.heap.size w wz)
      case first =>
        rename_i Jc Kc hJc hKc
        refine wp_region_late (w0 := wr) 8 2 [24, 25, 26, 23, 27, 28, 5, 6] [u24, u25, u26, u23, u27, u28, u5, u6]
          (fun i => match i with | 0 => intF (x : Nat) | 1 => intF 10 | 2 => twoF ((x : Int) / 10) ((x : Int) % 10) | 3 => twoF ((x : Int) / 10) ((x : Int) % 10) | 4 => intF ((x : Int) / 10) | 5 => intF ((x : Int) % 10) | 6 => varF wr.heap.size | _ => varF wr.heap.size) [6, 7] (by kernel_rfl) (by kernel_rfl) (by kernel_rfl) 5 (by decide) (by kernel_rfl) (by decide) rfl (by kernel_rfl) rfl (by simp) ?he1 ?_ ?_ ?_ ?_
        case he1 => simp only [putAll, Act.put, List.setIfInBounds_toArray, List.set_cons_zero, List.set_cons_succ]
        · intro i hi v w' h
          simp only [List.mem_cons, List.not_mem_nil, or_false] at hi
          rcases hi with rfl | rfl
          · obtain ⟨g, hg, hp, -⟩ := (show (varF wr.heap.size).P v w' from h); exact ⟨g, hg, hp.lt⟩
          · obtain ⟨g, hg, hp, -⟩ := (show (varF wr.heap.size).P v w' from h); exact ⟨g, hg, hp.lt⟩
        · intro i o hi ho vs wx hvl hb hdep K hK
          have hvs := len8 hvl
          obtain ⟨s24, s25, s26, s23, s27, s28, s5, s6, rfl⟩ := hvs
          clear hvl
          rcases i with _ | _ | _ | _ | _ | _ | _ | _ | i
          all_goals (simp only [List.getElem?_toArray, List.getElem?_cons_zero, List.getElem?_cons_succ, Option.some.injEq] at ho)
          all_goals try (subst ho)
          all_goals try simp only [putAll, Act.put, List.setIfInBounds_toArray, List.set_cons_zero, List.set_cons_succ]
          · have hc := D3.below hb
            obtain ⟨d5, p5, m5, c5, e5, i5⟩ := hc
            have e5' := two_cells e5
            obtain ⟨x50, x51, -, -⟩ := e5'
            go_simp
            have hK' := hK.out
            simp only [putAll, Act.put, List.setIfInBounds_toArray, List.set_cons_zero, List.set_cons_succ] at hK'
            exact hK' _ _ ⟨_, _, _, _, rfl, i5⟩ (Below.refl _ _) (by simp)
          · go_simp
            refine (ROf_any 10 _ (by decide) (by decide)).mono ?_
            rintro e wy ⟨vy, rfl, iy, hby⟩
            have hsh := iy.shape
            obtain ⟨p5, n5, c5, rfl, iy⟩ := hsh
            go_wp2_with fail
            have hK' := hK.out
            simp only [putAll, Act.put, List.setIfInBounds_toArray, List.set_cons_zero, List.set_cons_succ] at hK'
            exact hK' _ _ ⟨_, _, _, _, rfl, iy⟩ hby (by simp)
          · have e0 : (intF (x : Nat)).P s24 wx := hdep ⟨0, .data⟩ (by simp) rfl
            obtain ⟨da0, pa0, na0, ca0, rfl, ia0⟩ := e0
            have e1 : (intF 10).P s25 wx := hdep ⟨1, .data⟩ (by simp) rfl
            obtain ⟨da1, pa1, na1, ca1, rfl, ia1⟩ := e1
            go_simp
            refine (RDiv_any _ _ _ _ _ (ia0.raw (by show sz W x ≤ _; omega)) (ia1.raw (by decide)) (by decide) (by show sz W x ≤ _; omega) (by decide)).mono ?_
            rintro e wy ⟨vy, vz, rfl, iy, iz, hby⟩
            have hsh := iy.shape
            obtain ⟨p5, n5, c5, rfl, iy⟩ := hsh
            have hsz := iz.shape
            obtain ⟨p6, n6, c6, rfl, iz⟩ := hsz
            go_wp2_with fail
            have hK' := hK.out
            simp only [putAll, Act.put, List.setIfInBounds_toArray, List.set_cons_zero, List.set_cons_succ] at hK'
            exact hK' _ _ ⟨_, _, _, _, _, _, _, _, rfl, iy, iz⟩ hby (by simp)
          · have e2 : (twoF ((x : Int) / 10) ((x : Int) % 10)).P s26 wx := hdep ⟨2, .data⟩ (by simp) rfl
            obtain ⟨da2, pa2, na2, ca2, db2, pb2, nb2, cb2, rfl, ia2, ib2⟩ := e2
            go_simp
            have hK' := hK.out
            simp only [putAll, Act.put, List.setIfInBounds_toArray, List.set_cons_zero, List.set_cons_succ] at hK'
            exact hK' _ _ ⟨_, _, _, _, _, _, _, _, rfl, ia2, ib2⟩ (Below.refl _ _) (by simp)
          · have e3 : (twoF ((x : Int) / 10) ((x : Int) % 10)).P s23 wx := hdep ⟨3, .data⟩ (by simp) rfl
            obtain ⟨da3, pa3, na3, ca3, db3, pb3, nb3, cb3, rfl, ia3, ib3⟩ := e3
            go_simp
            have hK' := hK.out
            simp only [putAll, Act.put, List.setIfInBounds_toArray, List.set_cons_zero, List.set_cons_succ] at hK'
            exact hK' _ _ ⟨_, _, _, _, rfl, ia3⟩ (Below.refl _ _) (by simp)
          · have e3 : (twoF ((x : Int) / 10) ((x : Int) % 10)).P s23 wx := hdep ⟨3, .data⟩ (by simp) rfl
            obtain ⟨da3, pa3, na3, ca3, db3, pb3, nb3, cb3, rfl, ia3, ib3⟩ := e3
            go_simp
            have hK' := hK.out
            simp only [putAll, Act.put, List.setIfInBounds_toArray, List.set_cons_zero, List.set_cons_succ] at hK'
            exact hK' _ _ ⟨_, _, _, _, rfl, ib3⟩ (Below.refl _ _) (by simp)
          · go_simp
            have hK' := hK.out
            simp only [putAll, Act.put, List.setIfInBounds_toArray, List.set_cons_zero, List.set_cons_succ] at hK'
            exact hK' _ _ ⟨_, rfl, Pair.new .., hb.size⟩ (below1 _ _) (fun _ => rfl)
          · go_simp
            have hK' := hK.out
            simp only [putAll, Act.put, List.setIfInBounds_toArray, List.set_cons_zero, List.set_cons_succ] at hK'
            exact hK' _ _ ⟨_, rfl, Pair.new .., hb.size⟩ (below1 _ _) (fun _ => rfl)
          · omega
        · intro vs wx hvl hb hf hdist
          have hvs := len8 hvl
          obtain ⟨s24, s25, s26, s23, s27, s28, s5, s6, rfl⟩ := hvs
          have f4 : (intF ((x : Int) / 10)).P s27 wx := hf 4 (by decide)
          have f6 : VarAt wx wr.heap.size s5 := hf 6 (by decide)
          have f7 : VarAt wx wr.heap.size s6 := hf 7 (by decide)
          have hne : s5 ≠ s6 := hdist 6 (by simp) 7 (by simp) (by decide)
          have f5 : (intF ((x : Int) % 10)).P s28 wx := hf 5 (by decide)
          obtain ⟨d8, p8, m8, c8, rfl, i8⟩ := f5
          obtain ⟨d7, p7, m7, c7, rfl, i7⟩ := f4
          obtain ⟨g5, rfl, hp5, hB5⟩ := f6
          obtain ⟨g6, rfl, hp6, hB6⟩ := f7
          have hgne : g5 ≠ g6 := fun e => hne (by rw [e])
          have c5 := hp5.cells
          obtain ⟨_, _, q0, q1, q2, q3⟩ := c5
          have l3 := D3.pair.lt
          have l0 := D0.pair.lt
          have E3 := hid (D3.below hb)
          have E0 := hid (D0.below hb)
          have HBx := hid (Below.go hb HBa.out)
          clear hf hdist hvl hne D3 D0 hb
          refine wpAny_one (i := 8) (by kernel_rfl) rfl ?_
          intro K hK
          simp only [putAll, Act.put, List.setIfInBounds_toArray, List.set_cons_zero, List.set_cons_succ]
          go_simp
          have hK' := hK.out
          apply hK'
          clear hK hK'
          have x5 := IntCell.put hp5 i7
          have hp6' := hp6.apart hgne.symm (.bool d7) (.slice p7 m7 c7)
          have i8' := i8.stored hp5 d7 p7 m7 c7
          have HBy := hid (Below.stored HBx.out (g := g5) (by omega) (.bool d7) (.slice p7 m7 c7))
          have E3' := hid (E3.out.apart hp5 (show g3 ≠ g5 by omega) d7 p7 m7 c7)
          have E0' := hid (E0.out.apart hp5 (show w.heap.size ≠ g5 by omega) d7 p7 m7 c7)
          clear q0 q1 q2 q3 hp5 hp6 i7 i8 E3 E0 HBx
          generalize ((wx.setCell ⟨g5, 0, none⟩ (.bool d7)).setCell ⟨g5, 1, none⟩ (.slice p7 m7 c7)) = wy at *
          have c6 := hp6'.cells
          obtain ⟨_, _, q0, q1, q2, q3⟩ := c6
          refine wpAny_one (i := 9) (by kernel_rfl) rfl ?_
          intro K hK
          go_simp
          have hK' := hK.out
          apply hK'
          clear hK hK'
          refine wpAny_done (by kernel_rfl) ?_ _
          have x6 := IntCell.put hp6' i8'
          have x5' := x5.apart hp6' hgne d8 p8 m8 c8
          have HBz := Below.stored HBy.out (g := g6) (by omega) (.bool d8) (.slice p8 m8 c8)
          have E3 := E3'.out.apart hp6' (show g3 ≠ g6 by omega) d8 p8 m8 c8
          have E0 := E0'.out.apart hp6' (show w.heap.size ≠ g6 by omega) d8 p8 m8 c8
          refine hKc _ _ (Met.intro (hJc _ _ ?_))
          (repeat apply Exists.intro)
          exact ⟨⟨g5, g6, rfl, rfl, hgne, by omega, by omega, x5', x6, E3, E0, HBz⟩, rfl⟩
        · intro vs wx hvl hb hf hdist
          have hvs := len8 hvl
          obtain ⟨s24, s25, s26, s23, s27, s28, s5, s6, rfl⟩ := hvs
          have f4 : (intF ((x : Int) / 10)).P s27 wx := hf 4 (by decide) (by decide)
          have f6 : VarAt wx wr.heap.size s5 := hf 6 (by decide) (by decide)
          have f7 : VarAt wx wr.heap.size s6 := hf 7 (by decide) (by decide)
          have hne : s5 ≠ s6 := hdist 6 (by simp) 7 (by simp) (by decide) (by decide) (by decide)
          have f3 : (twoF ((x : Int) / 10) ((x : Int) % 10)).P s23 wx := hf 3 (by decide) (by decide)
          obtain ⟨d9, p9, m9, c9, d8, p8, m8, c8, rfl, -, i8⟩ := f3
          obtain ⟨d7, p7, m7, c7, rfl, i7⟩ := f4
          obtain ⟨g5, rfl, hp5, hB5⟩ := f6
          obtain ⟨g6, rfl, hp6, hB6⟩ := f7
          have hgne : g5 ≠ g6 := fun e => hne (by rw [e])
          have c5 := hp5.cells
          obtain ⟨_, _, q0, q1, q2, q3⟩ := c5
          have l3 := D3.pair.lt
          have l0 := D0.pair.lt
          have E3 := hid (D3.below hb)
          have E0 := hid (D0.below hb)
          have HBx := hid (Below.go hb HBa.out)
          clear hf hdist hvl hne D3 D0 hb
          refine wpAny_two (i := 5) (j := 8) (by kernel_rfl) rfl rfl ?_ ?_
          · intro K hK
            simp only [putAll, Act.put, List.setIfInBounds_toArray, List.set_cons_zero, List.set_cons_succ]
            go_simp
            have hK' := hK.out
            apply hK'
            clear hK hK'
            refine wpAny_one (i := 8) (by kernel_rfl) rfl ?_
            intro K hK
            go_simp
            have hK' := hK.out
            apply hK'
            clear hK hK'
            have x5 := IntCell.put hp5 i7
            have hp6' := hp6.apart hgne.symm (.bool d7) (.slice p7 m7 c7)
            have i8' := i8.stored hp5 d7 p7 m7 c7
            have HBy := hid (Below.stored HBx.out (g := g5) (by omega) (.bool d7) (.slice p7 m7 c7))
            have E3' := hid (E3.out.apart hp5 (show g3 ≠ g5 by omega) d7 p7 m7 c7)
            have E0' := hid (E0.out.apart hp5 (show w.heap.size ≠ g5 by omega) d7 p7 m7 c7)
            clear q0 q1 q2 q3 hp5 hp6 i7 i8 E3 E0 HBx
            generalize ((wx.setCell ⟨g5, 0, none⟩ (.bool d7)).setCell ⟨g5, 1, none⟩ (.slice p7 m7 c7)) = wy at *
            have c6 := hp6'.cells
            obtain ⟨_, _, q0, q1, q2, q3⟩ := c6
            refine wpAny_one (i := 9) (by kernel_rfl) rfl ?_
            intro K hK
            go_simp
            have hK' := hK.out
            apply hK'
            clear hK hK'
            refine wpAny_done (by kernel_rfl) ?_ _
            have x6 := IntCell.put hp6' i8'
            have x5' := x5.apart hp6' hgne d8 p8 m8 c8
            have HBz := Below.stored HBy.out (g := g6) (by omega) (.bool d8) (.slice p8 m8 c8)
            have E3 := E3'.out.apart hp6' (show g3 ≠ g6 by omega) d8 p8 m8 c8
            have E0 := E0'.out.apart hp6' (show w.heap.size ≠ g6 by omega) d8 p8 m8 c8
            refine hKc _ _ (Met.intro (hJc _ _ ?_))
            (repeat apply Exists.intro)
            exact ⟨⟨g5, g6, rfl, rfl, hgne, by omega, by omega, x5', x6, E3, E0, HBz⟩, rfl⟩
          · intro K hK
            simp only [putAll, Act.put, List.setIfInBounds_toArray, List.set_cons_zero, List.set_cons_succ]
            go_simp
            have hK' := hK.out
            apply hK'
            clear hK hK'
            have x5 := IntCell.put hp5 i7
            have hp6' := hp6.apart hgne.symm (.bool d7) (.slice p7 m7 c7)
            have i8' := i8.stored hp5 d7 p7 m7 c7
            have HBy := hid (Below.stored HBx.out (g := g5) (by omega) (.bool d7) (.slice p7 m7 c7))
            have E3' := hid (E3.out.apart hp5 (show g3 ≠ g5 by omega) d7 p7 m7 c7)
            have E0' := hid (E0.out.apart hp5 (show w.heap.size ≠ g5 by omega) d7 p7 m7 c7)
            clear q0 q1 q2 q3 hp5 hp6 i7 i8 E3 E0 HBx
            generalize ((wx.setCell ⟨g5, 0, none⟩ (.bool d7)).setCell ⟨g5, 1, none⟩ (.slice p7 m7 c7)) = wy at *
            have c6 := hp6'.cells
            obtain ⟨_, _, q0, q1, q2, q3⟩ := c6
            refine wpAny_one (i := 5) (by kernel_rfl) rfl ?_
            intro K hK
            go_simp
            have hK' := hK.out
            apply hK'
            clear hK hK'
            refine wpAny_one (i := 9) (by kernel_rfl) rfl ?_
            intro K hK
            go_simp
            have hK' := hK.out
            apply hK'
            clear hK hK'
            refine wpAny_done (by kernel_rfl) ?_ _
            have x6 := IntCell.put hp6' i8'
            have x5' := x5.apart hp6' hgne d8 p8 m8 c8
            have HBz := Below.stored HBy.out (g := g6) (by omega) (.bool d8) (.slice p8 m8 c8)
            have E3 := E3'.out.apart hp6' (show g3 ≠ g6 by omega) d8 p8 m8 c8
            have E0 := E0'.out.apart hp6' (show w.heap.size ≠ g6 by omega) d8 p8 m8 c8
            refine hKc _ _ (Met.intro (hJc _ _ ?_))
            (repeat apply Exists.intro)
            exact ⟨⟨g5, g6, rfl, rfl, hgne, by omega, by omega, x5', x6, E3, E0, HBz⟩, rfl⟩
      case rest =>
        obtain ⟨g5, g6, rfl, rfl, hgne, hg5, hg6, C5, C6, C3, C0, HBz⟩ := hcut
        have HBz := hid HBz
        obtain ⟨r, hr⟩ : ∃ r : Nat, r = x % 10 := ⟨_, rfl⟩
        have hr10 : r < 10 := by omega
        have hri : (x : Int) % 10 = ((r : Nat) : Int) := by omega
        rw [hri] at C6
        have hqi : (x : Int) / 10 = ((x / 10 : Nat) : Int) := by omega
        rw [hqi] at C5
        obtain ⟨d8, p8, m8, c8, e8, i8⟩ := id C6
        have e8' := two_cells e8
        obtain ⟨y0, y1, -, -⟩ := e8'
        have h8 : At wc .u64 (.slice p8 m8 c8) (dig W r) := by
          obtain ⟨u, hu, hua⟩ := i8
          injection hu with hu
          simp at hu
          rw [hu.2]
          simpa using hua
        have hst := digit_step n x (⟨#[]⟩ : ByteArray).data.toList hd.out
        rw [← hr] at hst
        have Hst := hid hst
        have D5 := hid C5; have D3 := hid C3; have D0 := hid C0
        have hsx : Hid (sz W (x / 10) ≤ 1000) := Nat.le_trans (sz_mono W2 (Nat.div_le_self x 10)) hx
        clear hri hqi hr hst hd C5 C3 C0 e8 i8 C6
        by_cases hr0 : r = 0
        · subst hr0
          have hm8 : m8 = 0 := by
            obtain ⟨p', c', hv, -⟩ := h8
            cases hv; rfl
          subst hm8
          have hcv := fun W => run_byte_string W 5 0 (by decide) 48 rfl
          clear h8
          go_upto_region 10 with fail
          generalize hW : World.alloc wc _ = W1
          have K1 : Below wc.heap.size wc W1 := by rw [← hW]; exact below1 _ _
          have F5 := D5.out.below K1; have F3 := D3.out.below K1; have F0 := D0.out.below K1
          have HB1 := hid (Below.go K1 HBz.out)
          clear hW K1 hcv D5 D3 D0 HBz
          obtain ⟨d7, p7, m7, c7, e7, i7⟩ := id F5
          have e7' := two_cells e7
          obtain ⟨z0, z1, -, -⟩ := e7'
          have P3 := F3.pair
          have P3' := P3.cells
          obtain ⟨_, _, q0, q1, q2, q3⟩ := P3'
          have N3 := hid (IntCell.put P3 i7)
          have N0 := hid (F0.apart P3 (show w.heap.size ≠ g3 by omega) d7 p7 m7 c7)
          have HB2 := hid (Below.stored HB1.out (g := g3) (by omega) (.bool d7) (.slice p7 m7 c7))
          clear e7 i7 F5 F3 F0 P3 y0 y1
          go_wp2_with fail
          go_roundg (x / 10)
          case measure => exact hlt.out
          case rel => exact ⟨x / 10, _, rfl, N3.out, N0.out, HB2.out, hsx.out, .inr ⟨by rw [cat_digit]; exact List.cons_ne_nil _ _, rfl, by first | (rw [cat_digit, ofNat_48]; exact Hst.out) | (rw [cat_digit]; exact Hst.out)⟩⟩
        · rw [dig_one W2 (by omega) (by unfold W; omega)] at h8
          obtain ⟨p', c', hv, -, -, -, h8⟩ := h8
          injection hv with hv1 hv2 hv3
          subst hv1 hv3
          simp only [List.length_cons, List.length_nil, Nat.zero_add] at hv2 h8
          subst hv2
          obtain ⟨b8, o8, rfl, hb8, h8⟩ := h8 (by decide)
          have h80 := h8 0 (by decide)
          simp only [List.getElem_cons_zero, Nat.add_zero] at h80
          have hcv := fun W => run_byte_string W 5 r hr10 (48 + (r : Int)) (by omega)
          clear h8
          go_upto_region 10 with fail
          generalize hW : World.alloc wc _ = W1
          have K1 : Below wc.heap.size wc W1 := by rw [← hW]; exact below1 _ _
          have F5 := D5.out.below K1; have F3 := D3.out.below K1; have F0 := D0.out.below K1
          have HB1 := hid (Below.go K1 HBz.out)
          clear hW K1 hcv D5 D3 D0 HBz
          obtain ⟨d7, p7, m7, c7, e7, i7⟩ := id F5
          have e7' := two_cells e7
          obtain ⟨z0, z1, -, -⟩ := e7'
          have P3 := F3.pair
          have P3' := P3.cells
          obtain ⟨_, _, q0, q1, q2, q3⟩ := P3'
          have N3 := hid (IntCell.put P3 i7)
          have N0 := hid (F0.apart P3 (show w.heap.size ≠ g3 by omega) d7 p7 m7 c7)
          have HB2 := hid (Below.stored HB1.out (g := g3) (by omega) (.bool d7) (.slice p7 m7 c7))
          clear e7 i7 F5 F3 F0 P3 y0 y1
          go_wp2_with fail
          go_roundg (x / 10)
          case measure => exact hlt.out
          case rel => exact ⟨x / 10, _, rfl, N3.out, N0.out, HB2.out, hsx.out, .inr ⟨by rw [cat_digit]; exact List.cons_ne_nil _ _, rfl, by first | (rw [cat_digit, ofNat_48]; exact Hst.out) | (rw [cat_digit]; exact Hst.out)⟩⟩
    · have hne : S.toList.isEmpty = false := by
        rw [Lib.toList_data]
        cases he : S.data.toList with
        | nil => exact absurd he hS0
        | cons => rfl
      have hnil : ¬ S.toList = [] := fun e => by rw [e] at hne; cases hne
      obtain ⟨hM, hdn⟩ : gk = x ∧ decDigits n = (if x = 0 then [] else decDigits x) ++ S.data.toList := by
        rcases hinv.out with ⟨h, -, -⟩ | ⟨-, h, h'⟩
        · exact absurd h hS0
        · exact ⟨h, h'⟩
      subst hM
      clear hinv
      obtain ⟨d4, p4, m4, c4, e4, i4⟩ := id D3
      have e4' := two_cells e4
      obtain ⟨y0, y1, -, -⟩ := e4'
      by_cases hx0 : gk = 0
      · have hsg := RSign_any _ _ wr (i4.raw (by show sz W gk ≤ _; omega))
        rw [hx0] at hsg
        have hsg' : Hid (Calls Tryd.prog 20 #[.agg #[.bool d4, .slice p4 m4 c4]] wr (RNum .i64 0 wr)) := hsg
        have hfin : Hid (decDigits n = S.data.toList) := by unfold Hid; rw [hdn, if_pos hx0]; rfl
        clear hsg hdn hx0 i4 e4 hS0
        go_wp2_with fail
        refine hsg'.out.mono ?_
        rintro e wa ⟨rfl, hba⟩
        have HBa := hid (Below.go hba HBr.out)
        have A0 := D0.below hba
        obtain ⟨d7, p7, m7, c7, e7, i7⟩ := A0
        have e7' := two_cells e7
        obtain ⟨z0, z1, -, -⟩ := e7'
        have hd7 : d7 = decide (sg neg n < 0) := by
          obtain ⟨u, hu, -⟩ := i7
          injection hu with hu
          simp at hu
          exact hu.1
        have hL7 : Hid ((if d7 then [45] else []) ++ S.data.toList = L) := by
          unfold Hid
          rw [HL.out, ← hfin.out, hd7]
          unfold decI
          rw [sg_natAbs]
          by_cases hneg : sg neg n < 0
          · rw [if_pos hneg, decide_eq_true hneg]; rfl
          · rw [if_neg hneg, decide_eq_false hneg]; rfl
        clear hba y0 y1 e7 i7 hd7 hsg'
        cases d7
        · go_wp2_with fail
          go_ret
          exact ⟨by rw [← hL7.out]; rfl, HBa.out⟩
        · go_wp2_with fail
          go_ret
          exact ⟨by rw [← hL7.out]; rfl, HBa.out⟩
      · have hsg := RSign_any _ _ wr (i4.raw (by show sz W gk ≤ _; omega))
        rw [Int.sign_eq_one_of_pos (show (0 : Int) < (gk : Int) by omega)] at hsg
        have Hsg := hid hsg
        have hd : Hid (S.data.toList = [] ∧ gk = n ∨ S.data.toList ≠ [] ∧ gk ≠ 0 ∧ decDigits n = decDigits gk ++ S.data.toList) := .inr ⟨hS0, hx0, by rw [hdn, if_neg hx0]⟩
        have hlt : Hid (gk / 10 < gk) := by unfold Hid; omega
        clear hsg hdn hx0 i4 e4 hS0
        go_wp2_with fail
        refine Hsg.out.mono ?_
        rintro e wa ⟨rfl, hba⟩
        have HBa := hid (Below.go hba HBr.out)
        have D3 := D3.below hba
        have D0 := D0.below hba
        clear hba y0 y1 Hsg hne hnil
        obtain ⟨x, hxx⟩ : ∃ x, x = gk := ⟨_, rfl⟩
        rw [← hxx] at hd D3 hx
        have hlt : Hid (x / 10 < gk) := by rw [hxx]; exact hlt.out
        clear hxx
        go_upto_region 5 with fail
        go_cut [5, 6] (fun s5 s6 wz => ∃ g5 g6, s5 = .pointer (some ⟨g5, 0, none⟩) ∧ s6 = .pointer (some ⟨g6, 0, none⟩) ∧ g5 ≠ g6 ∧ g3 < g5 ∧ g3 < g6 ∧ IntCell wz g5 ((x : Int) / 10) ∧ IntCell wz g6 ((x : Int) % 10) ∧ IntCell wz g3 (x : Nat) ∧ IntCell wz w.heap.size (sg neg n) ∧ Below w.heap.size w wz)
        case first =>
          rename_i Jc Kc hJc hKc
          refine wp_region_late (w0 := wa) 8 2 [24, 25, 26, 23, 27, 28, 5, 6] [u24, u25, u26, u23, u27, u28, u5, u6]
            (fun i => match i with | 0 => intF (x : Nat) | 1 => intF 10 | 2 => twoF ((x : Int) / 10) ((x : Int) % 10) | 3 => twoF ((x : Int) / 10) ((x : Int) % 10) | 4 => intF ((x : Int) / 10) | 5 => intF ((x : Int) % 10) | 6 => varF wa.heap.size | _ => varF wa.heap.size) [6, 7] (by kernel_rfl) (by kernel_rfl) (by kernel_rfl) 5 (by decide) (by kernel_rfl) (by decide) rfl (by kernel_rfl) rfl (by simp) ?he2 ?_ ?_ ?_ ?_
          case he2 => simp only [putAll, Act.put, List.setIfInBounds_toArray, List.set_cons_zero, List.set_cons_succ]
          · intro i hi v w' h
            simp only [List.mem_cons, List.not_mem_nil, or_false] at hi
            rcases hi with rfl | rfl
            · obtain ⟨g, hg, hp, -⟩ := (show (varF wa.heap.size).P v w' from h); exact ⟨g, hg, hp.lt⟩
            · obtain ⟨g, hg, hp, -⟩ := (show (varF wa.heap.size).P v w' from h); exact ⟨g, hg, hp.lt⟩
          · intro i o hi ho vs wx hvl hb hdep K hK
            have hvs := len8 hvl
            obtain ⟨s24, s25, s26, s23, s27, s28, s5, s6, rfl⟩ := hvs
            clear hvl
            rcases i with _ | _ | _ | _ | _ | _ | _ | _ | i
            all_goals (simp only [List.getElem?_toArray, List.getElem?_cons_zero, List.getElem?_cons_succ, Option.some.injEq] at ho)
            all_goals try (subst ho)
            all_goals try simp only [putAll, Act.put, List.setIfInBounds_toArray, List.set_cons_zero, List.set_cons_succ]
            · have hc := D3.below hb
              obtain ⟨d5, p5, m5, c5, e5, i5⟩ := hc
              have e5' := two_cells e5
              obtain ⟨x50, x51, -, -⟩ := e5'
              go_simp
              have hK' := hK.out
              simp only [putAll, Act.put, List.setIfInBounds_toArray, List.set_cons_zero, List.set_cons_succ] at hK'
              exact hK' _ _ ⟨_, _, _, _, rfl, i5⟩ (Below.refl _ _) (by simp)
            · go_simp
              refine (ROf_any 10 _ (by decide) (by decide)).mono ?_
              rintro e wy ⟨vy, rfl, iy, hby⟩
              have hsh := iy.shape
              obtain ⟨p5, n5, c5, rfl, iy⟩ := hsh
              go_wp2_with fail
              have hK' := hK.out
              simp only [putAll, Act.put, List.setIfInBounds_toArray, List.set_cons_zero, List.set_cons_succ] at hK'
              exact hK' _ _ ⟨_, _, _, _, rfl, iy⟩ hby (by simp)
            · have e0 : (intF (x : Nat)).P s24 wx := hdep ⟨0, .data⟩ (by simp) rfl
              obtain ⟨da0, pa0, na0, ca0, rfl, ia0⟩ := e0
              have e1 : (intF 10).P s25 wx := hdep ⟨1, .data⟩ (by simp) rfl
              obtain ⟨da1, pa1, na1, ca1, rfl, ia1⟩ := e1
              go_simp
              refine (RDiv_any _ _ _ _ _ (ia0.raw (by show sz W x ≤ _; omega)) (ia1.raw (by decide)) (by decide) (by show sz W x ≤ _; omega) (by decide)).mono ?_
              rintro e wy ⟨vy, vz, rfl, iy, iz, hby⟩
              have hsh := iy.shape
              obtain ⟨p5, n5, c5, rfl, iy⟩ := hsh
              have hsz := iz.shape
              obtain ⟨p6, n6, c6, rfl, iz⟩ := hsz
              go_wp2_with fail
              have hK' := hK.out
              simp only [putAll, Act.put, List.setIfInBounds_toArray, List.set_cons_zero, List.set_cons_succ] at hK'
              exact hK' _ _ ⟨_, _, _, _, _, _, _, _, rfl, iy, iz⟩ hby (by simp)
            · have e2 : (twoF ((x : Int) / 10) ((x : Int) % 10)).P s26 wx := hdep ⟨2, .data⟩ (by simp) rfl
              obtain ⟨da2, pa2, na2, ca2, db2, pb2, nb2, cb2, rfl, ia2, ib2⟩ := e2
              go_simp
              have hK' := hK.out
              simp only [putAll, Act.put, List.setIfInBounds_toArray, List.set_cons_zero, List.set_cons_succ] at hK'
              exact hK' _ _ ⟨_, _, _, _, _, _, _, _, rfl, ia2, ib2⟩ (Below.refl _ _) (by simp)
            · have e3 : (twoF ((x : Int) / 10) ((x : Int) % 10)).P s23 wx := hdep ⟨3, .data⟩ (by simp) rfl
              obtain ⟨da3, pa3, na3, ca3, db3, pb3, nb3, cb3, rfl, ia3, ib3⟩ := e3
              go_simp
              have hK' := hK.out
              simp only [putAll, Act.put, List.setIfInBounds_toArray, List.set_cons_zero, List.set_cons_succ] at hK'
              exact hK' _ _ ⟨_, _, _, _, rfl, ia3⟩ (Below.refl _ _) (by simp)
            · have e3 : (twoF ((x : Int) / 10) ((x : Int) % 10)).P s23 wx := hdep ⟨3, .data⟩ (by simp) rfl
              obtain ⟨da3, pa3, na3, ca3, db3, pb3, nb3, cb3, rfl, ia3, ib3⟩ := e3
              go_simp
              have hK' := hK.out
              simp only [putAll, Act.put, List.setIfInBounds_toArray, List.set_cons_zero, List.set_cons_succ] at hK'
              exact hK' _ _ ⟨_, _, _, _, rfl, ib3⟩ (Below.refl _ _) (by simp)
            · go_simp
              have hK' := hK.out
              simp only [putAll, Act.put, List.setIfInBounds_toArray, List.set_cons_zero, List.set_cons_succ] at hK'
              exact hK' _ _ ⟨_, rfl, Pair.new .., hb.size⟩ (below1 _ _) (fun _ => rfl)
            · go_simp
              have hK' := hK.out
              simp only [putAll, Act.put, List.setIfInBounds_toArray, List.set_cons_zero, List.set_cons_succ] at hK'
              exact hK' _ _ ⟨_, rfl, Pair.new .., hb.size⟩ (below1 _ _) (fun _ => rfl)
            · omega
          · intro vs wx hvl hb hf hdist
            have hvs := len8 hvl
            obtain ⟨s24, s25, s26, s23, s27, s28, s5, s6, rfl⟩ := hvs
            have f4 : (intF ((x : Int) / 10)).P s27 wx := hf 4 (by decide)
            have f6 : VarAt wx wa.heap.size s5 := hf 6 (by decide)
            have f7 : VarAt wx wa.heap.size s6 := hf 7 (by decide)
            have hne : s5 ≠ s6 := hdist 6 (by simp) 7 (by simp) (by decide)
            have f5 : (intF ((x : Int) % 10)).P s28 wx := hf 5 (by decide)
            obtain ⟨d8, p8, m8, c8, rfl, i8⟩ := f5
            obtain ⟨d7, p7, m7, c7, rfl, i7⟩ := f4
            obtain ⟨g5, rfl, hp5, hB5⟩ := f6
            obtain ⟨g6, rfl, hp6, hB6⟩ := f7
            have hgne : g5 ≠ g6 := fun e => hne (by rw [e])
            have c5 := hp5.cells
            obtain ⟨_, _, q0, q1, q2, q3⟩ := c5
            have l3 := D3.pair.lt
            have l0 := D0.pair.lt
            have E3 := hid (D3.below hb)
            have E0 := hid (D0.below hb)
            have HBx := hid (Below.go hb HBa.out)
            clear hf hdist hvl hne D3 D0 hb
            refine wpAny_one (i := 8) (by kernel_rfl) rfl ?_
            intro K hK
            simp only [putAll, Act.put, List.setIfInBounds_toArray, List.set_cons_zero, List.set_cons_succ]
            go_simp
            have hK' := hK.out
            apply hK'
            clear hK hK'
            have x5 := IntCell.put hp5 i7
            have hp6' := hp6.apart hgne.symm (.bool d7) (.slice p7 m7 c7)
            have i8' := i8.stored hp5 d7 p7 m7 c7
            have HBy := hid (Below.stored HBx.out (g := g5) (by omega) (.bool d7) (.slice p7 m7 c7))
            have E3' := hid (E3.out.apart hp5 (show g3 ≠ g5 by omega) d7 p7 m7 c7)
            have E0' := hid (E0.out.apart hp5 (show w.heap.size ≠ g5 by omega) d7 p7 m7 c7)
            clear q0 q1 q2 q3 hp5 hp6 i7 i8 E3 E0 HBx
            generalize ((wx.setCell ⟨g5, 0, none⟩ (.bool d7)).setCell ⟨g5, 1, none⟩ (.slice p7 m7 c7)) = wy at *
            have c6 := hp6'.cells
            obtain ⟨_, _, q0, q1, q2, q3⟩ := c6
            refine wpAny_one (i := 9) (by kernel_rfl) rfl ?_
            intro K hK
            go_simp
            have hK' := hK.out
            apply hK'
            clear hK hK'
            refine wpAny_done (by kernel_rfl) ?_ _
            have x6 := IntCell.put hp6' i8'
            have x5' := x5.apart hp6' hgne d8 p8 m8 c8
            have HBz := Below.stored HBy.out (g := g6) (by omega) (.bool d8) (.slice p8 m8 c8)
            have E3 := E3'.out.apart hp6' (show g3 ≠ g6 by omega) d8 p8 m8 c8
            have E0 := E0'.out.apart hp6' (show w.heap.size ≠ g6 by omega) d8 p8 m8 c8
            refine hKc _ _ (Met.intro (hJc _ _ ?_))
            (repeat apply Exists.intro)
            exact ⟨⟨g5, g6, rfl, rfl, hgne, by omega, by omega, x5', x6, E3, E0, HBz⟩, rfl⟩
          · intro vs wx hvl hb hf hdist
            have hvs := len8 hvl
            obtain ⟨s24, s25, s26, s23, s27, s28, s5, s6, rfl⟩ := hvs
            have f4 : (intF ((x : Int) / 10)).P s27 wx := hf 4 (by decide) (by decide)
            have f6 : VarAt wx wa.heap.size s5 := hf 6 (by decide) (by decide)
            have f7 : VarAt wx wa.heap.size s6 := hf 7 (by decide) (by decide)
            have hne : s5 ≠ s6 := hdist 6 (by simp) 7 (by simp) (by decide) (by decide) (by decide)
            have f3 : (twoF ((x : Int) / 10) ((x : Int) % 10)).P s23 wx := hf 3 (by decide) (by decide)
            obtain ⟨d9, p9, m9, c9, d8, p8, m8, c8, rfl, -, i8⟩ := f3
            obtain ⟨d7, p7, m7, c7, rfl, i7⟩ := f4
            obtain ⟨g5, rfl, hp5, hB5⟩ := f6
            obtain ⟨g6, rfl, hp6, hB6⟩ := f7
            have hgne : g5 ≠ g6 := fun e => hne (by rw [e])
            have c5 := hp5.cells
            obtain ⟨_, _, q0, q1, q2, q3⟩ := c5
            have l3 := D3.pair.lt
            have l0 := D0.pair.lt
            have E3 := hid (D3.below hb)
            have E0 := hid (D0.below hb)
            have HBx := hid (Below.go hb HBa.out)
            clear hf hdist hvl hne D3 D0 hb
            refine wpAny_two (i := 5) (j := 8) (by kernel_rfl) rfl rfl ?_ ?_
            · intro K hK
              simp only [putAll, Act.put, List.setIfInBounds_toArray, List.set_cons_zero, List.set_cons_succ]
              go_simp
              have hK' := hK.out
              apply hK'
              clear hK hK'
              refine wpAny_one (i := 8) (by kernel_rfl) rfl ?_
              intro K hK
              go_simp
              have hK' := hK.out
              apply hK'
              clear hK hK'
              have x5 := IntCell.put hp5 i7
              have hp6' := hp6.apart hgne.symm (.bool d7) (.slice p7 m7 c7)
              have i8' := i8.stored hp5 d7 p7 m7 c7
              have HBy := hid (Below.stored HBx.out (g := g5) (by omega) (.bool d7) (.slice p7 m7 c7))
              have E3' := hid (E3.out.apart hp5 (show g3 ≠ g5 by omega) d7 p7 m7 c7)
              have E0' := hid (E0.out.apart hp5 (show w.heap.size ≠ g5 by omega) d7 p7 m7 c7)
              clear q0 q1 q2 q3 hp5 hp6 i7 i8 E3 E0 HBx
              generalize ((wx.setCell ⟨g5, 0, none⟩ (.bool d7)).setCell ⟨g5, 1, none⟩ (.slice p7 m7 c7)) = wy at *
              have c6 := hp6'.cells
              obtain ⟨_, _, q0, q1, q2, q3⟩ := c6
              refine wpAny_one (i := 9) (by kernel_rfl) rfl ?_
              intro K hK
              go_simp
              have hK' := hK.out
              apply hK'
              clear hK hK'
              refine wpAny_done (by kernel_rfl) ?_ _
              have x6 := IntCell.put hp6' i8'
              have x5' := x5.apart hp6' hgne d8 p8 m8 c8
              have HBz := Below.stored HBy.out (g := g6) (by omega) (.bool d8) (.slice p8 m8 c8)
              have E3 := E3'.out.apart hp6' (show g3 ≠ g6 by omega) d8 p8 m8 c8
              have E0 := E0'.out.apart hp6' (show w.heap.size ≠ g6 by omega) d8 p8 m8 c8
              refine hKc _ _ (Met.intro (hJc _ _ ?_))
              (repeat apply Exists.intro)
              exact ⟨⟨g5, g6, rfl, rfl, hgne, by omega, by omega, x5', x6, E3, E0, HBz⟩, rfl⟩
            · intro K hK
              simp only [putAll, Act.put, List.setIfInBounds_toArray, List.set_cons_zero, List.set_cons_succ]
              go_simp
              have hK' := hK.out
              apply hK'
              clear hK hK'
              have x5 := IntCell.put hp5 i7
              have hp6' := hp6.apart hgne.symm (.bool d7) (.slice p7 m7 c7)
              have i8' := i8.stored hp5 d7 p7 m7 c7
              have HBy := hid (Below.stored HBx.out (g := g5) (by omega) (.bool d7) (.slice p7 m7 c7))
              have E3' := hid (E3.out.apart hp5 (show g3 ≠ g5 by omega) d7 p7 m7 c7)
              have E0' := hid (E0.out.apart hp5 (show w.heap.size ≠ g5 by omega) d7 p7 m7 c7)
              clear q0 q1 q2 q3 hp5 hp6 i7 i8 E3 E0 HBx
              generalize ((wx.setCell ⟨g5, 0, none⟩ (.bool d7)).setCell ⟨g5, 1, none⟩ (.slice p7 m7 c7)) = wy at *
              have c6 := hp6'.cells
              obtain ⟨_, _, q0, q1, q2, q3⟩ := c6
              refine wpAny_one (i := 5) (by kernel_rfl) rfl ?_
              intro K hK
              go_simp
              have hK' := hK.out
              apply hK'
              clear hK hK'
              refine wpAny_one (i := 9) (by kernel_rfl) rfl ?_
              intro K hK
              go_simp
              have hK' := hK.out
              apply hK'
              clear hK hK'
              refine wpAny_done (by kernel_rfl) ?_ _
              have x6 := IntCell.put hp6' i8'
              have x5' := x5.apart hp6' hgne d8 p8 m8 c8
              have HBz := Below.stored HBy.out (g := g6) (by omega) (.bool d8) (.slice p8 m8 c8)
              have E3 := E3'.out.apart hp6' (show g3 ≠ g6 by omega) d8 p8 m8 c8
              have E0 := E0'.out.apart hp6' (show w.heap.size ≠ g6 by omega) d8 p8 m8 c8
              refine hKc _ _ (Met.intro (hJc _ _ ?_))
              (repeat apply Exists.intro)
              exact ⟨⟨g5, g6, rfl, rfl, hgne, by omega, by omega, x5', x6, E3, E0, HBz⟩, rfl⟩
        case rest =>
          obtain ⟨g5, g6, rfl, rfl, hgne, hg5, hg6, C5, C6, C3, C0, HBz⟩ := hcut
          have HBz := hid HBz
          obtain ⟨r, hr⟩ : ∃ r : Nat, r = x % 10 := ⟨_, rfl⟩
          have hr10 : r < 10 := by omega
          have hri : (x : Int) % 10 = ((r : Nat) : Int) := by omega
          rw [hri] at C6
          have hqi : (x : Int) / 10 = ((x / 10 : Nat) : Int) := by omega
          rw [hqi] at C5
          obtain ⟨d8, p8, m8, c8, e8, i8⟩ := id C6
          have e8' := two_cells e8
          obtain ⟨y0, y1, -, -⟩ := e8'
          have h8 : At wc .u64 (.slice p8 m8 c8) (dig W r) := by
            obtain ⟨u, hu, hua⟩ := i8
            injection hu with hu
            simp at hu
            rw [hu.2]
            simpa using hua
          have hst := digit_step n x S.data.toList hd.out
          rw [← hr] at hst
          have Hst := hid hst
          have D5 := hid C5; have D3 := hid C3; have D0 := hid C0
          have hsx : Hid (sz W (x / 10) ≤ 1000) := Nat.le_trans (sz_mono W2 (Nat.div_le_self x 10)) hx
          clear hri hqi hr hst hd C5 C3 C0 e8 i8 C6
          by_cases hr0 : r = 0
          · subst hr0
            have hm8 : m8 = 0 := by
              obtain ⟨p', c', hv, -⟩ := h8
              cases hv; rfl
            subst hm8
            have hcv := fun W => run_byte_string W 5 0 (by decide) 48 rfl
            clear h8
            go_upto_region 10 with fail
            generalize hW : World.alloc wc _ = W1
            have K1 : Below wc.heap.size wc W1 := by rw [← hW]; exact below1 _ _
            have F5 := D5.out.below K1; have F3 := D3.out.below K1; have F0 := D0.out.below K1
            have HB1 := hid (Below.go K1 HBz.out)
            clear hW K1 hcv D5 D3 D0 HBz
            obtain ⟨d7, p7, m7, c7, e7, i7⟩ := id F5
            have e7' := two_cells e7
            obtain ⟨z0, z1, -, -⟩ := e7'
            have P3 := F3.pair
            have P3' := P3.cells
            obtain ⟨_, _, q0, q1, q2, q3⟩ := P3'
            have N3 := hid (IntCell.put P3 i7)
            have N0 := hid (F0.apart P3 (show w.heap.size ≠ g3 by omega) d7 p7 m7 c7)
            have HB2 := hid (Below.stored HB1.out (g := g3) (by omega) (.bool d7) (.slice p7 m7 c7))
            clear e7 i7 F5 F3 F0 P3 y0 y1
            go_wp2_with fail
            go_roundg (x / 10)
            case measure => exact hlt.out
            case rel => exact ⟨x / 10, _, rfl, N3.out, N0.out, HB2.out, hsx.out, .inr ⟨by rw [cat_digit]; exact List.cons_ne_nil _ _, rfl, by first | (rw [cat_digit, ofNat_48]; exact Hst.out) | (rw [cat_digit]; exact Hst.out)⟩⟩
          · rw [dig_one W2 (by omega) (by unfold W; omega)] at h8
            obtain ⟨p', c', hv, -, -, -, h8⟩ := h8
            injection hv with hv1 hv2 hv3
            subst hv1 hv3
            simp only [List.length_cons, List.length_nil, Nat.zero_add] at hv2 h8
            subst hv2
            obtain ⟨b8, o8, rfl, hb8, h8⟩ := h8 (by decide)
            have h80 := h8 0 (by decide)
            simp only [List.getElem_cons_zero, Nat.add_zero] at h80
            have hcv := fun W => run_byte_string W 5 r hr10 (48 + (r : Int)) (by omega)
            clear h8
            go_upto_region 10 with fail
            generalize hW : World.alloc wc _ = W1
            have K1 : Below wc.heap.size wc W1 := by rw [← hW]; exact below1 _ _
            have F5 := D5.out.below K1; have F3 := D3.out.below K1; have F0 := D0.out.below K1
            have HB1 := hid (Below.go K1 HBz.out)
            clear hW K1 hcv D5 D3 D0 HBz
            obtain ⟨d7, p7, m7, c7, e7, i7⟩ := id F5
            have e7' := two_cells e7
            obtain ⟨z0, z1, -, -⟩ := e7'
            have P3 := F3.pair
            have P3' := P3.cells
            obtain ⟨_, _, q0, q1, q2, q3⟩ := P3'
            have N3 := hid (IntCell.put P3 i7)
            have N0 := hid (F0.apart P3 (show w.heap.size ≠ g3 by omega) d7 p7 m7 c7)
            have HB2 := hid (Below.stored HB1.out (g := g3) (by omega) (.bool d7) (.slice p7 m7 c7))
            clear e7 i7 F5 F3 F0 P3 y0 y1
            go_wp2_with fail
            go_roundg (x / 10)
            case measure => exact hlt.out
            case rel => exact ⟨x / 10, _, rfl, N3.out, N0.out, HB2.out, hsx.out, .inr ⟨by rw [cat_digit]; exact List.cons_ne_nil _ _, rfl, by first | (rw [cat_digit, ofNat_48]; exact Hst.out) | (rw [cat_digit]; exact Hst.out)⟩⟩
end Go.Proofs.YtippcalhcnjghaaDoor
