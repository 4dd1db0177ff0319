/- Texts put together: AtText, AtRow, AtAtom, AtOpp, AtAsk, AtAskG, LnOpen, LnFew, AtOpen, AtLaw0, AtOwn, AtRows, LnValue, LnRValue, AtHolds, AtFew. -/
import Derived.Test.YtnfohbpgnbfmeaaGreatDoorAtomsMeansCardM4
import Derived.Lib.AppendIntMem
/- atoms.sizeText and atoms.rowText: a size's and a row's text. -/
namespace Go.Proofs.YtnfohbpgnbfmeaaGreatDoor
open Go.RowKit Big Go.WideMaps

def atWords (l : List Nat) : List UInt8 := l.flatMap fun u => Lib.decDigits u ++ [44]
theorem atWords_next (l : List Nat) (k : Nat) (h : k < l.length) : atWords (l.take (k + 1)) = atWords (l.take k) ++ Lib.decDigits l[k] ++ [44] := by
  unfold atWords
  rw [List.take_succ_eq_append_getElem h, List.flatMap_append]
  simp
theorem atWords_len : ∀ (l : List Nat), (∀ x ∈ l, x < W) → (atWords l).length ≤ 21 * l.length
  | [], _ => by simp [atWords]
  | x :: l, h => by
    have h1 := atWords_len l (fun y hy => h y (by simp [hy]))
    have h2 := dec_len x (h x (by simp))
    unfold atWords at h1 ⊢
    rw [List.flatMap_cons]
    simp only [List.length_append, List.length_cons, List.length_nil]
    omega
theorem atSize_words (z : Int) : atSize z = atWords (dig W z.natAbs) := rfl
theorem atSize_len {z : Int} {N : Nat} (h : sz W z.natAbs ≤ N) : (atSize z).length ≤ 21 * N := by
  rw [atSize_words]
  have h1 := atWords_len (dig W z.natAbs) (fun x hx => small_dig W2 z.natAbs x hx)
  have h2 : (dig W z.natAbs).length ≤ N := h
  omega
theorem text_conv {wr : World} {B : Nat} {v : Value} {TX : List UInt8} (hq : wr.ownsRow B 5 1 v TX.length (Lib.byteCells TX)) :
    ∃ p c, v = .slice p TX.length c ∧ (convert 115 9 (.slice p TX.length c)).run Tryz.prog wr = .ok (.string ⟨TX.toArray⟩) wr := by
  rcases id hq.2 with ⟨h1, h0⟩ | ⟨g, cap, cur, h1, -⟩
  · have : TX = [] := List.eq_nil_of_length_eq_zero h0
    rw [this]
    exact ⟨none, 0, h1, by kernel_rfl⟩
  · refine ⟨_, cap, h1, ?_⟩
    exact run_convert_bytes_back (P := Tryz.prog) wr 115 9 5 ⟨g, 0, none⟩ cap TX Tryz.underlying115 Tryz.underlying5 Tryz.underlying9 (fun j hj => by
      have := World.ownsRow.cells hq (g := g) (by rw [h1]; rfl) j (.int .u8 (TX[j].toNat : Int)) (by simp [Lib.byteCells, hj])
      exact this)
set_option maxRecDepth 100000 in
set_option maxHeartbeats 6400000 in
theorem sizeText_any (v : Value) (l : List Nat) (w : World) (h : At w .u64 v l) (hs : ∀ x ∈ l, x < W) (hl : l.length ≤ 1000000) (htab : Tb w.heap.size w) :
    Calls Tryz.prog 55 #[v] w fun e w' => e = .returned (.string ⟨(atWords l).toArray⟩) ∧ Below w.heap.size w w' := by
  obtain ⟨p0, c0, rfl, j1, j2, -, j4⟩ := h
  have J4 := hid j4
  have HNx := hid (fun k hk => atWords_next l k hk)
  have HSm := hid hs
  have Ht := hid htab
  obtain ⟨iu, hiu, hiz0, hiz1, hiz2⟩ := elemBytes.row
  obtain ⟨L, hLL⟩ : ∃ L, L = l.length := ⟨_, rfl⟩
  have HLL := hid hLL
  rw [← hLL] at j1 hl ⊢
  obtain ⟨TX, hTX⟩ : ∃ TX, TX = atWords l := ⟨_, rfl⟩
  have HTX := hid hTX
  rw [← hTX]
  clear j4 hs hLL hTX htab
  have H0 : Hid (atWords (l.take 0) = []) := hid rfl
  go_enter Tryz.func55, Tryz.ntmps55
  go_wp2_with fail
  go_loopw [8, 3] (fun i o wr => ∃ k : Nat, k ≤ L ∧ i = .int .i64 (k : Nat) ∧ Hid (wr.ownsRow w.heap.size 5 1 o (atWords (l.take k)).length (Lib.byteCells (atWords (l.take k)))) ∧ Hid ((atWords (l.take k)).length ≤ 21 * k) ∧ Hid (Below w.heap.size w wr)) (fun i _ _ => L - (intOf i).toNat)
  case atStart => exact ⟨0, Nat.zero_le _, rfl, hid (by rw [H0.out]; exact World.ownsRow_nil w w.heap.size 5 1), hid (by rw [H0.out]; simp), hid (Below.refl _ _)⟩
  case round =>
    obtain ⟨k, hk, rfl, Ho, Hle, Hb⟩ := hrel
    by_cases hlt : k < L
    · have hka : k < l.length := by rw [← HLL.out]; exact hlt
      have hlt' : (k : Int) < (L : Int) := by omega
      obtain ⟨b, o, rfl, hb, hc⟩ := J4.out (by omega)
      have x0 := (Hb.out.cell (p := ⟨b, o + k, none⟩) hb).trans (hc k hka)
      have Hnx := hid (HNx.out k hka)
      have hdk : l[k] < W := HSm.out _ (List.getElem_mem hka)
      have hil := dec_len l[k] hdk
      generalize l[k] = x at *
      generalize hX : atWords (l.take k) = X at *
      generalize hY : atWords (l.take (k + 1)) = Y at *
      have HY := hid hY
      have HLe := Hle.out
      have Hdk := hid hdk
      have Hil := hid hil
      have hbs := Hb.out.size
      have Hc := hid (AppendUint_any w.heap.size X.length x Hdk.out _ _ wr Ho.out hbs (by omega) (Lib.TabBelow.here (tab_later Ht.out Hb.out)))
      clear hc hX hY hdk hil
      go_wp2_with fail
      refine Hc.out.mono ?_
      rintro e w1 ⟨v1, rfl, ho1, hb1, hk1⟩
      have ho2 := ho1.alloc (.cells #[.int .u8 44] 5)
      have hn2 := byte_new w1 44 5
      have hz2 := size_alloc w1 (.cells #[.int .u8 44] 5)
      have b2 := below1 w1 (.cells #[.int .u8 44] 5)
      have hz1 := hb1.size
      have hil2 := Hil.out
      go_wp2_with (at_builtin; refine wpList_append_own _ rfl _ _ 115 rfl w.heap.size 5 iu _ 1 1 Tryz.underlying115 hiu hiz0 hiz1 hiz2 rfl (by decide) _ (X.length + (Lib.decDigits x).length) _ rfl ho2 ⟨w1.heap.size, 0, none⟩ 1 1 [.int .u8 44] rfl rfl hn2 (by intro u hu; simp at hu; subst hu; rfl) (by simp [maxLen]; omega) (by omega) (by omega) ?_; intro v3 w3 ho3 hg3 _)
      have hb3 : Below w.heap.size w w3 := ((Hb.out.trans hb1).trans (b2.mono (by omega))).grown hg3 (by omega) (fun g hg => (World.ownsRow.lt ho2 g hg).1)
      have hYe : Y.length = X.length + (Lib.decDigits x).length + 1 := by rw [Hnx.out]; simp; omega
      have hYc : Lib.byteCells Y = Lib.byteCells X ++ Lib.byteCells (Lib.decDigits x) ++ [.int .u8 44] := by rw [Hnx.out, Lib.byteCells_append, Lib.byteCells_append]; simp [Lib.byteCells]
      rw [← hYe, ← hYc] at ho3
      have Ho3 := hid ho3
      have Hb3 := hid hb3
      have Hle3 : Hid (Y.length ≤ 21 * (k + 1)) := hid (by omega)
      clear ho2 hn2 hz2 b2 ho1 hb1 hg3 ho3 hb3 hYe hYc Hc
      go_wp2_with fail
      go_roundw
      case rel => exact ⟨k + 1, by omega, by go_num, by rw [HY.out]; exact Ho3, by rw [HY.out]; exact Hle3, Hb3⟩
      case measure => simp [intOf]; omega
    · obtain rfl : k = L := by omega
      have hq := Ho.out
      rw [HLL.out, List.take_length, ← HTX.out] at hq
      have hcv := text_conv hq
      clear hq Ho
      obtain ⟨pq, cq, hve, hcv⟩ := hcv
      subst hve
      go_wp2_with fail
      go_ret
      exact ⟨rfl, Hb.out⟩
theorem Itoa_any (n : Int) (h0 : -9223372036854775808 ≤ n) (h1 : n ≤ 9223372036854775807) (w : World) (htab : Tb w.heap.size w) :
    Calls Tryz.prog 90 #[.int .i64 n] w fun e w' => e = .returned (.string ⟨(Lib.itoa n).toArray⟩) ∧ Below w.heap.size w w' := by
  have hc := hid (Tryz.internal_strconv_Itoa n h0 h1 w (Lib.TabBelow.here htab))
  clear htab
  go_enter Tryz.func90, Tryz.ntmps90
  go_wp2_with fail
  refine hc.out.mono ?_
  rintro e w1 ⟨rfl, k, os, rfl⟩
  go_wp2
  go_ret
  exact ⟨rfl, Lib.below_grow _ w (Nat.le_refl _) k os⟩
theorem strCells_bytes (l : List UInt8) : Lib.strCells ⟨l.toArray⟩ = Lib.byteCells l := by simp [Lib.strCells, Lib.byteCells]
theorem atText_len {r : AtRow} {N : Nat} (hs : ∀ p ∈ r, sz W p.1.natAbs ≤ N) (hw : ∀ p ∈ r, -9223372036854775808 ≤ p.2 ∧ p.2 ≤ 9223372036854775807) : (atText r).length ≤ (21 + 21 * N) * r.length := by
  induction r with
  | nil => simp [atText]
  | cons p r ih =>
    have h1 := ih (fun q hq => hs q (by simp [hq])) (fun q hq => hw q (by simp [hq]))
    have h2 := atSize_len (hs p (by simp))
    have h3 := itoa_len p.2 (hw p (by simp)).1 (hw p (by simp)).2
    unfold atText at h1 ⊢
    rw [List.flatMap_cons]
    simp only [atPart, List.length_append, List.length_cons, List.length_nil]
    rw [Nat.mul_add]
    omega
theorem isb_below {T e : TypeId} {B b : Nat} {bs : List Value} {w w' : World} (h : Lib.IsBuilder T e B b bs w) (hb : Below w.heap.size w w') : Lib.IsBuilder T e B b bs w' := by
  have key : ∀ p, Lib.BuilderAt T e B b p bs w → Lib.BuilderAt T e B b p bs w' := fun p h => by
    have hlt := h.lt
    obtain ⟨h1, v, h2, h3, h4⟩ := h
    exact ⟨h1, v, (hb.block b hlt).trans h2, ownsRow_later h3 hb, h4⟩
  rcases h with h | h
  · exact Or.inl (key _ h)
  · exact Or.inr (key _ h)
set_option maxRecDepth 100000 in
set_option maxHeartbeats 6400000 in
theorem rowText_any (v : Value) (r : AtRow) (w : World) (h : LnT w v (r, 0)) (hs : ∀ p ∈ r, sz W p.1.natAbs ≤ 7) (hl : r.length ≤ 1000) (htab : Tb w.heap.size w) :
    Calls Tryz.prog 74 #[v] w fun e w' => e = .returned (.string ⟨(atText r).toArray⟩) ∧ Below w.heap.size w w' := by
  obtain ⟨pv, s0, rfl, hp, -⟩ := h
  obtain ⟨p0, c0, rfl, j1, j2, -, j4⟩ := hp
  have J4 := hid j4
  have HSz := hid hs
  have HNx := hid (fun k hk => atText_next r k hk)
  obtain ⟨L, hLL⟩ : ∃ L, L = r.length := ⟨_, rfl⟩
  have HLL := hid hLL
  rw [← hLL] at j1 hl ⊢
  obtain ⟨TX, hTX⟩ : ∃ TX, TX = atText r := ⟨_, rfl⟩
  have HTX := hid hTX
  rw [← hTX]
  obtain ⟨d0, hd0⟩ : ∃ d, d = decide (((r, 0) : AtRow × Int).2 < 0) := ⟨_, rfl⟩
  rw [← hd0]
  obtain ⟨W0, hW0⟩ : ∃ W0, W0 = w.alloc (.cells #[.slice p0 L c0, .bool d0, s0] 37) := ⟨_, rfl⟩
  obtain ⟨W1, hW1⟩ : ∃ W1, W1 = W0.alloc (.cells #[.pointer none, .slice none 0 0] 129) := ⟨_, rfl⟩
  have z0 : W0.heap.size = w.heap.size + 1 := by rw [hW0, size_alloc]
  have z1 : W1.heap.size = w.heap.size + 2 := by rw [hW1, size_alloc, z0]
  have b0 : Below w.heap.size w W0 := by rw [hW0]; exact below1 _ _
  have b1 : Below w.heap.size w W1 := by rw [hW1]; exact b0.alloc (by omega) _
  have e0 : W1.heap[w.heap.size]? = some (.cells #[.slice p0 L c0, .bool d0, s0] 37 (0, 0)) := by rw [hW1, heap_alloc_old _ _ (by omega), hW0]; exact heap_alloc_new _ _
  have hbl : Lib.IsBuilder 129 5 (w.heap.size + 1) (w.heap.size + 1) [] W1 :=
    Or.inl ⟨Nat.le_refl _, .slice none 0 0, by rw [hW1, ← z0]; exact heap_alloc_new _ _, World.ownsRow_nil _ _ _ _, by simp [Value.ownBlock]⟩
  have E0 := hid e0; have B1 := hid b1; have Z1 := hid z1; have HBl := hid hbl
  have Ht := hid htab
  obtain ⟨y0, y1, y2⟩ := lnCells3 e0
  clear j4 hs hLL hTX hd0 b0 b1 e0 hbl htab
  have H0 : Hid (atText (r.take 0) = []) := hid rfl
  go_enter Tryz.func74, Tryz.ntmps74
  go_upto_region 2 with fail
  rw [← hW0, ← hW1]
  clear hW0 hW1
  go_wp2_with fail
  go_loopw [9] (fun i wr => ∃ k : Nat, k ≤ L ∧ i = .int .i64 (k : Nat) ∧ Hid (Lib.IsBuilder 129 5 (w.heap.size + 1) (w.heap.size + 1) (Lib.byteCells (atText (r.take k))) wr) ∧ Hid ((atText (r.take k)).length ≤ 168 * k) ∧ Hid (Below (w.heap.size + 1) W1 wr)) (fun i _ => L - (intOf i).toNat)
  case atStart => exact ⟨0, Nat.zero_le _, rfl, hid (by rw [H0.out]; exact HBl.out), hid (by rw [H0.out]; simp), hid (Below.refl _ _)⟩
  case round =>
    obtain ⟨k, hk, rfl, Hbu, Hle, Hb⟩ := hrel
    by_cases hlt : k < L
    · have hka : k < r.length := by rw [← HLL.out]; exact hlt
      have hlt' : (k : Int) < (L : Int) := by omega
      obtain ⟨b, o, rfl, hb, hc⟩ := J4.out (by omega)
      obtain ⟨c, k0, s2, rfl, hI, hwf⟩ := hc k hka
      have hwf := (wfI_iff _).1 hwf
      have hbw : Below w.heap.size w wr := B1.out.trans (Hb.out.mono (by omega))
      have x0 := (hbw.cell (p := ⟨b, o + k * 3, none⟩) hb).trans (k0 0 _ rfl)
      have x1 := (hbw.cell (p := ⟨b, o + k * 3 + 1, none⟩) hb).trans (k0 1 _ rfl)
      have x2 := (hbw.cell (p := ⟨b, o + k * 3 + 2, none⟩) hb).trans (k0 2 _ rfl)
      have Hnx := hid (HNx.out k hka)
      have Hsz := hid (HSz.out _ (List.getElem_mem hka))
      have HII := hid (hI.below hbw)
      generalize r[k] = x at *
      generalize hX : atText (r.take k) = X at *
      generalize hY : atText (r.take (k + 1)) = Y at *
      have HY := hid hY
      have HLe := Hle.out
      obtain ⟨cf, t⟩ := x
      obtain ⟨pw, nw, cw, e2, hI2⟩ := HII.out.shape
      obtain rfl : s2 = .slice pw nw cw := by injection e2 with e2; simp at e2; exact e2
      obtain ⟨sw, e3, hAt⟩ := hI2
      obtain rfl : sw = .slice pw nw cw := by injection e3 with e3; simp at e3; exact e3.symm
      have HAt0 : Hid (∀ w', Below w.heap.size w w' → At w' .u64 (.slice pw nw cw) (dig W cf.natAbs)) := hid (fun w' hw' => by
        obtain ⟨sx, ex, hx⟩ := hI.below hw'
        obtain rfl : sx = .slice pw nw cw := by injection ex with ex; simp at ex; exact ex.symm
        exact hx)
      obtain ⟨W3, hW3⟩ : ∃ W3, W3 = wr.alloc (.cells #[.bool (decide (cf < 0)), .slice pw nw cw, .int .i64 t] 63) := ⟨_, rfl⟩
      have b3 : Below wr.heap.size wr W3 := by rw [hW3]; exact below1 _ _
      have e3 : W3.heap[wr.heap.size]? = some (.cells #[.bool (decide (cf < 0)), .slice pw nw cw, .int .i64 t] 63 (0, 0)) := by rw [hW3]; exact heap_alloc_new _ _
      have z3 : W3.heap.size = wr.heap.size + 1 := by rw [hW3, size_alloc]
      have hsb := Hb.out.size
      have hzz := Z1.out
      have E3 := hid e3
      have Hbw := hid hbw
      have Hwf := hid hwf
      have B3 := hid b3
      obtain ⟨q0, q1, q2⟩ := lnCells3 e3
      clear hc k0 hI hX hY hbw e2 b3 e3 hAt hwf
      go_upto_region 5 with fail
      rw [← hW3]
      clear hW3 x0 x1 x2
      have b31 := lnGo B3.out Hbw.out
      have HIt := hid (Itoa_any t Hwf.out.1 Hwf.out.2 W3 (tab_later Ht.out b31))
      have hit := itoa_len t Hwf.out.1 Hwf.out.2
      go_wp2_with fail
      refine HIt.out.mono ?_
      rintro e w4 ⟨rfl, b4⟩
      have z4 := b4.size
      have b34 := lnGo b4 B3.out
      have hb4 := isb_below Hbu.out b34
      have e4 := (b4.block wr.heap.size (by omega)).trans E3.out
      have Hbw4 := hid (lnGo b4 b31)
      have Hb4 : Hid (Below (w.heap.size + 1) W1 w4) := hid (Hb.out.trans (b34.mono (by omega)))
      have HB4 := hid hb4
      have E4 := hid e4
      clear b4 b31 b34 hb4 e4 HIt q0 q1 q2 Hbw
      go_wp2_with fail
      refine (WriteStringK_any _ _ _ _ w4 HB4.out (by simp [Lib.byteCells, ByteArray.size]; omega) (by omega)).mono ?_
      rintro e w5 ⟨rfl, hb5, hbl5, hk5⟩
      rw [strCells_bytes, ← Lib.byteCells_append] at hb5
      have e5 := hk5 _ _ E4.out (by intro e; injection e with e; omega) (by intro c fz he; injection he with _ he; revert he; decide)
      have HB5 := hid hb5
      have E5 := hid e5
      have Hb5 := hid (Hb4.out.trans hbl5)
      have Hbw5 := hid (Hbw4.out.trans (hbl5.mono (by omega)))
      have z5 := hbl5.size
      obtain ⟨q0, q1, q2⟩ := lnCells3 e5
      clear hb5 hbl5 hk5 e5 HB4 E4 Hb4 Hbw4
      by_cases hneg : cf < 0
      · have hd : decide (cf < 0) = true := by simpa using hneg
        have hsg : atSign cf = 45 := by unfold atSign; simp [hneg]
        rw [hd] at q0
        go_wp2_with fail
        refine (WriteByteK_any _ _ _ 45 w5 HB5.out (by simp [Lib.byteCells]; omega) (by omega)).mono ?_
        rintro e w6 ⟨rfl, hb6, hbl6, hk6⟩
        have e6 := hk6 _ _ E5.out (by intro e; injection e with e; omega) (by intro c fz he; injection he with _ he; revert he; decide)
        have HB6 := hid hb6
        have Hb6 := hid (Hb5.out.trans hbl6)
        have Hbw6 := hid (Hbw5.out.trans (hbl6.mono (by omega)))
        have z6 := hbl6.size
        clear q0 q1 q2
        obtain ⟨q0, q1, q2⟩ := lnCells3 e6
        have HSt := hid (sizeText_any (.slice pw nw cw) (dig W cf.natAbs) w6 (HAt0.out w6 Hbw6.out) (fun x hx => small_dig W2 cf.natAbs x hx) (by have : (dig W cf.natAbs).length ≤ 7 := Hsz.out; omega) (tab_later Ht.out Hbw6.out))
        clear hb6 hbl6 hk6 e6 HB5 E5 Hb5 Hbw5
        go_wp2_with fail
        refine HSt.out.mono ?_
        rintro e w7 ⟨rfl, b7⟩
        have z7 := b7.size
        have hb7 := isb_below HB6.out b7
        have hsl := atSize_len Hsz.out
        rw [atSize_words] at hsl
        have HB7 := hid hb7
        have Hb7 : Hid (Below (w.heap.size + 1) W1 w7) := hid (Hb6.out.trans (b7.mono (by omega)))
        clear b7 hb7 HSt q0 q1 q2
        go_wp2_with fail
        refine (WriteStringK_any _ _ _ _ w7 HB7.out (by simp [Lib.byteCells, ByteArray.size]; simp at hsl; omega) (by omega)).mono ?_
        rintro e w8 ⟨rfl, hb8, hbl8, -⟩
        rw [strCells_bytes] at hb8
        have hYc : Lib.byteCells Y = Lib.byteCells (X ++ Lib.itoa t) ++ [.int .u8 45] ++ Lib.byteCells (atWords (dig W cf.natAbs)) := by
          rw [Hnx.out]
          unfold atPart
          rw [hsg, atSize_words]
          simp [Lib.byteCells]
        have hYl : Y.length = X.length + (Lib.itoa t).length + 1 + (atWords (dig W cf.natAbs)).length := by
          rw [Hnx.out]
          unfold atPart
          rw [atSize_words]
          simp; omega
        rw [← hYc] at hb8
        have HB8 := hid hb8
        have Hle8 : Hid (Y.length ≤ 168 * (k + 1)) := hid (by omega)
        have Hb8 := hid (Hb7.out.trans hbl8)
        clear hb8 hbl8 hYc hYl HB7 Hb7
        go_wp2_with fail
        go_roundw
        case rel => exact ⟨k + 1, by omega, by go_num, by rw [HY.out]; exact HB8, by rw [HY.out]; exact Hle8, Hb8⟩
        case measure => simp [intOf]; omega
      · have hd : decide (cf < 0) = false := by simpa using hneg
        have hsg : atSign cf = 43 := by unfold atSign; simp [hneg]
        rw [hd] at q0
        go_wp2_with fail
        refine (WriteByteK_any _ _ _ 43 w5 HB5.out (by simp [Lib.byteCells]; omega) (by omega)).mono ?_
        rintro e w6 ⟨rfl, hb6, hbl6, hk6⟩
        have e6 := hk6 _ _ E5.out (by intro e; injection e with e; omega) (by intro c fz he; injection he with _ he; revert he; decide)
        have HB6 := hid hb6
        have Hb6 := hid (Hb5.out.trans hbl6)
        have Hbw6 := hid (Hbw5.out.trans (hbl6.mono (by omega)))
        have z6 := hbl6.size
        clear q0 q1 q2
        obtain ⟨q0, q1, q2⟩ := lnCells3 e6
        have HSt := hid (sizeText_any (.slice pw nw cw) (dig W cf.natAbs) w6 (HAt0.out w6 Hbw6.out) (fun x hx => small_dig W2 cf.natAbs x hx) (by have : (dig W cf.natAbs).length ≤ 7 := Hsz.out; omega) (tab_later Ht.out Hbw6.out))
        clear hb6 hbl6 hk6 e6 HB5 E5 Hb5 Hbw5
        go_wp2_with fail
        refine HSt.out.mono ?_
        rintro e w7 ⟨rfl, b7⟩
        have z7 := b7.size
        have hb7 := isb_below HB6.out b7
        have hsl := atSize_len Hsz.out
        rw [atSize_words] at hsl
        have HB7 := hid hb7
        have Hb7 : Hid (Below (w.heap.size + 1) W1 w7) := hid (Hb6.out.trans (b7.mono (by omega)))
        clear b7 hb7 HSt q0 q1 q2
        go_wp2_with fail
        refine (WriteStringK_any _ _ _ _ w7 HB7.out (by simp [Lib.byteCells, ByteArray.size]; simp at hsl; omega) (by omega)).mono ?_
        rintro e w8 ⟨rfl, hb8, hbl8, -⟩
        rw [strCells_bytes] at hb8
        have hYc : Lib.byteCells Y = Lib.byteCells (X ++ Lib.itoa t) ++ [.int .u8 43] ++ Lib.byteCells (atWords (dig W cf.natAbs)) := by
          rw [Hnx.out]
          unfold atPart
          rw [hsg, atSize_words]
          simp [Lib.byteCells]
        have hYl : Y.length = X.length + (Lib.itoa t).length + 1 + (atWords (dig W cf.natAbs)).length := by
          rw [Hnx.out]
          unfold atPart
          rw [atSize_words]
          simp; omega
        rw [← hYc] at hb8
        have HB8 := hid hb8
        have Hle8 : Hid (Y.length ≤ 168 * (k + 1)) := hid (by omega)
        have Hb8 := hid (Hb7.out.trans hbl8)
        clear hb8 hbl8 hYc hYl HB7 Hb7
        go_wp2_with fail
        go_roundw
        case rel => exact ⟨k + 1, by omega, by go_num, by rw [HY.out]; exact HB8, by rw [HY.out]; exact Hle8, Hb8⟩
        case measure => simp [intOf]; omega
    · obtain rfl : k = L := by omega
      have hq := Hbu.out
      rw [HLL.out, List.take_length, ← HTX.out] at hq
      have hsb := Hb.out.size
      have hzz := Z1.out
      have HSt := hid (Tryz.Builder_String_any (w.heap.size + 1) (w.heap.size + 1) TX wr hq (by omega))
      have Hbw : Hid (Below w.heap.size w wr) := hid (B1.out.trans (Hb.out.mono (by omega)))
      clear hq Hbu
      go_wp2_with fail
      refine HSt.out.mono ?_
      rintro e w9 ⟨rfl, b9⟩
      have Hb9 := hid (Hbw.out.trans (b9.mono (by omega)))
      clear b9
      go_wp2_with fail
      go_ret
      exact ⟨rfl, Hb9.out⟩
end Go.Proofs.YtnfohbpgnbfmeaaGreatDoor
/- (*atoms.Table).row: the row's number; it is laid where it wasn't there. Made by gen_atrow.py. -/
namespace Go.Proofs.YtnfohbpgnbfmeaaGreatDoor
open Go.RowKit Big Go.WideMaps

theorem atText_mem (l : List AtRow) (r : AtRow) : atText r ∈ l.map atText ↔ r ∈ l := by
  constructor
  · intro h
    obtain ⟨q, hq, e⟩ := List.mem_map.1 h
    rw [← atText_inj _ _ e]; exact hq
  · exact fun h => List.mem_map.2 ⟨r, h, rfl⟩
theorem atText_idx (l : List AtRow) (r : AtRow) : atIdx (l.map atText) (atText r) = atIdx l r := idx_map atText_inj l r
set_option maxRecDepth 100000 in
set_option maxHeartbeats 12800000 in
theorem row_any (B g : Nat) (vr va : Value) (b1 b2 : Nat) (s : AtS) (pv s0 : Value) (r : AtRow) (w : World) (h : AtIn B w g vr va (some b1) (some b2) s) (hB : B ≤ w.heap.size) (hv : PtsT w pv r) (hc : IntAt w (.agg #[.bool false, s0]) 0)
    (hf : ∀ k, pv.ownBlock = some k → k < w.heap.size ∧ ¬ atS g vr va (some b1) (some b2) k) (hs : ∀ p ∈ r, sz W p.1.natAbs ≤ 7) (hw : ∀ p ∈ r, -9223372036854775808 ≤ p.2 ∧ p.2 ≤ 9223372036854775807) (hl : r.length ≤ 1000) (hne : r ≠ []) (hn : s.rows.length < 100000) (htab : Tb w.heap.size w) :
    Calls Tryz.prog 54 #[.pointer (some ⟨g, 0, none⟩), .agg #[pv, .bool false, s0]] w fun e w' => e = .returned (.int .i64 (atIdx s.rows r : Nat)) ∧
      ∃ vr', AtIn B w' g vr' va (some b1) (some b2) ⟨atAdd s.rows r, s.atoms⟩ ∧ Apart (atS g vr va (some b1) (some b2)) w w' ∧ ∀ k, vr'.ownBlock = some k → vr.ownBlock = some k ∨ w.heap.size ≤ k := by
  obtain ⟨i0, hij, hz0, hz1, hz2⟩ := info_parts infoLin
  obtain ⟨pp, cp, rfl, -⟩ := id hv
  obtain ⟨ps, ns, cs, e1, hc⟩ := hc.shape
  obtain rfl : s0 = .slice ps ns cs := by injection e1 with e1; simp at e1; exact e1
  clear e1
  have hc : IntAt w (.agg #[.bool false, .slice ps ns cs]) 0 := hc
  obtain ⟨L, hL⟩ : ∃ L, L = r.length := ⟨_, rfl⟩
  have HL := hid hL
  rw [← hL] at hv hf hl ⊢
  have Hv := hid hv; have Hc := hid hc; have Hf := hid hf
  have hLin : LnT w (.agg #[.slice pp L cp, .bool false, .slice ps ns cs]) (r, 0) := ⟨_, _, rfl, hv, hc⟩
  obtain ⟨W1, hW1⟩ : ∃ W1, W1 = w.alloc (.cells #[.slice pp L cp, .bool false, .slice ps ns cs] 37) := ⟨_, rfl⟩
  have b1' : Below w.heap.size w W1 := by rw [hW1]; exact below1 _ _
  have e1 : W1.heap[w.heap.size]? = some (.cells #[.slice pp L cp, .bool false, .slice ps ns cs] 37 (0, 0)) := by rw [hW1]; exact heap_alloc_new _ _
  have z1 : W1.heap.size = w.heap.size + 1 := by rw [hW1, size_alloc]
  have HTx := hid (rowText_any _ r W1 (hLin.below b1') hs (by rw [← hL]; exact hl) (tab_later htab b1'))
  have hlen := atText_len hs hw
  have hkey := key_textA (atText r) (by unfold maxLen; rw [← hL] at hlen; omega)
  have hmemT := atText_mem s.rows r
  have hidxT := atText_idx s.rows r
  have HIn := hid h; have B1 := hid b1'; have E1 := hid e1; have HB := hid hB
  have hwf := wf_natA s.rows.length (by omega)
  obtain ⟨y0, y1, y2⟩ := lnCells3 e1
  generalize hTX : atText r = TX at *
  have HTX := hid hTX
  clear hLin b1' e1 hlen htab h hv hc hf hs hTX hL
  obtain ⟨NI, hNI⟩ : ∃ n, n = atIdx s.rows r := ⟨_, rfl⟩
  obtain ⟨RS, hRS⟩ : ∃ n, n = atAdd s.rows r := ⟨_, rfl⟩
  rw [← hNI, ← hRS]
  have HNI := hid hNI; have HRS := hid hRS
  clear hNI hRS
  go_enter Tryz.func54, Tryz.ntmps54
  go_upto_region 1 with fail
  rw [← hW1]
  clear hW1
  go_wp2_with fail
  refine HTx.out.mono ?_
  rintro e w2 ⟨rfl, b2'⟩
  have z2 := b2'.size
  have Hb2 := hid (lnGo b2' B1.out)
  have hIn := HIn.out.below Hb2.out
  have E2 := hid ((b2'.block w.heap.size (by omega)).trans E1.out)
  have HIn2 := hid hIn
  have hown := hIn.own
  obtain ⟨x0, x1, x2, x3⟩ := atCells4 hIn.cells
  have hmaps := hIn.maps
  rcases hmaps with ⟨h1, -⟩ | ⟨c1, c2, h1, h2, k1, k2, k3, k4, k5⟩
  · cases h1
  injection h1 with h1; injection h2 with h2
  subst h1 h2
  have K4 := hid k4; have K5 := hid k5; have K3 := hid k3
  obtain ⟨D, nD, hmD, hnl, hD⟩ := id k4
  obtain ⟨v0, pls, hrun, hv0⟩ := hmD.look_ok keyedText Tryz.underlying67 (zeroIntA _) (plainElem_int Tryz.underlying3 (by decide)) hkey
  rw [hD.has] at hrun
  obtain ⟨n0, rfl, hn0, -⟩ := plainElem_int_inv Tryz.underlying3 hv0
  have hat := congrArg Prod.fst hn0
  clear y0 y1 y2 b2' HTx hv0 hn0
  by_cases hmem : r ∈ s.rows
  · have hc1 : decide (TX ∈ s.rows.map atText) = true := decide_eq_true (hmemT.2 hmem)
    rw [hc1] at hrun
    have hat : D.atKey (.string TX) _ = .lit (.int .i64 n0) := hat
    rw [hD.idx TX (hmemT.2 hmem) _, hidxT, ← HNI.out] at hat
    have hcr : n0 = (NI : Nat) := by
      injection hat with hat
      injection hat with _ hat
      exact hat.symm
    subst hcr
    have hadd : RS = s.rows := by rw [HRS.out]; unfold atAdd; rw [if_pos hmem]
    have Hadd := hid hadd
    clear hmD hD hat hmem hadd hown k4 k5
    go_wp2
    go_ret
    exact ⟨rfl, vr, by rw [Hadd.out]; exact HIn2.out, Apart.of_below Hb2.out, fun k hk => .inl hk⟩
  · have hc1 : decide (TX ∈ s.rows.map atText) = false := decide_eq_false (fun hh => hmem (hmemT.1 hh))
    rw [hc1] at hrun
    have Hadd : Hid (RS = s.rows ++ [r]) := hid (by rw [HRS.out]; unfold atAdd; rw [if_neg hmem])
    have Hidx : Hid (NI = s.rows.length) := hid (by rw [HNI.out]; exact atIdx_len hmem)
    have HPl := hid (show PlIs (D.put (.string TX) (.lit (.int .i64 (s.rows.length : Nat)))) ((s.rows ++ [r]).map atText) by
      have := hD.new (x := TX) (fun hh => hmem (hmemT.1 hh))
      rw [List.length_map] at this
      rw [List.map_append]
      show PlIs _ (s.rows.map atText ++ [atText r])
      rw [HTX.out]; exact this)
    have HmD := hid hmD
    have Hnl : Hid (nD ≤ s.rows.length) := hid (by simpa using hnl)
    have hshR := hIn.rows.shape
    obtain ⟨pR, cR, hvR⟩ := hshR
    obtain ⟨n, hnn⟩ : ∃ n, n = s.rows.length := ⟨_, rfl⟩
    rw [← hnn] at hvR hn hwf HPl Hnl Hidx
    have Hnn := hid hnn
    subst hvR
    obtain ⟨VR, hVR⟩ : ∃ VR, VR = Value.slice pR n cR := ⟨_, rfl⟩
    have hrow := hIn.rows.row
    obtain ⟨xs, hrw, hgo⟩ := hrow
    rw [← Hnn.out] at hrw hgo
    have Hgo := hid (fun (Q' : World → List Value → AtRow → Prop) => @hgo Q')
    have Hrow := hid hrw.base0
    have hbase := hIn.rows.base
    have Hvlt : Hid (∀ k, (Value.slice pR n cR).ownBlock = some k → k < w2.heap.size) := hid fun k hk => (hbase k hk).2.1
    have ap := hIn.apart4
    have Hap := hid ap
    have Hown := hid hown
    have HS : Hid (∀ w', Apart (fun k => (Value.slice pR n cR).ownBlock = some k) w2 w' → (w'.cell? ⟨g, 0, none⟩ = some (Value.slice pR n cR) ∧ w'.cell? ⟨g, 1, none⟩ = some va ∧ w'.cell? ⟨g, 2, none⟩ = some (.map (some b1)) ∧ w'.cell? ⟨g, 3, none⟩ = some (.map (some b2))) ∧ (∀ j, w'.frozen? ⟨g, j, none⟩ = false) ∧
        (w'.cell? ⟨w.heap.size, 0, none⟩ = some (.slice pp L cp) ∧ w'.cell? ⟨w.heap.size, 1, none⟩ = some (.bool false) ∧ w'.cell? ⟨w.heap.size, 2, none⟩ = some (.slice ps ns cs))) := hid fun w' ha => by
      have h1 := (ha.block g (HIn2.out.own g (.inl rfl)).2.1 (fun e => Hap.out.1 e)).trans HIn2.out.cells
      have h2 := (ha.block w.heap.size (by omega) (fun e => by have := (hbase w.heap.size e).2.1; have := (HIn.out.rows.base w.heap.size e).2.1; omega)).trans E2.out
      exact ⟨atCells4 h1, fun j => frozen_of_row w' g j _ _ h1, lnCells3 h2⟩
    clear hmD hD hmem hown hat k4 k5 hVR hIn hbase ap hgo hrw hnn
    go_upto_region 5 with fail
    clear x0 x1 x2 x3
    refine wp_region_write (w0 := w2) 10 1 [26, 27, 28, 29, 30, 31, 32, 33, 34, 35] [undef, undef, undef, undef, undef, undef, undef, undef, undef, undef] (S := (fun k => (Value.slice pR n cR).ownBlock = some k))
      (fun i => match i with | 0 => wEq (.pointer (some ⟨g, 0, none⟩)) | 1 => wEq (.pointer (some ⟨g, 0, none⟩)) | 2 => wEq (.pointer (some ⟨g, 0, none⟩)) | 3 => wEq (.pointer (some ⟨g, 0, none⟩)) | 4 => wEq (Value.slice pR n cR) | 5 => wEq (.agg #[.slice pp L cp, .bool false, .slice ps ns cs]) | 6 => lnRow [.slice pp L cp, .bool false, .slice ps ns cs] 37 | 7 => wAny | 8 => wEq (.pointer (some ⟨g, 0, none⟩)) | _ => wEq (.pointer (some ⟨g, 0, none⟩))) 7 (RowJW 37 3 (n + 1) ((xs) ++ [.slice pp L cp, .bool false, .slice ps ns cs]) (Value.slice pR n cR) w2.heap.size) (fun _ _ _ h hb => h.below hb) (by kernel_rfl) (by kernel_rfl) (by kernel_rfl) (by kernel_rfl) (by decide) rfl (by kernel_rfl) rfl (by decide) ?he1 ?_ ?_
    case he1 => simp only [putAll, Act.put, List.setIfInBounds_toArray, List.set_cons_zero, List.set_cons_succ]
    · intro i o hi ho vs wx hvl hb hB hdep K hK
      have hvs := vlen10 hvl
      obtain ⟨s26, s27, s28, s29, s30, s31, s32, s33, s34, s35, rfl⟩ := hvs
      clear hvl
      have hk := HS.out wx hb
      obtain ⟨⟨q0, q1, q2, q3⟩, -, hbox⟩ := hk
      go_split_ands
      rcases i with _ | _ | _ | _ | _ | _ | _ | _ | _ | _ | i
      all_goals (simp only [List.getElem?_toArray, List.getElem?_cons_zero, List.getElem?_cons_succ, Option.some.injEq] at ho)
      all_goals try (subst ho)
      all_goals try simp only [putAll, Act.put, List.setIfInBounds_toArray, List.set_cons_zero, List.set_cons_succ]
      · go_simp
        have hK' := hK.out
        simp only [putAll, Act.put, List.setIfInBounds_toArray, List.set_cons_zero, List.set_cons_succ] at hK'
        exact hK' _ _ rfl (fun _ => Below.refl _ _) (fun h => absurd h (by decide))
      · go_simp
        have hK' := hK.out
        simp only [putAll, Act.put, List.setIfInBounds_toArray, List.set_cons_zero, List.set_cons_succ] at hK'
        exact hK' _ _ rfl (fun _ => Below.refl _ _) (fun h => absurd h (by decide))
      · have e1 : s27 = _ := hdep ⟨1, .data⟩ (by simp) rfl
        have e1 := e1.symm
        subst e1
        go_simp
        have hK' := hK.out
        simp only [putAll, Act.put, List.setIfInBounds_toArray, List.set_cons_zero, List.set_cons_succ] at hK'
        exact hK' _ _ rfl (fun _ => Below.refl _ _) (fun h => absurd h (by decide))
      · have e2 : s28 = _ := hdep ⟨2, .data⟩ (by simp) rfl
        have e2 := e2.symm
        subst e2
        go_simp
        have hK' := hK.out
        simp only [putAll, Act.put, List.setIfInBounds_toArray, List.set_cons_zero, List.set_cons_succ] at hK'
        exact hK' _ _ rfl (fun _ => Below.refl _ _) (fun h => absurd h (by decide))
      · have e3 : s29 = _ := hdep ⟨3, .data⟩ (by simp) rfl
        have e3 := e3.symm
        subst e3
        go_simp
        have hK' := hK.out
        simp only [putAll, Act.put, List.setIfInBounds_toArray, List.set_cons_zero, List.set_cons_succ] at hK'
        exact hK' _ _ rfl (fun _ => Below.refl _ _) (fun h => absurd h (by decide))
      · go_simp
        have hK' := hK.out
        simp only [putAll, Act.put, List.setIfInBounds_toArray, List.set_cons_zero, List.set_cons_succ] at hK'
        exact hK' _ _ rfl (fun _ => Below.refl _ _) (fun h => absurd h (by decide))
      · have e5 : s31 = _ := hdep ⟨5, .data⟩ (by simp) rfl
        have e5 := e5.symm
        subst e5
        go_simp
        have hK' := hK.out
        simp only [putAll, Act.put, List.setIfInBounds_toArray, List.set_cons_zero, List.set_cons_succ] at hK'
        exact hK' _ _ ⟨_, rfl, heap_alloc_new _ _, fun e => by have := Hvlt.out _ e; have := hb.size; omega⟩ (fun _ => below1 _ _) (fun h => absurd h (by decide))
      · have e4 : s30 = _ := hdep ⟨4, .data⟩ (by simp) rfl
        have e4 := e4.symm
        subst e4
        have e6 : (lnRow [.slice pp L cp, .bool false, .slice ps ns cs] 37).P s32 wx := hdep ⟨6, .data⟩ (by simp) rfl
        have hbB := hB (Or.inl rfl)
        obtain ⟨gg, e8, hg8, -⟩ := e6
        subst e8
        have hrow : RowW wx 0 37 3 (Value.slice pR n cR) (n) (xs) := Hrow.out.stays fun k hk => hbB.block k (Hvlt.out k hk)
        have hK' := hK.out
        simp only [putAll, Act.put, List.setIfInBounds_toArray, List.set_cons_zero, List.set_cons_succ] at hK'
        rw [if_pos (by rfl)]
        refine step_append_w (.tmp 30) (.tmp 32) 22 ?ho 0 37 i0 _ 3 56 Tryz.underlying22 hij hz0 hz1 hz2 rfl (by decide) (by intro n h; simp [Value.cells] at h) (Value.slice pR n cR) (n) (xs) ?hs hrow ⟨gg, 0, none⟩ 1 1 [.slice pp L cp, .bool false, .slice ps ns cs] ?hx rfl ?c1 ?c2 (by intro n h; simp at h) ?c3 ?c4 (Nat.zero_le _) ?_
        case ho => rfl
        case hs => rfl
        case hx => rfl
        case c1 => exact lnCellsAt hg8
        case c2 => intro u hu; simp at hu; (rcases hu with rfl | rfl | rfl <;> rfl)
        case c3 => simp [maxLen]; omega
        case c4 => omega
        intro v' w' hown' hgrow hat
        refine hK' _ _ trivial (fun h => absurd rfl h) (fun _ => ⟨(Apart.refl _ _).grown hgrow (fun k e => e), hown', fun k hk => ?_⟩)
        rcases hat k hk with hat | hat
        · exact .inl hat
        · exact .inr (by have := hbB.size; omega)
      · have e0 : s26 = _ := hdep ⟨0, .data⟩ (by simp) rfl
        have e0 := e0.symm
        subst e0
        go_simp
        have hK' := hK.out
        simp only [putAll, Act.put, List.setIfInBounds_toArray, List.set_cons_zero, List.set_cons_succ] at hK'
        exact hK' _ _ rfl (fun _ => Below.refl _ _) (fun h => absurd h (by decide))
      · have e8 : s34 = _ := hdep ⟨8, .data⟩ (by simp) rfl
        have e8 := e8.symm
        subst e8
        go_simp
        have hK' := hK.out
        simp only [putAll, Act.put, List.setIfInBounds_toArray, List.set_cons_zero, List.set_cons_succ] at hK'
        exact hK' _ _ rfl (fun _ => Below.refl _ _) (fun h => absurd h (by decide))
      · omega
    · intro vs wx hvl hb hf hJw
      have hvs := vlen10 hvl
      obtain ⟨s26, s27, s28, s29, s30, s31, s32, s33, s34, s35, rfl⟩ := hvs
      have fp : s35 = .pointer (some ⟨g, 0, none⟩) := hf 9 (by decide)
      subst fp
      have hJw : RowJW 37 3 (n + 1) ((xs) ++ [.slice pp L cp, .bool false, .slice ps ns cs]) (Value.slice pR n cR) w2.heap.size s33 wx := hJw
      obtain ⟨hj1, hj2⟩ := hJw
      obtain ⟨pz, cz, ev⟩ := ownsRow_shape hj1.1
      subst ev
      clear hf hvl
      have hk := HS.out wx hb
      obtain ⟨⟨q0, q1, q2, q3⟩, fz, -⟩ := hk
      refine wpAny_one (i := 10) (by kernel_rfl) rfl ?_
      intro K hK
      simp only [putAll, Act.put, List.setIfInBounds_toArray, List.set_cons_zero, List.set_cons_succ]
      have hK' := hK.out
      have fzz := fz 0
      go_simp
      apply hK'
      clear hK hK' q0 q1 q2 q3 fz fzz
      refine wpAny_done (by kernel_rfl) ?_ _
      try simp only [putAll, Act.put, List.setIfInBounds_toArray, List.set_cons_zero, List.set_cons_succ]
      obtain ⟨vr', hvr'⟩ : ∃ v', v' = Value.slice pz (n + 1) cz := ⟨_, rfl⟩
      have hlg := (HIn2.out.own g (.inl rfl)).2.1
      have hNg := (HIn2.out.own g (.inl rfl)).2.2
      have hNb := (HIn2.out.own b1 (.inr (.inr (.inr (.inl rfl))))).2.2
      have hlb := K4.out.lt
      have hgx := (hb.block g hlg (fun e => Hap.out.1 e)).trans HIn2.out.cells
      have hbx := hb.block b1 hlb (fun e => (Hap.out.2.2.2.2.1 b1 e).2.1 rfl)
      have hgb1 : g ≠ b1 := fun e => Hap.out.2.2.1 (by rw [e])
      obtain ⟨WS, hWS⟩ : ∃ WS, WS = wx.setCell ⟨g, 0, none⟩ (.slice pz (n + 1) cz) := ⟨_, rfl⟩
      have aS : Apart (fun k => k = g) wx WS := by rw [hWS]; exact apart_set _ _ _ _
      have eS : WS.heap[g]? = some (.cells #[.slice pz (n + 1) cz, va, .map (some b1), .map (some b2)] 70 (0, 0)) := by rw [hWS]; exact heap_setCell_same wx g 0 _ _ _ hgx
      obtain ⟨x0, x1, x2, x3⟩ := atCells4 eS
      have hzx := hb.size
      have hzS := aS.size
      have HmS := hid (show WS.ownsMap Tryz.prog 9 (plainElem Tryz.prog 3) b1 nD D from by
        obtain ⟨es, c, hb', rr⟩ := HmD.out
        exact ⟨es, c, (aS.block b1 (by omega) (fun e => hgb1 e.symm)).trans (hbx.trans hb'), rr⟩)
      have HbX := hid hb; have HaS := hid aS; have HeS := hid eS; have Hj1 := hid hj1; have Hj2 := hid hj2
      rw [← hWS]
      clear hWS hb aS eS hj1 hj2 hgx hbx
      go_upto_region 7 with (first
        | (at_mapUpdate; refine wpList_mapUpdate_own _ rfl _ _ _ 67 rfl 9 3 keyedText Tryz.underlying67 _ b1 nD _ rfl HmS.out (by have := Hnl.out; simp [maxLen]; omega) _ _ _ rfl rfl hkey _ [] (plainElem_int Tryz.underlying3 hwf) ?_; intro w4 hm4 hg4)
        | go_in)
      have a4 : Apart (fun k => k = b1) WS w4 := (Apart.refl _ _).grown hg4 (fun k e => by injection e with e; exact e.symm)
      have hB2 : B ≤ w2.heap.size := by have := HB.out; omega
      have hvB : ∀ k, (Value.slice pz (n + 1) cz).ownBlock = some k → B ≤ k ∧ k ≠ g ∧ k ≠ b1 ∧ va.ownBlock ≠ some k ∧ k ≠ b2 := fun k hk => by
        rcases Hj2.out k hk with e | e
        · have h1 := (HIn2.out.rows.base k e).1
          have h2 := Hap.out.2.2.2.2.1 k e
          exact ⟨h1, fun e2 => Hap.out.1 (by rw [← e2]; exact e), fun e2 => h2.2.1 (by rw [e2]), h2.1, fun e2 => h2.2.2 (by rw [e2])⟩
        · refine ⟨by omega, by omega, by omega, fun e2 => ?_, fun e2 => ?_⟩
          · have := (HIn2.out.atoms.base k e2).2.1; omega
          · have := K5.out.lt; omega
      have hRx : LsG 37 3 (RwQ fun b => ¬ atS g (.slice pz (n + 1) cz) va (some b1) (some b2) b) B wx (.slice pz (n + 1) cz) (s.rows ++ [r]) := by
        refine Hgo.out _ wx _ [.slice pp L cp, .bool false, .slice ps ns cs] r (Hj1.out.up (fun k hk => (hvB k hk).1)) rfl (fun c x hx => hx.go HbX.out (fun b hb => (HIn2.out.rows.base b hb).2.2) (fun b hb e => hb (.inr (.inl e))) (fun k hk hp hS => ?_)) ?_
        · rcases hS with e | e | e | e | e
          · exact hp (.inl e)
          · rcases Hj2.out k e with e | e
            · exact hp (.inr (.inl e))
            · omega
          · exact hp (.inr (.inr (.inl e)))
          · exact hp (.inr (.inr (.inr (.inl e))))
          · exact hp (.inr (.inr (.inr (.inr e))))
        · refine ⟨_, _, rfl, (Hv.out.below Hb2.out).apart HbX.out (fun b hb => (HIn2.out.rows.base b hb).2.2) (fun k hk e => (Hf.out k hk).2 (.inr (.inl e))), (Hc.out.below Hb2.out).quiet HbX.out (fun b hb => (HIn2.out.rows.base b hb).2.2), fun k hk => ⟨by have := (Hf.out k hk).1; omega, fun hS => ?_⟩, hne⟩
          have hf := Hf.out k hk
          rcases hS with e | e | e | e | e
          · exact hf.2 (.inl e)
          · rcases Hj2.out k e with e | e
            · exact hf.2 (.inr (.inl e))
            · omega
          · exact hf.2 (.inr (.inr (.inl e)))
          · exact hf.2 (.inr (.inr (.inr (.inl e))))
          · exact hf.2 (.inr (.inr (.inr (.inr e))))
      have aX : Apart (fun k => k = g ∨ k = b1) wx w4 := (HaS.out.mono (fun k h => .inl h)).go (a4.mono (fun k h => .inr h))
      have a24 : Apart (fun k => (Value.slice pR n cR).ownBlock = some k ∨ k = g ∨ k = b1) w2 w4 := (HbX.out.mono (fun k h => .inl h)).go (aX.mono (fun k h => .inr h))
      have hN2 : ∀ k, ((Value.slice pR n cR).ownBlock = some k ∨ k = g ∨ k = b1) → NoWd w2 k := by
        rintro k (e | e | e)
        · exact (HIn2.out.rows.base k e).2.2
        · rw [e]; exact hNg
        · rw [e]; exact hNb
      have hNx : ∀ k, (k = g ∨ k = b1) → NoWd wx k := by
        rintro k (e | e)
        · rw [e]; exact hNg.keep (HbX.out.block g hlg (fun e => Hap.out.1 e))
        · rw [e]; exact hNb.keep (HbX.out.block b1 hlb (fun e => (Hap.out.2.2.2.2.1 b1 e).2.1 rfl))
      have hR4 : LsG 37 3 (RwQ fun b => ¬ atS g (.slice pz (n + 1) cz) va (some b1) (some b2) b) B w4 (.slice pz (n + 1) cz) (s.rows ++ [r]) :=
        hRx.kept (fun k hk => aX.block k (hRx.base k hk).2.1 (fun e => by rcases e with e | e; exact (hvB k hk).2.1 e; exact (hvB k hk).2.2.1 e)) (fun c x hx => hx.go aX hNx (fun k hp e => hp (by rcases e with e | e; exact .inl e; exact .inr (.inr (.inr (.inl (by rw [e])))))) (fun _ _ h => h))
      have hA4 : LsG 48 3 AmQ B w4 va s.atoms :=
        HIn2.out.atoms.kept (fun k hk => a24.block k (HIn2.out.atoms.base k hk).2.1 (fun e => by rcases e with e | e | e; exact (Hap.out.2.2.2.2.1 k e).1 hk; exact Hap.out.2.1 (by rw [← e]; exact hk); exact (Hap.out.2.2.2.2.2 k hk).1 (by rw [e]))) (fun c x hx => hx.go a24 hN2)
      have hI4 : AtIn B w4 g (.slice pz (n + 1) cz) va (some b1) (some b2) ⟨RS, s.atoms⟩ := by
        rw [Hadd.out]
        refine ⟨HIn2.out.base, (a4.block g (by omega) hgb1).trans HeS.out, hR4, hA4, .inr ⟨b1, b2, rfl, rfl, k1, k2, K3.out, ⟨_, _, hm4, by have := Hnl.out; have := Hnn.out; simp; omega, HPl.out⟩, K5.out.keep (a24.block b2 K5.out.lt ?_)⟩⟩
        rintro (e | e | e)
        · exact (Hap.out.2.2.2.2.1 b2 e).2.2 rfl
        · exact Hap.out.2.2.2.1 (by rw [e])
        · exact K3.out e.symm
      have HI4 := hid hI4
      have HA : Hid (Apart (atS g (.slice pR n cR) va (some b1) (some b2)) w w4) := hid ((Apart.of_below Hb2.out).go (a24.mono (fun k e => by rcases e with e | e | e; exact .inr (.inl e); exact .inl e; exact .inr (.inr (.inr (.inl (by rw [e])))))))
      have HJ : Hid (∀ k, (Value.slice pz (n + 1) cz).ownBlock = some k → (Value.slice pR n cR).ownBlock = some k ∨ w.heap.size ≤ k) := hid (fun k hk => by
        rcases Hj2.out k hk with e | e
        · exact .inl e
        · exact .inr (by omega))
      have HNn : Hid (NI = n) := Hidx
      clear hI4 hA4 hR4 hRx a24 aX a4 hm4 hg4 hvB hN2 hNx x0 x1 x2 x3
      go_wp2
      go_ret
      exact ⟨by rw [HNn.out]; rfl, _, HI4.out, HA.out, HJ.out⟩
end Go.Proofs.YtnfohbpgnbfmeaaGreatDoor
/- (*atoms.Table).atom: the atom's number; it, and its row, are laid where they weren't there. Made by gen_atatom.py. -/
namespace Go.Proofs.YtnfohbpgnbfmeaaGreatDoor
open Go.RowKit Big Go.WideMaps

def wBox {S : Nat → Prop} (c : Array Value) (t : TypeId) (N0 : Nat) : WFact S := ⟨fun v w => ∃ gg, v = .pointer (some ⟨gg, 0, none⟩) ∧ w.heap[gg]? = some (.cells c t (0, 0)) ∧ ¬ S gg ∧ N0 ≤ gg,
  fun _ _ _ ⟨gg, h1, h2, h3, h4⟩ hb => ⟨gg, h1, (hb.block gg (Array.getElem?_eq_some_iff.1 h2).1 h3).trans h2, h3, h4⟩⟩
def lnBx (c : Array Value) (t : TypeId) (N0 : Nat) : SFact := ⟨fun v w => ∃ gg, v = .pointer (some ⟨gg, 0, none⟩) ∧ w.heap[gg]? = some (.cells c t (0, 0)) ∧ N0 ≤ gg,
  fun _ _ _ ⟨gg, h1, h2, h4⟩ hb => ⟨gg, h1, (hb.block gg (Array.getElem?_eq_some_iff.1 h2).1).trans h2, h4⟩⟩
def AtJ (B g : Nat) (vr va : Value) (b1 b2 NI : Nat) (s : AtS) (N0 : Nat) (v : Value) (w : World) : Prop := ∃ vr', v = .int .i64 (NI : Nat) ∧ AtIn B w g vr' va (some b1) (some b2) s ∧ ∀ x, vr'.ownBlock = some x → vr.ownBlock = some x ∨ N0 ≤ x
theorem AtJ.below {B g : Nat} {vr va : Value} {b1 b2 NI : Nat} {s : AtS} {N0 : Nat} {v : Value} {w w' : World} (h : AtJ B g vr va b1 b2 NI s N0 v w) (hb : Below w.heap.size w w') : AtJ B g vr va b1 b2 NI s N0 v w' := by
  obtain ⟨vr', h1, h2, h3⟩ := h
  exact ⟨vr', h1, h2.below hb, h3⟩
theorem idx_map_on {α β : Type} [DecidableEq α] [DecidableEq β] {f : α → β} {x : α} : ∀ {l : List α}, (∀ a ∈ l, f a = f x → a = x) → atIdx (l.map f) (f x) = atIdx l x
  | [], _ => rfl
  | y :: l, hf => by
    have ih := idx_map_on (l := l) (fun a ha => hf a (by simp [ha]))
    unfold atIdx at ih ⊢
    rw [List.map_cons, List.idxOf_cons, List.idxOf_cons, ih]
    by_cases e : y = x
    · subst e; simp
    · have e1 : (f y == f x) = false := by simpa using fun h => e (hf y (by simp) h)
      have e2 : (y == x) = false := by simpa using e
      rw [e1, e2]
theorem atSize_max {z : Int} (h : sz W z.natAbs ≤ 7) : (atSize z).length ≤ maxLen := by have := atSize_len h; unfold maxLen; omega
theorem tab_up {B : Nat} {w : World} (h : Tb B w) (hB : B ≤ w.heap.size) : Tb w.heap.size w := fun w2 h2 => h w2 (h2.mono hB)
theorem tab_go {B : Nat} {w w' : World} (h : Tb B w) (hb : Below B w w') : Tb B w' := fun w2 h2 => h w2 (hb.trans h2)
theorem AtGood.keys {s : AtS} (hG : AtGood 7 s) {n : Nat} {k : Int} (hn : s.rows.length < 100000) (hn2 : n < 1000000) (hk : Big.sz W k.natAbs ≤ 7) : ∀ a ∈ s.atoms, atKey a = atKey (n, k) → a = (n, k) :=
  fun a ha e => atKey_inj (by have := hG.low a ha; omega) hn2 (atSize_max (hG.vsz a ha)) (atSize_max hk) e
set_option maxRecDepth 100000 in
set_option maxHeartbeats 12800000 in
theorem atom_any (B g N : Nat) (vr va : Value) (m1 m2 : Option Nat) (s : AtS) (pv s0 sk : Value) (r : AtRow) (k : Int) (w : World) (h : AtIn B w g vr va m1 m2 s) (hG : AtGood 7 s) (hB : B ≤ w.heap.size) (hS : ∀ b, atS g vr va m1 m2 b → b < N) (hN : N ≤ w.heap.size)
    (hv : PtsT w pv r) (hc : IntAt w (.agg #[.bool false, s0]) 0) (hf : ∀ b, pv.ownBlock = some b → N ≤ b) (hk : IntAt w (.agg #[.bool (decide (k < 0)), sk]) k) (hs : ∀ p ∈ r, sz W p.1.natAbs ≤ 7) (hw : ∀ p ∈ r, -9223372036854775808 ≤ p.2 ∧ p.2 ≤ 9223372036854775807) (hl : r.length ≤ 1000) (hne : r ≠ [])
    (hkz : sz W k.natAbs ≤ 7) (hn : s.rows.length < 50000) (hm : s.atoms.length < 50000) (htab : Tb B w) :
    Calls Tryz.prog 32 #[.pointer (some ⟨g, 0, none⟩), .agg #[pv, .bool false, s0], .agg #[.bool (decide (k < 0)), sk]] w fun e w' => e = .returned (.int .i64 ((atLay s r k).2 : Nat)) ∧
      ∃ vr' va' b1 b2, AtIn B w' g vr' va' (some b1) (some b2) (atLay s r k).1 ∧ Apart (atS g vr va m1 m2) w w' ∧ ∀ b, atS g vr' va' (some b1) (some b2) b → atS g vr va m1 m2 b ∨ w.heap.size ≤ b := by
  obtain ⟨i0, hij, hz0, hz1, hz2⟩ := info_parts infoAtom
  obtain ⟨pp, cp, rfl, -⟩ := id hv
  obtain ⟨ps, ns, cs, e1, hc⟩ := hc.shape
  obtain rfl : s0 = .slice ps ns cs := by injection e1 with e1; simp at e1; exact e1
  clear e1
  obtain ⟨pk, nk, ck, e1, hk⟩ := hk.shape
  obtain rfl : sk = .slice pk nk ck := by injection e1 with e1; simp at e1; exact e1
  clear e1
  have hc : IntAt w (.agg #[.bool false, .slice ps ns cs]) 0 := hc
  have hfb : ∀ b, (Value.slice pp r.length cp).ownBlock = some b → b < w.heap.size := fun b hb => by
    obtain ⟨b', off, n, s', t, e, -, -, -, hlt⟩ := hv.first hne
    rw [e] at hb; injection hb with hb; omega
  obtain ⟨L, hL⟩ : ∃ L, L = r.length := ⟨_, rfl⟩
  obtain ⟨dk, hdk⟩ : ∃ d, d = decide (k < 0) := ⟨_, rfl⟩
  have HL := hid hL; have Hdk := hid hdk
  rw [← hL] at hv hf hfb hl ⊢
  rw [← hdk] at hk ⊢
  have Hfb := hid hfb; have Hf := hid hf
  obtain ⟨NA, hNA⟩ : ∃ n, n = (atLay s r k).2 := ⟨_, rfl⟩
  obtain ⟨SA, hSA⟩ : ∃ n, n = (atLay s r k).1 := ⟨_, rfl⟩
  rw [← hNA, ← hSA]
  have HNA := hid hNA; have HSA := hid hSA
  obtain ⟨NI, hNI⟩ : ∃ n, n = atIdx s.rows r := ⟨_, rfl⟩
  obtain ⟨RS, hRS⟩ : ∃ n, n = atAdd s.rows r := ⟨_, rfl⟩
  have HNI := hid hNI; have HRS := hid hRS
  have hNIb : NI < 50001 := by
    have h1 := (atAdd_at s.rows r).1
    have h2 := atAdd_len s.rows r
    rw [hNI]; omega
  have HNIb := hid hNIb
  obtain ⟨W1, hW1⟩ : ∃ W1, W1 = (w.alloc (.cells #[.slice pp L cp, .bool false, .slice ps ns cs] 37)).alloc (.cells #[.bool dk, .slice pk nk ck] 35) := ⟨_, rfl⟩
  have z1 : W1.heap.size = w.heap.size + 2 := by rw [hW1, size_alloc, size_alloc]
  have b1' : Below w.heap.size w W1 := by rw [hW1]; exact (below1 _ _).alloc (by simp) _
  have e1 : W1.heap[w.heap.size]? = some (.cells #[.slice pp L cp, .bool false, .slice ps ns cs] 37 (0, 0)) := by rw [hW1, heap_alloc_old _ _ (by simp)]; exact heap_alloc_new _ _
  have e2 : W1.heap[w.heap.size + 1]? = some (.cells #[.bool dk, .slice pk nk ck] 35 (0, 0)) := by
    have := heap_alloc_new (w.alloc (.cells #[.slice pp L cp, .bool false, .slice ps ns cs] 37)) (.cells #[.bool dk, .slice pk nk ck] 35)
    rw [size_alloc] at this
    rw [hW1]; exact this
  have HRdy := hid (ready_any B g vr va m1 m2 s W1 (h.below b1') (by omega))
  have HIn := hid h; have HGd := hid hG; have B1 := hid b1'; have E1 := hid e1; have E2 := hid e2; have HBw := hid hB; have HS := hid hS; have HNw := hid hN
  have HV1 := hid (hv.below b1'); have HC1 := hid (hc.below b1'); have HK1 := hid (hk.below b1')
  have Htab := hid htab; have Hs := hid hs; have Hw := hid hw; have Hne := hid hne; have Hkz := hid hkz
  clear h hG b1' e1 e2 hB hS hv hc hk hf hfb htab hs hw hL hdk hNA hSA hNI hRS hne hkz
  go_enter Tryz.func32, Tryz.ntmps32
  go_upto_region 1 with fail
  rw [← hW1]
  clear hW1
  go_wp2_with fail
  refine HRdy.out.mono ?_
  rintro e w2 ⟨rfl, b1, b2, hI2, a2, hnew⟩
  have HI2 := hid hI2
  have z2 := a2.size
  have hgN := HS.out g (.inl rfl)
  have hNg := (HIn.out.below B1.out).own g (.inl rfl)
  have hS2 : ∀ b, atS g vr va (some b1) (some b2) b → atS g vr va m1 m2 b ∨ W1.heap.size ≤ b := by
    rintro b (e | e | e | e | e)
    · exact .inl (.inl e)
    · exact .inl (.inr (.inl e))
    · exact .inl (.inr (.inr (.inl e)))
    · injection e with e
      rcases hnew b (.inl e.symm) with h1 | h1 | h1
      · exact .inl (.inr (.inr (.inr (.inl h1))))
      · exact .inl (.inr (.inr (.inr (.inr h1))))
      · exact .inr h1
    · injection e with e
      rcases hnew b (.inr e.symm) with h1 | h1 | h1
      · exact .inl (.inr (.inr (.inr (.inl h1))))
      · exact .inl (.inr (.inr (.inr (.inr h1))))
      · exact .inr h1
  have HS2 := hid hS2
  have HSlo : Hid (∀ b, atS g vr va (some b1) (some b2) b → b < N ∨ W1.heap.size ≤ b) := hid fun b hb => by
    rcases hS2 b hb with e | e
    · exact .inl (HS.out b e)
    · exact .inr e
  have HSlt : Hid (∀ b, atS g vr va (some b1) (some b2) b → b < w2.heap.size) := hid fun b hb => (hI2.own b hb).2.1
  have hNgW : ∀ b, b = g → NoWd W1 b := fun b e => by rw [e]; exact hNg.2.2
  have HV2 := hid (HV1.out.apart a2 hNgW (fun b hb e => by have := Hf.out b hb; omega))
  have HC2 := hid (HC1.out.quiet a2 hNgW)
  have HK2 := hid (HK1.out.quiet a2 hNgW)
  have E12 := hid ((a2.block w.heap.size (by omega) (by have := HNw.out; omega)).trans E1.out)
  have E22 := hid ((a2.block (w.heap.size + 1) (by omega) (by have := HNw.out; omega)).trans E2.out)
  have A2 : Hid (Apart (atS g vr va m1 m2) w w2) := hid ((Apart.of_below B1.out).go (a2.mono (fun b e => .inl e)))
  have HbB2 : Hid (Below B w w2) := hid (Apart.below A2.out HBw.out (fun b hb => ((HIn.out).own b hb).1))
  have HtabW : Hid (∀ w', Below w2.heap.size w2 w' → Tb w'.heap.size w') := hid fun w' hb => tab_later (tab_up (tab_go Htab.out HbB2.out) (by have := HBw.out; omega)) hb
  have HRow : Hid (∀ w', Below w2.heap.size w2 w' → Calls Tryz.prog 54 #[.pointer (some ⟨g, 0, none⟩), .agg #[.slice pp L cp, .bool false, .slice ps ns cs]] w' fun e w'' => e = .returned (.int .i64 (NI : Nat)) ∧
      ∃ vr', AtIn B w'' g vr' va (some b1) (some b2) ⟨RS, s.atoms⟩ ∧ Apart (atS g vr va (some b1) (some b2)) w' w'' ∧ ∀ x, vr'.ownBlock = some x → vr.ownBlock = some x ∨ w'.heap.size ≤ x) := hid fun w' hb => by
    rw [HNI.out, HRS.out]
    exact row_any B g vr va b1 b2 s _ _ r w' (HI2.out.below hb) (by have := hb.size; have := HBw.out; omega) (HV2.out.below hb) (HC2.out.below hb) (fun x hx => ⟨by have := Hfb.out x hx; have := hb.size; omega, fun hs => by
      have h1 := Hf.out x hx
      have h2 := Hfb.out x hx
      rcases HSlo.out x hs with e | e <;> omega⟩) Hs.out Hw.out (by rw [← HL.out]; exact hl) Hne.out (by omega) (HtabW.out w' hb)
  have HSx : Hid (∀ w', Apart (atS g vr va (some b1) (some b2)) w2 w' → (w'.cell? ⟨w.heap.size, 0, none⟩ = some (.slice pp L cp) ∧ w'.cell? ⟨w.heap.size, 1, none⟩ = some (.bool false) ∧ w'.cell? ⟨w.heap.size, 2, none⟩ = some (.slice ps ns cs)) ∧ (w'.cell? ⟨w.heap.size + 1, 0, none⟩ = some (.bool dk) ∧ w'.cell? ⟨w.heap.size + 1, 1, none⟩ = some (.slice pk nk ck))) := hid fun w' ha => by
    have h1 := (ha.block w.heap.size (by omega) (fun e => by have := HSlo.out _ e; have := HNw.out; omega)).trans E12.out
    have h2 := (ha.block (w.heap.size + 1) (by omega) (fun e => by have := HSlo.out _ e; have := HNw.out; omega)).trans E22.out
    have h3 := two_cells h2
    exact ⟨lnCells3 h1, h3.1, h3.2.1⟩
  clear hS2 hI2 a2 hnew hgN hNg HRdy hNgW
  go_upto_region 2 with fail
  refine wp_region_write (w0 := w2) 6 1 [13, 14, 15, 16, 17, 7] [undef, undef, undef, undef, undef, undef] (S := (atS g vr va (some b1) (some b2)))
    (fun i => match i with | 0 => wEq (.pointer (some ⟨g, 0, none⟩)) | 1 => wEq (.agg #[.slice pp L cp, .bool false, .slice ps ns cs]) | 2 => wEq (.int .i64 (NI : Nat)) | 3 => wEq (.agg #[.bool dk, .slice pk nk ck]) | 4 => wEq (.agg #[.int .i64 (NI : Nat), .bool dk, .slice pk nk ck]) | _ => wBox #[.int .i64 0, .bool false, .slice none 0 0] 48 w2.heap.size) 2 (AtJ B g vr va b1 b2 NI ⟨RS, s.atoms⟩ w2.heap.size) (fun _ _ _ h hb => h.below hb) (by kernel_rfl) (by kernel_rfl) (by kernel_rfl) (by kernel_rfl) (by decide) rfl (by kernel_rfl) rfl (by decide) ?he4 ?_ ?_
  case he4 => simp only [putAll, Act.put, List.setIfInBounds_toArray, List.set_cons_zero, List.set_cons_succ]
  · intro i o hi ho vs wx hvl hb hB hdep K hK
    have hvs := vlen6 hvl
    obtain ⟨s13, s14, s15, s16, s17, s7, rfl⟩ := hvs
    clear hvl
    have hk := HSx.out wx hb
    obtain ⟨⟨q0, q1, q2⟩, q3, q4⟩ := hk
    rcases i with _ | _ | _ | _ | _ | _ | i
    all_goals (simp only [List.getElem?_toArray, List.getElem?_cons_zero, List.getElem?_cons_succ, Option.some.injEq] at ho)
    all_goals try (subst ho)
    all_goals try simp only [putAll, Act.put, List.setIfInBounds_toArray, List.set_cons_zero, List.set_cons_succ]
    · go_simp
      have hK' := hK.out
      simp only [putAll, Act.put, List.setIfInBounds_toArray, List.set_cons_zero, List.set_cons_succ] at hK'
      exact hK' _ _ rfl (fun _ => Below.refl _ _) (fun h => absurd h (by decide))
    · go_simp
      have hK' := hK.out
      simp only [putAll, Act.put, List.setIfInBounds_toArray, List.set_cons_zero, List.set_cons_succ] at hK'
      exact hK' _ _ rfl (fun _ => Below.refl _ _) (fun h => absurd h (by decide))
    · have e0 : s13 = _ := hdep ⟨0, .data⟩ (by simp) rfl
      have e0 := e0.symm
      subst e0
      have e1 : s14 = _ := hdep ⟨1, .data⟩ (by simp) rfl
      have e1 := e1.symm
      subst e1
      have hbB := hB (Or.inl rfl)
      go_simp
      refine (HRow.out wx hbB).mono ?_
      rintro e wy ⟨rfl, vr1, hI, hA, hJ⟩
      go_wp2_with fail
      have hK' := hK.out
      simp only [putAll, Act.put, List.setIfInBounds_toArray, List.set_cons_zero, List.set_cons_succ] at hK'
      exact hK' _ _ rfl (fun h => absurd rfl h) (fun _ => ⟨hA, vr1, rfl, hI, fun x hx => by rcases hJ x hx with e | e; exact .inl e; exact .inr (by have := hbB.size; omega)⟩)
    · go_simp
      have hK' := hK.out
      simp only [putAll, Act.put, List.setIfInBounds_toArray, List.set_cons_zero, List.set_cons_succ] at hK'
      exact hK' _ _ rfl (fun _ => Below.refl _ _) (fun h => absurd h (by decide))
    · have e2 : s15 = _ := hdep ⟨2, .data⟩ (by simp) rfl
      have e2 := e2.symm
      subst e2
      have e3 : s16 = _ := hdep ⟨3, .data⟩ (by simp) rfl
      have e3 := e3.symm
      subst e3
      go_simp
      have hK' := hK.out
      simp only [putAll, Act.put, List.setIfInBounds_toArray, List.set_cons_zero, List.set_cons_succ] at hK'
      exact hK' _ _ rfl (fun _ => Below.refl _ _) (fun h => absurd h (by decide))
    · go_simp
      have hK' := hK.out
      simp only [putAll, Act.put, List.setIfInBounds_toArray, List.set_cons_zero, List.set_cons_succ] at hK'
      exact hK' _ _ ⟨_, rfl, heap_alloc_new _ _, fun e => by have := HSlt.out _ e; have := hb.size; omega, hb.size⟩ (fun _ => below1 _ _) (fun h => absurd h (by decide))
    · omega
  · intro vs wx hvl hb hf hJw
    have hvs := vlen6 hvl
    obtain ⟨s13, s14, s15, s16, s17, s7, rfl⟩ := hvs
    have f4 : s17 = .agg #[.int .i64 (NI : Nat), .bool dk, .slice pk nk ck] := hf 4 (by decide)
    have f5 : (wBox (S := atS g vr va (some b1) (some b2)) #[.int .i64 0, .bool false, .slice none 0 0] 48 w2.heap.size).P s7 wx := hf 5 (by decide)
    obtain ⟨ga, e7, hga, hgS, hgN⟩ := f5
    subst f4 e7
    have hJw : AtJ B g vr va b1 b2 NI ⟨RS, s.atoms⟩ w2.heap.size s15 wx := hJw
    obtain ⟨vr1, e15, hIx, hJx⟩ := hJw
    subst e15
    clear hf hvl
    obtain ⟨x0, x1, x2⟩ := lnCells3 hga
    have fz0 := frozen_of_row wx ga 0 _ _ hga
    have fz1 := frozen_of_row wx ga 1 _ _ hga
    have fz2 := frozen_of_row wx ga 2 _ _ hga
    refine wpAny_one (i := 6) (by kernel_rfl) rfl ?_
    intro K hK
    simp only [putAll, Act.put, List.setIfInBounds_toArray, List.set_cons_zero, List.set_cons_succ]
    have hK' := hK.out
    go_simp
    apply hK'
    clear hK hK' fz0 fz1 fz2 x0 x1 x2
    refine wpAny_done (by kernel_rfl) ?_ _
    try simp only [putAll, Act.put, List.setIfInBounds_toArray, List.set_cons_zero, List.set_cons_succ]
    obtain ⟨W3, hW3⟩ : ∃ W3, W3 = ((wx.setCell ⟨ga, 0, none⟩ (.int .i64 (NI : Nat))).setCell ⟨ga, 1, none⟩ (.bool dk)).setCell ⟨ga, 2, none⟩ (.slice pk nk ck) := ⟨_, rfl⟩
    have a3 : Apart (fun b => b = ga) wx W3 := by rw [hW3]; exact ((apart_set _ _ _ _).go (apart_set _ _ _ _)).go (apart_set _ _ _ _)
    have e3 : W3.heap[ga]? = some (.cells #[.int .i64 (NI : Nat), .bool dk, .slice pk nk ck] 48 (0, 0)) := by
      rw [hW3]
      exact heap_setCell_same _ ga 2 _ _ _ (heap_setCell_same _ ga 1 _ _ _ (heap_setCell_same wx ga 0 _ _ (.int .i64 (NI : Nat)) hga))
    have hzx := hb.size
    have hz3 := a3.size
    have hva : va.ownBlock ≠ some ga := fun e => hgS (.inr (.inr (.inl e)))
    have hbx := hIx.box hga (by decide) (by decide) hva (fun n => ⟨by simp, by simp⟩) a3
    obtain ⟨hI3, hga3⟩ := hbx
    have HI3 := hid hI3
    have HgaS := hid hga3
    have HJx := hid hJx
    have HA3 : Hid (Apart (atS g vr va m1 m2) w W3) := hid ((A2.out.trans hb (fun b hb' => by
      rcases HS2.out b hb' with e | e
      · exact .inl e
      · exact .inr (by omega))).trans a3 (fun b e => .inr (by omega)))
    have hgal : ga < W3.heap.size := (Array.getElem?_eq_some_iff.1 e3).1
    have Hga : Hid (ga < W3.heap.size ∧ W3.heap[ga]? = some (.cells #[.int .i64 (NI : Nat), .bool dk, .slice pk nk ck] 48 (0, 0))) := hid ⟨hgal, e3⟩
    have hvbx := (hb.block (w.heap.size + 1) (by omega) (fun e => by have := HSlo.out _ e; have := HNw.out; omega)).trans E22.out
    have Hvb : Hid (w.heap.size + 1 < W3.heap.size ∧ W3.heap[w.heap.size + 1]? = some (.cells #[.bool dk, .slice pk nk ck] 35 (0, 0))) := hid ⟨by omega, (a3.block (w.heap.size + 1) (by omega) (by omega)).trans hvbx⟩
    have hNS : ∀ b, atS g vr va (some b1) (some b2) b → NoWd w2 b := fun b hb' => (HI2.out.own b hb').2.2
    have hNga : ∀ b, b = ga → NoWd wx b := fun b e => by rw [e]; exact NoWd.cells hga (by simp)
    have HK3 := hid ((HK2.out.quiet hb hNS).quiet a3 hNga)
    have HBB3 : Hid (Below B w W3) := hid (Apart.below HA3.out HBw.out (fun b hb => ((HIn.out).own b hb).1))
    have Htab3 : Hid (∀ w', Below W3.heap.size W3 w' → Tb w'.heap.size w') := hid fun w' hb => tab_later (tab_up (tab_go Htab.out HBB3.out) (by have := HBw.out; omega)) hb
    obtain ⟨TS, hTS⟩ : ∃ t, t = atSize k := ⟨_, rfl⟩
    have HTS := hid hTS
    have HSz : Hid (∀ w', Below W3.heap.size W3 w' → Calls Tryz.prog 55 #[.slice pk nk ck] w' fun e w'' => e = .returned (.string ⟨TS.toArray⟩) ∧ Below w'.heap.size w' w'') := hid fun w' hb' => by
      obtain ⟨sx, ex, hx⟩ := HK3.out.below hb'
      obtain rfl : sx = .slice pk nk ck := by injection ex with ex; simp at ex; exact ex.2.symm
      have h1 := sizeText_any (.slice pk nk ck) (dig W k.natAbs) w' hx (fun x hx => small_dig W2 k.natAbs x hx) (by have : (dig W k.natAbs).length ≤ 7 := Hkz.out; omega) (Htab3.out w' hb')
      rw [HTS.out]
      exact h1
    clear hTS hb hga hgS hIx hJx hI3 hga3 a3 e3 hva hvbx hNS hNga HSx HRow
    rw [← hW3]
    clear hW3
    go_upto_region 3 with fail
    refine wp_region_facts (w0 := W3) 9 1 [18, 19, 20, 21, 22, 23, 24, 25, 8] [undef, undef, undef, undef, undef, undef, undef, undef, undef]
      (fun i => match i with | 0 => lnE (.pointer (some ⟨ga, 0, none⟩)) | 1 => lnE (.int .i64 (NI : Nat)) | 2 => lnE (.pointer (some ⟨w.heap.size + 1, 0, none⟩)) | 3 => lnE (.bool dk) | 4 => lnE (.pointer (some ⟨w.heap.size + 1, 1, none⟩)) | 5 => lnE (.slice pk nk ck) | 6 => lnE (.string ⟨TS.toArray⟩) | 7 => lnE (.agg #[.int .i64 (NI : Nat), .bool dk, .string ⟨TS.toArray⟩]) | _ => lnBx #[.int .i64 0, .bool false, .string ⟨#[]⟩] 97 W3.heap.size) [] (by kernel_rfl) (by kernel_rfl) (by kernel_rfl) (by kernel_rfl) (by decide) rfl (by kernel_rfl) rfl (by simp) ?he3 ?_ ?_ ?_
    case he3 => simp only [putAll, Act.put, List.setIfInBounds_toArray, List.set_cons_zero, List.set_cons_succ]
    · intro i hi; simp at hi
    · intro i o hi ho vs wx hvl hb hdep K hK
      have hvs := vlen9 hvl
      obtain ⟨s18, s19, s20, s21, s22, s23, s24, s25, s8, rfl⟩ := hvs
      clear hvl
      obtain ⟨q0, q1, q2⟩ := lnCells3 ((hb.block ga Hga.out.1).trans Hga.out.2)
      obtain ⟨q3, q4, -, -⟩ := two_cells ((hb.block (w.heap.size + 1) Hvb.out.1).trans Hvb.out.2)
      rcases i with _ | _ | _ | _ | _ | _ | _ | _ | _ | i
      all_goals (simp only [List.getElem?_toArray, List.getElem?_cons_zero, List.getElem?_cons_succ, Option.some.injEq] at ho)
      all_goals try (subst ho)
      all_goals try simp only [putAll, Act.put, List.setIfInBounds_toArray, List.set_cons_zero, List.set_cons_succ]
      · go_simp
        have hK' := hK.out
        simp only [putAll, Act.put, List.setIfInBounds_toArray, List.set_cons_zero, List.set_cons_succ] at hK'
        exact hK' _ _ rfl (Below.refl _ _) (by simp)
      · have e0 : s18 = _ := hdep ⟨0, .data⟩ (by simp) rfl
        have e0 := e0.symm
        subst e0
        go_simp
        have hK' := hK.out
        simp only [putAll, Act.put, List.setIfInBounds_toArray, List.set_cons_zero, List.set_cons_succ] at hK'
        exact hK' _ _ rfl (Below.refl _ _) (by simp)
      · go_simp
        have hK' := hK.out
        simp only [putAll, Act.put, List.setIfInBounds_toArray, List.set_cons_zero, List.set_cons_succ] at hK'
        exact hK' _ _ rfl (Below.refl _ _) (by simp)
      · have e2 : s20 = _ := hdep ⟨2, .data⟩ (by simp) rfl
        have e2 := e2.symm
        subst e2
        go_simp
        have hK' := hK.out
        simp only [putAll, Act.put, List.setIfInBounds_toArray, List.set_cons_zero, List.set_cons_succ] at hK'
        exact hK' _ _ rfl (Below.refl _ _) (by simp)
      · go_simp
        have hK' := hK.out
        simp only [putAll, Act.put, List.setIfInBounds_toArray, List.set_cons_zero, List.set_cons_succ] at hK'
        exact hK' _ _ rfl (Below.refl _ _) (by simp)
      · have e4 : s22 = _ := hdep ⟨4, .data⟩ (by simp) rfl
        have e4 := e4.symm
        subst e4
        go_simp
        have hK' := hK.out
        simp only [putAll, Act.put, List.setIfInBounds_toArray, List.set_cons_zero, List.set_cons_succ] at hK'
        exact hK' _ _ rfl (Below.refl _ _) (by simp)
      · have e5 : s23 = _ := hdep ⟨5, .data⟩ (by simp) rfl
        have e5 := e5.symm
        subst e5
        go_simp
        go_simp
        refine (HSz.out wx hb).mono ?_
        rintro e wy ⟨rfl, hby⟩
        go_wp2_with fail
        have hK' := hK.out
        simp only [putAll, Act.put, List.setIfInBounds_toArray, List.set_cons_zero, List.set_cons_succ] at hK'
        exact hK' _ _ rfl hby (by simp)
      · have e1 : s19 = _ := hdep ⟨1, .data⟩ (by simp) rfl
        have e1 := e1.symm
        subst e1
        have e3 : s21 = _ := hdep ⟨3, .data⟩ (by simp) rfl
        have e3 := e3.symm
        subst e3
        have e6 : s24 = _ := hdep ⟨6, .data⟩ (by simp) rfl
        have e6 := e6.symm
        subst e6
        go_simp
        have hK' := hK.out
        simp only [putAll, Act.put, List.setIfInBounds_toArray, List.set_cons_zero, List.set_cons_succ] at hK'
        exact hK' _ _ rfl (Below.refl _ _) (by simp)
      · go_simp
        go_simp
        have hK' := hK.out
        simp only [putAll, Act.put, List.setIfInBounds_toArray, List.set_cons_zero, List.set_cons_succ] at hK'
        exact hK' _ _ ⟨_, rfl, heap_alloc_new _ _, hb.size⟩ (below1 _ _) (by simp)
      · omega
    · intro vs wx hvl hb hf hdist
      have hvs := vlen9 hvl
      obtain ⟨s18, s19, s20, s21, s22, s23, s24, s25, s8, rfl⟩ := hvs
      have f7 : s25 = .agg #[.int .i64 (NI : Nat), .bool dk, .string ⟨TS.toArray⟩] := hf 7 (by decide)
      have f8 : (lnBx #[.int .i64 0, .bool false, .string ⟨#[]⟩] 97 W3.heap.size).P s8 wx := hf 8 (by decide)
      obtain ⟨gb, e8, hgb, hgbN⟩ := f8
      subst f7 e8
      clear hf hvl hdist
      obtain ⟨x0, x1, x2⟩ := lnCells3 hgb
      have fz0 := frozen_of_row wx gb 0 _ _ hgb
      have fz1 := frozen_of_row wx gb 1 _ _ hgb
      have fz2 := frozen_of_row wx gb 2 _ _ hgb
      refine wpAny_one (i := 9) (by kernel_rfl) rfl ?_
      intro K hK
      simp only [putAll, Act.put, List.setIfInBounds_toArray, List.set_cons_zero, List.set_cons_succ]
      have hK' := hK.out
      go_simp
      apply hK'
      clear hK hK' fz0 fz1 fz2 x0 x1 x2
      refine wpAny_done (by kernel_rfl) ?_ _
      try simp only [putAll, Act.put, List.setIfInBounds_toArray, List.set_cons_zero, List.set_cons_succ]
      obtain ⟨W5, hW5⟩ : ∃ W5, W5 = ((wx.setCell ⟨gb, 0, none⟩ (.int .i64 (NI : Nat))).setCell ⟨gb, 1, none⟩ (.bool dk)).setCell ⟨gb, 2, none⟩ (.string ⟨TS.toArray⟩) := ⟨_, rfl⟩
      have a5 : Apart (fun b => b = gb) wx W5 := by rw [hW5]; exact ((apart_set _ _ _ _).go (apart_set _ _ _ _)).go (apart_set _ _ _ _)
      have e5 : W5.heap[gb]? = some (.cells #[.int .i64 (NI : Nat), .bool dk, .string ⟨TS.toArray⟩] 97 (0, 0)) := by
        rw [hW5]
        exact heap_setCell_same _ gb 2 _ _ _ (heap_setCell_same _ gb 1 _ _ _ (heap_setCell_same wx gb 0 _ _ (.int .i64 (NI : Nat)) hgb))
      have hzb := hb.size
      have hz5 := a5.size
      have hva5 : va.ownBlock ≠ some gb := fun e => by have := (HI3.out.atoms.base gb e).2.1; omega
      obtain ⟨hI5, hgb5⟩ := (HI3.out.below hb).box hgb (by decide) (by decide) hva5 (fun n => ⟨by simp, by simp⟩) a5
      have HI5 := hid hI5
      have hgaL := Hga.out.1
      have Hga5 : Hid (ga < W5.heap.size ∧ W5.heap[ga]? = some (.cells #[.int .i64 (NI : Nat), .bool dk, .slice pk nk ck] 48 (0, 0))) := hid ⟨by omega, (a5.block ga (by omega) (by omega)).trans ((hb.block ga hgaL).trans Hga.out.2)⟩
      have hNgb : ∀ b, b = gb → NoWd wx b := fun b e => by rw [e]; exact NoWd.cells hgb (by simp)
      have HK5 := hid ((HK3.out.below hb).quiet a5 hNgb)
      have hz3w := HA3.out.size
      have HA5 : Hid (Apart (atS g vr va m1 m2) w W5) := hid ((HA3.out.go (Apart.of_below hb)).trans a5 (fun b e => .inr (by omega)))
      have hgbl : gb < W5.heap.size := (Array.getElem?_eq_some_iff.1 e5).1
      have Hgb5 := hid e5
      have Hz5 : Hid (W3.heap.size ≤ gb ∧ gb < W5.heap.size ∧ ga < W3.heap.size) := hid ⟨hgbN, hgbl, hgaL⟩
      obtain ⟨x0, x1, x2, x3⟩ := atCells4 hI5.cells
      obtain ⟨y0, y1, y2⟩ := lnCells3 e5
      obtain ⟨KX, hKX⟩ : ∃ x, x = atKey (NI, k) := ⟨_, rfl⟩
      have hkey : keyOf Tryz.prog 97 (.agg #[.int .i64 (NI : Nat), .bool dk, .string ⟨TS.toArray⟩]) = some (.string KX) := by
        rw [hKX, Hdk.out, HTS.out]
        exact key_bound (NI, k) (wf_natA _ (by omega)) (atSize_max Hkz.out)
      have hkeys := HGd.out.keys (n := NI) (k := k) (by omega) (by omega) Hkz.out
      have hmemK : KX ∈ s.atoms.map atKey ↔ (NI, k) ∈ s.atoms := by
        rw [hKX]
        constructor
        · intro h
          obtain ⟨a, ha, e⟩ := List.mem_map.1 h
          rw [← hkeys a ha e]; exact ha
        · exact fun h => List.mem_map.2 ⟨_, h, rfl⟩
      have hidxK : atIdx (s.atoms.map atKey) KX = atIdx s.atoms (NI, k) := by rw [hKX]; exact idx_map_on hkeys
      have HKX := hid hKX
      have hmaps := hI5.maps
      rcases hmaps with ⟨h1, -⟩ | ⟨c1, c2, h1, h2, k1, k2, k3, k4, k5⟩
      · cases h1
      injection h1 with h1; injection h2 with h2
      subst h1 h2
      have K4 := hid k4; have K5 := hid k5; have K3 := hid k3
      obtain ⟨n0, hlk, hli⟩ := k5.look keyedBound Tryz.underlying68 hkey
      have hrun := hlk W5 rfl
      have hrunD := fun n => hlk (W5.drewN n) rfl
      clear hKX hb hgb a5 e5 hva5 hI5 hgb5 hNgb hlk k4 k5 hkeys
      rw [← hW5]
      clear hW5
      have hNAx : NA = atIdx s.atoms (NI, k) := by rw [HNA.out, HNI.out]; rfl
      by_cases hmem : (NI, k) ∈ s.atoms
      · have hc1 : decide (KX ∈ s.atoms.map atKey) = true := decide_eq_true (hmemK.2 hmem)
        rw [hc1] at hrun
        have hrunD : ∀ n, _ := fun n => by have := hrunD n; rw [hc1] at this; exact this
        have hn0 := hli (hmemK.2 hmem)
        rw [hidxK, ← hNAx] at hn0
        subst hn0
        have HSAx : Hid (SA = ⟨RS, s.atoms⟩) := hid (by
          rw [HSA.out, HRS.out]
          unfold atLay
          have : atAdd s.atoms (atIdx s.rows r, k) = s.atoms := by
            unfold atAdd
            rw [← HNI.out, if_pos hmem]
          rw [this])
        clear hli hidxK hmemK hmem hNAx
        go_wp2_with fail
        go_quiet (fail)
        have b6 : Below W5.heap.size W5 (W5.drewN nq) := below_drewN (Below.refl _ _) _
        have HF := hid (HI5.out.below b6)
        have HAF : Hid (Apart (atS g vr va m1 m2) w (W5.drewN nq)) := hid (HA5.out.go (Apart.of_below b6))
        clear b6
        go_wp2
        go_ret
        refine ⟨rfl, vr1, va, b1, b2, by rw [HSAx.out]; exact HF.out, HAF.out, fun b hb => ?_⟩
        have hlo : ∀ b, atS g vr va (some b1) (some b2) b → atS g vr va m1 m2 b ∨ w.heap.size ≤ b := fun b hb => by
          rcases HS2.out b hb with e | e
          · exact .inl e
          · exact .inr (by omega)
        rcases hb with e | e | e | e | e
        · exact .inl (.inl e)
        · rcases HJx.out b e with e | e
          · exact .inl (.inr (.inl e))
          · exact .inr (by omega)
        · exact .inl (.inr (.inr (.inl e)))
        · exact hlo b (.inr (.inr (.inr (.inl e))))
        · exact hlo b (.inr (.inr (.inr (.inr e))))
      · have hc1 : decide (KX ∈ s.atoms.map atKey) = false := decide_eq_false (fun hh => hmem (hmemK.1 hh))
        rw [hc1] at hrun
        have hrunD : ∀ n, _ := fun n => by have := hrunD n; rw [hc1] at this; exact this
        have HSAx : Hid (SA = ⟨RS, s.atoms ++ [(NI, k)]⟩) := hid (by
          rw [HSA.out, HRS.out]
          unfold atLay
          have : atAdd s.atoms (atIdx s.rows r, k) = s.atoms ++ [(NI, k)] := by
            unfold atAdd
            rw [← HNI.out, if_neg hmem]
          rw [this])
        have HnK : Hid (KX ∉ s.atoms.map atKey) := hid (fun hh => hmem (hmemK.1 hh))
        have HNn : Hid (NA = s.atoms.length) := hid (by rw [hNAx]; exact atIdx_len hmem)
        obtain ⟨n, hnn⟩ : ∃ n, n = s.atoms.length := ⟨_, rfl⟩
        rw [← hnn] at HNn
        have hshA := HI5.out.atoms.shape
        obtain ⟨pA, cA, hvA⟩ := hshA
        rw [← hnn] at hvA
        have Hnn := hid hnn
        have hm : n < 50000 := by rw [hnn]; exact hm
        clear hli hidxK hmemK hmem hNAx hnn
        subst hvA
        go_wp2_with fail
        go_quiet (fail)
        obtain ⟨W6, hW6⟩ : ∃ W6, W6 = W5.drewN nq := ⟨_, rfl⟩
        have b6 : Below W5.heap.size W5 W6 := by rw [hW6]; exact below_drewN (Below.refl _ _) _
        have z6 : W6.heap.size = W5.heap.size := by rw [hW6]; rfl
        have hI6 := HI5.out.below b6
        have HI6 := hid hI6
        have Hga6 : Hid (ga < W6.heap.size ∧ W6.heap[ga]? = some (.cells #[.int .i64 (NI : Nat), .bool dk, .slice pk nk ck] 48 (0, 0))) := hid ⟨by have := Hga5.out.1; omega, (b6.block ga Hga5.out.1).trans Hga5.out.2⟩
        have hzz := Hz5.out
        have Hgb6 : Hid (W6.heap[gb]? = some (.cells #[.int .i64 (NI : Nat), .bool dk, .string ⟨TS.toArray⟩] 97 (0, 0))) := hid ((b6.block gb (by omega)).trans Hgb5.out)
        have HK6 := hid (HK5.out.below b6)
        have HA6 : Hid (Apart (atS g vr (.slice pA n cA) m1 m2) w W6) := hid (HA5.out.go (Apart.of_below b6))
        have K56 := hid (K5.out.keep (b6.block b2 K5.out.lt))
        have K46 := hid (K4.out.keep (b6.block b1 K4.out.lt))
        clear x0 x1 x2 x3 y0 y1 y2 hrun hrunD
        obtain ⟨x0, x1, x2, x3⟩ := atCells4 hI6.cells
        have hbase := hI6.atoms.base
        have ap := hI6.apart4
        have Hap := hid ap
        have hrow := hI6.atoms.row
        obtain ⟨xs, hrw, hgo⟩ := hrow
        rw [← Hnn.out] at hrw hgo
        have Hgo := hid (fun (Q' : World → List Value → Nat × Int → Prop) => @hgo Q')
        have Hrow := hid hrw.base0
        have Hvlt : Hid (∀ x, (Value.slice pA n cA).ownBlock = some x → x < W6.heap.size) := hid fun x hx => (hbase x hx).2.1
        have HvaW : Hid ((Value.slice pA n cA).ownBlock ≠ some ga ∧ (Value.slice pA n cA).ownBlock ≠ some gb) := hid ⟨fun e => HgaS.out (.inr (.inr (.inl e))), fun e => by
          have := (HI3.out.atoms.base gb e).2.1
          omega⟩
        have HS : Hid (∀ w', Apart (fun x => (Value.slice pA n cA).ownBlock = some x) W6 w' → (w'.cell? ⟨g, 0, none⟩ = some vr1 ∧ w'.cell? ⟨g, 1, none⟩ = some (Value.slice pA n cA) ∧ w'.cell? ⟨g, 2, none⟩ = some (.map (some b1)) ∧ w'.cell? ⟨g, 3, none⟩ = some (.map (some b2))) ∧ (∀ j, w'.frozen? ⟨g, j, none⟩ = false) ∧
            (w'.cell? ⟨ga, 0, none⟩ = some (.int .i64 (NI : Nat)) ∧ w'.cell? ⟨ga, 1, none⟩ = some (.bool dk) ∧ w'.cell? ⟨ga, 2, none⟩ = some (.slice pk nk ck))) := hid fun w' ha => by
          have h1 := (ha.block g (HI6.out.own g (.inl rfl)).2.1 (fun e => Hap.out.2.1 e)).trans HI6.out.cells
          have h2 := (ha.block ga Hga6.out.1 (fun e => HvaW.out.1 e)).trans Hga6.out.2
          exact ⟨atCells4 h1, fun j => frozen_of_row w' g j _ _ h1, lnCells3 h2⟩
        clear b6 hI6 hbase ap hgo hrw
        rw [← hW6]
        clear hW6
        go_upto_region 7 with fail
        clear x0 x1 x2 x3
        refine wp_region_write (w0 := W6) 10 1 [42, 43, 44, 45, 46, 47, 48, 49, 50, 51] [undef, undef, undef, undef, undef, undef, undef, undef, undef, undef] (S := (fun k => (Value.slice pA n cA).ownBlock = some k))
          (fun i => match i with | 0 => wEq (.pointer (some ⟨g, 0, none⟩)) | 1 => wEq (.pointer (some ⟨g, 0, none⟩)) | 2 => wEq (.pointer (some ⟨g, 0, none⟩)) | 3 => wEq (.pointer (some ⟨g, 1, none⟩)) | 4 => wEq (Value.slice pA n cA) | 5 => wEq (.agg #[.int .i64 (NI : Nat), .bool dk, .slice pk nk ck]) | 6 => lnRow [.int .i64 (NI : Nat), .bool dk, .slice pk nk ck] 48 | 7 => wAny | 8 => wEq (.pointer (some ⟨g, 0, none⟩)) | _ => wEq (.pointer (some ⟨g, 1, none⟩))) 7 (RowJW 48 3 (n + 1) ((xs) ++ [.int .i64 (NI : Nat), .bool dk, .slice pk nk ck]) (Value.slice pA n cA) W6.heap.size) (fun _ _ _ h hb => h.below hb) (by kernel_rfl) (by kernel_rfl) (by kernel_rfl) (by kernel_rfl) (by decide) rfl (by kernel_rfl) rfl (by decide) ?he2 ?_ ?_
        case he2 => simp only [putAll, Act.put, List.setIfInBounds_toArray, List.set_cons_zero, List.set_cons_succ]
        · intro i o hi ho vs wx hvl hb hB hdep K hK
          have hvs := vlen10 hvl
          obtain ⟨s42, s43, s44, s45, s46, s47, s48, s49, s50, s51, rfl⟩ := hvs
          clear hvl
          have hk := HS.out wx hb
          obtain ⟨⟨q0, q1, q2, q3⟩, -, hbox⟩ := hk
          go_split_ands
          rcases i with _ | _ | _ | _ | _ | _ | _ | _ | _ | _ | i
          all_goals (simp only [List.getElem?_toArray, List.getElem?_cons_zero, List.getElem?_cons_succ, Option.some.injEq] at ho)
          all_goals try (subst ho)
          all_goals try simp only [putAll, Act.put, List.setIfInBounds_toArray, List.set_cons_zero, List.set_cons_succ]
          · go_simp
            have hK' := hK.out
            simp only [putAll, Act.put, List.setIfInBounds_toArray, List.set_cons_zero, List.set_cons_succ] at hK'
            exact hK' _ _ rfl (fun _ => Below.refl _ _) (fun h => absurd h (by decide))
          · go_simp
            have hK' := hK.out
            simp only [putAll, Act.put, List.setIfInBounds_toArray, List.set_cons_zero, List.set_cons_succ] at hK'
            exact hK' _ _ rfl (fun _ => Below.refl _ _) (fun h => absurd h (by decide))
          · have e1 : s43 = _ := hdep ⟨1, .data⟩ (by simp) rfl
            have e1 := e1.symm
            subst e1
            go_simp
            have hK' := hK.out
            simp only [putAll, Act.put, List.setIfInBounds_toArray, List.set_cons_zero, List.set_cons_succ] at hK'
            exact hK' _ _ rfl (fun _ => Below.refl _ _) (fun h => absurd h (by decide))
          · have e2 : s44 = _ := hdep ⟨2, .data⟩ (by simp) rfl
            have e2 := e2.symm
            subst e2
            go_simp
            have hK' := hK.out
            simp only [putAll, Act.put, List.setIfInBounds_toArray, List.set_cons_zero, List.set_cons_succ] at hK'
            exact hK' _ _ rfl (fun _ => Below.refl _ _) (fun h => absurd h (by decide))
          · have e3 : s45 = _ := hdep ⟨3, .data⟩ (by simp) rfl
            have e3 := e3.symm
            subst e3
            go_simp
            have hK' := hK.out
            simp only [putAll, Act.put, List.setIfInBounds_toArray, List.set_cons_zero, List.set_cons_succ] at hK'
            exact hK' _ _ rfl (fun _ => Below.refl _ _) (fun h => absurd h (by decide))
          · go_simp
            have hK' := hK.out
            simp only [putAll, Act.put, List.setIfInBounds_toArray, List.set_cons_zero, List.set_cons_succ] at hK'
            exact hK' _ _ rfl (fun _ => Below.refl _ _) (fun h => absurd h (by decide))
          · have e5 : s47 = _ := hdep ⟨5, .data⟩ (by simp) rfl
            have e5 := e5.symm
            subst e5
            go_simp
            have hK' := hK.out
            simp only [putAll, Act.put, List.setIfInBounds_toArray, List.set_cons_zero, List.set_cons_succ] at hK'
            exact hK' _ _ ⟨_, rfl, heap_alloc_new _ _, fun e => by have := Hvlt.out _ e; have := hb.size; omega⟩ (fun _ => below1 _ _) (fun h => absurd h (by decide))
          · have e4 : s46 = _ := hdep ⟨4, .data⟩ (by simp) rfl
            have e4 := e4.symm
            subst e4
            have e6 : (lnRow [.int .i64 (NI : Nat), .bool dk, .slice pk nk ck] 48).P s48 wx := hdep ⟨6, .data⟩ (by simp) rfl
            have hbB := hB (Or.inl rfl)
            obtain ⟨gg, e8, hg8, -⟩ := e6
            subst e8
            have hrow : RowW wx 0 48 3 (Value.slice pA n cA) (n) (xs) := Hrow.out.stays fun k hk => hbB.block k (Hvlt.out k hk)
            have hK' := hK.out
            simp only [putAll, Act.put, List.setIfInBounds_toArray, List.set_cons_zero, List.set_cons_succ] at hK'
            rw [if_pos (by rfl)]
            refine step_append_w (.tmp 46) (.tmp 48) 28 ?ho 0 48 i0 _ 3 40 Tryz.underlying28 hij hz0 hz1 hz2 rfl (by decide) (by intro n h; simp [Value.cells] at h) (Value.slice pA n cA) (n) (xs) ?hs hrow ⟨gg, 0, none⟩ 1 1 [.int .i64 (NI : Nat), .bool dk, .slice pk nk ck] ?hx rfl ?c1 ?c2 (by intro n h; simp at h) ?c3 ?c4 (Nat.zero_le _) ?_
            case ho => rfl
            case hs => rfl
            case hx => rfl
            case c1 => exact lnCellsAt hg8
            case c2 => intro u hu; simp at hu; (rcases hu with rfl | rfl | rfl <;> rfl)
            case c3 => simp [maxLen]; omega
            case c4 => omega
            intro v' w' hown' hgrow hat
            refine hK' _ _ trivial (fun h => absurd rfl h) (fun _ => ⟨(Apart.refl _ _).grown hgrow (fun k e => e), hown', fun k hk => ?_⟩)
            rcases hat k hk with hat | hat
            · exact .inl hat
            · exact .inr (by have := hbB.size; omega)
          · have e0 : s42 = _ := hdep ⟨0, .data⟩ (by simp) rfl
            have e0 := e0.symm
            subst e0
            go_simp
            have hK' := hK.out
            simp only [putAll, Act.put, List.setIfInBounds_toArray, List.set_cons_zero, List.set_cons_succ] at hK'
            exact hK' _ _ rfl (fun _ => Below.refl _ _) (fun h => absurd h (by decide))
          · have e8 : s50 = _ := hdep ⟨8, .data⟩ (by simp) rfl
            have e8 := e8.symm
            subst e8
            go_simp
            have hK' := hK.out
            simp only [putAll, Act.put, List.setIfInBounds_toArray, List.set_cons_zero, List.set_cons_succ] at hK'
            exact hK' _ _ rfl (fun _ => Below.refl _ _) (fun h => absurd h (by decide))
          · omega
        · intro vs wx hvl hb hf hJw
          have hvs := vlen10 hvl
          obtain ⟨s42, s43, s44, s45, s46, s47, s48, s49, s50, s51, rfl⟩ := hvs
          have fp : s51 = .pointer (some ⟨g, 1, none⟩) := hf 9 (by decide)
          subst fp
          have hJw : RowJW 48 3 (n + 1) ((xs) ++ [.int .i64 (NI : Nat), .bool dk, .slice pk nk ck]) (Value.slice pA n cA) W6.heap.size s49 wx := hJw
          obtain ⟨hj1, hj2⟩ := hJw
          obtain ⟨pz, cz, ev⟩ := ownsRow_shape hj1.1
          subst ev
          clear hf hvl
          have hk := HS.out wx hb
          obtain ⟨⟨q0, q1, q2, q3⟩, fz, -⟩ := hk
          refine wpAny_one (i := 10) (by kernel_rfl) rfl ?_
          intro K hK
          simp only [putAll, Act.put, List.setIfInBounds_toArray, List.set_cons_zero, List.set_cons_succ]
          have hK' := hK.out
          have fzz := fz 1
          go_simp
          apply hK'
          clear hK hK' q0 q1 q2 q3 fz fzz
          refine wpAny_done (by kernel_rfl) ?_ _
          try simp only [putAll, Act.put, List.setIfInBounds_toArray, List.set_cons_zero, List.set_cons_succ]
          obtain ⟨W8, hW8⟩ : ∃ W8, W8 = wx.setCell ⟨g, 1, none⟩ (.slice pz (n + 1) cz) := ⟨_, rfl⟩
          have hlg := (HI6.out.own g (.inl rfl)).2.1
          have hlb := K56.out.lt
          have hgx := (hb.block g hlg (fun e => Hap.out.2.1 e)).trans HI6.out.cells
          have hgb2 : g ≠ b2 := fun e => Hap.out.2.2.2.1 (by rw [e])
          have a8 : Apart (fun x => x = g) wx W8 := by rw [hW8]; exact apart_set _ _ _ _
          have e8 : W8.heap[g]? = some (.cells #[vr1, .slice pz (n + 1) cz, .map (some b1), .map (some b2)] 70 (0, 0)) := by rw [hW8]; exact heap_setCell_same wx g 1 _ _ _ hgx
          have hzx := hb.size
          have hz8 := a8.size
          have hgl8 : g < W8.heap.size := (Array.getElem?_eq_some_iff.1 e8).1
          have Hg8 : Hid (g < W8.heap.size ∧ W8.heap[g]? = some (.cells #[vr1, .slice pz (n + 1) cz, .map (some b1), .map (some b2)] 70 (0, 0))) := hid ⟨hgl8, e8⟩
          have hgb6l : gb < W6.heap.size := (Array.getElem?_eq_some_iff.1 Hgb6.out).1
          have hggb : gb ≠ g := fun e => by
            have h1 := Hgb6.out
            rw [e, HI6.out.cells] at h1
            injection h1 with h1; injection h1 with _ h1; exact absurd h1 (by decide)
          have Hgb8 : Hid (gb < W8.heap.size ∧ W8.heap[gb]? = some (.cells #[.int .i64 (NI : Nat), .bool dk, .string ⟨TS.toArray⟩] 97 (0, 0))) := hid ⟨by omega, (a8.block gb (by omega) hggb).trans ((hb.block gb hgb6l (fun e => HvaW.out.2 e)).trans Hgb6.out)⟩
          have K58 := hid (K56.out.keep ((a8.block b2 (by omega) (fun e => hgb2 e.symm)).trans (hb.block b2 hlb (fun e => (Hap.out.2.2.2.2.2 b2 e).2 rfl))))
          obtain ⟨w7, hw7⟩ : ∃ y, y = wx := ⟨_, rfl⟩
          rw [← hw7] at hb a8 hj1 hzx hz8
          have HbX := hid hb; have Ha8 := hid a8; have Hj1 := hid hj1; have Hj2 := hid hj2
          have Hgb2 := hid hgb2
          have Hzz8 : Hid (W6.heap.size ≤ w7.heap.size ∧ w7.heap.size ≤ W8.heap.size ∧ g < W6.heap.size ∧ b2 < W6.heap.size) := hid ⟨hzx, hz8, hlg, hlb⟩
          rw [← hW8]
          clear hW8 hw7 hb a8 e8 hj1 hj2 hgx hgb2 hggb
          go_upto_region 8 with fail
          refine wp_region_facts (w0 := W8) 6 1 [52, 53, 54, 55, 56, 57] [undef, undef, undef, undef, undef, undef]
            (fun i => match i with | 0 => lnE (.pointer (some ⟨g, 0, none⟩)) | 1 => lnE (.pointer (some ⟨g, 0, none⟩)) | 2 => lnE (.pointer (some ⟨g, 3, none⟩)) | 3 => lnE (.map (some b2)) | 4 => lnE (.agg #[.int .i64 (NI : Nat), .bool dk, .string ⟨TS.toArray⟩]) | _ => lnE (.int .i64 (n : Nat))) [] (by kernel_rfl) (by kernel_rfl) (by kernel_rfl) (by kernel_rfl) (by decide) rfl (by kernel_rfl) rfl (by simp) ?he1 ?_ ?_ ?_
          case he1 => simp only [putAll, Act.put, List.setIfInBounds_toArray, List.set_cons_zero, List.set_cons_succ]
          · intro i hi; simp at hi
          · intro i o hi ho vs wx hvl hb hdep K hK
            have hvs := vlen6 hvl
            obtain ⟨s52, s53, s54, s55, s56, s57, rfl⟩ := hvs
            clear hvl
            obtain ⟨q0, q1, q2, q3⟩ := atCells4 ((hb.block g Hg8.out.1).trans Hg8.out.2)
            obtain ⟨q4, q5, q6⟩ := lnCells3 ((hb.block gb Hgb8.out.1).trans Hgb8.out.2)
            rcases i with _ | _ | _ | _ | _ | _ | i
            all_goals (simp only [List.getElem?_toArray, List.getElem?_cons_zero, List.getElem?_cons_succ, Option.some.injEq] at ho)
            all_goals try (subst ho)
            all_goals try simp only [putAll, Act.put, List.setIfInBounds_toArray, List.set_cons_zero, List.set_cons_succ]
            · go_simp
              have hK' := hK.out
              simp only [putAll, Act.put, List.setIfInBounds_toArray, List.set_cons_zero, List.set_cons_succ] at hK'
              exact hK' _ _ rfl (Below.refl _ _) (by simp)
            · have e0 : s52 = _ := hdep ⟨0, .data⟩ (by simp) rfl
              have e0 := e0.symm
              subst e0
              go_simp
              have hK' := hK.out
              simp only [putAll, Act.put, List.setIfInBounds_toArray, List.set_cons_zero, List.set_cons_succ] at hK'
              exact hK' _ _ rfl (Below.refl _ _) (by simp)
            · have e1 : s53 = _ := hdep ⟨1, .data⟩ (by simp) rfl
              have e1 := e1.symm
              subst e1
              go_simp
              have hK' := hK.out
              simp only [putAll, Act.put, List.setIfInBounds_toArray, List.set_cons_zero, List.set_cons_succ] at hK'
              exact hK' _ _ rfl (Below.refl _ _) (by simp)
            · have e2 : s54 = _ := hdep ⟨2, .data⟩ (by simp) rfl
              have e2 := e2.symm
              subst e2
              go_simp
              have hK' := hK.out
              simp only [putAll, Act.put, List.setIfInBounds_toArray, List.set_cons_zero, List.set_cons_succ] at hK'
              exact hK' _ _ rfl (Below.refl _ _) (by simp)
            · go_simp
              have hK' := hK.out
              simp only [putAll, Act.put, List.setIfInBounds_toArray, List.set_cons_zero, List.set_cons_succ] at hK'
              exact hK' _ _ rfl (Below.refl _ _) (by simp)
            · go_simp
              have hK' := hK.out
              simp only [putAll, Act.put, List.setIfInBounds_toArray, List.set_cons_zero, List.set_cons_succ] at hK'
              exact hK' _ _ rfl (Below.refl _ _) (by simp)
            · omega
          · intro vs wx hvl hb hf hdist
            have hvs := vlen6 hvl
            obtain ⟨s52, s53, s54, s55, s56, s57, rfl⟩ := hvs
            have f3 : s55 = .map (some b2) := hf 3 (by decide)
            have f4 : s56 = .agg #[.int .i64 (NI : Nat), .bool dk, .string ⟨TS.toArray⟩] := hf 4 (by decide)
            have f5 : s57 = .int .i64 (n : Nat) := hf 5 (by decide)
            subst f3 f4 f5
            clear hf hvl hdist
            obtain ⟨w9, hrun9, hP9, hA9⟩ := (K58.out.keep (hb.block b2 K58.out.lt)).put keyedBound Tryz.underlying68 hkey HnK.out (by simp; omega)
            rw [List.length_map, ← Hnn.out] at hrun9
            refine wpAny_one (i := 6) (by kernel_rfl) rfl ?_
            intro K hK
            simp only [putAll, Act.put, List.setIfInBounds_toArray, List.set_cons_zero, List.set_cons_succ]
            have hK' := hK.out
            refine oper_map (.tmp 55) (.tmp 56) (.tmp 57) 68 rfl _ _ _ rfl rfl rfl rfl hrun9 ?_
            apply hK'
            clear hK hK' hrun9
            refine wpAny_done (by kernel_rfl) ?_ _
            have hzq := Hzz8.out
            have hNg := (HI6.out.own g (.inl rfl)).2.2
            have hNb := (HI6.out.own b2 (.inr (.inr (.inr (.inr rfl))))).2.2
            have hB6 : B ≤ W6.heap.size := by have := HA6.out.size; have := HBw.out; omega
            have hvB : ∀ x, (Value.slice pz (n + 1) cz).ownBlock = some x → B ≤ x ∧ x ≠ g ∧ x ≠ b2 ∧ vr1.ownBlock ≠ some x ∧ x ≠ b1 := fun x hx => by
              rcases Hj2.out x hx with e | e
              · have h1 := (HI6.out.atoms.base x e).1
                have h2 := Hap.out.2.2.2.2.2 x e
                exact ⟨h1, fun e2 => Hap.out.2.1 (by rw [← e2]; exact e), fun e2 => h2.2 (by rw [e2]), fun e2 => (Hap.out.2.2.2.2.1 x e2).1 e, fun e2 => h2.1 (by rw [e2])⟩
              · refine ⟨by omega, by omega, by omega, fun e2 => ?_, fun e2 => ?_⟩
                · have := (HI6.out.rows.base x e2).2.1; omega
                · have := K46.out.lt; omega
            have hAx : LsG 48 3 AmQ B w7 (.slice pz (n + 1) cz) (s.atoms ++ [(NI, k)]) := by
              refine Hgo.out _ w7 _ [.int .i64 (NI : Nat), .bool dk, .slice pk nk ck] (NI, k) (Hj1.out.up (fun x hx => (hvB x hx).1)) rfl (fun c x hx => hx.go HbX.out (fun b hb => (HI6.out.atoms.base b hb).2.2)) ?_
              have := HK6.out.quiet HbX.out (fun b hb => (HI6.out.atoms.base b hb).2.2)
              rw [Hdk.out] at this ⊢
              exact ⟨_, rfl, this⟩
            have a89 : Apart (fun x => x = g ∨ x = b2) w7 w9 := ((Ha8.out.go (Apart.of_below hb)).mono (fun x h => .inl h)).go (hA9.mono (fun x h => .inr h))
            have a69 : Apart (fun x => (Value.slice pA n cA).ownBlock = some x ∨ x = g ∨ x = b2) W6 w9 := (HbX.out.mono (fun x h => .inl h)).go (a89.mono (fun x h => .inr h))
            have hN6 : ∀ x, ((Value.slice pA n cA).ownBlock = some x ∨ x = g ∨ x = b2) → NoWd W6 x := by
              rintro x (e | e | e)
              · exact (HI6.out.atoms.base x e).2.2
              · rw [e]; exact hNg
              · rw [e]; exact hNb
            have hNx : ∀ x, (x = g ∨ x = b2) → NoWd w7 x := by
              rintro x (e | e)
              · rw [e]; exact hNg.keep (HbX.out.block g hzq.2.2.1 (fun e => Hap.out.2.1 e))
              · rw [e]; exact hNb.keep (HbX.out.block b2 hzq.2.2.2 (fun e => (Hap.out.2.2.2.2.2 b2 e).2 rfl))
            have hA9' : LsG 48 3 AmQ B w9 (.slice pz (n + 1) cz) (s.atoms ++ [(NI, k)]) :=
              hAx.kept (fun x hx => a89.block x (hAx.base x hx).2.1 (fun e => by rcases e with e | e; exact (hvB x hx).2.1 e; exact (hvB x hx).2.2.1 e)) (fun c x hx => hx.go a89 hNx)
            have hR9 : LsG 37 3 (RwQ fun b => ¬ atS g vr1 (.slice pz (n + 1) cz) (some b1) (some b2) b) B w9 vr1 RS := by
              refine HI6.out.rows.kept (fun x hx => a69.block x (HI6.out.rows.base x hx).2.1 (fun e => by rcases e with e | e | e; exact (Hap.out.2.2.2.2.1 x hx).1 e; exact Hap.out.1 (by rw [← e]; exact hx); exact (Hap.out.2.2.2.2.1 x hx).2.2 (by rw [e]))) (fun c x hx => hx.go a69 hN6 (fun b hp e => hp (by rcases e with e | e | e; exact .inr (.inr (.inl e)); exact .inl e; exact .inr (.inr (.inr (.inr (by rw [e])))))) (fun x hlx hp hS' => ?_))
              rcases hS' with e | e | e | e | e
              · exact hp (.inl e)
              · exact hp (.inr (.inl e))
              · rcases Hj2.out x e with e | e
                · exact hp (.inr (.inr (.inl e)))
                · omega
              · exact hp (.inr (.inr (.inr (.inl e))))
              · exact hp (.inr (.inr (.inr (.inr e))))
            have hI9 : AtIn B w9 g vr1 (.slice pz (n + 1) cz) (some b1) (some b2) SA := by
              rw [HSAx.out]
              refine ⟨HI6.out.base, (hA9.block g (by have := hb.size; omega) Hgb2.out).trans ((hb.block g Hg8.out.1).trans Hg8.out.2), hR9, hA9', .inr ⟨b1, b2, rfl, rfl, k1, k2, K3.out, K46.out.keep (a69.block b1 K46.out.lt ?_), by rw [List.map_append]; show PlAt _ _ _ (_ ++ [atKey (NI, k)]); rw [← HKX.out]; exact hP9⟩⟩
              rintro (e | e | e)
              · exact (Hap.out.2.2.2.2.2 b1 e).1 rfl
              · exact Hap.out.2.2.1 (by rw [e])
              · exact K3.out e
            have HI9 := hid hI9
            have HA9 : Hid (Apart (atS g vr (.slice pA n cA) m1 m2) w w9) := hid (HA6.out.trans a69 (fun x e => by
              rcases e with e | e | e
              · exact .inl (.inr (.inr (.inl e)))
              · exact .inl (.inl e)
              · rcases HS2.out b2 (.inr (.inr (.inr (.inr rfl)))) with e2 | e2
                · exact .inl (by rw [e]; exact e2)
                · exact .inr (by omega)))
            have HF9 : Hid (∀ b, atS g vr1 (.slice pz (n + 1) cz) (some b1) (some b2) b → atS g vr (.slice pA n cA) m1 m2 b ∨ w.heap.size ≤ b) := hid fun b hb => by
              have hlo : ∀ b, atS g vr (.slice pA n cA) (some b1) (some b2) b → atS g vr (.slice pA n cA) m1 m2 b ∨ w.heap.size ≤ b := fun b hb => by
                rcases HS2.out b hb with e | e
                · exact .inl e
                · exact .inr (by omega)
              have h6 := HA6.out.size
              rcases hb with e | e | e | e | e
              · exact .inl (.inl e)
              · rcases HJx.out b e with e | e
                · exact .inl (.inr (.inl e))
                · exact .inr (by omega)
              · rcases Hj2.out b e with e | e
                · exact .inl (.inr (.inr (.inl e)))
                · exact .inr (by omega)
              · exact hlo b (.inr (.inr (.inr (.inl e))))
              · exact hlo b (.inr (.inr (.inr (.inr e))))
            clear hI9 hR9 hA9' hAx a69 a89 hvB hN6 hNx hA9 hP9 hb
            go_wp2
            go_ret
            exact ⟨by rw [HNn.out]; rfl, _, _, _, _, HI9.out, HA9.out, HF9.out⟩
end Go.Proofs.YtnfohbpgnbfmeaaGreatDoor
/- atoms.opposite: a bound's opposite. Made by gen_atopp.py. -/
namespace Go.Proofs.YtnfohbpgnbfmeaaGreatDoor
open Go.RowKit Big

def ROpp (B : Nat) (T : AtRow) (k : Int) (w : World) (e : Ending) (w' : World) : Prop := ∃ v1 v2, e = .returned (.tuple #[v1, v2]) ∧ LnT w' v1 (T, 0) ∧ IntAt w' v2 k ∧ Below w.heap.size w w' ∧ LnFr B v1
theorem sz_one7 : sz W (1 : Int).natAbs ≤ 1099511627776 := Nat.le_trans (sz_le_of_lt W2 (by decide : 1 < W ^ 1)) (by decide)
set_option maxRecDepth 100000 in
set_option maxHeartbeats 6400000 in
theorem opposite_any (v vk : Value) (T : AtRow) (k : Int) (w : World) (h : LnT w v (T, 0)) (hk : IntAt w vk k) (hs : ∀ p ∈ T, sz W p.1.natAbs ≤ 7) (hl : T.length ≤ 1000) (hkz : sz W k.natAbs ≤ 7) :
    Calls Tryz.prog 33 #[v, vk] w (ROpp w.heap.size (atNeg T) (-k - 1) w) := by
  have HLr := hid (h.raw (N := 7) ⟨hs, by simp [sz_zero]⟩ (by decide))
  obtain ⟨p0, n0, c0, q0, k0, d0, rfl⟩ := h.agg3
  obtain ⟨b0, hb0⟩ : ∃ b, b = decide (((T, 0) : AtRow × Int).2 < 0) := ⟨_, rfl⟩
  rw [← hb0] at HLr ⊢
  have HKr := hid (hk.rawL (Nat.le_trans hkz (by decide)))
  obtain ⟨pk, nk, ck, rfl, -⟩ := hk.shape
  obtain ⟨bk, hbk⟩ : ∃ b, b = decide (k < 0) := ⟨_, rfl⟩
  rw [← hbk] at HKr ⊢
  obtain ⟨W3, hW⟩ : ∃ W3, W3 = (((w.alloc (.cells #[.slice p0 n0 c0, .bool b0, .slice q0 k0 d0] 37)).alloc (.cells #[.bool bk, .slice pk nk ck] 35)).alloc (.cells #[.slice none 0 0, .bool false, .slice none 0 0] 37)).alloc (.cells #[.bool false, .slice none 0 0] 35) := ⟨_, rfl⟩
  have hb3 : Below w.heap.size w W3 := by rw [hW]; exact (((below1 _ _).alloc (by simp) _).alloc (by simp; omega) _).alloc (by simp; omega) _
  have z3 : W3.heap.size = w.heap.size + 4 := by rw [hW]; simp
  have e0 : W3.heap[w.heap.size]? = some (.cells #[.slice p0 n0 c0, .bool b0, .slice q0 k0 d0] 37 (0, 0)) := by rw [hW, heap_alloc_old _ _ (by simp; omega), heap_alloc_old _ _ (by simp; omega), heap_alloc_old _ _ (by simp)]; exact heap_alloc_new _ _
  have e1 : W3.heap[w.heap.size + 1]? = some (.cells #[.bool bk, .slice pk nk ck] 35 (0, 0)) := by
    rw [hW, heap_alloc_old _ _ (by simp), heap_alloc_old _ _ (by simp)]
    have := heap_alloc_new (w.alloc (.cells #[.slice p0 n0 c0, .bool b0, .slice q0 k0 d0] 37)) (.cells #[.bool bk, .slice pk nk ck] 35)
    rwa [size_alloc] at this
  have e2 : W3.heap[w.heap.size + 1 + 1]? = some (.cells #[.slice none 0 0, .bool false, .slice none 0 0] 37 (0, 0)) := by
    rw [hW, heap_alloc_old _ _ (by simp)]
    have := heap_alloc_new ((w.alloc (.cells #[.slice p0 n0 c0, .bool b0, .slice q0 k0 d0] 37)).alloc (.cells #[.bool bk, .slice pk nk ck] 35)) (.cells #[.slice none 0 0, .bool false, .slice none 0 0] 37)
    rwa [size_alloc, size_alloc] at this
  have e3 : W3.heap[w.heap.size + 1 + 1 + 1]? = some (.cells #[.bool false, .slice none 0 0] 35 (0, 0)) := by
    have := heap_alloc_new (((w.alloc (.cells #[.slice p0 n0 c0, .bool b0, .slice q0 k0 d0] 37)).alloc (.cells #[.bool bk, .slice pk nk ck] 35)).alloc (.cells #[.slice none 0 0, .bool false, .slice none 0 0] 37)) (.cells #[.bool false, .slice none 0 0] 35)
    rw [size_alloc, size_alloc, size_alloc] at this
    rw [hW]; exact this
  have H3 := hid hb3; have E0 := hid e0; have E1 := hid e1; have E2 := hid e2; have E3 := hid e3; have Z3 := hid z3
  have HSz : Hid (LnSz 7 (T, 0)) := hid ⟨hs, by simp [sz_zero]⟩
  have HLn := hid hl; have Hkz := hid hkz
  obtain ⟨m, hm⟩ : ∃ m, m = -k := ⟨_, rfl⟩
  obtain ⟨M, hM⟩ : ∃ M, M = m - 1 := ⟨_, rfl⟩
  have HNeg : Hid (∀ w', Below W3.heap.size W3 w' → Calls Tryz.prog 52 #[.agg #[.bool bk, .slice pk nk ck]] w' (RInt m w')) := hid fun w' hb' => by rw [hm]; exact Neg_any _ k w' (HKr.out.below (lnGo hb' H3.out))
  have HSub : Hid (∀ w' v5 v6, IntAt w' v5 m → IntAt w' v6 1 → Calls Tryz.prog 58 #[v5, v6] w' (RInt M w')) := hid fun w' v5 v6 h5 h6 => by
    rw [hM]
    exact Sub_any v5 v6 m 1 w' (h5.rawL (by rw [hm, Int.natAbs_neg]; exact Nat.le_trans Hkz.out (by decide))) (h6.rawL sz_one7)
  rw [← hm, ← hM]
  clear e0 e1 e2 e3 hb3 h hk hs hl hb0 hbk hkz hm hM
  go_enter Tryz.func33, Tryz.ntmps33
  go_upto_region 1 with fail
  rw [← hW]
  clear hW
  refine wp_region_facts (w0 := W3) 7 2 [6, 7, 8, 9, 10, 11, 12] [undef, undef, undef, undef, undef, undef, undef]
    (fun i => match i with | 0 => lnE (.agg #[.slice p0 n0 c0, .bool b0, .slice q0 k0 d0]) | 1 => lnI (-1) | 2 => lnSF w.heap.size (atNeg T, 0) | 3 => lnE (.agg #[.bool bk, .slice pk nk ck]) | 4 => lnI m | 5 => lnI 1 | _ => lnI M) [] (by kernel_rfl) (by kernel_rfl) (by kernel_rfl) (by kernel_rfl) (by decide) rfl (by kernel_rfl) rfl (by simp) ?he1 ?_ ?_ ?_
  case he1 => simp only [putAll, Act.put, List.setIfInBounds_toArray, List.set_cons_zero, List.set_cons_succ]
  · intro i hi; simp at hi
  · intro i o hi ho vs wx hvl hb hdep K hK
    have hvs := vlen7 hvl
    obtain ⟨s6, s7, s8, s9, s10, s11, s12, rfl⟩ := hvs
    clear hvl
    have y0 := lnCells3 ((hb.block w.heap.size (by omega)).trans E0.out)
    obtain ⟨y0, y1, y2⟩ := y0
    obtain ⟨y3, y4, -, -⟩ := two_cells ((hb.block (w.heap.size + 1) (by omega)).trans E1.out)
    rcases i with _ | _ | _ | _ | _ | _ | _ | i
    all_goals (simp only [List.getElem?_toArray, List.getElem?_cons_zero, List.getElem?_cons_succ, Option.some.injEq] at ho)
    all_goals try (subst ho)
    all_goals try simp only [putAll, Act.put, List.setIfInBounds_toArray, List.set_cons_zero, List.set_cons_succ]
    · go_simp
      have hK' := hK.out
      simp only [putAll, Act.put, List.setIfInBounds_toArray, List.set_cons_zero, List.set_cons_succ] at hK'
      exact hK' _ _ rfl (Below.refl _ _) (by simp)
    · go_simp
      refine (Of_any (-1) wx (by decide) (by decide)).mono ?_
      rintro e wy ⟨vy, rfl, iy, hby⟩
      have hsh := iy.shape
      obtain ⟨p5, n5, c5, rfl, iy⟩ := hsh
      go_wp2_with fail
      have hK' := hK.out
      simp only [putAll, Act.put, List.setIfInBounds_toArray, List.set_cons_zero, List.set_cons_succ] at hK'
      exact hK' _ _ ⟨_, _, _, _, rfl, iy⟩ hby (by simp)
    · have e0 : s6 = _ := hdep ⟨0, .data⟩ (by simp) rfl
      have e0 := e0.symm
      subst e0
      have e1 : (lnI (-1)).P s7 wx := hdep ⟨1, .data⟩ (by simp) rfl
      obtain ⟨da1, pa1, na1, ca1, rfl, ia1⟩ := e1
      go_simp
      go_simp
      refine (Scale_linF _ _ (T, 0) (-1) wx (N := 7) (by decide) (HLr.out.below (lnGo hb H3.out)) (ia1.rawL sz_one7) HSz.out (by exact Nat.le_trans (sz_le_of_lt W2 (by decide : 1 < W ^ 1)) (by decide)) (by have := HLn.out; show 7 + 7 + T.length ≤ _; omega)).mono ?_
      rintro e wy ⟨vy, rfl, iy, hby, fry⟩
      have e0z : ((lnSum (lnTimes (-1) T), (0 : Int) * (-1)) : AtRow × Int) = (atNeg T, 0) := rfl
      have iy : LnT wy vy (atNeg T, 0) := iy
      obtain ⟨p5, n5, c5, q5, k5, d5, rfl⟩ := iy.agg3
      have fry := fry.mono (lnGo hb H3.out).size
      go_wp2_with fail
      have hK' := hK.out
      simp only [putAll, Act.put, List.setIfInBounds_toArray, List.set_cons_zero, List.set_cons_succ] at hK'
      exact hK' _ _ ⟨_, _, _, _, _, _, rfl, iy, fry⟩ hby (by simp)
    · go_simp
      have hK' := hK.out
      simp only [putAll, Act.put, List.setIfInBounds_toArray, List.set_cons_zero, List.set_cons_succ] at hK'
      exact hK' _ _ rfl (Below.refl _ _) (by simp)
    · have e3 : s9 = _ := hdep ⟨3, .data⟩ (by simp) rfl
      have e3 := e3.symm
      subst e3
      go_simp
      refine (HNeg.out wx hb).mono ?_
      rintro e wy ⟨vy, rfl, iy, hby⟩
      have hsh := iy.shape
      obtain ⟨p5, n5, c5, rfl, iy⟩ := hsh
      go_wp2_with fail
      have hK' := hK.out
      simp only [putAll, Act.put, List.setIfInBounds_toArray, List.set_cons_zero, List.set_cons_succ] at hK'
      exact hK' _ _ ⟨_, _, _, _, rfl, iy⟩ hby (by simp)
    · go_simp
      refine (Of_any 1 wx (by decide) (by decide)).mono ?_
      rintro e wy ⟨vy, rfl, iy, hby⟩
      have hsh := iy.shape
      obtain ⟨p5, n5, c5, rfl, iy⟩ := hsh
      go_wp2_with fail
      have hK' := hK.out
      simp only [putAll, Act.put, List.setIfInBounds_toArray, List.set_cons_zero, List.set_cons_succ] at hK'
      exact hK' _ _ ⟨_, _, _, _, rfl, iy⟩ hby (by simp)
    · have e4 : (lnI m).P s10 wx := hdep ⟨4, .data⟩ (by simp) rfl
      obtain ⟨da4, pa4, na4, ca4, rfl, ia4⟩ := e4
      have e5 : (lnI 1).P s11 wx := hdep ⟨5, .data⟩ (by simp) rfl
      obtain ⟨da5, pa5, na5, ca5, rfl, ia5⟩ := e5
      go_simp
      refine (HSub.out wx _ _ ia4 ia5).mono ?_
      rintro e wy ⟨vy, rfl, iy, hby⟩
      have hsh := iy.shape
      obtain ⟨p5, n5, c5, rfl, iy⟩ := hsh
      go_wp2_with fail
      have hK' := hK.out
      simp only [putAll, Act.put, List.setIfInBounds_toArray, List.set_cons_zero, List.set_cons_succ] at hK'
      exact hK' _ _ ⟨_, _, _, _, rfl, iy⟩ hby (by simp)
    · omega
  · intro vs wx hvl hb hf hdist
    have hvs := vlen7 hvl
    obtain ⟨s6, s7, s8, s9, s10, s11, s12, rfl⟩ := hvs
    have f2 : (lnSF w.heap.size (atNeg T, 0)).P s8 wx := hf 2 (by decide)
    have f6 : (lnI M).P s12 wx := hf 6 (by decide)
    obtain ⟨p7, n7, c7, q7, k7, d7, e7, T7, fr7⟩ := f2
    obtain ⟨b8, p8, n8, c8, e8, i8⟩ := f6
    subst e7 e8
    have hsh := i8.shape
    obtain ⟨p9, n9, c9, e9, i9⟩ := hsh
    injection e9 with e9
    obtain ⟨rfl, rfl, rfl, rfl⟩ : b8 = decide (M < 0) ∧ p8 = p9 ∧ n8 = n9 ∧ c8 = c9 := by simpa using e9
    have Fr7 := hid fr7
    clear hf hvl hdist i8 fr7
    have e1 := (hb.block (w.heap.size + 1 + 1) (by omega)).trans E2.out
    have e2 := (hb.block (w.heap.size + 1 + 1 + 1) (by omega)).trans E3.out
    obtain ⟨x0, x1, x2⟩ := lnCells3 e1
    have fz0 := frozen_of_row wx (w.heap.size + 1 + 1) 0 _ _ e1
    have fz1 := frozen_of_row wx (w.heap.size + 1 + 1) 1 _ _ e1
    have fz2 := frozen_of_row wx (w.heap.size + 1 + 1) 2 _ _ e1
    obtain ⟨x3, x4, fz3, fz4⟩ := two_cells e2
    have HBx := hid (lnGo hb H3.out)
    have hsx := hb.size
    obtain ⟨wF, hwF⟩ : ∃ wF, wF = ((st3 wx (w.heap.size + 1 + 1) (.slice p7 n7 c7) (.bool (decide ((0 : Int) < 0))) (.slice q7 k7 d7)).setCell ⟨w.heap.size + 1 + 1 + 1, 0, none⟩ (.bool (decide (M < 0)))).setCell ⟨w.heap.size + 1 + 1 + 1, 1, none⟩ (.slice p8 n8 c8) := ⟨_, rfl⟩
    have hA : Apart (fun b => b = w.heap.size + 1 + 1 ∨ b = w.heap.size + 1 + 1 + 1) wx wF := by
      rw [hwF]
      exact ((st3_apart _ _ _ _ _).mono (fun b h => Or.inl h)).go (((apart_set _ _ _ _).go (apart_set _ _ _ _)).mono (fun b h => Or.inr h))
    have hni : ∀ b, (b = w.heap.size + 1 + 1 ∨ b = w.heap.size + 1 + 1 + 1) → NoInt wx b := by
      intro b hb'
      rcases hb' with rfl | rfl
      · exact NoInt.cells e1 (by simp)
      · exact NoInt.cells e2 (by simp)
    have HTF := hid (T7.quiet hA hni)
    have HIF := hid (i9.quiet hA (fun b hb' => (hni b hb').wd))
    have HBF : Hid (Below w.heap.size w wF) := hid (by rw [hwF]; exact Below.stored (st3_below HBx.out (by omega) _ _ _) (by omega) _ _)
    clear T7 i9 hA hni e1 e2
    refine wpAny_one (i := 7) (by kernel_rfl) rfl ?_
    intro K hK
    simp only [putAll, Act.put, List.setIfInBounds_toArray, List.set_cons_zero, List.set_cons_succ]
    have hK' := hK.out
    go_simp
    apply hK'
    clear hK hK'
    refine wpAny_one (i := 8) (by kernel_rfl) rfl ?_
    intro K hK
    have hK' := hK.out
    go_simp
    apply hK'
    clear hK hK'
    refine wpAny_done (by kernel_rfl) ?_ _
    go_wp2
    exact bodyPost_ret (v := .tuple #[.agg #[.slice p7 n7 c7, .bool false, .slice q7 k7 d7], .agg #[.bool (decide (M < 0)), .slice p8 n8 c8]]) (by simp [results, Tryz.results33, go_sem, x0, x1, x2, x3, x4]) rfl
      (by have h1 := HTF.out; have h2 := HIF.out; have h3 := HBF.out; rw [hwF] at h1 h2 h3; exact ⟨_, _, rfl, h1, h2, h3, Fr7.out.of⟩)
end Go.Proofs.YtnfohbpgnbfmeaaGreatDoor
/- (*atoms.Table).Ask. -/
namespace Go.Proofs.YtnfohbpgnbfmeaaGreatDoor
open Go.RowKit Big Go.WideMaps

theorem PtsR.wf {w : World} {v : Value} {l : List (Int × Int)} (h : PtsR w v l) : ∀ p ∈ l, -9223372036854775808 ≤ p.2 ∧ p.2 ≤ 9223372036854775807 := by
  intro p hp
  obtain ⟨q, cap, rfl, h1, h2, h3, h4⟩ := h
  obtain ⟨i, hi, rfl⟩ := List.mem_iff_getElem.1 hp
  obtain ⟨b, off, -, -, h7⟩ := h4 (by omega)
  obtain ⟨c, -, n, s, -, -, hw⟩ := h7 i hi
  exact (wfI_iff _).1 hw
def atAns (s : AtS) (l : AtRow) (c : Int) : Int × Bool × Int := if lnIs l then ((atAsk s l c).2.1, (atAsk s l c).2.2, 0) else (0, false, 6)
def RAsk (B g : Nat) (S : Nat → Prop) (s : AtS) (a : Int × Bool × Int) (w : World) (e : Ending) (w' : World) : Prop := e = .returned (.tuple #[.int .i64 a.1, .bool a.2.1, .int .i64 a.2.2]) ∧
  ∃ vr' va' m1' m2', AtIn B w' g vr' va' m1' m2' s ∧ Apart S w w' ∧ ∀ b, atS g vr' va' m1' m2' b → S b ∨ w.heap.size ≤ b
set_option maxRecDepth 100000 in
set_option maxHeartbeats 12800000 in
theorem Ask_any (B g : Nat) (vr va : Value) (m1 m2 : Option Nat) (s : AtS) (v : Value) (l : AtRow) (c : Int) (w : World) (h : AtIn B w g vr va m1 m2 s) (hG : AtGood 7 s) (hB : B ≤ w.heap.size) (hv : LnR w v (l, c)) (hz : LnSz 6 (l, c)) (hl : l.length ≤ 1000)
    (hn : s.rows.length < 50000) (hm : s.atoms.length < 50000) (htab : Tb B w) :
    Calls Tryz.prog 12 #[.pointer (some ⟨g, 0, none⟩), v] w (RAsk B g (atS g vr va m1 m2) (atAsk1 s (l, c)) (atAns s l c) w) := by
  obtain ⟨p0, n0, c0, b0, q0, k0, d0, rfl⟩ := hv.agg3
  have HIn := hid h; have HGd := hid hG; have HBw := hid hB; have HV := hid hv; have HZ := hid hz; have Htab := hid htab
  obtain ⟨pv, n1, s1, ev, hp, hx⟩ := hv
  injection ev with ev
  simp only [Array.mk.injEq, List.cons.injEq, and_true] at ev
  obtain ⟨rfl, e2, rfl⟩ := ev
  injection e2 with e2
  subst e2
  have Hwf := hid hp.wf
  have HX := hid (show RawAt w (.agg #[.bool b0, .slice q0 k0 d0]) c from hx)
  have Hn0 : Hid (n0 = l.length) := hid (by
    obtain ⟨p, cc, e, -⟩ := hp
    injection e)
  obtain ⟨SA, hSA⟩ : ∃ x, x = atAsk1 s (l, c) := ⟨_, rfl⟩
  obtain ⟨AA, hAA⟩ : ∃ x, x = atAns s l c := ⟨_, rfl⟩
  rw [← hSA, ← hAA]
  obtain ⟨a1, a2, a3⟩ := AA
  have HSA := hid hSA; have HAA := hid hAA
  obtain ⟨W1, hW1⟩ : ∃ W1, W1 = w.alloc (.cells #[.slice p0 n0 c0, .bool b0, .slice q0 k0 d0] 37) := ⟨_, rfl⟩
  have b1 : Below w.heap.size w W1 := by rw [hW1]; exact below1 _ _
  have e1 : W1.heap[w.heap.size]? = some (.cells #[.slice p0 n0 c0, .bool b0, .slice q0 k0 d0] 37 (0, 0)) := by rw [hW1]; exact heap_alloc_new _ _
  have z1 : W1.heap.size = w.heap.size + 1 := by rw [hW1, size_alloc]
  have B1 := hid b1; have E1 := hid e1
  have HIs := hid (Is_lin _ (l, c) W1 (HV.out.below b1) (by show l.length ≤ _; omega))
  obtain ⟨x0, x1, x2⟩ := lnCells3 e1
  clear h hG hB hz htab hp hx b1 e1 hSA hAA
  show Calls Tryz.prog 12 #[.pointer (some ⟨g, 0, none⟩), .agg #[.slice p0 n0 c0, .bool b0, .slice q0 k0 d0]] w _
  go_enter Tryz.func12, Tryz.ntmps12
  go_upto_region 1 with fail
  rw [← hW1]
  clear hW1
  go_wp2_with fail
  refine HIs.out.mono ?_
  rintro e w2 ⟨rfl, b2⟩
  have z2 := b2.size
  have B2 := hid (lnGo b2 B1.out)
  have E2 := hid ((b2.block w.heap.size (by omega)).trans E1.out)
  clear x0 x1 x2 HIs b2
  obtain ⟨x0, x1, x2⟩ := lnCells3 E2.out
  by_cases hI : lnIs l
  case neg =>
    have hd : decide (lnIs (l, c).1) = false := by simpa using hI
    have Ha : Hid ((a1, a2, a3) = (0, false, 6)) := hid (by rw [HAA.out]; unfold atAns; rw [if_neg hI])
    obtain ⟨rfl, rfl, rfl⟩ : a1 = 0 ∧ a2 = false ∧ a3 = 6 := by have := Ha.out; simpa using this
    have Hs : Hid (SA = s) := hid (by rw [HSA.out]; unfold atAsk1; rw [if_neg hI])
    clear hI Ha
    go_wp2
    exact bodyPost_ret (v := .tuple #[.int .i64 0, .bool false, .int .i64 6]) (by simp [results, Tryz.results12, go_sem]) rfl ⟨rfl, vr, va, m1, m2, by rw [Hs.out]; exact HIn.out.below B2.out, Apart.of_below B2.out, fun b hb => .inl hb⟩
  case pos =>
  have hd : decide (lnIs (l, c).1) = true := by simpa using hI
  by_cases hl0 : l = []
  case pos =>
    have hn00 : n0 = 0 := by rw [Hn0.out, hl0]; rfl
    subst hn00
    have HSg := hid (Sign_any _ c w2 (HX.out.below B2.out))
    have Ha : Hid ((a1, a2, a3) = (-1, decide (c ≤ 0), 0)) := hid (by rw [HAA.out]; unfold atAns atAsk; rw [if_pos hI, if_pos hl0])
    obtain ⟨rfl, e2, rfl⟩ : a1 = -1 ∧ a2 = decide (c ≤ 0) ∧ a3 = 0 := by have := Ha.out; simpa using this
    have Hs : Hid (SA = s) := hid (by rw [HSA.out]; unfold atAsk1 atAsk; rw [if_pos hI, if_pos hl0])
    have hsg : decide (c.sign ≤ 0) = a2 := by
      rw [e2]
      have : c.sign ≤ 0 ↔ c ≤ 0 := by
        rcases Int.lt_trichotomy c 0 with h | h | h
        · rw [Int.sign_eq_neg_one_of_neg h]; omega
        · subst h; simp
        · rw [Int.sign_eq_one_of_pos h]; omega
      simp [this]
    clear hI Ha hl0 e2
    go_wp2_with fail
    refine HSg.out.mono ?_
    rintro e w3 ⟨rfl, b3⟩
    have B3 := hid (lnGo b3 B2.out)
    generalize c.sign = cs at *
    clear HSg b3
    go_wp2
    exact bodyPost_ret (v := .tuple #[.int .i64 (-1), .bool a2, .int .i64 0]) (by simp [results, Tryz.results12, go_sem]) rfl ⟨rfl, vr, va, m1, m2, by rw [Hs.out]; exact HIn.out.below B3.out, Apart.of_below B3.out, fun b hb => .inl hb⟩
  case neg =>
  have hn0 : ((n0 : Int) == 0) = false := by
    have := List.length_pos_iff.2 hl0
    rw [beq_eq_false_iff_ne, Hn0.out]; omega
  obtain ⟨T, hT⟩ : ∃ T, T = lnOver (lnGcd l : Nat) l := ⟨_, rfl⟩
  obtain ⟨kk, hkk⟩ : ∃ k, k = (-c) / (lnGcd l : Nat) := ⟨_, rfl⟩
  have hok := atOne_ok hI hl0 c
  have HTi := hid (fun w' (hb : Below w.heap.size w w') => (Tight_linF _ l c w' (N := 6) (by decide) (HV.out.below hb) HZ.out (by omega)))
  have hr : lnTight (l, c) = ((T, 0), kk, 0) := by unfold lnTight; rw [if_pos hI, if_neg hl0, hT, hkk]
  rw [hr] at HTi
  have hgp := lnGcd_pos hl0 hI.2
  have hTI : lnIs T := by rw [hT]; exact lnOver_is (fun p hp => lnGcd_dvd hp) hI
  have hTne : T ≠ [] := by rw [hT]; exact lnOver_ne hl0
  have hTsz : ∀ p ∈ T, sz W p.1.natAbs ≤ 6 := fun p hp => by
    rw [hT] at hp
    obtain ⟨q, hq, rfl⟩ := List.mem_map.1 hp
    exact Nat.le_trans (sz_mono W2 (Int.natAbs_ediv_le_natAbs _ _)) (HZ.out.1 q hq)
  have hTw : ∀ p ∈ T, -9223372036854775808 ≤ p.2 ∧ p.2 ≤ 9223372036854775807 := fun p hp => by
    rw [hT] at hp
    obtain ⟨q, hq, rfl⟩ := List.mem_map.1 hp
    exact Hwf.out q hq
  have hTl : T.length ≤ 1000 := by rw [hT]; unfold lnOver; rw [List.length_map]; exact hl
  have hksz : sz W kk.natAbs ≤ 6 := by
    rw [hkk]
    exact Nat.le_trans (sz_mono W2 (Int.natAbs_ediv_le_natAbs _ _)) (by rw [Int.natAbs_neg]; exact HZ.out.2)
  have hone : atOne l c = if 0 < atHead T then (T, kk, true) else (atNeg T, -kk - 1, false) := by unfold atOne; rw [hT, hkk]
  have Hone := hid hone
  have HI := hid hI; have Hl0 := hid hl0
  have HTI := hid hTI; have HTne := hid hTne; have HTsz := hid hTsz; have HTw := hid hTw
  have HSAe : Hid (SA = (atLay s (atOne l c).1 (atOne l c).2.1).1) := hid (by rw [HSA.out]; unfold atAsk1 atAsk; rw [if_pos hI, if_neg hl0])
  have HAAe : Hid ((a1, a2, a3) = (((atLay s (atOne l c).1 (atOne l c).2.1).2 : Int), (atOne l c).2.2, 0)) := hid (by rw [HAA.out]; unfold atAns atAsk; rw [if_pos hI, if_neg hl0])
  clear hr hgp hT hkk hTI hTne hTsz hTw hone hI hl0 hok
  go_wp2_with fail
  refine (HTi.out w2 B2.out).mono ?_
  rintro e w5 ⟨v5, u5, rfl, T5, i5, b5, fr5⟩
  obtain ⟨p5, n5, c5, q5, k5, d5, rfl⟩ := T5.agg3
  obtain ⟨p6, n6, c6, rfl, i5⟩ := i5.shape
  have hn5 : n5 = T.length := by
    obtain ⟨pv, s, ev, ⟨p, cc, rfl, -⟩, -⟩ := T5
    injection ev with ev
    simp only [Array.mk.injEq, List.cons.injEq, and_true] at ev
    have := ev.1
    injection this
  have Hn5 := hid hn5
  clear hn5
  have hpar : ∃ pv s, (.agg #[.slice p5 n5 c5, .bool (decide (((T, (0 : Int)) : AtRow × Int).2 < 0)), .slice q5 k5 d5] : Value) = .agg #[pv, .bool false, s] ∧ PtsT w5 pv T ∧ IntAt w5 (.agg #[.bool false, s]) 0 := by
    obtain ⟨pv, s, ev, h1, h2⟩ := T5
    exact ⟨pv, s, ev, h1, h2⟩
  obtain ⟨pv5, s5, ev5, hP5, hC5⟩ := hpar
  injection ev5 with ev5
  simp only [Array.mk.injEq, List.cons.injEq, and_true] at ev5
  obtain ⟨rfl, -, rfl⟩ := ev5
  obtain ⟨pp, cc, e5, j1, j2, -, j4⟩ := id hP5
  injection e5 with e51 e52 e53
  subst e51 e53
  clear e52
  have hTp := List.length_pos_iff.2 HTne.out
  obtain ⟨bb, oo, rfl, hbb, hcc⟩ := j4 hTp
  obtain ⟨cp, kp, sp, rfl, hip, -⟩ := hcc 0 hTp
  have hhead : atHead T = T[0].1 := by
    cases T with
    | nil => simp at hTp
    | cons x T => rfl
  have hip : IntAt w5 (.agg #[.bool (decide (T[0].1 < 0)), sp]) T[0].1 := hip
  have t0 := kp 0 _ rfl
  have t1 := kp 1 _ rfl
  simp only [Nat.zero_mul, Nat.add_zero] at t0 t1
  rw [← hhead] at hip t0
  obtain ⟨pq, nq, cq, eq1, hip⟩ := hip.shape
  obtain rfl : sp = .slice pq nq cq := by injection eq1 with eq1; simp at eq1; exact eq1
  have hhsz : sz W (atHead T).natAbs ≤ 6 := by rw [hhead]; exact HTsz.out _ (List.getElem_mem hTp)
  obtain ⟨hd0, hhd0⟩ : ∃ z, z = atHead T := ⟨_, rfl⟩
  rw [← hhd0] at hip t0 hhsz
  have Hhd := hid hhd0
  have Hhne : Hid (hd0 ≠ 0) := hid (by rw [hhd0]; exact atHead_ne HTI.out HTne.out)
  obtain ⟨g6, hg6⟩ : ∃ b, b = decide (kk < 0) := ⟨_, rfl⟩
  have Hg6 := hid hg6
  rw [← hg6] at i5 ⊢
  obtain ⟨h6, hh6⟩ : ∃ b, b = decide (hd0 < 0) := ⟨_, rfl⟩
  have Hh6 := hid hh6
  rw [← hh6] at hip t0
  obtain ⟨W6, hW6⟩ : ∃ W6, W6 = (w5.alloc (.cells #[.slice (some ⟨bb, oo, none⟩) n5 c5, .bool false, .slice q5 k5 d5] 37)).alloc (.cells #[.bool g6, .slice p6 n6 c6] 35) := ⟨_, rfl⟩
  have b6 : Below w5.heap.size w5 W6 := by rw [hW6]; exact (below1 _ _).alloc (by simp) _
  have e6 : W6.heap[w5.heap.size]? = some (.cells #[.slice (some ⟨bb, oo, none⟩) n5 c5, .bool false, .slice q5 k5 d5] 37 (0, 0)) := by rw [hW6, heap_alloc_old _ _ (by simp)]; exact heap_alloc_new _ _
  have e7 : W6.heap[w5.heap.size + 1]? = some (.cells #[.bool g6, .slice p6 n6 c6] 35 (0, 0)) := by
    have := heap_alloc_new (w5.alloc (.cells #[.slice (some ⟨bb, oo, none⟩) n5 c5, .bool false, .slice q5 k5 d5] 37)) (.cells #[.bool g6, .slice p6 n6 c6] 35)
    rw [size_alloc] at this
    rw [hW6]; exact this
  have z6 : W6.heap.size = w5.heap.size + 2 := by rw [hW6, size_alloc, size_alloc]
  have z5 := b5.size
  have HP6 := hid (hP5.below b6); have HC6 := hid (hC5.below b6); have HK6 := hid (i5.below b6)
  have HIp := hid (hip.below b6)
  have B6 := hid (lnGo b6 (lnGo b5 B2.out))
  have E6 := hid e6; have E7 := hid e7
  have t0' := (b6.cell (p := ⟨bb, oo, none⟩) hbb).trans t0
  have t1' := (b6.cell (p := ⟨bb, oo + 1, none⟩) hbb).trans t1
  have HFr : Hid (∀ b, (Value.slice (some ⟨bb, oo, none⟩) n5 c5).ownBlock = some b → w2.heap.size ≤ b) := hid fun b hb => by
    obtain ⟨pv, b', s', ev, hfr⟩ := fr5
    injection ev with ev
    simp only [Array.mk.injEq, List.cons.injEq, and_true] at ev
    exact hfr b (by rw [← ev.1]; exact hb)
  have hnp : (0 : Int) < (n5 : Int) := by have := Hn5.out; omega
  have hnp2 : 0 < n5 := by omega
  clear T5 i5 b5 b6 fr5 hP5 hC5 hip kp hcc j4 e6 e7 t0 t1 hhead hhd0 hg6 hh6 eq1
  clear x0 x1 x2 HTi
  go_upto_region 8 with fail
  rw [← hW6]
  clear hW6
  obtain ⟨y0, y1, y2⟩ := lnCells3 E6.out
  obtain ⟨y3, y4, -, -⟩ := two_cells E7.out
  have hlow : ∀ b, atS g vr va m1 m2 b → b < w2.heap.size := fun b hb => by have := (HIn.out.own b hb).2.1; have := B2.out.size; omega
  have Hlow := hid hlow
  have HAtom : Hid (∀ (w8 : World) (pv s0 sk : Value) (r : AtRow) (k : Int), Below w.heap.size w w8 → w2.heap.size ≤ w8.heap.size → PtsT w8 pv r → IntAt w8 (.agg #[.bool false, s0]) 0 → (∀ b, pv.ownBlock = some b → w2.heap.size ≤ b) → IntAt w8 (.agg #[.bool (decide (k < 0)), sk]) k → (∀ p ∈ r, sz W p.1.natAbs ≤ 7) → (∀ p ∈ r, -9223372036854775808 ≤ p.2 ∧ p.2 ≤ 9223372036854775807) → r.length ≤ 1000 → r ≠ [] → sz W k.natAbs ≤ 7 →
      Calls Tryz.prog 32 #[.pointer (some ⟨g, 0, none⟩), .agg #[pv, .bool false, s0], .agg #[.bool (decide (k < 0)), sk]] w8 fun e w' => e = .returned (.int .i64 ((atLay s r k).2 : Nat)) ∧
        ∃ vr' va' m1' m2', AtIn B w' g vr' va' m1' m2' (atLay s r k).1 ∧ Apart (atS g vr va m1 m2) w w' ∧ ∀ b, atS g vr' va' m1' m2' b → atS g vr va m1 m2 b ∨ w.heap.size ≤ b) := hid fun w8 pv s0 sk r k hb8 hs8 hv hc hf hk hs hw hl' hne hkz => by
    refine (atom_any B g w2.heap.size vr va m1 m2 s pv s0 sk r k w8 (HIn.out.below hb8) HGd.out (by have := HBw.out; have := hb8.size; omega) Hlow.out hs8 hv hc hf hk hs hw hl' hne hkz hn hm (tab_go Htab.out (hb8.mono HBw.out))).mono ?_
    rintro e w9 ⟨he, vr', va', c1, c2, hI9, hA9, hF9⟩
    exact ⟨he, vr', va', some c1, some c2, hI9, (Apart.of_below hb8).go hA9, fun b hb => by rcases hF9 b hb with h | h; exact .inl h; exact .inr (by have := hb8.size; omega)⟩
  by_cases hpos : 0 < hd0
  case pos =>
    have HSg := Sign_any (.agg #[.bool h6, .slice pq nq cq]) hd0 W6 (HIp.out.rawL (Nat.le_trans hhsz (by decide)))
    rw [Int.sign_eq_one_of_pos hpos] at HSg
    have HSg := hid HSg
    have HO : Hid (atOne l c = (T, kk, true)) := hid (by rw [Hone.out, if_pos (by rw [← Hhd.out]; exact hpos)])
    have HSAf : Hid (SA = (atLay s T kk).1) := hid (by rw [HSAe.out, HO.out])
    have HAAf : Hid ((a1, a2, a3) = (((atLay s T kk).2 : Int), true, 0)) := hid (by rw [HAAe.out, HO.out])
    obtain ⟨e1, rfl, rfl⟩ : a1 = ((atLay s T kk).2 : Int) ∧ a2 = true ∧ a3 = 0 := by have := HAAf.out; simpa using this
    have He1 := hid e1
    clear hlow hpos e1
    go_wp2_with fail
    refine HSg.out.mono ?_
    rintro e w7 ⟨rfl, b7⟩
    have z7 := b7.size
    have B7 := hid (lnGo b7 B6.out)
    obtain ⟨y0, y1, y2⟩ := lnCells3 ((b7.block w5.heap.size (by omega)).trans E6.out)
    obtain ⟨y3, y4, -, -⟩ := two_cells ((b7.block (w5.heap.size + 1) (by omega)).trans E7.out)
    have HC := HAtom.out w7 _ _ (.slice p6 n6 c6) T kk B7.out (by omega) (HP6.out.below b7) (HC6.out.below b7) HFr.out (by have := HK6.out.below b7; rw [Hg6.out] at this; exact this) (fun p hp => Nat.le_trans (HTsz.out p hp) (by decide)) HTw.out hTl HTne.out (Nat.le_trans hksz (by decide))
    rw [← Hg6.out] at HC
    have HC := hid HC
    clear HSg b7 HAtom
    go_wp2_with fail
    refine HC.out.mono ?_
    rintro e w9 ⟨rfl, hR9⟩
    have HR9 := hid hR9
    clear hR9 HC
    rw [← He1.out]
    go_wp2
    exact bodyPost_ret (v := .tuple #[.int .i64 a1, .bool true, .int .i64 0]) (by simp [results, Tryz.results12, go_sem]) rfl ⟨rfl, by rw [HSAf.out]; exact HR9.out⟩
  case neg =>
    have hneg : hd0 < 0 := by have := Hhne.out; omega
    have HSg := Sign_any (.agg #[.bool h6, .slice pq nq cq]) hd0 W6 (HIp.out.rawL (Nat.le_trans hhsz (by decide)))
    rw [Int.sign_eq_neg_one_of_neg hneg] at HSg
    have HSg := hid HSg
    have HO : Hid (atOne l c = (atNeg T, -kk - 1, false)) := hid (by rw [Hone.out, if_neg (by rw [← Hhd.out]; exact hpos)])
    obtain ⟨TN, hTN⟩ : ∃ t, t = atNeg T := ⟨_, rfl⟩
    obtain ⟨KN, hKN⟩ : ∃ k, k = -kk - 1 := ⟨_, rfl⟩
    rw [← hTN, ← hKN] at HO
    have HSAf : Hid (SA = (atLay s TN KN).1) := hid (by rw [HSAe.out, HO.out])
    have HAAf : Hid ((a1, a2, a3) = (((atLay s TN KN).2 : Int), false, 0)) := hid (by rw [HAAe.out, HO.out])
    obtain ⟨e1, rfl, rfl⟩ : a1 = ((atLay s TN KN).2 : Int) ∧ a2 = false ∧ a3 = 0 := by have := HAAf.out; simpa using this
    have He1 := hid e1
    have hTN1 : TN = atNeg1 T := by rw [hTN]; exact atNeg_eq HTI.out
    have HTNs : Hid (∀ p ∈ TN, sz W p.1.natAbs ≤ 7) := hid fun p hp => by
      rw [hTN1] at hp
      obtain ⟨q, hq, rfl⟩ := List.mem_map.1 hp
      show sz W (-q.1).natAbs ≤ 7
      rw [Int.natAbs_neg]
      exact Nat.le_trans (HTsz.out q hq) (by decide)
    have HTNw : Hid (∀ p ∈ TN, -9223372036854775808 ≤ p.2 ∧ p.2 ≤ 9223372036854775807) := hid fun p hp => by
      rw [hTN1] at hp
      obtain ⟨q, hq, rfl⟩ := List.mem_map.1 hp
      exact HTw.out q hq
    have HTNl : Hid (TN.length ≤ 1000) := hid (by rw [hTN1]; unfold atNeg1; rw [List.length_map]; exact hTl)
    have HTNn : Hid (TN ≠ []) := hid (by rw [hTN1]; unfold atNeg1; simpa using HTne.out)
    have HKNz : Hid (sz W KN.natAbs ≤ 7) := hid (by
      rw [hKN]
      refine Nat.le_trans (sz_mono W2 (show _ ≤ kk.natAbs + (1 : Nat) by omega)) (sz_add W2 hksz ?_)
      exact Nat.le_trans (sz_le_of_lt W2 (by decide : 1 < W ^ 1)) (by decide))
    have HOpp : Hid (∀ w' v vk, LnT w' v (T, 0) → IntAt w' vk kk → Calls Tryz.prog 33 #[v, vk] w' (ROpp w'.heap.size TN KN w')) := hid fun w' v vk h1 h2 => by
      rw [hTN, hKN]
      exact opposite_any v vk T kk w' h1 h2 (fun p hp => Nat.le_trans (HTsz.out p hp) (by decide)) hTl (Nat.le_trans hksz (by decide))
    clear hlow hpos hneg e1 hTN hKN hTN1
    go_wp2_with fail
    refine HSg.out.mono ?_
    rintro e w7 ⟨rfl, b7⟩
    have z7 := b7.size
    have B7 := hid (lnGo b7 B6.out)
    obtain ⟨y0, y1, y2⟩ := lnCells3 ((b7.block w5.heap.size (by omega)).trans E6.out)
    obtain ⟨y3, y4, -, -⟩ := two_cells ((b7.block (w5.heap.size + 1) (by omega)).trans E7.out)
    have HC := hid (HOpp.out w7 _ _ ⟨_, _, rfl, HP6.out.below b7, HC6.out.below b7⟩ (HK6.out.below b7))
    clear HSg b7
    go_wp2_with fail
    refine HC.out.mono ?_
    rintro e w8 ⟨v8, u8, rfl, T8, i8, b8, fr8⟩
    have z8 := b8.size
    obtain ⟨pv8, s8, ev8, hP8, hC8⟩ := T8
    have ev8 : v8 = .agg #[pv8, .bool false, s8] := ev8
    subst ev8
    have hC8 : IntAt w8 (.agg #[.bool false, s8]) 0 := hC8
    obtain ⟨p9, n9, c9, rfl, i8⟩ := i8.shape
    have HC8 := HAtom.out w8 _ _ (.slice p9 n9 c9) TN KN (lnGo b8 B7.out) (by omega) hP8 hC8 (fun b hb => by
      obtain ⟨pv, b', s', ev, hfr⟩ := fr8
      injection ev with ev
      simp only [Array.mk.injEq, List.cons.injEq, and_true] at ev
      have := hfr b (by rw [← ev.1]; exact hb)
      omega) i8 HTNs.out HTNw.out HTNl.out HTNn.out HKNz.out
    have HC8 := hid HC8
    clear HC hP8 hC8 i8 b8 fr8 HAtom
    go_wp2_with fail
    refine HC8.out.mono ?_
    rintro e w9 ⟨rfl, hR9⟩
    have HR9 := hid hR9
    clear hR9 HC8
    rw [← He1.out]
    go_wp2
    exact bodyPost_ret (v := .tuple #[.int .i64 a1, .bool false, .int .i64 0]) (by simp [results, Tryz.results12, go_sem]) rfl ⟨rfl, by rw [HSAf.out]; exact HR9.out⟩
end Go.Proofs.YtnfohbpgnbfmeaaGreatDoor
/- (*atoms.Table).Ask, for greater sums. -/
namespace Go.Proofs.YtnfohbpgnbfmeaaGreatDoor
open Go.RowKit Big Go.WideMaps

end Go.Proofs.YtnfohbpgnbfmeaaGreatDoor
/- Sums that come in as data: how they read. -/
namespace Go.Proofs.YtnfohbpgnbfmeaaGreatDoor
open Go.ChangeShapes Go.WideShapes Go.ChangeAt Go.RowKit Go.Deep Go.Joins Big

/-- a part as it comes in -/
structure Px6 where
  n : Nx
  term : Int
def Px6.p (x : Px6) : Int × Int := (x.n.z, x.term)
def Px6Q (w : World) (c : List Value) (x : Px6) : Prop := ∃ n s, c = [n, s, .int .i64 x.term] ∧ NxQ w [n, s] x.n ∧ wfI x.term
theorem Px6Q.below {w w' : World} {c : List Value} {x : Px6} (h : Px6Q w c x) (hb : Below w.heap.size w w') : Px6Q w' c x := by
  obtain ⟨n, s, e, h1, h2⟩ := h
  exact ⟨n, s, e, h1.below hb, h2⟩
abbrev Px6sIn := LsIn 3 Px6Q
theorem Px6sIn.below {w w' : World} {v : Value} {l : List Px6} (h : Px6sIn w v l) (hb : Below w.heap.size w w') : Px6sIn w' v l := LsIn.below (Q := Px6Q) (fun h hb => Px6Q.below h hb) h hb
/-- a sum as it comes in -/
structure Lx where
  parts : List Px6
  rest : Nx
def Lx.a (x : Lx) : List (Int × Int) × Int := (x.parts.map Px6.p, x.rest.z)
def Lx.fit (x : Lx) : Prop := x.parts.length ≤ 40 ∧ x.rest.fit ∧ ∀ p ∈ x.parts, p.n.fit
def LxQ (w : World) (v : Value) (x : Lx) : Prop := ∃ p n cp s, v = .agg #[.slice p x.parts.length cp, n, s] ∧ Px6sIn w (.slice p x.parts.length cp) x.parts ∧ NxQ w [n, s] x.rest ∧ (∃ b, n = .bool b) ∧ ∃ q m cq, s = .slice q m cq
theorem Px6sIn.raw {w : World} {v : Value} {l : List Px6} (h : Px6sIn w v l) (hf : ∀ x ∈ l, x.n.fit) : PtsR w v (l.map Px6.p) := by
  obtain ⟨p, cap, rfl, h1, h2, h3, h4⟩ := h
  refine ⟨p, cap, by rw [List.length_map], by rw [List.length_map]; exact h1, h2, h3, fun hp => ?_⟩
  rw [List.length_map] at hp
  obtain ⟨b, off, h5, h6, h7⟩ := h4 hp
  refine ⟨b, off, h5, h6, fun i hi => ?_⟩
  rw [List.length_map] at hi
  obtain ⟨c, k1, n, s, e, k2, k3⟩ := h7 i hi
  obtain ⟨q, cq, e2, -⟩ := id k2
  injection e2 with e2 _
  subst e2
  refine ⟨c, k1, _, s, by rw [List.getElem_map]; exact e, ?_, by rw [List.getElem_map]; exact k3⟩
  rw [List.getElem_map]
  exact k2.raw (hf _ (List.getElem_mem hi))
theorem LxQ.raw {w : World} {v : Value} {x : Lx} (h : LxQ w v x) (hf : x.fit) : LnR w v x.a := by
  obtain ⟨p, n, cp, s, rfl, h1, h2, ⟨b, rfl⟩, -⟩ := h
  exact ⟨_, b, s, rfl, h1.raw hf.2.2, h2.raw hf.2.1⟩
theorem LxQ.small {w : World} {v : Value} {x : Lx} (h : LxQ w v x) (hf : x.fit) : LnSz 6 x.a := by
  obtain ⟨p, n, cp, s, rfl, h1, h2, -⟩ := h
  refine ⟨fun y hy => ?_, h2.small hf.2.1⟩
  obtain ⟨u, hu, rfl⟩ := List.mem_map.1 hy
  obtain ⟨i, hi, rfl⟩ := List.mem_iff_getElem.1 hu
  obtain ⟨q, cap, -, -, -, -, h4⟩ := h1
  obtain ⟨b, off, -, -, h7⟩ := h4 (by omega)
  obtain ⟨c, -, n', s', -, k2, -⟩ := h7 i hi
  exact k2.small (hf.2.2 _ hu)
theorem fieldsPart : ∃ f0 f1 : Field, Tryz.prog.underlying 63 = some (.struct #[f0, f1]) ∧ f0.type = 35 ∧ f1.type = 3 ∧ f0.offset = 0 ∧ f1.offset = 2 := ⟨_, _, Tryz.underlying63, rfl, rfl, rfl, rfl⟩
theorem fieldsLinear : ∃ f0 f1 : Field, Tryz.prog.underlying 37 = some (.struct #[f0, f1]) ∧ f0.type = 31 ∧ f1.type = 35 ∧ f0.offset = 0 ∧ f1.offset = 1 := ⟨_, _, Tryz.underlying37, rfl, rfl, rfl, rfl⟩
theorem cellsPartP : Tryz.prog.cellsOf 63 = 3 := by kernel_rfl
theorem cellsLinearP : Tryz.prog.cellsOf 37 = 3 := by kernel_rfl
theorem cellsPartsP : Tryz.prog.cellsOf 31 = 1 := by kernel_rfl
section
variable {H : Type} {enc : TypeId × Value → H} {w : World} {base : Nat} {spare : Nat → Bool} {held : Bool}
set_option maxRecDepth 100000 in
theorem open_px6 {fuel : Nat} {cs : List Value} {y : DataW H × List MemPlace} (h : DataW.trod enc Tryz.prog w base spare held fuel 63 cs = some y) : ∃ x : Px6, Px6Q w cs x := by
  obtain ⟨f0, f1, hs, e0, e1, o0, o1⟩ := fieldsPart
  obtain ⟨xs, n, rfl, -, hl, hlen, hf⟩ := DataW.trod_struct hs h
  rw [cellsPartP] at hl
  match cs, hl, xs, hlen with
  | [c0, c1, c2], _, [y0, y1], _ =>
    have h0 := hf 0 f0 rfl
    have h1 := hf 1 f1 rfl
    rw [e0, o0, cellsIntP] at h0
    rw [e1, o1, cellsIP] at h1
    obtain ⟨x, k⟩ := open_nx (show DataW.trod enc Tryz.prog w base spare held n 35 [c0, c1] = some y0 from h0)
    obtain ⟨t, g, -, hw⟩ := DataW.trod_int Tryz.underlying3 (show DataW.trod enc Tryz.prog w base spare held n 3 [c2] = some y1 from h1)
    injection g with g _
    subst g
    exact ⟨⟨x, t⟩, _, _, rfl, k, hw⟩
theorem open_px6s {fuel : Nat} {cs : List Value} {y : DataW H × List MemPlace} (h : DataW.trod enc Tryz.prog w base spare held fuel 31 cs = some y) : ∃ v l, cs = [v] ∧ Px6sIn w v l :=
  open_ls 3 Tryz.underlying31 cellsPartP (by decide) (fun _ _ _ h => open_px6 h) h
set_option maxRecDepth 100000 in
/-- numbers by value -/
theorem open_nums6 {r : Reach} {b0 : Nat} {v : Value} {d : DataW H} {p : List MemPlace} (hv : Value.okWide Tryz.prog w r b0 50 v) (h : DataW.Trod enc Tryz.prog w base spare held 50 v d p) : ∃ l, NxsIn w v l := by
  obtain ⟨a, len, cap, rfl⟩ := okWide_slice Tryz.underlying50 hv
  obtain ⟨fuel, hf⟩ := h
  obtain ⟨v', l, he, h1⟩ := open_nxs hf
  have hv' : v' = .slice a len cap := by simpa [Value.cells] using he.symm
  rw [hv'] at h1
  exact ⟨l, h1⟩
end
end Go.Proofs.YtnfohbpgnbfmeaaGreatDoor
/- elenchusref06.Few. -/
namespace Go.Proofs.YtnfohbpgnbfmeaaGreatDoor
open Go.RowKit Big

/-- what a call answers: a bool that is true only if P -/
def RIf (P : Prop) (w : World) (e : Ending) (w' : World) : Prop := ∃ b : Bool, e = .returned (.bool b) ∧ (b = true → P) ∧ Below w.heap.size w w'
set_option maxRecDepth 100000 in
set_option maxHeartbeats 6400000 in
theorem Few6_any (v : Value) (x : Lx) (w : World) (h : LxQ w v x) : Calls Tryz.prog 22 #[v] w (RIf x.fit w) := by
  obtain ⟨p, n, cp, s, rfl, h1, h2, ⟨bn, rfl⟩, -⟩ := h
  obtain ⟨q, cq, e2, -⟩ := h2
  injection e2 with _ e2
  injection e2 with e2 _
  subst e2
  obtain ⟨p', cap', ep, j1, j2, -, j4⟩ := h1
  injection ep with e3 _ e4
  subst e3 e4
  have J4 := hid j4
  unfold maxLen at j2
  obtain ⟨l, r⟩ := x
  obtain ⟨W, hW⟩ : ∃ W, W = w.alloc (.cells #[.slice p l.length cp, .bool bn, .slice q r.words.length cq] 37) := ⟨_, rfl⟩
  have b0 : Below w.heap.size w W := by rw [hW]; exact below1 w _
  have e0 : W.heap[w.heap.size]? = some (.cells #[.slice p l.length cp, .bool bn, .slice q r.words.length cq] 37 (0, 0)) := by rw [hW]; exact heap_alloc_new w _
  have B0 := hid b0; have E0 := hid e0
  have hfit : Hid (Lx.fit ⟨l, r⟩ ↔ l.length ≤ 40 ∧ r.words.length ≤ 6 ∧ ∀ p ∈ l, p.n.fit) := hid Iff.rfl
  obtain ⟨y0, y1, y2⟩ := lnCells3 e0
  show Calls Tryz.prog 22 #[.agg #[.slice p l.length cp, .bool bn, .slice q r.words.length cq]] w (RIf (Lx.fit ⟨l, r⟩) w)
  obtain ⟨L, hLL⟩ : ∃ L, L = l.length := ⟨_, rfl⟩
  have HLL := hid hLL
  have j1 : l.length ≤ cp := j1
  rw [← hLL] at j1 y0 hW hfit ⊢
  generalize r.words.length = m at *
  clear j4 b0 e0 hLL
  by_cases hL : L ≤ 40
  · have hd : decide ((40 : Int) < (L : Int)) = false := by simp; omega
    by_cases hm : m ≤ 6
    · have hd2 : decide ((6 : Int) < (m : Int)) = false := by simp; omega
      go_enter Tryz.func22, Tryz.ntmps22
      go_upto_region 1 with fail
      rw [← hW]
      clear hW
      go_wp2_with fail
      clear y0 y1 y2
      go_loopw [19] (fun i wr => ∃ (k : Nat), k ≤ L ∧ i = .int .i64 (k : Nat) ∧ Hid (∀ p ∈ l.take k, p.n.fit) ∧ Hid (Below W.heap.size W wr)) (fun i _ => L - (intOf i).toNat)
      case atStart => exact ⟨0, Nat.zero_le _, rfl, hid (by simp), hid (Below.refl _ _)⟩
      case round =>
        obtain ⟨k, hk, rfl, HA, HB⟩ := hrel
        have HBw := hid (lnGo HB.out B0.out)
        by_cases hlt : k < L
        · have hkt : k < l.length := by rw [← HLL.out]; exact hlt
          have hlt' : (k : Int) < (L : Int) := by omega
          obtain ⟨b, o, rfl, hb, hc⟩ := J4.out (by show 0 < l.length; omega)
          obtain ⟨cs, k0, n1, s1, ecs, hq, hwf⟩ := hc k hkt
          obtain ⟨q1, cq1, e5, -⟩ := hq
          injection e5 with e6 e5
          injection e5 with e5 _
          have ecs : cs = [n1, s1, .int .i64 (l[k]'hkt).term] := ecs
          subst e5 e6 ecs
          have y0 := (HBw.out.cell (p := ⟨b, o + k * 3, none⟩) hb).trans (k0 0 _ rfl)
          have y1 := (HBw.out.cell (p := ⟨b, o + k * 3 + 1, none⟩) hb).trans (k0 1 _ rfl)
          have y2 := (HBw.out.cell (p := ⟨b, o + k * 3 + 2, none⟩) hb).trans (k0 2 _ rfl)
          have y0 : wr.cell? ⟨b, o + k * 3, none⟩ = some (.bool l[k].n.neg) := y0
          have y1 : wr.cell? ⟨b, o + k * 3 + 1, none⟩ = some (.slice q1 l[k].n.words.length cq1) := y1
          have Hsn : Hid (l.take (k + 1) = l.take k ++ [l[k]]) := hid (List.take_succ_eq_append_getElem hkt)
          have Hf : Hid (l[k].n.fit ↔ l[k].n.words.length ≤ 6) := hid Iff.rfl
          clear k0 hc hwf
          generalize l[k].n.words.length = m1 at *
          generalize l[k].n.neg = g1 at *
          generalize l[k].term = t1 at *
          by_cases hm1 : m1 ≤ 6
          · have hd3 : decide ((6 : Int) < (m1 : Int)) = false := by simp; omega
            have HA2 : Hid (∀ p ∈ l.take (k + 1), p.n.fit) := hid (fun p hp => by
              rcases List.mem_append.1 (Hsn.out ▸ hp) with hp | hp
              · exact HA.out p hp
              · rw [List.mem_singleton.1 hp]; exact Hf.out.2 hm1)
            have HB2 := hid (lnGo (below1 wr (.cells #[.bool g1, .slice q1 m1 cq1, .int .i64 t1] 63)) HB.out)
            clear HA HB HBw Hsn Hf
            go_wp2_with fail
            go_roundw
            case rel => exact ⟨k + 1, by omega, by go_num, HA2, HB2⟩
            case measure => simp [intOf] <;> omega
          · have hd3 : decide ((6 : Int) < (m1 : Int)) = true := by simp; omega
            have HB2 := hid (lnGo (below1 wr (.cells #[.bool g1, .slice q1 m1 cq1, .int .i64 t1] 63)) HBw.out)
            clear HA HB HBw Hsn Hf
            go_wp2
            go_ret
            exact ⟨false, rfl, (fun h => by cases h), HB2.out⟩
        · obtain rfl : k = L := by omega
          have hfin : l.take k = l := by rw [HLL.out, List.take_length]
          have hA := HA.out
          rw [hfin] at hA
          have Hfin := hid (hfit.out.2 ⟨hL, hm, hA⟩)
          clear HA hA hfin
          go_wp2
          go_ret
          exact ⟨true, rfl, fun _ => Hfin.out, HBw.out⟩
    · have hd2 : decide ((6 : Int) < (m : Int)) = true := by simp; omega
      go_enter Tryz.func22, Tryz.ntmps22
      go_upto_region 1 with fail
      rw [← hW]
      clear hW
      go_wp2
      go_ret
      exact ⟨false, rfl, (fun h => by cases h), B0.out⟩
  · have hd : decide ((40 : Int) < (L : Int)) = true := by simp; omega
    go_enter Tryz.func22, Tryz.ntmps22
    go_upto_region 1 with fail
    rw [← hW]
    clear hW
    go_wp2
    go_ret
    exact ⟨false, rfl, (fun h => by cases h), B0.out⟩
end Go.Proofs.YtnfohbpgnbfmeaaGreatDoor
/- Lists of sums that come in as data: how they read. -/
namespace Go.Proofs.YtnfohbpgnbfmeaaGreatDoor
open Go.ChangeShapes Go.WideShapes Go.ChangeAt Go.RowKit Go.Deep Go.Joins Big

def LxC (w : World) (c : List Value) (x : Lx) : Prop := ∃ a b d, c = [a, b, d] ∧ LxQ w (.agg #[a, b, d]) x
theorem LxQ.below7 {w w' : World} {v : Value} {x : Lx} (h : LxQ w v x) (hb : Below w.heap.size w w') : LxQ w' v x := by
  obtain ⟨p, n, cp, s, e, h1, h2, h3, h4⟩ := h
  exact ⟨p, n, cp, s, e, h1.below hb, h2.below hb, h3, h4⟩
theorem LxC.below {w w' : World} {c : List Value} {x : Lx} (h : LxC w c x) (hb : Below w.heap.size w w') : LxC w' c x := by
  obtain ⟨a, b, d, e, h⟩ := h
  exact ⟨a, b, d, e, h.below7 hb⟩
abbrev LxsIn := LsIn 3 LxC
theorem LxsIn.below {w w' : World} {v : Value} {l : List Lx} (h : LxsIn w v l) (hb : Below w.heap.size w w') : LxsIn w' v l := LsIn.below (Q := LxC) (fun h hb => LxC.below h hb) h hb
section
variable {H : Type} {enc : TypeId × Value → H} {w : World} {base : Nat} {spare : Nat → Bool} {held : Bool}
set_option maxRecDepth 100000 in
theorem open_lin3 {fuel : Nat} {cs : List Value} {y : DataW H × List MemPlace} (h : DataW.trod enc Tryz.prog w base spare held fuel 37 cs = some y) : ∃ x : Lx, LxC w cs x := by
  obtain ⟨f0, f1, hs, e0, e1, o0, o1⟩ := fieldsLinear
  obtain ⟨xs, n, rfl, -, hl, hlen, hfi⟩ := DataW.trod_struct hs h
  rw [cellsLinearP] at hl
  match cs, hl, xs, hlen with
  | [c0, c1, c2], _, [y0, y1], _ =>
    have h0 := hfi 0 f0 rfl
    have h1 := hfi 1 f1 rfl
    rw [e0, o0, cellsPartsP] at h0
    rw [e1, o1, cellsIntP] at h1
    obtain ⟨v0, l0, g, k⟩ := open_px6s (show DataW.trod enc Tryz.prog w base spare held n 31 [c0] = some y0 from h0)
    obtain ⟨x, k'⟩ := open_nx (show DataW.trod enc Tryz.prog w base spare held n 35 [c1, c2] = some y1 from h1)
    injection g with g _
    subst g
    obtain ⟨q, cq, e, -⟩ := id k'
    injection e with e3 e
    injection e with e4 _
    obtain ⟨pp, cc, rfl, -⟩ := id k
    exact ⟨⟨l0, x⟩, _, _, _, rfl, pp, _, cc, _, rfl, k, k', ⟨_, e3⟩, _, _, _, e4⟩
set_option maxRecDepth 100000 in
/-- sums by value -/
theorem open_lins {r : Reach} {b0 : Nat} {v : Value} {d : DataW H} {p : List MemPlace} (hv : Value.okWide Tryz.prog w r b0 22 v) (h : DataW.Trod enc Tryz.prog w base spare held 22 v d p) : ∃ l, LxsIn w v l := by
  obtain ⟨a, len, cap, rfl⟩ := okWide_slice Tryz.underlying22 hv
  obtain ⟨fuel, hf⟩ := h
  obtain ⟨v', l, he, h1⟩ := open_ls (Q := LxC) 3 Tryz.underlying22 cellsLinearP (by decide) (fun _ _ _ h => open_lin3 h) hf
  have hv' : v' = .slice a len cap := by simpa [Value.cells] using he.symm
  rw [hv'] at h1
  exact ⟨l, h1⟩
end
end Go.Proofs.YtnfohbpgnbfmeaaGreatDoor
/- What the second of two asks answers; facts of a region in which a call writes. -/
namespace Go.Proofs.YtnfohbpgnbfmeaaGreatDoor
open Go.RowKit Big

theorem LxQ.below {w w' : World} {v : Value} {x : Lx} (h : LxQ w v x) (hb : Below w.heap.size w w') : LxQ w' v x := h.below7 hb
theorem LxQ.agg3 {w : World} {v : Value} {x : Lx} (h : LxQ w v x) : ∃ p c q k d, v = .agg #[.slice p x.parts.length c, .bool x.rest.neg, .slice q k d] := by
  obtain ⟨p, n, cp, s, rfl, h1, h2, -⟩ := h
  obtain ⟨q, cq, e2, -⟩ := h2
  injection e2 with e1 e2
  injection e2 with e2 _
  subst e1 e2
  exact ⟨_, _, _, _, _, rfl⟩
theorem lnIs_nil : lnIs [] := ⟨.nil, by simp⟩
theorem atAns_pos {s : AtS} {l : AtRow} {c : Int} (hI : lnIs l) (h0 : l ≠ []) : atAns s l c = (((atLay s (atOne l c).1 (atOne l c).2.1).2 : Int), (atOne l c).2.2, 0) := by
  unfold atAns atAsk
  rw [if_pos hI, if_neg h0]
theorem atAns_nil {s : AtS} {c : Int} : atAns s [] c = (-1, decide (c ≤ 0), 0) := by
  unfold atAns atAsk
  rw [if_pos lnIs_nil, if_pos rfl]
theorem atAsk1_pos {s : AtS} {l : AtRow} {c : Int} (hI : lnIs l) (h0 : l ≠ []) : atAsk1 s (l, c) = (atLay s (atOne l c).1 (atOne l c).2.1).1 := by
  unfold atAsk1 atAsk
  rw [if_pos hI, if_neg h0]
theorem atAns_err (s : AtS) {l : AtRow} (c : Int) (hI : lnIs l) : (atAns s l c).2.2 = 0 := by
  unfold atAns
  rw [if_pos hI]
theorem atAsk1_len (s : AtS) (a : AtRow × Int) : (atAsk1 s a).rows.length ≤ s.rows.length + 1 ∧ (atAsk1 s a).atoms.length ≤ s.atoms.length + 1 := by
  unfold atAsk1
  split
  · exact atAsk_len _ _ _
  · exact ⟨by omega, by omega⟩
theorem AtGood.ask1 {s : AtS} (h : AtGood 7 s) {l : AtRow} {c : Int} (hs : ∀ p ∈ l, Big.sz W p.1.natAbs ≤ 6) (hc : Big.sz W c.natAbs ≤ 6) (hl : l.length ≤ 1000) (hw : ∀ p ∈ l, -9223372036854775808 ≤ p.2 ∧ p.2 ≤ 9223372036854775807) : AtGood 7 (atAsk1 s (l, c)) := by
  unfold atAsk1
  split
  · rename_i hI
    exact h.ask hI hs hc hl hw
  · exact h

/-- a fact that holds as long as nothing is written into S: it is used ahead of the writer -/
def wB {S : Nat → Prop} (w0 : World) (F : SFact) : WFact S := ⟨fun v w => ∃ wb, Below w0.heap.size w0 wb ∧ F.P v wb ∧ Apart S wb w, fun _ _ _ ⟨wb, h1, h2, h3⟩ h => ⟨wb, h1, h2, h3.go h⟩⟩
/-- a fresh variable of type api.Linear -/
def lnV10 (B : Nat) : SFact := ⟨fun v w => ∃ g, v = .pointer (some ⟨g, 0, none⟩) ∧ B ≤ g ∧ w.heap[g]? = some (.cells #[.slice none 0 0, .bool false, .slice none 0 0] 37 (0, 0)),
  fun _ _ _ ⟨g, h1, h2, h3⟩ hb => ⟨g, h1, h2, (hb.block g (Array.getElem?_eq_some_iff.1 h3).1).trans h3⟩⟩
/-- no parts, and this number -/
def lnC10 (z : Int) : SFact := ⟨fun v w => ∃ d q k e, v = .agg #[.slice none 0 0, .bool d, .slice q k e] ∧ LnT w v ([], z), fun _ _ _ ⟨d, q, k, e, h1, h2⟩ hb => ⟨d, q, k, e, h1, h2.below hb⟩⟩
end Go.Proofs.YtnfohbpgnbfmeaaGreatDoor
/- atoms.ownRow: a row in memory of its own. Made by gen_atown.py. -/
namespace Go.Proofs.YtnfohbpgnbfmeaaGreatDoor
open Go.RowKit Big Go.WideMaps

/-- a number whose words lie in a row of its own, out of S -/
def wIo {S : Nat → Prop} (z : Int) : WFact S := ⟨fun v w => ∃ p n c, v = .agg #[.bool (decide (z < 0)), .slice p n c] ∧ Own w 0 84 .u64 (.slice p n c) (dig W z.natAbs) ∧ ∀ k, (Value.slice p n c).ownBlock = some k → ¬ S k,
  fun _ _ _ ⟨p, n, c, h1, h2, h3⟩ ha => ⟨p, n, c, h1, row_stays h2 (fun k hk => ha.block k (World.ownsRow.lt h2 k hk).2 (h3 k hk)), h3⟩⟩
def wNp {S : Nat → Prop} (z t : Int) : WFact S := ⟨fun v w => ∃ p n c, v = .agg #[.bool (decide (z < 0)), .slice p n c, .int .i64 t] ∧ Own w 0 84 .u64 (.slice p n c) (dig W z.natAbs) ∧ ∀ k, (Value.slice p n c).ownBlock = some k → ¬ S k,
  fun _ _ _ ⟨p, n, c, h1, h2, h3⟩ ha => ⟨p, n, c, h1, row_stays h2 (fun k hk => ha.block k (World.ownsRow.lt h2 k hk).2 (h3 k hk)), h3⟩⟩
def wNr {S : Nat → Prop} (z t : Int) : WFact S := ⟨fun v w => ∃ gg p n c, v = .slice (some ⟨gg, 0, none⟩) 1 1 ∧ w.heap[gg]? = some (.cells #[.bool (decide (z < 0)), .slice p n c, .int .i64 t] 63 (0, 0)) ∧ ¬ S gg ∧ Own w 0 84 .u64 (.slice p n c) (dig W z.natAbs) ∧ ∀ k, (Value.slice p n c).ownBlock = some k → ¬ S k,
  fun _ _ _ ⟨gg, p, n, c, h1, h2, h3, h4, h5⟩ ha => ⟨gg, p, n, c, h1, (ha.block gg (Array.getElem?_eq_some_iff.1 h2).1 h3).trans h2, h3, row_stays h4 (fun k hk => ha.block k (World.ownsRow.lt h4 k hk).2 (h5 k hk)), h5⟩⟩
theorem Own.num {w : World} {z : Int} {p : Option Addr} {n c : Nat} {B : Nat} (h : Own w B 84 .u64 (.slice p n c) (dig W z.natAbs)) : IntAt w (.agg #[.bool (decide (z < 0)), .slice p n c]) z := ⟨_, rfl, h.at⟩
theorem RowW.below {w w' : World} {B : Nat} {e : TypeId} {k : Nat} {v : Value} {n : Nat} {xs : List Value} (h : RowW w B e k v n xs) (hb : Below w.heap.size w w') : RowW w' B e k v n xs := h.stays (fun g hg => hb.block g (World.ownsRow.lt h.1 g hg).2)
abbrev LsP (B : Nat) (w : World) (v : Value) (l : List (Int × Int)) : Prop := LsG 63 3 PtT B w v l
theorem LsP.pts {B : Nat} {w : World} {v : Value} {l : List (Int × Int)} (h : LsP B w v l) : PtsT w v l := OwnLs.in (e := 63) (B := B) h.1
set_option maxRecDepth 100000 in
set_option maxHeartbeats 12800000 in
theorem ownRow_any (v : Value) (r : AtRow) (w : World) (h : LnT w v (r, 0)) (hs : ∀ p ∈ r, sz W p.1.natAbs ≤ 7) (hl : r.length ≤ 1000) : Calls Tryz.prog 37 #[v] w (RLinF (r, 0) w) := by
  obtain ⟨i0, hij, hz0, hz1, hz2⟩ := info_parts infoPart
  obtain ⟨pv, sv, rfl, hp, -⟩ := h
  obtain ⟨p0, c0, rfl, j1, j2, -, j4⟩ := hp
  have J4 := hid j4
  have HSz := hid hs
  obtain ⟨L, hLL⟩ : ∃ L, L = r.length := ⟨_, rfl⟩
  have HLL := hid hLL
  rw [← hLL] at j1 hl ⊢
  obtain ⟨d0, hd0⟩ : ∃ d, d = decide (((r, 0) : AtRow × Int).2 < 0) := ⟨_, rfl⟩
  rw [← hd0]
  obtain ⟨W3, hW⟩ : ∃ W3, W3 = ((w.alloc (.cells #[.slice p0 L c0, .bool d0, sv] 37)).alloc (.cells #[.slice none 0 0, .bool false, .slice none 0 0] 37)).alloc (.cells #[.slice none 0 0, .bool false, .slice none 0 0] 37) := ⟨_, rfl⟩
  have hb3 : Below w.heap.size w W3 := by rw [hW]; exact ((below1 _ _).alloc (by simp) _).alloc (by simp; omega) _
  have z3 : W3.heap.size = w.heap.size + 3 := by rw [hW]; simp
  have e0 : W3.heap[w.heap.size]? = some (.cells #[.slice p0 L c0, .bool d0, sv] 37 (0, 0)) := by rw [hW, heap_alloc_old _ _ (by simp; omega), heap_alloc_old _ _ (by simp)]; exact heap_alloc_new _ _
  have e1 : W3.heap[w.heap.size + 1]? = some (.cells #[.slice none 0 0, .bool false, .slice none 0 0] 37 (0, 0)) := by
    rw [hW, heap_alloc_old _ _ (by simp)]
    have := heap_alloc_new (w.alloc (.cells #[.slice p0 L c0, .bool d0, sv] 37)) (.cells #[.slice none 0 0, .bool false, .slice none 0 0] 37)
    rwa [size_alloc] at this
  have e2 : W3.heap[w.heap.size + 1 + 1]? = some (.cells #[.slice none 0 0, .bool false, .slice none 0 0] 37 (0, 0)) := by
    have := heap_alloc_new ((w.alloc (.cells #[.slice p0 L c0, .bool d0, sv] 37)).alloc (.cells #[.slice none 0 0, .bool false, .slice none 0 0] 37)) (.cells #[.slice none 0 0, .bool false, .slice none 0 0] 37)
    rw [size_alloc, size_alloc] at this
    rw [hW]; exact this
  obtain ⟨ob, ho⟩ : ∃ ob, ob = w.heap.size + 1 + 1 := ⟨_, rfl⟩
  rw [← ho] at e2
  have Ho := hid ho
  have H3 := hid hb3; have E1 := hid e1; have E2 := hid e2; have Z3 := hid z3
  have H0 : Hid (r.take 0 = []) := hid (by simp)
  obtain ⟨y0, y1, y2⟩ := lnCells3 e0
  clear j4 hs hLL hd0 e0 e1 e2 hb3
  go_enter Tryz.func37, Tryz.ntmps37
  go_upto_region 2 with fail
  rw [← hW, ← ho]
  clear hW ho
  go_wp2_with fail
  go_loopw [9] (fun i wr => ∃ (k : Nat) (vp : Value), k ≤ L ∧ i = .int .i64 (k : Nat) ∧ Hid (wr.heap[ob]? = some (.cells #[vp, .bool false, .slice none 0 0] 37 (0, 0))) ∧ Hid (LsP W3.heap.size wr vp (r.take k)) ∧ Hid (Apart (fun b => b = ob) W3 wr)) (fun i _ => L - (intOf i).toNat)
  case atStart => exact ⟨0, .slice none 0 0, Nat.zero_le _, rfl, E2, hid (by rw [H0.out]; exact LsG.nil ..), hid (Apart.refl _ _)⟩
  case round =>
    obtain ⟨k, vp, hk, rfl, HBx, HLp, HAp⟩ := hrel
    have hzr := HAp.out.size
    by_cases hlt : k < L
    · have hka : k < r.length := by rw [← HLL.out]; exact hlt
      have hlt' : (k : Int) < (L : Int) := by omega
      obtain ⟨b, off, rfl, hb, hc⟩ := J4.out (by omega)
      obtain ⟨cc, kk, sx, rfl, hI, hwf⟩ := hc k hka
      have Hof : Hid (ob = w.heap.size + 1 + 1) := Ho
      have HwA : Hid (Apart (fun b => b = ob) w wr) := hid ((Apart.of_below H3.out).go HAp.out)
      have hne : b ≠ ob := by have := Ho.out; omega
      have x0 := (HwA.out.cell (p := ⟨b, off + k * 3, none⟩) hb hne).trans (kk 0 _ rfl)
      have x1 := (HwA.out.cell (p := ⟨b, off + k * 3 + 1, none⟩) hb hne).trans (kk 1 _ rfl)
      have x2 := (HwA.out.cell (p := ⟨b, off + k * 3 + 2, none⟩) hb hne).trans (kk 2 _ rfl)
      have hNW : ∀ u, u = ob → NoWd w u := fun u e j n hcx => by
        have := World.block_lt_of_cell? w _ hcx
        have := Ho.out
        simp at *
        omega
      have hsz := HSz.out _ (List.getElem_mem hka)
      have hraw := (hI.quiet HwA.out hNW).rawL (Nat.le_trans hsz (by decide))
      have Htk : Hid (r.take (k + 1) = r.take k ++ [r[k]]) := hid (List.take_succ_eq_append_getElem hka)
      have Hkl : Hid ((r.take k).length = k) := hid (by simp; omega)
      have Hwf := hid hwf
      generalize r[k] = x at *
      obtain ⟨z, t⟩ := x
      obtain ⟨pq, nq, cq, eq1, -⟩ := hI.shape
      obtain rfl : sx = .slice pq nq cq := by injection eq1 with eq1; simp at eq1; exact eq1
      obtain ⟨bz, hbz⟩ : ∃ b, b = decide (z < 0) := ⟨_, rfl⟩
      replace hraw : RawAt wr (.agg #[.bool bz, .slice pq nq cq]) z := by rw [hbz]; exact hraw
      replace x0 : wr.cell? ⟨b, off + k * 3, none⟩ = some (.bool bz) := by rw [hbz]; exact x0
      obtain ⟨W7, hW7⟩ : ∃ W7, W7 = wr.alloc (.cells #[.bool bz, .slice pq nq cq, .int .i64 t] 63) := ⟨_, rfl⟩
      have b7 : Below wr.heap.size wr W7 := by rw [hW7]; exact below1 wr _
      have e7 : W7.heap[wr.heap.size]? = some (.cells #[.bool bz, .slice pq nq cq, .int .i64 t] 63 (0, 0)) := by rw [hW7]; exact heap_alloc_new wr _
      have hol : ob < wr.heap.size := (Array.getElem?_eq_some_iff.1 HBx.out).1
      have HBx7 := hid ((b7.block ob hol).trans HBx.out)
      have HLp7 : LsP W3.heap.size W7 vp (r.take k) := HLp.out.kept (fun g hg => b7.block g (HLp.out.base g hg).2.1) (fun c x hx => PtT.below hx b7)
      obtain ⟨pv, cv, hva⟩ := HLp7.shape
      rw [Hkl.out] at hva
      obtain ⟨xs, hrow, hgo⟩ := HLp7.row
      rw [Hkl.out] at hrow hgo
      have Hrow := hid hrow; have Hgo := hid (fun (Q' : World → List Value → Int × Int → Prop) => @hgo Q'); have Hbase := hid HLp7.base
      have E7 := hid e7
      have HR7 := hid (hraw.below b7)
      have HA7 := hid (HAp.out.go (Apart.of_below b7))
      have Hvlt7 := hid (fun u hu => (HLp.out.base u hu).2.1)
      have hz7 : wr.heap.size < W7.heap.size := by rw [hW7, size_alloc]; omega
      have Hol := hid hol
      clear hc kk hraw hNW hsz b7 e7 HLp7 hrow hgo HBx HLp HAp hI eq1 hbz hwf
      subst hva
      go_upto_region 5 with fail
      rw [← hW7]
      clear hW7 x0 x1 x2
      refine wp_region_write (w0 := W7) 11 1 [13, 14, 15, 16, 17, 18, 19, 20, 21, 22, 23] [u13, u14, u15, u16, u17, u18, u19, u20, u21, u22, u23] (S := (fun u => (Value.slice pv k cv).ownBlock = some u))
        (fun i => match i with | 0 => wEq (.pointer (some ⟨ob, 0, none⟩)) | 1 => wEq (.slice pv k cv) | 2 => wEq (.pointer (some ⟨wr.heap.size, 0, none⟩)) | 3 => wEq (.agg #[.bool bz, .slice pq nq cq]) | 4 => wIo z | 5 => wEq (.pointer (some ⟨wr.heap.size, 2, none⟩)) | 6 => wEq (.int .i64 t) | 7 => wNp z t | 8 => wNr z t | 9 => wAny | _ => wEq (.pointer (some ⟨ob, 0, none⟩))) 9 (fun v w => ∃ p n c, RowW w W3.heap.size 63 3 v (k + 1) (xs ++ [.bool (decide (z < 0)), .slice p n c, .int .i64 t]) ∧ Own w 0 84 .u64 (.slice p n c) (dig W z.natAbs)) (fun _ _ _ ⟨p, n, c, h1, h2⟩ hb => ⟨p, n, c, h1.below hb, row_stays h2 (fun g hg => hb.block g (World.ownsRow.lt h2 g hg).2)⟩) (by kernel_rfl) (by kernel_rfl) (by kernel_rfl) (by kernel_rfl) (by decide) rfl (by kernel_rfl) rfl (by decide) ?he1 ?_ ?_
      case he1 => simp only [putAll, Act.put, List.setIfInBounds_toArray, List.set_cons_zero, List.set_cons_succ]
      · intro i o hi ho vs wx hvl hb hB hdep K hK
        have hvs := vlen11 hvl
        obtain ⟨s13, s14, s15, s16, s17, s18, s19, s20, s21, s22, s23, rfl⟩ := hvs
        clear hvl
        obtain ⟨y3, y4, y5⟩ := lnCells3 ((hb.block wr.heap.size (by omega) (fun e => by have h3 := Hvlt7.out _ e; omega)).trans E7.out)
        obtain ⟨x0, x1, x2⟩ := lnCells3 ((hb.block ob (by have := Hol.out; omega) (fun e => by have := (Hbase.out _ e).1; have := Z3.out; have := Ho.out; omega)).trans HBx7.out)
        rcases i with _ | _ | _ | _ | _ | _ | _ | _ | _ | _ | _ | i
        all_goals (simp only [List.getElem?_toArray, List.getElem?_cons_zero, List.getElem?_cons_succ, Option.some.injEq] at ho)
        all_goals try (subst ho)
        all_goals try simp only [putAll, Act.put, List.setIfInBounds_toArray, List.set_cons_zero, List.set_cons_succ]
        · go_simp
          have hK' := hK.out
          simp only [putAll, Act.put, List.setIfInBounds_toArray, List.set_cons_zero, List.set_cons_succ] at hK'
          exact hK' _ _ rfl (fun _ => Below.refl _ _) (fun h => absurd h (by decide))
        · have e0 : s13 = _ := hdep ⟨0, .data⟩ (by simp) rfl
          have e0 := e0.symm
          subst e0
          go_simp
          have hK' := hK.out
          simp only [putAll, Act.put, List.setIfInBounds_toArray, List.set_cons_zero, List.set_cons_succ] at hK'
          exact hK' _ _ rfl (fun _ => Below.refl _ _) (fun h => absurd h (by decide))
        · go_simp
          have hK' := hK.out
          simp only [putAll, Act.put, List.setIfInBounds_toArray, List.set_cons_zero, List.set_cons_succ] at hK'
          exact hK' _ _ rfl (fun _ => Below.refl _ _) (fun h => absurd h (by decide))
        · have e2 : s15 = _ := hdep ⟨2, .data⟩ (by simp) rfl
          have e2 := e2.symm
          subst e2
          go_simp
          have hK' := hK.out
          simp only [putAll, Act.put, List.setIfInBounds_toArray, List.set_cons_zero, List.set_cons_succ] at hK'
          exact hK' _ _ rfl (fun _ => Below.refl _ _) (fun h => absurd h (by decide))
        · have e3 : s16 = _ := hdep ⟨3, .data⟩ (by simp) rfl
          have e3 := e3.symm
          subst e3
          go_simp
          refine (Norm_own _ z wx (HR7.out.quiet hb (fun u e => (Hbase.out u e).2.2))).mono ?_
          rintro e wy ⟨vy, rfl, ⟨s5, rfl, ho5⟩, hby⟩
          have hsh := ownsRow_shape ho5
          obtain ⟨p5, c5, rfl⟩ := hsh
          go_wp2_with fail
          have hK' := hK.out
          simp only [putAll, Act.put, List.setIfInBounds_toArray, List.set_cons_zero, List.set_cons_succ] at hK'
          exact hK' _ _ ⟨_, _, _, rfl, ho5.mono (Nat.zero_le _), fun k hk e => by have h1 := (World.ownsRow.lt ho5 k hk).1; have h2 := (Hbase.out k e).2.1; have := hb.size; omega⟩ (fun _ => hby) (fun h => absurd h (by decide))
        · go_simp
          have hK' := hK.out
          simp only [putAll, Act.put, List.setIfInBounds_toArray, List.set_cons_zero, List.set_cons_succ] at hK'
          exact hK' _ _ rfl (fun _ => Below.refl _ _) (fun h => absurd h (by decide))
        · have e5 : s18 = _ := hdep ⟨5, .data⟩ (by simp) rfl
          have e5 := e5.symm
          subst e5
          go_simp
          have hK' := hK.out
          simp only [putAll, Act.put, List.setIfInBounds_toArray, List.set_cons_zero, List.set_cons_succ] at hK'
          exact hK' _ _ rfl (fun _ => Below.refl _ _) (fun h => absurd h (by decide))
        · have e4 : (wIo z).P s17 wx := hdep ⟨4, .data⟩ (by simp) rfl
          have e6 : s19 = _ := hdep ⟨6, .data⟩ (by simp) rfl
          have e6 := e6.symm
          subst e6
          obtain ⟨p5, n5, c5, rfl, ho5, hoS⟩ := e4
          go_simp
          have hK' := hK.out
          simp only [putAll, Act.put, List.setIfInBounds_toArray, List.set_cons_zero, List.set_cons_succ] at hK'
          exact hK' _ _ ⟨p5, n5, c5, rfl, ho5, hoS⟩ (fun _ => Below.refl _ _) (fun h => absurd h (by decide))
        · have e7 : (wNp z t).P s20 wx := hdep ⟨7, .data⟩ (by simp) rfl
          obtain ⟨p5, n5, c5, rfl, ho5, hoS⟩ := e7
          go_simp
          have hK' := hK.out
          simp only [putAll, Act.put, List.setIfInBounds_toArray, List.set_cons_zero, List.set_cons_succ] at hK'
          exact hK' _ _ ⟨_, p5, n5, c5, rfl, heap_alloc_new _ _, fun e => by have h2 := (Hbase.out _ e).2.1; have := hb.size; omega, ho5.alloc _, hoS⟩ (fun _ => below1 _ _) (fun h => absurd h (by decide))
        · have e1 : s14 = _ := hdep ⟨1, .data⟩ (by simp) rfl
          have e1 := e1.symm
          subst e1
          have e8 : (wNr z t).P s21 wx := hdep ⟨8, .data⟩ (by simp) rfl
          have hbB := hB (Or.inl rfl)
          obtain ⟨gg, p5, n5, c5, e8, hg8, hgS, ho5, hoS⟩ := e8
          subst e8
          have hrow : RowW wx W3.heap.size 63 3 (.slice pv k cv) k xs := Hrow.out.below hbB
          have hK' := hK.out
          simp only [putAll, Act.put, List.setIfInBounds_toArray, List.set_cons_zero, List.set_cons_succ] at hK'
          rw [if_pos (by rfl)]
          refine step_append_w (.tmp 14) (.tmp 21) 31 ?ho W3.heap.size 63 i0 _ 3 40 Tryz.underlying31 hij hz0 hz1 hz2 rfl (by decide) (by intro n h; simp [Value.cells] at h) (.slice pv k cv) k xs ?hs hrow ⟨gg, 0, none⟩ 1 1 [.bool (decide (z < 0)), .slice p5 n5 c5, .int .i64 t] ?hx rfl ?c1 ?c2 ?c6 ?c3 ?c4 ?c5 ?_
          case ho => rfl
          case hs => rfl
          case hx => rfl
          case c1 => exact lnCellsAt hg8
          case c2 => intro u hu; simp at hu; (rcases hu with rfl | rfl | rfl <;> rfl)
          case c6 => intro n h; simp at h
          case c3 => simp [maxLen]; omega
          case c4 => omega
          case c5 => have := hbB.size; omega
          intro v' w' hown' hgrow _
          exact hK' _ _ trivial (fun h => absurd rfl h) (fun _ => ⟨(Apart.refl _ _).grown hgrow (fun k e => e), p5, n5, c5, hown', row_stays ho5 (fun k hk => hgrow.block k (World.ownsRow.lt ho5 k hk).2 (fun e => hoS k hk e.symm))⟩)
        · go_simp
          have hK' := hK.out
          simp only [putAll, Act.put, List.setIfInBounds_toArray, List.set_cons_zero, List.set_cons_succ] at hK'
          exact hK' _ _ rfl (fun _ => Below.refl _ _) (fun h => absurd h (by decide))
        · omega
      · intro vs wx hvl hb hf hJw
        have hvs := vlen11 hvl
        obtain ⟨s13, s14, s15, s16, s17, s18, s19, s20, s21, s22, s23, rfl⟩ := hvs
        have f6 : s23 = .pointer (some ⟨ob, 0, none⟩) := hf 10 (by decide)
        subst f6
        obtain ⟨p5, n5, c5, hown, ho5⟩ := (show ∃ p n c, RowW wx W3.heap.size 63 3 s22 (k + 1) (xs ++ [.bool (decide (z < 0)), .slice p n c, .int .i64 t]) ∧ Own wx 0 84 .u64 (.slice p n c) (dig W z.natAbs) from hJw)
        have hsh := ownsRow_shape hown.1
        obtain ⟨pn, cn, ev⟩ := hsh
        subst ev
        have hS : ∀ u, (Value.slice pv k cv).ownBlock = some u → NoWd W7 u := fun u e => (Hbase.out u e).2.2
        have hnq : PtT wx [.bool (decide (z < 0)), .slice p5 n5 c5, .int .i64 t] (z, t) := ⟨_, rfl, ho5.num, Hwf.out⟩
        have hnew := Hgo.out PtT wx _ _ (z, t) hown rfl (fun c x hx => hx.quiet hb hS) hnq
        have hbxx := (hb.block ob (by have := Hol.out; omega) (fun e => by have := (Hbase.out _ e).1; have := Z3.out; have := Ho.out; omega)).trans HBx7.out
        obtain ⟨q0', q1', q2'⟩ := lnCells3 hbxx
        have fz := frozen_of_row wx ob 0 _ _ hbxx
        have hb9 := heap_setCell_same wx ob 0 _ _ (.slice pn (k + 1) cn) hbxx
        have hbase2 := hnew.base
        have hNo : ∀ u, u = ob → NoWd wx u := fun u e => by rw [e]; exact NoWd.cells hbxx (by simp)
        have hlast : LsP W3.heap.size (wx.setCell ⟨ob, 0, none⟩ (.slice pn (k + 1) cn)) (.slice pn (k + 1) cn) (r.take k ++ [(z, t)]) := hnew.kept (fun u hu => Below.heap_setCell _ _ _ _ (show u ≠ ob from fun e => by have := (hbase2 u hu).1; have := Z3.out; have := Ho.out; omega)) (fun c x hx => hx.quiet (apart_set _ _ _ _) hNo)
        have HNew : Hid (LsP W3.heap.size (wx.setCell ⟨ob, 0, none⟩ (.slice pn (k + 1) cn)) (.slice pn (k + 1) cn) (r.take (k + 1))) := hid (by rw [Htk.out]; exact hlast)
        have HB9 := hid hb9
        have HA9 : Hid (Apart (fun b => b = ob) W3 (wx.setCell ⟨ob, 0, none⟩ (.slice pn (k + 1) cn))) := hid ((HA7.out.trans hb (fun u e => .inr (Hbase.out u e).1)).go (apart_set _ _ _ _))
        clear hf hvl hJw hown ho5 hnq hnew hbxx hb9 hbase2 hlast hS hNo
        refine wpAny_one (i := 11) (by kernel_rfl) rfl ?_
        intro K hK
        simp only [putAll, Act.put, List.setIfInBounds_toArray, List.set_cons_zero, List.set_cons_succ]
        have hK' := hK.out
        go_simp
        apply hK'
        clear hK hK' q0' q1' q2' fz
        refine wpAny_done (by kernel_rfl) ?_ _
        try simp only [Act.put, List.setIfInBounds_toArray, List.set_cons_zero, List.set_cons_succ]
        go_wp2_with fail
        go_roundw
        case rel => exact ⟨k + 1, _, by omega, by go_num, HB9, HNew, HA9⟩
        case measure => simp [intOf]; omega
    · obtain rfl : k = L := by omega
      have hfull : r.take k = r := by rw [HLL.out, List.take_length]
      have hlp := HLp.out
      rw [hfull] at hlp
      obtain ⟨pv, cv, hva⟩ := hlp.shape
      rw [← HLL.out] at hva
      subst hva
      have e1 := (HAp.out.block (w.heap.size + 1) (by have := Z3.out; omega) (by have := Ho.out; omega)).trans E1.out
      obtain ⟨x0, x1, x2⟩ := lnCells3 e1
      obtain ⟨q0, q1, q2⟩ := lnCells3 HBx.out
      have fz0 := frozen_of_row wr (w.heap.size + 1) 0 _ _ e1
      have fz1 := frozen_of_row wr (w.heap.size + 1) 1 _ _ e1
      have fz2 := frozen_of_row wr (w.heap.size + 1) 2 _ _ e1
      have HBr : Hid (Below w.heap.size w wr) := hid (Apart.below ((Apart.of_below H3.out).go HAp.out) (Nat.le_refl _) (fun b e => by have := Ho.out; omega))
      have hbs := hlp.base
      have HTF := hid ((hlp.pts).apart (st3_apart wr (w.heap.size + 1) (.slice pv k cv) (.bool false) (.slice none 0 0)) (fun b hb => by rw [hb]; exact NoWd.cells e1 (by simp)) (fun b hb e => by have := (hbs b hb).1; have := Z3.out; omega))
      have HBF := hid (st3_below HBr.out (g := w.heap.size + 1) (by omega) (.slice pv k cv) (.bool false) (.slice none 0 0))
      have HFr := hid (fun b hb => (hbs b hb).1)
      clear hlp hfull HLp e1 hbs
      go_wp2_with fail
      exact bodyPost_ret (v := .agg #[.slice pv k cv, .bool false, .slice none 0 0]) (by simp [results, Tryz.results37, go_sem, x0, x1, x2]) rfl
        ⟨_, rfl, ⟨_, _, rfl, HTF.out, IntAt.zero _⟩, HBF.out, _, _, _, rfl, fun b hb => by have := HFr.out b hb; have := Z3.out; omega⟩
end Go.Proofs.YtnfohbpgnbfmeaaGreatDoor
/- (*atoms.Table).Rows and List, atoms.ownAtom. -/
namespace Go.Proofs.YtnfohbpgnbfmeaaGreatDoor
open Go.RowKit Big Go.WideMaps

def RLs {α : Type} (Q : World → List Value → α → Prop) (l : List α) (w : World) (e : Ending) (w' : World) : Prop := ∃ v, e = .returned v ∧ LsIn 3 Q w' v l ∧ Below w.heap.size w w'
set_option maxRecDepth 100000 in
set_option maxHeartbeats 6400000 in
theorem Rows_any (B g : Nat) (vr va : Value) (m1 m2 : Option Nat) (s : AtS) (w : World) (h : AtIn B w g vr va m1 m2 s) (hG : AtGood 7 s) (hn : s.rows.length < 50000) :
    Calls Tryz.prog 15 #[.pointer (some ⟨g, 0, none⟩)] w (RLs (RwQ fun _ => True) s.rows w) := by
  obtain ⟨i0, hij, hz0, hz1, hz2⟩ := info_parts infoLin
  obtain ⟨x0, x1, x2, x3⟩ := atCells4 h.cells
  have hsh := h.rows.shape
  obtain ⟨pr, cr, hvr⟩ := hsh
  have hin := OwnLs.in h.rows.1
  have HIn := hid hin; have HG := hid hG
  obtain ⟨L, hLL⟩ : ∃ L, L = s.rows.length := ⟨_, rfl⟩
  have HLL := hid hLL
  rw [← hLL] at hvr hn
  subst hvr
  have H0 : Hid (s.rows.take 0 = []) := hid (by simp)
  clear h hG hin hLL
  go_enter Tryz.func15, Tryz.ntmps15
  go_wp2_with fail
  go_loopw [13, 3] (fun i o wr => ∃ k : Nat, k ≤ L ∧ i = .int .i64 (k : Nat) ∧ Hid (LsG 37 3 (RwQ fun b => o.ownBlock ≠ some b) w.heap.size wr o (s.rows.take k)) ∧ Hid (Below w.heap.size w wr)) (fun i _ _ => L - (intOf i).toNat)
  case atStart => exact ⟨0, Nat.zero_le _, rfl, hid (by rw [H0.out]; exact LsG.nil ..), hid (Below.refl _ _)⟩
  case round =>
    obtain ⟨k, hk, rfl, HO, HB⟩ := hrel
    by_cases hlt : k < L
    · have hka : k < s.rows.length := by rw [← HLL.out]; exact hlt
      have hlt' : (k : Int) < (L : Int) := by omega
      obtain ⟨pr', cr', ev, i1, i2, -, i4⟩ := HIn.out
      injection ev with e1 e2 e3
      subst e1 e3
      clear e2
      obtain ⟨b, off, rfl, hb, hc⟩ := i4 (by rw [← HLL.out]; omega)
      obtain ⟨c, kk, hq⟩ := hc k hka
      obtain ⟨pv, sv, rfl, hP, hC, -, hne⟩ := hq
      have x0 := (HB.out.cell (p := ⟨b, off + k * 3, none⟩) hb).trans (kk 0 _ rfl)
      have x1 := (HB.out.cell (p := ⟨b, off + k * 3 + 1, none⟩) hb).trans (kk 1 _ rfl)
      have x2 := (HB.out.cell (p := ⟨b, off + k * 3 + 2, none⟩) hb).trans (kk 2 _ rfl)
      obtain ⟨pp, cp, rfl, -⟩ := id hP
      obtain ⟨pq, nq, cq, eq1, hC⟩ := hC.shape
      obtain rfl : sv = .slice pq nq cq := by injection eq1 with eq1; simp at eq1; exact eq1
      have hC : IntAt w (.agg #[.bool false, .slice pq nq cq]) 0 := hC
      have Htk : Hid (s.rows.take (k + 1) = s.rows.take k ++ [s.rows[k]]) := hid (List.take_succ_eq_append_getElem hka)
      have Hkl : Hid ((s.rows.take k).length = k) := hid (by simp; omega)
      have hrs := HG.out.sz _ (List.getElem_mem hka)
      have hrl := HG.out.len _ (List.getElem_mem hka)
      have Hne := hid hne
      have HP := hid hP; have HC := hid hC
      clear hne hP hC eq1
      generalize s.rows[k] = r at *
      obtain ⟨n, hn'⟩ : ∃ n, n = r.length := ⟨_, rfl⟩
      rw [← hn'] at HP
      obtain ⟨W3, hW3⟩ : ∃ W3, W3 = wr.alloc (.cells #[.slice pp n cp, .bool false, .slice pq nq cq] 37) := ⟨_, rfl⟩
      have b3 : Below wr.heap.size wr W3 := by rw [hW3]; exact below1 _ _
      have e3 : W3.heap[wr.heap.size]? = some (.cells #[.slice pp n cp, .bool false, .slice pq nq cq] 37 (0, 0)) := by rw [hW3]; exact heap_alloc_new _ _
      have z3 : W3.heap.size = wr.heap.size + 1 := by rw [hW3, size_alloc]
      have HW3 := hid (ownRow_any (.agg #[.slice pp n cp, .bool false, .slice pq nq cq]) r W3 ⟨_, _, rfl, HP.out.below (lnGo b3 HB.out), HC.out.below (lnGo b3 HB.out)⟩ hrs hrl)
      rw [← hn'] at x0
      have B3 := hid b3; have E3 := hid e3
      clear hc kk hn' b3 e3 i4 hrs hrl i1
      go_upto_region 7 with fail
      rw [← hW3]
      clear hW3 x0 x1 x2
      obtain ⟨q0, q1, q2⟩ := lnCells3 E3.out
      go_wp2_with fail
      refine HW3.out.mono ?_
      rintro e w5 ⟨v5, rfl, T5, b5, fr5⟩
      have z5 := b5.size
      obtain ⟨pv5, s5, ev5, hP5, hC5⟩ := T5
      have ev5 : v5 = .agg #[pv5, .bool false, s5] := ev5
      subst ev5
      have hC5 : IntAt w5 (.agg #[.bool false, s5]) 0 := hC5
      have hfr : ∀ b, pv5.ownBlock = some b → W3.heap.size ≤ b := fun b hb => by
        obtain ⟨pv, b', s', ev, hfr⟩ := fr5
        injection ev with ev
        simp only [Array.mk.injEq, List.cons.injEq, and_true] at ev
        exact hfr b (by rw [← ev.1]; exact hb)
      have b35 := lnGo b5 B3.out
      have hO5 : LsG 37 3 (RwQ fun b => u3.ownBlock ≠ some b) w.heap.size w5 u3 (s.rows.take k) := HO.out.kept (fun b hb => b35.block b (HO.out.base b hb).2.1) (fun c x hx => hx.go (Apart.of_below (S := fun _ => False) b35) (fun _ hf => hf.elim) (fun _ _ hf => hf) (fun _ _ hp => hp))
      obtain ⟨po, co, hvo⟩ := hO5.shape
      rw [Hkl.out] at hvo
      obtain ⟨xs, hrw, hgo⟩ := hO5.row
      rw [Hkl.out] at hrw hgo
      have hbs := hO5.base
      obtain ⟨p5, c5, hpe, -⟩ := id hP5
      obtain ⟨q5, k5, d5, eq5, hC5⟩ := hC5.shape
      obtain rfl : s5 = .slice q5 k5 d5 := by injection eq5 with eq5; simp at eq5; exact eq5
      obtain ⟨n5, hn5⟩ : ∃ n, n = r.length := ⟨_, rfl⟩
      rw [← hn5] at hpe
      subst hpe
      have hC5 : IntAt w5 (.agg #[.bool false, .slice q5 k5 d5]) 0 := hC5
      have hbl : ∀ b, (Value.slice p5 n5 c5).ownBlock = some b → b < w5.heap.size := fun b hb => by
        obtain ⟨b', off, n, s', t, e, -, -, -, hlt⟩ := hP5.first Hne.out
        rw [e] at hb; injection hb with hb; omega
      have hu3 : ∀ b, u3.ownBlock = some b → b < wr.heap.size := fun b hb => (HO.out.base b hb).2.1
      rw [hvo] at hrw hgo hbs hO5 hu3
      have hrow6 : RowW (w5.alloc (.cells #[.slice p5 n5 c5, .bool false, .slice q5 k5 d5] 37)) w.heap.size 37 3 (.slice po k co) k xs := hrw.below (below1 _ _)
      have hnews6 : ∀ j u, ([.slice p5 n5 c5, .bool false, .slice q5 k5 d5] : List Value)[j]? = some u → (w5.alloc (.cells #[.slice p5 n5 c5, .bool false, .slice q5 k5 d5] 37)).cell? ((⟨w5.heap.size, 0, none⟩ : Addr).add j) = some u := lnCellsAt (heap_alloc_new _ _)
      have Hgo := hid (fun (Q' : World → List Value → AtRow → Prop) => @hgo Q')
      have HO5 := hid hO5; have HP5 := hid hP5; have HC5 := hid hC5; have Hbs := hid hbs; have Hfr := hid hfr; have Hbl := hid hbl; have Hu3 := hid hu3
      have hsz6 := size_alloc w5 (.cells #[.slice p5 n5 c5, .bool false, .slice q5 k5 d5] 37)
      have hzB := HB.out.size
      have B35 := hid b35
      clear hgo hO5 hP5 hC5 hbs hfr hbl hu3 hrw b35 eq5 HO b5 fr5 HW3 hn5 q0 q1 q2
      subst hvo
      go_wp2_with (at_builtin; refine wpList_append_f rfl _ _ 22 rfl w.heap.size 37 i0 _ 3 56 Tryz.underlying22 hij hz0 hz1 hz2 rfl (by decide) (by intro n h; simp [Value.cells] at h) _ k xs rfl hrow6 ⟨w5.heap.size, 0, none⟩ 1 1 [.slice p5 n5 c5, .bool false, .slice q5 k5 d5] rfl rfl hnews6 (by intro u hu; simp at hu; rcases hu with rfl | rfl | rfl <;> rfl) (by intro n h; simp at h) (by simp [maxLen]; omega) (by omega) (by omega) ?_; intro v7 w7 ho7 hg7 hf7)
      have ha7 : Apart (fun b => (Value.slice po k co).ownBlock = some b) w5 w7 := (Apart.of_below (below1 w5 (.cells #[.slice p5 n5 c5, .bool false, .slice q5 k5 d5] 37))).grown hg7 (fun b e => e)
      have hz7 := ha7.size
      have hN : ∀ b, (Value.slice po k co).ownBlock = some b → NoWd w5 b := fun b hb => (Hbs.out b hb).2.2
      have hnew : LsG 37 3 (RwQ fun b => v7.ownBlock ≠ some b) w.heap.size w7 v7 (s.rows.take k ++ [r]) := by
        refine Hgo.out _ w7 v7 [.slice p5 n5 c5, .bool false, .slice q5 k5 d5] r ho7 rfl (fun c x hx => hx.go ha7 hN (fun b hp e => hp e) (fun b hlt hp e => ?_)) ⟨_, _, rfl, HP5.out.apart ha7 hN (fun b hb e => by have := Hfr.out b hb; have := Hu3.out b e; omega), HC5.out.quiet ha7 hN, fun b hb => ⟨by have := Hbl.out b hb; omega, fun e => ?_⟩, Hne.out⟩
        · rcases hf7 b e with e | e
          · exact hp e
          · omega
        · rcases hf7 b e with e | e
          · have := Hfr.out b hb; have := Hu3.out b e; omega
          · have := Hbl.out b hb; omega
      have HNew : Hid (LsG 37 3 (RwQ fun b => v7.ownBlock ≠ some b) w.heap.size w7 v7 (s.rows.take (k + 1))) := hid (by rw [Htk.out]; exact hnew)
      have HBn : Hid (Below w.heap.size w w7) := hid (Apart.below ((Apart.of_below (lnGo B35.out HB.out)).trans ha7 (S := fun b => w.heap.size ≤ b) (fun b e => .inr (by have := (Hbs.out b e).1; omega))) (Nat.le_refl _) (fun b e => e))
      clear hnew ha7 hN ho7 hg7 hf7
      go_wp2_with fail
      go_roundw
      case rel => exact ⟨k + 1, by omega, by go_num, HNew, HBn⟩
      case measure => simp [intOf]; omega
    · obtain rfl : k = L := by omega
      have hfull : s.rows.take k = s.rows := by rw [HLL.out, List.take_length]
      have ho := HO.out
      rw [hfull] at ho
      have HF : Hid (LsIn 3 (RwQ fun _ => True) wr u3 s.rows) := hid (OwnLs.in (ho.kept (fun _ _ => rfl) (fun c x hx => hx.go (Apart.refl (fun _ => False) _) (fun _ hf => hf.elim) (fun _ _ hf => hf) (fun _ _ _ => trivial))).1)
      clear ho hfull HO
      go_wp2_with fail
      go_ret
      exact ⟨_, rfl, HF.out, HB.out⟩
set_option maxRecDepth 100000 in
set_option maxHeartbeats 3200000 in
theorem ownAtom_any (r z : Int) (sv : Value) (d : Bool) (w : World) (h : RawAt w (.agg #[.bool d, sv]) z) :
    Calls Tryz.prog 38 #[.agg #[.int .i64 r, .bool d, sv]] w fun e w' => ∃ s', e = .returned (.agg #[.int .i64 r, .bool (decide (z < 0)), s']) ∧ IntAt w' (.agg #[.bool (decide (z < 0)), s']) z ∧ Below w.heap.size w w' := by
  obtain ⟨d', p0, n0, c0, e0⟩ := h.agg2
  obtain ⟨rfl, rfl⟩ : d = d' ∧ sv = .slice p0 n0 c0 := by injection e0 with e0; simpa using e0
  clear e0
  obtain ⟨W2, hW⟩ : ∃ W2, W2 = (w.alloc (.cells #[.int .i64 r, .bool d, .slice p0 n0 c0] 48)).alloc (.cells #[.int .i64 0, .bool false, .slice none 0 0] 48) := ⟨_, rfl⟩
  have b2 : Below w.heap.size w W2 := by rw [hW]; exact (below1 _ _).alloc (by simp) _
  have z2 : W2.heap.size = w.heap.size + 2 := by rw [hW, size_alloc, size_alloc]
  have e1 : W2.heap[w.heap.size]? = some (.cells #[.int .i64 r, .bool d, .slice p0 n0 c0] 48 (0, 0)) := by rw [hW, heap_alloc_old _ _ (by simp)]; exact heap_alloc_new _ _
  have e2 : W2.heap[w.heap.size + 1]? = some (.cells #[.int .i64 0, .bool false, .slice none 0 0] 48 (0, 0)) := by
    have := heap_alloc_new (w.alloc (.cells #[.int .i64 r, .bool d, .slice p0 n0 c0] 48)) (.cells #[.int .i64 0, .bool false, .slice none 0 0] 48)
    rw [size_alloc] at this
    rw [hW]; exact this
  have HNm := hid (Norm_any _ z W2 (h.below b2))
  have B2 := hid b2; have E1 := hid e1; have E2 := hid e2
  obtain ⟨x0, x1, x2⟩ := lnCells3 e1
  clear h b2 e1 e2
  go_enter Tryz.func38, Tryz.ntmps38
  go_upto_region 1 with fail
  rw [← hW]
  clear hW
  go_wp2_with fail
  refine HNm.out.mono ?_
  rintro e w3 ⟨v3, rfl, i3, b3⟩
  obtain ⟨p3, n3, c3, rfl, i3⟩ := i3.shape
  obtain ⟨g3, hg3⟩ : ∃ b, b = decide (z < 0) := ⟨_, rfl⟩
  rw [← hg3] at i3 ⊢
  have Hg3 := hid hg3
  have z3 := b3.size
  have e13 := (b3.block w.heap.size (by omega)).trans E1.out
  have e23 := (b3.block (w.heap.size + 1) (by omega)).trans E2.out
  clear x0 x1 x2
  obtain ⟨x0, x1, x2⟩ := lnCells3 e13
  have fz1 := frozen_of_row w3 w.heap.size 1 _ _ e13
  have fz2 := frozen_of_row w3 w.heap.size 2 _ _ e13
  obtain ⟨W4, hW4⟩ : ∃ W4, W4 = (w3.setCell ⟨w.heap.size, 1, none⟩ (.bool g3)).setCell ⟨w.heap.size, 2, none⟩ (.slice p3 n3 c3) := ⟨_, rfl⟩
  have a4 : Apart (fun b => b = w.heap.size) w3 W4 := by rw [hW4]; exact (apart_set _ _ _ _).go (apart_set _ _ _ _)
  have e14 : W4.heap[w.heap.size]? = some (.cells #[.int .i64 r, .bool g3, .slice p3 n3 c3] 48 (0, 0)) := by
    rw [hW4]
    exact heap_setCell_same _ _ 2 _ _ _ (heap_setCell_same w3 w.heap.size 1 _ _ (.bool g3) e13)
  have e24 := (a4.block (w.heap.size + 1) (by omega) (by omega)).trans e23
  have B4 : Hid (Below w.heap.size w W4) := hid (Apart.below ((Apart.of_below (lnGo b3 B2.out)).trans a4 (S := fun b => w.heap.size ≤ b) (fun b e => .inl (by omega))) (Nat.le_refl _) (fun b e => e))
  have i4 := i3.quiet a4 (fun b hb => by rw [hb]; exact NoWd.cells e13 (by simp))
  have I4 := hid i4; have E14 := hid e14; have E24 := hid e24
  clear a4 e14 e24 i4 i3 b3 e13 e23 hg3 HNm
  go_upto_region 2 with fail
  rw [← hW4]
  clear hW4 x0 x1 x2 fz1 fz2
  obtain ⟨x0, x1, x2⟩ := lnCells3 E14.out
  obtain ⟨y0, y1, y2⟩ := lnCells3 E24.out
  have fz0 := frozen_of_row W4 (w.heap.size + 1) 0 _ _ E24.out
  have fz1 := frozen_of_row W4 (w.heap.size + 1) 1 _ _ E24.out
  have fz2 := frozen_of_row W4 (w.heap.size + 1) 2 _ _ E24.out
  have HIF := hid (I4.out.quiet (st3_apart W4 (w.heap.size + 1) (.int .i64 r) (.bool g3) (.slice p3 n3 c3)) (fun b hb => by rw [hb]; exact NoWd.cells E24.out (by simp)))
  have HBF := hid (st3_below B4.out (g := w.heap.size + 1) (by omega) (.int .i64 r) (.bool g3) (.slice p3 n3 c3))
  go_wp2_with fail
  exact bodyPost_ret (v := .agg #[.int .i64 r, .bool g3, .slice p3 n3 c3]) (by simp [results, Tryz.results38, go_sem, y0, y1, y2]) rfl ⟨_, by rw [Hg3.out], by have := HIF.out; rw [Hg3.out] at this ⊢; exact this, HBF.out⟩
set_option maxRecDepth 100000 in
set_option maxHeartbeats 6400000 in
theorem List_any (B g : Nat) (vr va : Value) (m1 m2 : Option Nat) (s : AtS) (w : World) (h : AtIn B w g vr va m1 m2 s) (hG : AtGood 7 s) (hn : s.atoms.length < 50000) :
    Calls Tryz.prog 16 #[.pointer (some ⟨g, 0, none⟩)] w (RLs AmQ s.atoms w) := by
  obtain ⟨i0, hij, hz0, hz1, hz2⟩ := info_parts infoAtom
  obtain ⟨x0, x1, x2, x3⟩ := atCells4 h.cells
  have hsh := h.atoms.shape
  obtain ⟨pr, cr, hvr⟩ := hsh
  have hin := OwnLs.in h.atoms.1
  have HIn := hid hin; have HG := hid hG
  obtain ⟨L, hLL⟩ : ∃ L, L = s.atoms.length := ⟨_, rfl⟩
  have HLL := hid hLL
  rw [← hLL] at hvr hn
  subst hvr
  have H0 : Hid (s.atoms.take 0 = []) := hid (by simp)
  clear h hG hin hLL
  go_enter Tryz.func16, Tryz.ntmps16
  go_wp2_with fail
  go_loopw [13, 3] (fun i o wr => ∃ k : Nat, k ≤ L ∧ i = .int .i64 (k : Nat) ∧ Hid (LsG 48 3 AmQ w.heap.size wr o (s.atoms.take k)) ∧ Hid (Below w.heap.size w wr)) (fun i _ _ => L - (intOf i).toNat)
  case atStart => exact ⟨0, Nat.zero_le _, rfl, hid (by rw [H0.out]; exact LsG.nil ..), hid (Below.refl _ _)⟩
  case round =>
    obtain ⟨k, hk, rfl, HO, HB⟩ := hrel
    by_cases hlt : k < L
    · have hka : k < s.atoms.length := by rw [← HLL.out]; exact hlt
      have hlt' : (k : Int) < (L : Int) := by omega
      obtain ⟨pr', cr', ev, i1, i2, -, i4⟩ := HIn.out
      injection ev with e1 e2 e3
      subst e1 e3
      clear e2
      obtain ⟨b, off, rfl, hb, hc⟩ := i4 (by rw [← HLL.out]; omega)
      obtain ⟨c, kk, hq⟩ := hc k hka
      obtain ⟨sv, rfl, hC⟩ := hq
      have x0 := (HB.out.cell (p := ⟨b, off + k * 3, none⟩) hb).trans (kk 0 _ rfl)
      have x1 := (HB.out.cell (p := ⟨b, off + k * 3 + 1, none⟩) hb).trans (kk 1 _ rfl)
      have x2 := (HB.out.cell (p := ⟨b, off + k * 3 + 2, none⟩) hb).trans (kk 2 _ rfl)
      obtain ⟨pq, nq, cq, eq1, hC⟩ := hC.shape
      obtain rfl : sv = .slice pq nq cq := by injection eq1 with eq1; simp at eq1; exact eq1
      have Htk : Hid (s.atoms.take (k + 1) = s.atoms.take k ++ [s.atoms[k]]) := hid (List.take_succ_eq_append_getElem hka)
      have Hkl : Hid ((s.atoms.take k).length = k) := hid (by simp; omega)
      have hvz := HG.out.vsz _ (List.getElem_mem hka)
      generalize s.atoms[k] = a at *
      obtain ⟨rn, z⟩ := a
      obtain ⟨gz, hgz⟩ : ∃ b, b = decide (z < 0) := ⟨_, rfl⟩
      replace hC : IntAt w (.agg #[.bool gz, .slice pq nq cq]) z := by rw [hgz]; exact hC
      replace x1 : wr.cell? ⟨b, off + k * 3 + 1, none⟩ = some (.bool gz) := by rw [hgz]; exact x1
      replace x0 : wr.cell? ⟨b, off + k * 3, none⟩ = some (.int .i64 (rn : Nat)) := x0
      have hCr : RawAt w (.agg #[.bool gz, .slice pq nq cq]) z := by rw [hgz] at hC ⊢; exact hC.rawL (Nat.le_trans hvz (by decide))
      obtain ⟨W3, hW3⟩ : ∃ W3, W3 = wr.alloc (.cells #[.int .i64 (rn : Nat), .bool gz, .slice pq nq cq] 48) := ⟨_, rfl⟩
      have b3 : Below wr.heap.size wr W3 := by rw [hW3]; exact below1 _ _
      have e3 : W3.heap[wr.heap.size]? = some (.cells #[.int .i64 (rn : Nat), .bool gz, .slice pq nq cq] 48 (0, 0)) := by rw [hW3]; exact heap_alloc_new _ _
      have z3 : W3.heap.size = wr.heap.size + 1 := by rw [hW3, size_alloc]
      have HW3 := hid (ownAtom_any (rn : Nat) z (.slice pq nq cq) gz W3 (hCr.below (lnGo b3 HB.out)))
      have B3 := hid b3; have E3 := hid e3
      clear hc kk b3 e3 i4 hvz i1 hC hCr eq1 hgz
      go_upto_region 7 with fail
      rw [← hW3]
      clear hW3 x0 x1 x2
      obtain ⟨q0, q1, q2⟩ := lnCells3 E3.out
      go_wp2_with fail
      refine HW3.out.mono ?_
      rintro e w5 ⟨s5, rfl, hC5, b5⟩
      have z5 := b5.size
      have b35 := lnGo b5 B3.out
      have hO5 : LsG 48 3 AmQ w.heap.size w5 u3 (s.atoms.take k) := HO.out.kept (fun b hb => b35.block b (HO.out.base b hb).2.1) (fun c x hx => hx.go (Apart.of_below (S := fun _ => False) b35) (fun _ hf => hf.elim))
      obtain ⟨po, co, hvo⟩ := hO5.shape
      rw [Hkl.out] at hvo
      obtain ⟨xs, hrw, hgo⟩ := hO5.row
      rw [Hkl.out] at hrw hgo
      have hbs := hO5.base
      obtain ⟨q5, k5, d5, eq5, hC5⟩ := hC5.shape
      obtain rfl : s5 = .slice q5 k5 d5 := by injection eq5 with eq5; simp at eq5; exact eq5
      obtain ⟨g5, hg5⟩ : ∃ b, b = decide (z < 0) := ⟨_, rfl⟩
      rw [← hg5] at hC5 ⊢
      have Hg5 := hid hg5
      rw [hvo] at hrw hbs hO5
      have hrow6 : RowW (w5.alloc (.cells #[.int .i64 (rn : Nat), .bool g5, .slice q5 k5 d5] 48)) w.heap.size 48 3 (.slice po k co) k xs := hrw.below (below1 _ _)
      have hnews6 : ∀ j u, ([.int .i64 (rn : Nat), .bool g5, .slice q5 k5 d5] : List Value)[j]? = some u → (w5.alloc (.cells #[.int .i64 (rn : Nat), .bool g5, .slice q5 k5 d5] 48)).cell? ((⟨w5.heap.size, 0, none⟩ : Addr).add j) = some u := lnCellsAt (heap_alloc_new _ _)
      have Hgo := hid (fun (Q' : World → List Value → Nat × Int → Prop) => @hgo Q')
      have HO5 := hid hO5; have HC5 := hid hC5; have Hbs := hid hbs
      have hsz6 := size_alloc w5 (.cells #[.int .i64 (rn : Nat), .bool g5, .slice q5 k5 d5] 48)
      have hzB := HB.out.size
      have B35 := hid b35
      clear hgo hO5 hC5 hbs hrw b35 eq5 HO b5 HW3 q0 q1 q2 hg5
      subst hvo
      go_wp2_with (at_builtin; refine wpList_append_f rfl _ _ 28 rfl w.heap.size 48 i0 _ 3 40 Tryz.underlying28 hij hz0 hz1 hz2 rfl (by decide) (by intro n h; simp [Value.cells] at h) _ k xs rfl hrow6 ⟨w5.heap.size, 0, none⟩ 1 1 [.int .i64 (rn : Nat), .bool g5, .slice q5 k5 d5] rfl rfl hnews6 (by intro u hu; simp at hu; rcases hu with rfl | rfl | rfl <;> rfl) (by intro n h; simp at h) (by simp [maxLen]; omega) (by omega) (by omega) ?_; intro v7 w7 ho7 hg7 hf7)
      have ha7 : Apart (fun b => (Value.slice po k co).ownBlock = some b) w5 w7 := (Apart.of_below (below1 w5 (.cells #[.int .i64 (rn : Nat), .bool g5, .slice q5 k5 d5] 48))).grown hg7 (fun b e => e)
      have hz7 := ha7.size
      have hN : ∀ b, (Value.slice po k co).ownBlock = some b → NoWd w5 b := fun b hb => (Hbs.out b hb).2.2
      have hnew : LsG 48 3 AmQ w.heap.size w7 v7 (s.atoms.take k ++ [(rn, z)]) := by
        refine Hgo.out _ w7 v7 [.int .i64 (rn : Nat), .bool g5, .slice q5 k5 d5] (rn, z) ho7 rfl (fun c x hx => hx.go ha7 hN) ?_
        have := HC5.out.quiet ha7 hN
        rw [Hg5.out] at this ⊢
        exact ⟨_, rfl, this⟩
      have HNew : Hid (LsG 48 3 AmQ w.heap.size w7 v7 (s.atoms.take (k + 1))) := hid (by rw [Htk.out]; exact hnew)
      have HBn : Hid (Below w.heap.size w w7) := hid (Apart.below ((Apart.of_below (lnGo B35.out HB.out)).trans ha7 (S := fun b => w.heap.size ≤ b) (fun b e => .inr (by have := (Hbs.out b e).1; omega))) (Nat.le_refl _) (fun b e => e))
      clear hnew ha7 hN ho7 hg7 hf7
      go_wp2_with fail
      go_roundw
      case rel => exact ⟨k + 1, by omega, by go_num, HNew, HBn⟩
      case measure => simp [intOf]; omega
    · obtain rfl : k = L := by omega
      have hfull : s.atoms.take k = s.atoms := by rw [HLL.out, List.take_length]
      have ho := HO.out
      rw [hfull] at ho
      have HF : Hid (LsIn 3 AmQ wr u3 s.atoms) := hid (OwnLs.in ho.1)
      clear ho hfull HO
      go_wp2_with fail
      go_ret
      exact ⟨_, rfl, HF.out, HB.out⟩
end Go.Proofs.YtnfohbpgnbfmeaaGreatDoor
/- linear.Value. -/
namespace Go.Proofs.YtnfohbpgnbfmeaaGreatDoor
open Go.RowKit Big

/-- a number's two cells, as it is handed in -/
def NumR (w : World) (c : List Value) (z : Int) : Prop := ∃ n s, c = [.bool n, s] ∧ RawAt w (.agg #[.bool n, s]) z
theorem NumR.below {w w' : World} {c : List Value} {z : Int} (h : NumR w c z) (hb : Below w.heap.size w w') : NumR w' c z := by
  obtain ⟨n, s, e, h⟩ := h
  exact ⟨n, s, e, h.below hb⟩
abbrev NmsR := LsIn 2 NumR
theorem NmsR.below {w w' : World} {v : Value} {l : List Int} (h : NmsR w v l) (hb : Below w.heap.size w w') : NmsR w' v l := LsIn.below (Q := NumR) (fun h hb => NumR.below h hb) h hb
theorem NxsIn.nms {w : World} {v : Value} {l : List Nx} (h : NxsIn w v l) (hf : ∀ x ∈ l, x.fit) : NmsR w v (l.map Nx.z) := by
  obtain ⟨p, cap, rfl, h1, h2, h3, h4⟩ := h
  refine ⟨p, cap, by rw [List.length_map], by rw [List.length_map]; exact h1, h2, h3, fun hp => ?_⟩
  rw [List.length_map] at hp
  obtain ⟨b, off, h5, h6, h7⟩ := h4 hp
  refine ⟨b, off, h5, h6, fun i hi => ?_⟩
  rw [List.length_map] at hi
  obtain ⟨c, k1, k2⟩ := h7 i hi
  obtain ⟨q, cq, e, k3, k4⟩ := id k2
  refine ⟨c, k1, _, _, e, ?_⟩
  rw [List.getElem_map]
  exact (e ▸ k2).raw (hf _ (List.getElem_mem hi))
def lnAtv (vals : List Int) (t : Int) : Int := vals[t.toNat]?.getD 0
/-- the value of parts, or an error -/
def lnValue (a : List (Int × Int) × Int) (vals : List Int) : Int × Int :=
  if ∀ p ∈ a.1, 0 ≤ p.2 ∧ p.2 < vals.length then (a.2 + lnVal (lnAtv vals) a.1, 0) else (0, 13)
theorem lnVal_snoc (f : Int → Int) (l : List (Int × Int)) (p : Int × Int) : lnVal f (l ++ [p]) = lnVal f l + p.1 * f p.2 := by
  rw [lnVal_append]
  simp only [lnVal]
  omega
theorem lnVal_sz {N : Nat} (f : Int → Int) (hf : ∀ t, sz W (f t).natAbs ≤ N) : ∀ (l : List (Int × Int)), (∀ p ∈ l, sz W p.1.natAbs ≤ N) → sz W (lnVal f l).natAbs ≤ N + N + l.length
  | [], _ => by simp [lnVal, sz_zero]
  | p :: l, h => by
    have ih := lnVal_sz f hf l (fun q hq => h q (by simp [hq]))
    have h0 : sz W (p.1 * f p.2).natAbs ≤ N + N + l.length := by
      rw [Int.natAbs_mul]
      exact Nat.le_trans (sz_mul W2 _ _) (by have := h p (by simp); have := hf p.2; omega)
    simp only [lnVal, List.length_cons]
    exact Nat.le_trans (sz_mono W2 (Int.natAbs_add_le _ _)) (sz_add W2 h0 ih)
theorem lnAtv_sz {N : Nat} {vals : List Int} (h : ∀ z ∈ vals, sz W z.natAbs ≤ N) (t : Int) : sz W (lnAtv vals t).natAbs ≤ N := by
  unfold lnAtv
  cases e : vals[t.toNat]? with
  | none => simp [sz_zero]
  | some z => exact h z (List.mem_of_getElem? e)
/-- what a call answers: a number and an error -/
def RIntE (r : Int × Int) (w : World) (e : Ending) (w' : World) : Prop := ∃ v, e = .returned (.tuple #[v, .int .i64 r.2]) ∧ IntAt w' v r.1 ∧ Below w.heap.size w w'
end Go.Proofs.YtnfohbpgnbfmeaaGreatDoor
/- elenchusref06.Value. -/
namespace Go.Proofs.YtnfohbpgnbfmeaaGreatDoor
open Go.RowKit Big

theorem RWh_num (d : Bool) (s : Value) (z : Int) (w : World) (h : RawAt w (.agg #[.bool d, s]) z) : Calls Tryz.prog 40 #[.bool d, s] w (RInt z w) := by
  obtain ⟨neg, s', l, e, h1, h2, h3, rfl⟩ := h
  injection e with e
  simp only [Array.mk.injEq, List.cons.injEq, and_true] at e
  obtain ⟨e1, rfl⟩ := e
  injection e1 with e1
  subst e1
  exact Whole_any _ _ l w h1 h2 (Nat.le_trans h3 (by decide))
set_option maxRecDepth 100000 in
set_option maxHeartbeats 6400000 in
theorem RValue_lin (va vv : Value) (a : List (Int × Int) × Int) (vals : List Int) (w : World) {N : Nat} (ha : LnR w va a) (hv : NmsR w vv vals) (sa : LnSz N a) (sv : ∀ z ∈ vals, sz W z.natAbs ≤ N) (hl : N + N + a.1.length ≤ 549755813000) :
    Calls Tryz.prog 19 #[va, vv] w (RIntE (lnValue a vals) w) := by
  obtain ⟨p0, n0, c0, b0, q0, k0, d0, rfl⟩ := ha.agg3
  obtain ⟨l, x⟩ := a
  have HH := hid ha; have HV := hid hv; have SA := hid sa; have SV := hid sv; have HL := hid hl
  obtain ⟨pv, n1, s1, ev, hp, hx⟩ := ha
  injection ev with ev
  simp only [Array.mk.injEq, List.cons.injEq, and_true] at ev
  obtain ⟨rfl, e2, rfl⟩ := ev
  injection e2 with e2
  subst e2
  have hx : RawAt w (.agg #[.bool b0, .slice q0 k0 d0]) x := hx
  obtain ⟨p, cp, ep, j1, j2, -, j4⟩ := (show PtsR w (.slice p0 n0 c0) l from hp)
  injection ep with e1 e2 e3
  subst e1 e2 e3
  have J4 := hid j4
  obtain ⟨pw, cv, rfl, i1, i2, -, i4⟩ := hv
  have I4 := hid i4
  unfold maxLen at i2
  obtain ⟨WX, hW⟩ : ∃ WX, WX = (w.alloc (.cells #[.slice p0 l.length c0, .bool b0, .slice q0 k0 d0] 37)).alloc (.cells #[.bool false, .slice none 0 0] 35) := ⟨_, rfl⟩
  have b2 : Below w.heap.size w WX := by rw [hW]; exact (below1 w _).alloc (by simp) _
  have z2 : WX.heap.size = w.heap.size + 2 := by rw [hW, size_alloc, size_alloc]
  have e0 : WX.heap[w.heap.size]? = some (.cells #[.slice p0 l.length c0, .bool b0, .slice q0 k0 d0] 37 (0, 0)) := by rw [hW, heap_alloc_old _ _ (by simp)]; exact heap_alloc_new w _
  have hpr : Pair WX (w.heap.size + 1) 35 := by rw [hW]; exact Pair.new1 ..
  have B2 := hid b2; have E0 := hid e0; have Z2 := hid z2; have HPR := hid hpr
  have HNm := hid (RWh_num _ _ x WX (hx.below b2))
  obtain ⟨y0, y1, y2⟩ := lnCells3 e0
  obtain ⟨L, hLL⟩ : ∃ L, L = l.length := ⟨_, rfl⟩
  have HLL := hid hLL
  have hlen : N + N + l.length ≤ 549755813000 := hl
  have hLb : L ≤ 549755813000 := by omega
  have Hlen := hid hlen
  rw [← hLL] at E0 hW j1 ⊢
  clear sa sv hl hx hp j4 i4 b2 e0 z2 hpr hLL hlen
  go_enter Tryz.func19, Tryz.ntmps19
  go_upto_region 1 with fail
  rw [← hW]
  clear hW
  go_wp2_with fail
  refine HNm.out.mono ?_
  rintro e w3 ⟨v3, rfl, i3, b3⟩
  obtain ⟨p3, n3, c3, rfl, i3⟩ := i3.shape
  have z3 := b3.size
  obtain ⟨gT, hgT⟩ : ∃ gT, gT = w3.heap.size := ⟨_, rfl⟩
  obtain ⟨W4, hW4⟩ : ∃ W4, W4 = w3.alloc (.cells #[.bool (decide (x < 0)), .slice p3 n3 c3] 35) := ⟨_, rfl⟩
  have b4 : Below w3.heap.size w3 W4 := by rw [hW4]; exact below1 _ _
  have hC4 : LnCell W4 w3.heap.size x := ⟨p3, n3, c3, by rw [hW4]; exact heap_alloc_new _ _, i3.below b4⟩
  have HC4 := hid hC4
  have HP4 := hid ((HPR.out.below b3).below b4)
  have HB4 := hid (lnGo b4 (lnGo b3 B2.out))
  have E04 := hid ((b4.block w.heap.size (by have := Z2.out; omega)).trans ((b3.block w.heap.size (by have := Z2.out; omega)).trans E0.out))
  have HgT : Hid (w.heap.size + 1 < w3.heap.size) := hid (by have := Z2.out; omega)
  clear i3 b3 b4 hC4 y0 y1 y2 E0 HNm hgT gT
  go_upto_region 2 with fail
  rw [← hW4]
  clear hW4
  have y0 := (lnCells3 E04.out).1
  go_wp2_with fail
  clear y0
  go_loopw [19] (fun i wr => ∃ (k : Nat), k ≤ L ∧ i = .int .i64 (k : Nat) ∧ Hid (∀ p ∈ l.take k, 0 ≤ p.2 ∧ p.2 < vals.length) ∧ Hid (LnCell wr w3.heap.size (x + lnVal (lnAtv vals) (l.take k))) ∧ Hid (Pair wr (w.heap.size + 1) 35) ∧ Hid (Below w.heap.size w wr)) (fun i _ => L - (intOf i).toNat)
  case atStart => exact ⟨0, Nat.zero_le _, rfl, hid (by simp), hid (by simpa [lnVal] using HC4.out), HP4, HB4⟩
  case round =>
    obtain ⟨k, hk, rfl, HA, HC, HPr, HBr⟩ := hrel
    by_cases hlt : k < L
    · have hkt : k < l.length := by rw [← HLL.out]; exact hlt
      have hlt' : (k : Int) < (L : Int) := by omega
      obtain ⟨b, o, rfl, hb, hc⟩ := J4.out (by omega)
      obtain ⟨cs, kk0, d, s, ecs, hraw, hwf⟩ := hc k hkt
      have hsh := hraw.agg2
      obtain ⟨d', q, n, cq, e2⟩ := hsh
      obtain ⟨rfl, rfl⟩ : s = .slice q n cq ∧ d = d' := by
        injection e2 with e2
        simpa [and_comm] using e2
      clear e2
      subst ecs
      have y0 := (HBr.out.cell (p := ⟨b, o + k * 3, none⟩) hb).trans (kk0 0 _ rfl)
      have y1 := (HBr.out.cell (p := ⟨b, o + k * 3 + 1, none⟩) hb).trans (kk0 1 _ rfl)
      have y2 := (HBr.out.cell (p := ⟨b, o + k * 3 + 2, none⟩) hb).trans (kk0 2 _ rfl)
      have Hnext : Hid (x + lnVal (lnAtv vals) (l.take (k + 1)) = (x + lnVal (lnAtv vals) (l.take k)) + l[k].1 * lnAtv vals l[k].2) := hid (by rw [List.take_succ_eq_append_getElem hkt, lnVal_snoc]; omega)
      have Hmem : Hid (l.take (k + 1) = l.take k ++ [(l[k].1, l[k].2)]) := hid (List.take_succ_eq_append_getElem hkt)
      have hin : l[k] ∈ l := List.getElem_mem hkt
      have hsc := SA.out.1 l[k] hin
      have Hin : Hid (∀ (P : Int × Int → Prop), (∀ p ∈ l, P p) → P (l[k].1, l[k].2)) := hid (fun P h => h _ hin)
      have hst : sz W (x + lnVal (lnAtv vals) (l.take k)).natAbs ≤ N + N + l.length + 1 := Nat.le_trans (sz_mono W2 (Int.natAbs_add_le _ _)) (sz_add W2 (Nat.le_trans SA.out.2 (by omega)) (Nat.le_trans (lnVal_sz _ (lnAtv_sz SV.out) _ (fun p hp => SA.out.1 p (List.mem_of_mem_take hp))) (by rw [List.length_take]; omega)))
      have hcell := HC.out
      have hraw := hraw.below HBr.out
      generalize x + lnVal (lnAtv vals) (l.take k) = tot at *
      generalize l[k].1 = c at *
      generalize l[k].2 = t at *
      clear kk0 hc hin
      obtain ⟨pt, nt, ct, htb, hti⟩ := hcell
      have hgl : w3.heap.size < wr.heap.size := (Array.getElem?_eq_some_iff.1 htb).1
      obtain ⟨W5, hW5⟩ : ∃ W5, W5 = wr.alloc (.cells #[.bool d, .slice q n cq, .int .i64 t] 63) := ⟨_, rfl⟩
      have b5 : Below wr.heap.size wr W5 := by rw [hW5]; exact below1 wr _
      have e5 : W5.heap[wr.heap.size]? = some (.cells #[.bool d, .slice q n cq, .int .i64 t] 63 (0, 0)) := by rw [hW5]; exact heap_alloc_new wr _
      have z5 : W5.heap.size = wr.heap.size + 1 := by rw [hW5, size_alloc]
      obtain ⟨t0, t1, t2⟩ := lnCells3 e5
      have HB5 := hid (lnGo b5 HBr.out)
      have HP5 := hid (HPr.out.below b5)
      have hno : ∀ (hbad : ¬ (0 ≤ t ∧ t < (vals.length : Int))), Hid (lnValue (l, x) vals = (0, 13)) := fun hbad => hid (by
        unfold lnValue
        rw [if_neg]
        intro h
        exact hbad (Hin.out _ h))
      have hpr5 := HP5.out
      obtain ⟨_, _, r0, r1, r2, r3⟩ := hpr5.cells
      by_cases hneg : t < 0
      · have Hno := hno (by omega)
        have hd : decide (t < 0) = true := by simpa using hneg
        clear hneg hno hraw htb hti hst hsc HC HA Hnext Hmem Hin
        have HBF := hid (Below.stored HB5.out (g := w.heap.size + 1) (by omega) (.bool false) (.slice none 0 0))
        go_upto_region 5 with fail
        rw [← hW5]
        clear hW5 y0 y1 y2
        go_wp2
        exact bodyPost_ret (v := .tuple #[.agg #[.bool false, .slice none 0 0], .int .i64 13]) (by simp [results, Tryz.results19, go_sem, r0, r1]) rfl (by rw [Hno.out]; exact ⟨_, rfl, IntAt.zero _, HBF.out⟩)
      · have hd : decide (t < 0) = false := by simpa using hneg
        by_cases hge : (vals.length : Int) ≤ t
        · have Hno := hno (by omega)
          have hd2 : decide ((vals.length : Int) ≤ t) = true := by simpa using hge
          clear hneg hno hraw htb hti hst hsc HC HA Hnext Hmem Hin hge
          have HBF := hid (Below.stored HB5.out (g := w.heap.size + 1) (by omega) (.bool false) (.slice none 0 0))
          go_upto_region 5 with fail
          rw [← hW5]
          clear hW5 y0 y1 y2
          go_wp2
          exact bodyPost_ret (v := .tuple #[.agg #[.bool false, .slice none 0 0], .int .i64 13]) (by simp [results, Tryz.results19, go_sem, r0, r1]) rfl (by rw [Hno.out]; exact ⟨_, rfl, IntAt.zero _, HBF.out⟩)
        · have hd2 : decide ((vals.length : Int) ≤ t) = false := by simpa using hge
          obtain ⟨tn, rfl⟩ : ∃ tn : Nat, t = (tn : Nat) := ⟨t.toNat, by omega⟩
          have htn : tn < vals.length := by omega
          have htn' : (tn : Int) < (vals.length : Int) := by omega
          have hd3 : decide (vals.length ≤ tn) = false := by simpa using htn
          have Hok : Hid (0 ≤ (((c, (tn : Int)) : Int × Int)).2 ∧ (((c, (tn : Int)) : Int × Int)).2 < vals.length) := hid ⟨by show (0 : Int) ≤ (tn : Int); omega, htn'⟩
          obtain ⟨bv, ov, rfl, hbv, hcv⟩ := I4.out (by omega)
          obtain ⟨cs, kv, dz, sv, ecs, hrz⟩ := hcv tn htn
          have hsh := hrz.agg2
          obtain ⟨d', qz, nz, cqz, e2⟩ := hsh
          obtain ⟨rfl, rfl⟩ : sv = .slice qz nz cqz ∧ dz = d' := by
            injection e2 with e2
            simpa [and_comm] using e2
          clear e2
          subst ecs
          have hzv : lnAtv vals (tn : Int) = vals[tn] := by unfold lnAtv; rw [Int.toNat_natCast, List.getElem?_eq_getElem htn]; rfl
          have hsz := SV.out vals[tn] (List.getElem_mem htn)
          rw [hzv] at Hnext
          have Hz5 := hid ((HB5.out.cell (p := ⟨bv, ov + tn * 2, none⟩) hbv).trans (kv 0 _ rfl))
          have Hz6 := hid ((HB5.out.cell (p := ⟨bv, ov + tn * 2 + 1, none⟩) hbv).trans (kv 1 _ rfl))
          generalize vals[tn] = z at *
          have Hbv5 : Hid (bv < W5.heap.size) := hid (Nat.lt_of_lt_of_le hbv HB5.out.size)
          have HRc := hid (hraw.below b5)
          have HRz := hid (hrz.below HB5.out)
          have HIt := hid (hti.below b5)
          have hlo := Hlen.out
          have Hst : Hid (sz W tot.natAbs ≤ 1099511627776) := hid (by omega)
          have Hsc : Hid (sz W c.natAbs ≤ 549755813888) := hid (by omega)
          have Hsz : Hid (sz W z.natAbs ≤ 549755813888) := hid (by omega)
          have Hscz : Hid (sz W (c * z).natAbs ≤ 1099511627776) := hid (by rw [Int.natAbs_mul]; exact Nat.le_trans (sz_mul W2 _ _) (by omega))
          have HC5 := hid (HC.out.below b5)
          have HET := hid ((b5.block w3.heap.size hgl).trans htb)
          have HE5 := hid e5
          have HgT5 : Hid (w3.heap.size < W5.heap.size) := hid (by omega)
          clear hno hraw hrz htb hti hst hsc hsz hcv kv HC Hin hge hneg hbv b5 e5 hzv hlo r0 r1 r2 r3 hpr5
          go_upto_region 7 with fail
          rw [← hW5]
          clear hW5 y0 y1 y2 t0 t1 t2
          refine wp_region_facts (w0 := W5) 10 1 [34, 35, 36, 37, 38, 39, 40, 41, 42, 43] [u34, u35, u36, u37, u38, u39, u40, u41, u42, u43]
            (fun i => match i with | 0 => lnE (.agg #[.bool (decide (tot < 0)), .slice pt nt ct]) | 1 => lnE (.pointer (some ⟨wr.heap.size, 0, none⟩)) | 2 => lnE (.agg #[.bool d, .slice q n cq]) | 3 => lnE (.slice (some ⟨bv, ov, none⟩) vals.length cv) | 4 => lnE (.pointer (some ⟨wr.heap.size, 2, none⟩)) | 5 => lnE (.int .i64 (tn : Nat)) | 6 => lnE (.pointer (some ⟨bv, ov + tn * 2, none⟩)) | 7 => lnE (.agg #[.bool dz, .slice qz nz cqz]) | 8 => lnI (c * z) | _ => lnI (tot + c * z)) [] (by kernel_rfl) (by kernel_rfl) (by kernel_rfl) (by kernel_rfl) (by decide) rfl (by kernel_rfl) rfl (by simp) ?he2 ?_ ?_ ?_
          case he2 => simp only [putAll, Act.put, List.setIfInBounds_toArray, List.set_cons_zero, List.set_cons_succ]
          · intro i hi; simp at hi
          · intro i o hi ho vs wx hvl hb hdep K hK
            have hvs := vlen10 hvl
            obtain ⟨s34, s35, s36, s37, s38, s39, s40, s41, s42, s43, rfl⟩ := hvs
            clear hvl
            obtain ⟨z0, z1, z2⟩ := lnCells3 ((hb.block wr.heap.size (by omega)).trans HE5.out)
            obtain ⟨z3, z4, -, -⟩ := two_cells ((hb.block w3.heap.size HgT5.out).trans HET.out)
            have z5 := (hb.cell (p := ⟨bv, ov + tn * 2, none⟩) Hbv5.out).trans Hz5.out
            have z6 := (hb.cell (p := ⟨bv, ov + tn * 2 + 1, none⟩) Hbv5.out).trans Hz6.out
            rcases i with _ | _ | _ | _ | _ | _ | _ | _ | _ | _ | i
            all_goals (simp only [List.getElem?_toArray, List.getElem?_cons_zero, List.getElem?_cons_succ, Option.some.injEq] at ho)
            all_goals try (subst ho)
            all_goals try simp only [putAll, Act.put, List.setIfInBounds_toArray, List.set_cons_zero, List.set_cons_succ]
            · go_simp
              have hK' := hK.out
              simp only [putAll, Act.put, List.setIfInBounds_toArray, List.set_cons_zero, List.set_cons_succ] at hK'
              exact hK' _ _ rfl (Below.refl _ _) (by simp)
            · go_simp
              have hK' := hK.out
              simp only [putAll, Act.put, List.setIfInBounds_toArray, List.set_cons_zero, List.set_cons_succ] at hK'
              exact hK' _ _ rfl (Below.refl _ _) (by simp)
            · have e1 : s35 = _ := hdep ⟨1, .data⟩ (by simp) rfl
              have e1 := e1.symm
              subst e1
              go_simp
              have hK' := hK.out
              simp only [putAll, Act.put, List.setIfInBounds_toArray, List.set_cons_zero, List.set_cons_succ] at hK'
              exact hK' _ _ rfl (Below.refl _ _) (by simp)
            · go_simp
              have hK' := hK.out
              simp only [putAll, Act.put, List.setIfInBounds_toArray, List.set_cons_zero, List.set_cons_succ] at hK'
              exact hK' _ _ rfl (Below.refl _ _) (by simp)
            · go_simp
              have hK' := hK.out
              simp only [putAll, Act.put, List.setIfInBounds_toArray, List.set_cons_zero, List.set_cons_succ] at hK'
              exact hK' _ _ rfl (Below.refl _ _) (by simp)
            · have e4 : s38 = _ := hdep ⟨4, .data⟩ (by simp) rfl
              have e4 := e4.symm
              subst e4
              go_simp
              have hK' := hK.out
              simp only [putAll, Act.put, List.setIfInBounds_toArray, List.set_cons_zero, List.set_cons_succ] at hK'
              exact hK' _ _ rfl (Below.refl _ _) (by simp)
            · have e3 : s37 = _ := hdep ⟨3, .data⟩ (by simp) rfl
              have e3 := e3.symm
              subst e3
              have e5 : s39 = _ := hdep ⟨5, .data⟩ (by simp) rfl
              have e5 := e5.symm
              subst e5
              go_simp
              have hK' := hK.out
              simp only [putAll, Act.put, List.setIfInBounds_toArray, List.set_cons_zero, List.set_cons_succ] at hK'
              exact hK' _ _ rfl (Below.refl _ _) (by simp)
            · have e6 : s40 = _ := hdep ⟨6, .data⟩ (by simp) rfl
              have e6 := e6.symm
              subst e6
              go_simp
              have hK' := hK.out
              simp only [putAll, Act.put, List.setIfInBounds_toArray, List.set_cons_zero, List.set_cons_succ] at hK'
              exact hK' _ _ rfl (Below.refl _ _) (by simp)
            · have e2 : s36 = _ := hdep ⟨2, .data⟩ (by simp) rfl
              have e2 := e2.symm
              subst e2
              have e7 : s41 = _ := hdep ⟨7, .data⟩ (by simp) rfl
              have e7 := e7.symm
              subst e7
              go_simp
              refine (RMul_any _ _ c z wx (HRc.out.below hb) (HRz.out.below hb) Hsc.out Hsz.out).mono ?_
              rintro e wy ⟨vy, rfl, iy, hby⟩
              have hsh := iy.shape
              obtain ⟨p5, n5, c5, rfl, iy⟩ := hsh
              go_wp2_with fail
              have hK' := hK.out
              simp only [putAll, Act.put, List.setIfInBounds_toArray, List.set_cons_zero, List.set_cons_succ] at hK'
              exact hK' _ _ ⟨_, _, _, _, rfl, iy⟩ hby (by simp)
            · have e0 : s34 = _ := hdep ⟨0, .data⟩ (by simp) rfl
              have e0 := e0.symm
              subst e0
              have e8 : (lnI (c * z)).P s42 wx := hdep ⟨8, .data⟩ (by simp) rfl
              obtain ⟨da8, pa8, na8, ca8, rfl, ia8⟩ := e8
              go_simp
              refine (RAdd_any _ _ tot (c * z) wx ((HIt.out.below hb).rawL Hst.out) (ia8.rawL Hscz.out)).mono ?_
              rintro e wy ⟨vy, rfl, iy, hby⟩
              have hsh := iy.shape
              obtain ⟨p5, n5, c5, rfl, iy⟩ := hsh
              go_wp2_with fail
              have hK' := hK.out
              simp only [putAll, Act.put, List.setIfInBounds_toArray, List.set_cons_zero, List.set_cons_succ] at hK'
              exact hK' _ _ ⟨_, _, _, _, rfl, iy⟩ hby (by simp)
            · omega
          · intro vs wx hvl hb hf hdist
            have hvs := vlen10 hvl
            obtain ⟨s34, s35, s36, s37, s38, s39, s40, s41, s42, s43, rfl⟩ := hvs
            have f9 : (lnI (tot + c * z)).P s43 wx := hf 9 (by decide)
            obtain ⟨b8, p8, n8, c8, e8, i8⟩ := f9
            subst e8
            have hsh := i8.shape
            obtain ⟨p9, n9, c9, e9, i9⟩ := hsh
            injection e9 with e9
            obtain ⟨rfl, rfl, rfl, rfl⟩ : b8 = decide (tot + c * z < 0) ∧ p8 = p9 ∧ n8 = n9 ∧ c8 = c9 := by simpa using e9
            clear hf hvl hdist i8
            obtain ⟨tot', htot⟩ : ∃ t, t = tot + c * z := ⟨_, rfl⟩
            rw [← htot] at i9 Hnext
            try rw [← htot]
            clear htot
            have hpT := (HC5.out.below hb).pair
            obtain ⟨_, _, q0, q1, q2, q3⟩ := hpT.cells
            have HC6 := hid (LnCell.put hpT i9)
            have hsx := hb.size
            have HP6 := hid ((HP5.out.below hb).other (g' := w3.heap.size) (by have := HgT.out; omega) 0 (.bool (decide (tot' < 0))))
            have HP7 := hid (HP6.out.other (g' := w3.heap.size) (by have := HgT.out; omega) 1 (.slice p8 n8 c8))
            have HB7 := hid (Below.stored (lnGo hb HB5.out) (g := w3.heap.size) (by have := HgT.out; omega) (.bool (decide (tot' < 0))) (.slice p8 n8 c8))
            clear i9 hpT
            refine wpAny_one (i := 10) (by kernel_rfl) rfl ?_
            intro K hK
            simp only [putAll, Act.put, List.setIfInBounds_toArray, List.set_cons_zero, List.set_cons_succ]
            have hK' := hK.out
            go_simp
            apply hK'
            clear hK hK' q0 q1 q2 q3
            refine wpAny_done (by kernel_rfl) ?_ _
            go_wp2_with fail
            go_roundw
            case rel => exact ⟨k + 1, by omega, by go_num, hid (fun p hp => by
              rcases List.mem_append.1 (Hmem.out ▸ hp) with hp | hp
              · exact HA.out p hp
              · rw [List.mem_singleton.1 hp]; exact Hok.out), hid (by rw [Hnext.out]; exact HC6.out), HP7, HB7⟩
            case measure => simp [intOf] <;> omega
    · obtain rfl : k = L := by omega
      have hfin : l.take k = l := by rw [HLL.out, List.take_length]
      have hA := HA.out
      have hcell := HC.out
      rw [hfin] at hA hcell
      have Hres : Hid (lnValue (l, x) vals = (x + lnVal (lnAtv vals) l, 0)) := hid (by unfold lnValue; rw [if_pos hA])
      obtain ⟨tot, htot⟩ : ∃ t, t = x + lnVal (lnAtv vals) l := ⟨_, rfl⟩
      rw [← htot] at Hres hcell
      obtain ⟨pt, nt, ct, htb, hti⟩ := hcell
      obtain ⟨t0, t1, -, -⟩ := two_cells htb
      have hpr := HPr.out
      obtain ⟨_, _, r0, r1, r2, r3⟩ := hpr.cells
      have HI := hid (hti.stored hpr (decide (tot < 0)) pt nt ct)
      have HBF := hid (Below.stored HBr.out (g := w.heap.size + 1) (by omega) (.bool (decide (tot < 0))) (.slice pt nt ct))
      clear hfin hA HA HC htb hti htot
      go_wp2
      exact bodyPost_ret (v := .tuple #[.agg #[.bool (decide (tot < 0)), .slice pt nt ct], .int .i64 0]) (by simp [results, Tryz.results19, go_sem, r0, r1]) rfl (by rw [Hres.out]; exact ⟨_, rfl, HI.out, HBF.out⟩)
end Go.Proofs.YtnfohbpgnbfmeaaGreatDoor
/- elenchuslaw10.holds. Made by gen_atholds.py. -/
namespace Go.Proofs.YtnfohbpgnbfmeaaGreatDoor
open Go.RowKit Big

theorem lnValue_sz {N : Nat} {l : AtRow} {vals : List Int} (hl : ∀ p ∈ l, sz W p.1.natAbs ≤ N) (hv : ∀ z ∈ vals, sz W z.natAbs ≤ N) : sz W (lnValue (l, 0) vals).1.natAbs ≤ N + N + l.length := by
  unfold lnValue
  split
  · show sz W (0 + lnVal (lnAtv vals) l).natAbs ≤ _
    rw [Int.zero_add]
    exact lnVal_sz _ (lnAtv_sz hv) l hl
  · show sz W (0 : Int).natAbs ≤ _
    simp [sz_zero]
def RHolds (b : Bool) (c : Bool) (w : World) (e : Ending) (w' : World) : Prop := e = .returned (.tuple #[.bool b, .bool c]) ∧ Below w.heap.size w w'
set_option maxRecDepth 100000 in
set_option maxHeartbeats 12800000 in
theorem holds_any (B g : Nat) (vr va : Value) (m1 m2 : Option Nat) (s : AtS) (K : Nat) (vv : Value) (vals : List Int) (w : World) (h : AtIn B w g vr va m1 m2 s) (hG : AtGood 7 s) (hn : s.rows.length < 50000) (hm : s.atoms.length < 50000) (hK : K < s.atoms.length)
    (r : AtRow) (hR : (s.atoms[K]).1 < s.rows.length) (hr : s.rows[(s.atoms[K]).1] = r) (hv : NmsR w vv vals) (sv : ∀ z ∈ vals, sz W z.natAbs ≤ 6) :
    Calls Tryz.prog 21 #[.pointer (some ⟨g, 0, none⟩), .int .i64 (K : Nat), vv] w (RHolds (decide (ord (lnValue (r, 0) vals).1 (s.atoms[K]).2 ≤ 0)) ((lnValue (r, 0) vals).2 == 0) w) := by
  have hrm : r ∈ s.rows := by rw [← hr]; exact List.getElem_mem hR
  have hrz : ∀ p ∈ r, sz W p.1.natAbs ≤ 7 := hG.sz r hrm
  have hrl : r.length ≤ 1000 := hG.len r hrm
  have hzz : sz W (s.atoms[K]).2.natAbs ≤ 7 := hG.vsz _ (List.getElem_mem hK)
  obtain ⟨a1, a2, haK⟩ : ∃ a1 a2, s.atoms[K] = (a1, a2) := ⟨_, _, rfl⟩
  have hR1 : a1 < s.rows.length := by rw [haK] at hR; exact hR
  have hr1 : s.rows[a1] = r := by
    have e : (s.atoms[K]).1 = a1 := by rw [haK]
    subst hr
    simp only [e]
  have hzz2 : sz W a2.natAbs ≤ 7 := by rw [haK] at hzz; exact hzz
  rw [show (s.atoms[K]).2 = a2 by rw [haK]]
  obtain ⟨⟨r1, r2⟩, hrr⟩ : ∃ x, x = lnValue (r, 0) vals := ⟨_, rfl⟩
  rw [← hrr]
  obtain ⟨oo, hoo⟩ : ∃ o, o = ord r1 a2 := ⟨_, rfl⟩
  show Calls _ _ _ w (RHolds (decide (ord r1 a2 ≤ 0)) (r2 == 0) w)
  rw [← hoo]
  have HRR := hid hrr; have HOO := hid hoo
  have HL := hid (List_any B g vr va m1 m2 s w h hG hm)
  have HR := hid (fun w' (hb : Below w.heap.size w w') => Rows_any B g vr va m1 m2 s w' (h.below hb) hG hn)
  have HV := hid hv
  have Hrz := hid hrz; have Hsv := hid sv; have Hzz := hid hzz2; have Hr1 : Hid (∃ h : a1 < s.rows.length, s.rows[a1]'h = r) := hid ⟨hR1, hr1⟩; have HaK : Hid (∃ h : K < s.atoms.length, s.atoms[K]'h = (a1, a2)) := hid ⟨hK, haK⟩
  obtain ⟨NA, hNA⟩ : ∃ n, n = s.atoms.length := ⟨_, rfl⟩
  obtain ⟨NR, hNR⟩ : ∃ n, n = s.rows.length := ⟨_, rfl⟩
  have hKA : K < NA := by rw [hNA]; exact hK
  have hRR : a1 < NR := by rw [hNR]; exact hR1
  have hKA' : (K : Int) < (NA : Int) := by omega
  have hRR' : (a1 : Int) < (NR : Int) := by omega
  have hNA5 : NA < 50000 := by rw [hNA]; exact hm
  have hNR5 : NR < 50000 := by rw [hNR]; exact hn
  have HNA := hid hNA; have HNR := hid hNR; have HKs := hid hK; have HR1 := hid hR1
  have d0 : decide ((K : Int) < 0) = false := by simp
  have d1 : decide ((NA : Int) ≤ (K : Int)) = false := by simp; omega
  have d2 : decide ((a1 : Int) < 0) = false := by simp
  have d3 : decide ((NR : Int) ≤ (a1 : Int)) = false := by simp; omega
  clear hrr hoo h hG hn hm hr hv sv hrm hrz hzz hzz2 haK hr1 hNA hNR hR hR1 hK
  go_enter Tryz.func21, Tryz.ntmps21
  go_wp2_with fail
  refine HL.out.mono ?_
  rintro e w1 ⟨v1, rfl, hL, b1⟩
  obtain ⟨p1, cap1, rfl, i1, i2, -, i4⟩ := hL
  obtain ⟨bL, oL, rfl, hbL, hcL⟩ := i4 (by have := HKs.out; omega)
  obtain ⟨hKx, haKx⟩ := HaK.out
  obtain ⟨cs, kL, sx, ecs, hIv⟩ := hcL K hKx
  rw [haKx] at ecs hIv
  clear haKx
  clear hKx
  subst ecs
  obtain ⟨pk, nk, ck, eq1, hIv⟩ := hIv.shape
  obtain rfl : sx = .slice pk nk ck := by injection eq1 with eq1; simp at eq1; exact eq1
  have u0 : w1.cell? ⟨bL, oL + K * 3, none⟩ = some (.int .i64 (a1 : Nat)) := kL 0 _ rfl
  obtain ⟨sg2, hsg2⟩ : ∃ b, b = decide (a2 < 0) := ⟨_, rfl⟩
  have u1 : w1.cell? ⟨bL, oL + K * 3 + 1, none⟩ = some (.bool sg2) := by rw [hsg2]; exact kL 1 _ rfl
  have u2 : w1.cell? ⟨bL, oL + K * 3 + 2, none⟩ = some (.slice pk nk ck) := kL 2 _ rfl
  have hIv : IntAt w1 (.agg #[.bool sg2, .slice pk nk ck]) a2 := by rw [hsg2]; exact hIv
  have i1 : s.atoms.length ≤ cap1 := i1
  rw [← HNA.out] at i1 ⊢
  have B1 := hid b1
  have HI1 := hid hIv
  have HR1w := hid (HR.out w1 b1)
  have U := hid (show w1.cell? ⟨bL, oL + K * 3, none⟩ = some (.int .i64 (a1 : Nat)) ∧ w1.cell? ⟨bL, oL + K * 3 + 1, none⟩ = some (.bool sg2) ∧ w1.cell? ⟨bL, oL + K * 3 + 2, none⟩ = some (.slice pk nk ck) from ⟨u0, u1, u2⟩)
  clear kL hcL i4 eq1 hsg2 hIv b1 HL u0 u1 u2 i2
  go_wp2_with fail
  refine HR1w.out.mono ?_
  rintro e w2 ⟨v2, rfl, hRr, b2⟩
  obtain ⟨p2, cap2, rfl, j1, j2, -, j4⟩ := hRr
  obtain ⟨bR, oR, rfl, hbR, hcR⟩ := j4 (by have := HR1.out; omega)
  obtain ⟨hRx, hrx⟩ := Hr1.out
  obtain ⟨cs2, kR, pv, s2, ecs2, hP, hC, -, -⟩ := hcR a1 hRx
  rw [hrx] at hP
  clear hrx
  clear hRx
  subst ecs2
  obtain ⟨pq, nq, cq, eq2, hC⟩ := (show IntAt w2 (.agg #[.bool false, s2]) 0 from hC).shape
  obtain rfl : s2 = .slice pq nq cq := by injection eq2 with eq2; simp at eq2; exact eq2
  have hC : IntAt w2 (.agg #[.bool false, .slice pq nq cq]) 0 := hC
  obtain ⟨pp, cpp, epv, hPs⟩ : ∃ pp cpp, pv = .slice pp r.length cpp ∧ True := by
    obtain ⟨pp, cpp, e, -⟩ := hP
    exact ⟨pp, cpp, e, trivial⟩
  obtain ⟨nr, hnr⟩ : ∃ n, n = r.length := ⟨_, rfl⟩
  rw [← hnr] at epv
  subst epv
  have q0 : w2.cell? ⟨bR, oR + a1 * 3, none⟩ = some (.slice pp nr cpp) := kR 0 _ rfl
  have q1 : w2.cell? ⟨bR, oR + a1 * 3 + 1, none⟩ = some (.bool false) := kR 1 _ rfl
  have q2 : w2.cell? ⟨bR, oR + a1 * 3 + 2, none⟩ = some (.slice pq nq cq) := kR 2 _ rfl
  have z1 := b2.size
  have hLT : LnT w2 (.agg #[.slice pp nr cpp, .bool false, .slice pq nq cq]) (r, 0) := ⟨_, _, rfl, hP, hC⟩
  have HVl := RValue_lin _ vv (r, 0) vals w2 (N := 7) (hLT.raw (N := 7) ⟨Hrz.out, by simp [sz_zero]⟩ (by decide)) (HV.out.below (lnGo b2 B1.out)) ⟨Hrz.out, by simp [sz_zero]⟩ (fun z hz => Nat.le_trans (Hsv.out z hz) (by decide)) (by show 7 + 7 + r.length ≤ _; omega)
  have hvz : sz W (lnValue (r, 0) vals).1.natAbs ≤ 7 + 7 + r.length := lnValue_sz Hrz.out (fun z hz => Nat.le_trans (Hsv.out z hz) (by decide))
  rw [← HRR.out] at HVl hvz
  have HVl := hid HVl
  have Hvz : Hid (sz W r1.natAbs ≤ 2000) := hid (Nat.le_trans hvz (by omega))
  have j1 : s.rows.length ≤ cap2 := j1
  rw [← HNR.out] at j1 ⊢
  have B2 := hid (lnGo b2 B1.out)
  obtain ⟨u0, u1, u2⟩ := U.out
  have U2 := hid (show w2.cell? ⟨bL, oL + K * 3, none⟩ = some (.int .i64 (a1 : Nat)) ∧ w2.cell? ⟨bL, oL + K * 3 + 1, none⟩ = some (.bool sg2) ∧ w2.cell? ⟨bL, oL + K * 3 + 2, none⟩ = some (.slice pk nk ck) from ⟨(b2.cell (p := ⟨bL, oL + K * 3, none⟩) hbL).trans u0, (b2.cell (p := ⟨bL, oL + K * 3 + 1, none⟩) hbL).trans u1, (b2.cell (p := ⟨bL, oL + K * 3 + 2, none⟩) hbL).trans u2⟩)
  have HI2 := hid (HI1.out.below b2)
  clear u0 u1 u2
  obtain ⟨u0, u1, u2⟩ := U2.out
  clear hvz hLT hPs hP hC kR hcR j4 eq2 b2 HI1 HR1w U hnr hrl j2
  go_wp2_with fail
  refine HVl.out.mono ?_
  rintro e w3 ⟨v3, rfl, i3, b3⟩
  have i3 : IntAt w3 v3 r1 := i3
  obtain ⟨p3, n3, c3, rfl, i3⟩ := i3.shape
  obtain ⟨sg3, hsg3⟩ : ∃ b, b = decide (r1 < 0) := ⟨_, rfl⟩
  rw [← hsg3] at i3 ⊢
  obtain ⟨w4, hw4⟩ : ∃ w4, w4 = w3.alloc (.cells #[.bool sg3, .slice p3 n3 c3] 35) := ⟨_, rfl⟩
  have b4 : Below w3.heap.size w3 w4 := by rw [hw4]; exact below1 _ _
  have e4 : w4.heap[w3.heap.size]? = some (.cells #[.bool sg3, .slice p3 n3 c3] 35 (0, 0)) := by rw [hw4]; exact heap_alloc_new _ _
  have b24 := lnGo b4 b3
  have z3 := b3.size
  have z4 := b4.size
  have I4 := hid ((i3.below b4).rawL (Nat.le_trans Hvz.out (by decide)))
  have I4v := hid ((HI2.out.below b24).rawL (Nat.le_trans Hzz.out (by decide)))
  have B4 := hid (lnGo b4 (lnGo b3 B2.out))
  have hz34 : w3.heap.size < w4.heap.size := by rw [hw4, size_alloc]; omega
  have HX5 : Hid (∀ w', Below w4.heap.size w4 w' → (w'.cell? ⟨w3.heap.size, 0, none⟩ = some (.bool sg3) ∧ w'.cell? ⟨w3.heap.size, 1, none⟩ = some (.slice p3 n3 c3)) ∧ w'.cell? ⟨bL, oL + K * 3 + 1, none⟩ = some (.bool sg2) ∧ w'.cell? ⟨bL, oL + K * 3 + 2, none⟩ = some (.slice pk nk ck)) := hid fun w' hb => by
    have h1 := two_cells ((hb.block w3.heap.size hz34).trans e4)
    have hb2 := lnGo hb b24
    exact ⟨⟨h1.1, h1.2.1⟩, (hb2.cell (p := ⟨bL, oL + K * 3 + 1, none⟩) (by show bL < w2.heap.size; omega)).trans u1, (hb2.cell (p := ⟨bL, oL + K * 3 + 2, none⟩) (by show bL < w2.heap.size; omega)).trans u2⟩
  have HCmp := hid (fun w' (hb : Below w4.heap.size w4 w') => RCmp_any (.agg #[.bool sg3, .slice p3 n3 c3]) (.agg #[.bool sg2, .slice pk nk ck]) r1 a2 w' (I4.out.below hb) (I4v.out.below hb) (Nat.le_trans Hvz.out (by decide)) (Nat.le_trans Hzz.out (by decide)))
  rw [← HOO.out] at HCmp
  clear i3 b3 b4 e4 b24 hsg3 HVl HI2 U2
  go_upto_region 5 with fail
  rw [← hw4]
  clear hw4
  clear u0 u1 u2 q0 q1 q2
  refine wp_region_facts (w0 := w4) 12 0 [55, 56, 57, 58, 59, 60, 61, 62, 63, 64, 6, 7] [undef, undef, undef, undef, undef, undef, undef, undef, undef, undef, .bool false, .bool false]
    (fun i => match i with | 0 => lnE (.agg #[.bool sg3, .slice p3 n3 c3]) | 1 => lnE (.slice (some ⟨bL, oL, none⟩) NA cap1) | 2 => lnE (.int .i64 (K : Nat)) | 3 => lnE (.pointer (some ⟨bL, oL + K * 3, none⟩)) | 4 => lnE (.pointer (some ⟨bL, oL + K * 3 + 1, none⟩)) | 5 => lnE (.agg #[.bool sg2, .slice pk nk ck]) | 6 => lnE (.int .i64 oo) | 7 => lnE (.bool (decide (oo ≤ 0))) | 8 => lnE (.int .i64 r2) | 9 => lnE (.bool (r2 == 0)) | 10 => lnE (.bool (decide (oo ≤ 0))) | _ => lnE (.bool (r2 == 0))) [] (by kernel_rfl) (by kernel_rfl) (by kernel_rfl) (by kernel_rfl) (by decide) rfl (by kernel_rfl) rfl (by simp) ?he1 ?_ ?_ ?_
  case he1 => simp only [putAll, Act.put, List.setIfInBounds_toArray, List.set_cons_zero, List.set_cons_succ]
  · intro i hi; simp at hi
  · intro i o hi ho vs wx hvl hb hdep K hK
    have hvs := vlen12 hvl
    obtain ⟨s55, s56, s57, s58, s59, s60, s61, s62, s63, s64, s6, s7, rfl⟩ := hvs
    clear hvl
    have hk5 := HX5.out wx hb
    obtain ⟨⟨y0, y1⟩, y2, y3⟩ := hk5
    rcases i with _ | _ | _ | _ | _ | _ | _ | _ | _ | _ | _ | _ | i
    all_goals (simp only [List.getElem?_toArray, List.getElem?_cons_zero, List.getElem?_cons_succ, Option.some.injEq] at ho)
    all_goals try (subst ho)
    all_goals try simp only [putAll, Act.put, List.setIfInBounds_toArray, List.set_cons_zero, List.set_cons_succ]
    · go_simp
      have hK' := hK.out
      simp only [putAll, Act.put, List.setIfInBounds_toArray, List.set_cons_zero, List.set_cons_succ] at hK'
      exact hK' _ _ rfl (Below.refl _ _) (by simp)
    · go_simp
      have hK' := hK.out
      simp only [putAll, Act.put, List.setIfInBounds_toArray, List.set_cons_zero, List.set_cons_succ] at hK'
      exact hK' _ _ rfl (Below.refl _ _) (by simp)
    · go_simp
      have hK' := hK.out
      simp only [putAll, Act.put, List.setIfInBounds_toArray, List.set_cons_zero, List.set_cons_succ] at hK'
      exact hK' _ _ rfl (Below.refl _ _) (by simp)
    · have e1 : s56 = _ := hdep ⟨1, .data⟩ (by simp) rfl
      have e1 := e1.symm
      subst e1
      have e2 : s57 = _ := hdep ⟨2, .data⟩ (by simp) rfl
      have e2 := e2.symm
      subst e2
      go_simp
      have hK' := hK.out
      simp only [putAll, Act.put, List.setIfInBounds_toArray, List.set_cons_zero, List.set_cons_succ] at hK'
      exact hK' _ _ rfl (Below.refl _ _) (by simp)
    · have e3 : s58 = _ := hdep ⟨3, .data⟩ (by simp) rfl
      have e3 := e3.symm
      subst e3
      go_simp
      have hK' := hK.out
      simp only [putAll, Act.put, List.setIfInBounds_toArray, List.set_cons_zero, List.set_cons_succ] at hK'
      exact hK' _ _ rfl (Below.refl _ _) (by simp)
    · have e4 : s59 = _ := hdep ⟨4, .data⟩ (by simp) rfl
      have e4 := e4.symm
      subst e4
      go_simp
      have hK' := hK.out
      simp only [putAll, Act.put, List.setIfInBounds_toArray, List.set_cons_zero, List.set_cons_succ] at hK'
      exact hK' _ _ rfl (Below.refl _ _) (by simp)
    · have e0 : s55 = _ := hdep ⟨0, .data⟩ (by simp) rfl
      have e0 := e0.symm
      subst e0
      have e5 : s60 = _ := hdep ⟨5, .data⟩ (by simp) rfl
      have e5 := e5.symm
      subst e5
      go_simp
      go_simp
      refine (HCmp.out wx hb).mono ?_
      rintro e wy ⟨rfl, hby⟩
      go_wp2_with fail
      have hK' := hK.out
      simp only [putAll, Act.put, List.setIfInBounds_toArray, List.set_cons_zero, List.set_cons_succ] at hK'
      exact hK' _ _ rfl hby (by simp)
    · have e6 : s61 = _ := hdep ⟨6, .data⟩ (by simp) rfl
      have e6 := e6.symm
      subst e6
      go_simp
      have hK' := hK.out
      simp only [putAll, Act.put, List.setIfInBounds_toArray, List.set_cons_zero, List.set_cons_succ] at hK'
      exact hK' _ _ rfl (Below.refl _ _) (by simp)
    · go_simp
      have hK' := hK.out
      simp only [putAll, Act.put, List.setIfInBounds_toArray, List.set_cons_zero, List.set_cons_succ] at hK'
      exact hK' _ _ rfl (Below.refl _ _) (by simp)
    · have e8 : s63 = _ := hdep ⟨8, .data⟩ (by simp) rfl
      have e8 := e8.symm
      subst e8
      go_simp
      have hK' := hK.out
      simp only [putAll, Act.put, List.setIfInBounds_toArray, List.set_cons_zero, List.set_cons_succ] at hK'
      exact hK' _ _ rfl (Below.refl _ _) (by simp)
    · have e7 : s62 = _ := hdep ⟨7, .data⟩ (by simp) rfl
      have e7 := e7.symm
      subst e7
      go_simp
      have hK' := hK.out
      simp only [putAll, Act.put, List.setIfInBounds_toArray, List.set_cons_zero, List.set_cons_succ] at hK'
      exact hK' _ _ rfl (Below.refl _ _) (by simp)
    · have e9 : s64 = _ := hdep ⟨9, .data⟩ (by simp) rfl
      have e9 := e9.symm
      subst e9
      go_simp
      have hK' := hK.out
      simp only [putAll, Act.put, List.setIfInBounds_toArray, List.set_cons_zero, List.set_cons_succ] at hK'
      exact hK' _ _ rfl (Below.refl _ _) (by simp)
    · omega
  · intro vs wx hvl hb hf hdist
    have hvs := vlen12 hvl
    obtain ⟨s55, s56, s57, s58, s59, s60, s61, s62, s63, s64, s6, s7, rfl⟩ := hvs
    have f10 : s6 = _ := hf 10 (by decide)
    have f11 : s7 = _ := hf 11 (by decide)
    have f10 := f10.symm
    have f11 := f11.symm
    subst f10 f11
    have HBF := hid (lnGo hb B4.out)
    clear hf hvl hdist
    refine wpAny_done (by kernel_rfl) ?_ _
    try simp only [putAll, Act.put, List.setIfInBounds_toArray, List.set_cons_zero, List.set_cons_succ]
    go_wp2
    exact bodyPost_ret (v := .tuple #[.bool (decide (oo ≤ 0)), .bool (r2 == 0)]) (by simp [results, Tryz.results21, go_sem]) rfl ⟨rfl, HBF.out⟩
end Go.Proofs.YtnfohbpgnbfmeaaGreatDoor
/- elenchuslaw10.few. -/
namespace Go.Proofs.YtnfohbpgnbfmeaaGreatDoor
open Go.RowKit Big

set_option maxRecDepth 100000 in
set_option maxHeartbeats 6400000 in
theorem few10_any (v : Value) (l : List Lx) (w : World) (h : LxsIn w v l) : Calls Tryz.prog 10 #[v] w (RIf (l.length ≤ 40 ∧ ∀ x ∈ l, x.fit) w) := by
  obtain ⟨p, cp, rfl, j1, j2, -, j4⟩ := h
  have J4 := hid j4
  unfold maxLen at j2
  obtain ⟨L, hLL⟩ : ∃ L, L = l.length := ⟨_, rfl⟩
  have HLL := hid hLL
  rw [← hLL] at j1 ⊢
  clear j4 hLL
  go_enter Tryz.func10, Tryz.ntmps10
  go_wp2_with fail
  go_loopw [7] (fun i wr => ∃ (k : Nat), k ≤ L ∧ i = .int .i64 (k : Nat) ∧ Hid (∀ x ∈ l.take k, x.fit) ∧ Hid (Below w.heap.size w wr)) (fun i _ => L - (intOf i).toNat)
  case atStart => exact ⟨0, Nat.zero_le _, rfl, hid (by simp), hid (Below.refl _ _)⟩
  case round =>
    obtain ⟨k, hk, rfl, HA, HB⟩ := hrel
    by_cases hlt : k < L
    · have hkt : k < l.length := by rw [← HLL.out]; exact hlt
      have hlt' : (k : Int) < (L : Int) := by omega
      obtain ⟨b, o, rfl, hb, hc⟩ := J4.out (by show 0 < l.length; omega)
      obtain ⟨cs, k0, a1, b1, d1, ecs, hq⟩ := hc k hkt
      subst ecs
      obtain ⟨pp, cc, qq, kk, dd, eag⟩ := hq.agg3
      injection eag with eag
      simp only [Array.mk.injEq, List.cons.injEq, and_true] at eag
      obtain ⟨ea1, eb1, ed1⟩ := eag
      obtain ⟨nn, hnn⟩ : ∃ n, n = (l[k]'hkt).parts.length := ⟨_, rfl⟩
      obtain ⟨bb, hbb⟩ : ∃ n, n = (l[k]'hkt).rest.neg := ⟨_, rfl⟩
      rw [← hnn] at ea1
      rw [← hbb] at eb1
      subst ea1 eb1 ed1
      have y0 : wr.cell? ⟨b, o + k * 3, none⟩ = some (.slice pp nn cc) := (HB.out.cell (p := ⟨b, o + k * 3, none⟩) hb).trans (k0 0 _ rfl)
      have y1 : wr.cell? ⟨b, o + k * 3 + 1, none⟩ = some (.bool bb) := (HB.out.cell (p := ⟨b, o + k * 3 + 1, none⟩) hb).trans (k0 1 _ rfl)
      have y2 : wr.cell? ⟨b, o + k * 3 + 2, none⟩ = some (.slice qq kk dd) := (HB.out.cell (p := ⟨b, o + k * 3 + 2, none⟩) hb).trans (k0 2 _ rfl)
      have Hsn : Hid (l.take (k + 1) = l.take k ++ [l[k]]) := hid (List.take_succ_eq_append_getElem hkt)
      obtain ⟨W2, hW2⟩ : ∃ W2, W2 = wr.alloc (.cells #[.slice pp nn cc, .bool bb, .slice qq kk dd] 37) := ⟨_, rfl⟩
      have b2 : Below wr.heap.size wr W2 := by rw [hW2]; exact below1 _ _
      have e2 : W2.heap[wr.heap.size]? = some (.cells #[.slice pp nn cc, .bool bb, .slice qq kk dd] 37 (0, 0)) := by rw [hW2]; exact heap_alloc_new _ _
      have HF := hid (Few6_any _ l[k] W2 (hq.below (lnGo b2 HB.out)))
      have B2 := hid (lnGo b2 HB.out)
      obtain ⟨x0, x1, x2⟩ := lnCells3 e2
      generalize l[k] = xk at *
      clear k0 hc hq b2 e2 hnn hbb
      go_upto_region 4 with fail
      rw [← hW2]
      clear hW2
      go_wp2_with fail
      refine HF.out.mono ?_
      rintro e w3 ⟨bf, rfl, hfit, b3⟩
      have B3 := hid (lnGo b3 B2.out)
      cases bf with
      | false =>
        clear hfit b3 HF
        go_wp2
        go_ret
        exact ⟨false, rfl, (fun h => by cases h), B3.out⟩
      | true =>
        have Hf := hid (hfit rfl)
        have HA2 : Hid (∀ x ∈ l.take (k + 1), x.fit) := hid (fun x hx => by
          rcases List.mem_append.1 (Hsn.out ▸ hx) with hx | hx
          · exact HA.out x hx
          · rw [List.mem_singleton.1 hx]; exact Hf.out)
        clear hfit b3 HF HA HB Hf Hsn x0 x1 x2 y0 y1 y2
        go_wp2_with fail
        go_roundw
        case rel => exact ⟨k + 1, by omega, by go_num, HA2, B3⟩
        case measure => simp [intOf] <;> omega
    · obtain rfl : k = L := by omega
      have hfin : l.take k = l := by rw [HLL.out, List.take_length]
      have hA := HA.out
      rw [hfin] at hA
      have Hfin := hid hA
      clear HA hA hfin
      go_wp2
      go_ret
      exact ⟨_, rfl, fun h => ⟨by have := of_decide_eq_true h; omega, Hfin.out⟩, HB.out⟩
end Go.Proofs.YtnfohbpgnbfmeaaGreatDoor
