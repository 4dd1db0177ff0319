/- Texts put together: Builder, PrintSmall, ParseBad, WholeSub, Fixed, LawLaws, OpenNum. -/
import Derived.Test.YtlicmnlllappnaaDoorLawsCardM8
import Derived.Lib.Builder
import Derived.Lib.AppendStr
import Derived.OneCell
import Derived.Deep.DeepCutAuto
import Derived.Lib.SmallJoins
import Derived.ChangeSlices
import Derived.OpenShut
import Derived.Carry
/- strings.Builder: copyCheck, WriteByte, WriteString, over a builder that a call has laid itself. -/
namespace Go.Proofs.YtlicmnlllappnaaDoor
open Go.RowKit Big Go.Lib

theorem sizeBuilder : (Tryd.prog.info? 74).map (·.size) = some 2 := by kernel_rfl
theorem liesBuilder : liesAt Tryd.prog Tryd.prog.depth 74 (2 / Tryd.prog.cellsOf 74) 0 74 1 = true := by kernel_rfl
theorem infoByte : (Tryd.prog.info? 5).map (fun i => (i.zero, i.size, i.bytes)) = some (some (.int .u8 0), 1, 1) := by kernel_rfl

set_option maxRecDepth 100000 in
set_option maxHeartbeats 1000000 in
theorem copyCheck_any (B b : Nat) (bs : List Value) (w : World) (h : IsBuilder 74 5 B b bs w) :
    Calls Tryd.prog 82 #[.pointer (some ⟨b, 0, none⟩)] w fun e w' => e = .returned (.tuple #[]) ∧ BuilderAt 74 5 B b (.pointer (some ⟨b, 0, none⟩)) bs w' ∧ Below B w w' := by
  obtain ⟨j, hj, hjs⟩ := Option.map_eq_some_iff.1 sizeBuilder
  rcases h with h | h
  · have c0 := h.cell0
    have hsh := h.shape
    have f0 := h.frozen0
    have H := hid h
    clear h
    go_enter Tryd.func82, Tryd.ntmps82
    go_wp2
    rw [run_to_unsafe w ⟨b, 0, none⟩ Tryd.underlying71 Tryd.underlying107 hj (by rw [hjs]; decide) hsh (Nat.zero_lt_succ 1)]
    simp only [Result.andThen]
    rw [Oper.upon_value]
    go_wp2
    rw [run_callFunc_extern Tryd.func91 (by kernel_rfl) (by kernel_rfl) (by kernel_rfl) (e := Extern.AbiNoEscape.same) (by kernel_rfl), run_noEscape]
    simp only [Result.andThen]
    rw [Oper.upon_value]
    go_wp2
    rw [run_from_unsafe w ⟨b, 0, none⟩ Tryd.underlying107 Tryd.underlying71 hj hsh liesBuilder]
    simp only [Result.andThen]
    rw [Oper.upon_value]
    go_wp2
    go_end0
    exact ⟨rfl, H.out.used _, (Below.refl B w).setCell (p := ⟨b, 0, none⟩) H.out.1 _⟩
  · have c0 := h.cell0
    have H := hid h
    clear h
    go_enter Tryd.func82, Tryd.ntmps82
    go_wp2
    rw [run_neq_ptr_same w _ Tryd.underlying71 hj]
    go_wp2
    go_end0
    exact ⟨rfl, H.out, Below.refl B _⟩

def RBuilt (B b : Nat) (v : Value) (bs : List Value) (w : World) (e : Ending) (w' : World) : Prop := e = .returned v ∧ IsBuilder 74 5 B b bs w' ∧ Below B w w'

set_option maxRecDepth 100000 in
set_option maxHeartbeats 1000000 in
theorem WriteByte_any (B b : Nat) (bs : List Value) (c : Int) (w : World) (h : IsBuilder 74 5 B b bs w) (hlen : bs.length + 1 ≤ 140737488355328) (hBw : B ≤ w.heap.size) :
    Calls Tryd.prog 62 #[.pointer (some ⟨b, 0, none⟩), .int .u8 c] w (RBuilt B b .nilIface (bs ++ [.int .u8 c]) w) := by
  obtain ⟨i0, hi, hz0, hz1, hz2⟩ := info_parts infoByte
  have H := hid h
  clear h
  go_enter Tryd.func62, Tryd.ntmps62
  go_wp2_with fail
  refine (copyCheck_any B b bs _ H.out).mono ?_
  rintro e w1 ⟨rfl, h1, hb1⟩
  have hlt := h1.lt
  obtain ⟨hB, v, hbk, hown, hne⟩ := h1
  have c0 : w1.cell? ⟨b, 0, none⟩ = some (.pointer (some ⟨b, 0, none⟩)) := by rw [cell_of_row w1 b 0 _ _ (0, 0) hbk]; rfl
  have c1 : w1.cell? ⟨b, 1, none⟩ = some v := by rw [cell_of_row w1 b 1 _ _ (0, 0) hbk]; rfl
  have z1 : B ≤ w1.heap.size := Nat.le_trans hBw hb1.size
  go_wp2_with (at_builtin; refine wpList_append_own _ rfl _ _ 72 rfl B 5 i0 (.int .u8 0) 1 1 Tryd.underlying72 hi hz0 hz1 hz2 rfl (by decide) _ _ _ rfl (hown.alloc _) ⟨w1.heap.size, 0, none⟩ 1 1 [.int .u8 c] rfl rfl ?c1 ?c2 ?c3 ?c4 ?c5 ?_)
  case c1 =>
    intro j u hj
    match j, hj with
    | 0, hj => simp at hj; subst hj; simp [Addr.add]
  case c2 => intro u hu; simp at hu; subst hu; rfl
  case c3 => unfold maxLen; omega
  case c4 => omega
  case c5 => simp; omega
  intro v' w2 hown' hgrow _
  have hb2 : w2.heap[b]? = some (.cells #[.pointer (some ⟨b, 0, none⟩), v] 74 (0, 0)) := by
    rw [hgrow.block b (by simp; omega) (fun e => hne e.symm), heap_alloc_old w1 _ hlt]
    exact hbk
  have d0 : w2.cell? ⟨b, 0, none⟩ = some (.pointer (some ⟨b, 0, none⟩)) := by rw [cell_of_row w2 b 0 _ _ (0, 0) hb2]; rfl
  have d1 : w2.cell? ⟨b, 1, none⟩ = some v := by rw [cell_of_row w2 b 1 _ _ (0, 0) hb2]; rfl
  have f1 : w2.frozen? ⟨b, 1, none⟩ = false := frozen_of_row w2 b 1 _ _ hb2
  obtain ⟨g, cap, rfl⟩ : ∃ g cap, v' = .slice (some ⟨g, 0, none⟩) (bs.length + 1) cap := by
    rcases hown'.2 with ⟨_, h0⟩ | ⟨g, cap, cur, hv, _⟩
    · omega
    · exact ⟨g, cap, hv⟩
  go_wp2
  go_ret
  refine ⟨rfl, Or.inr ?_, ?_⟩
  · exact BuilderAt.put (T := 74) (e := 5) hB hb2 (bs' := bs ++ [.int .u8 c]) (by simpa using hown') (by decide)
  · exact ((hb1.alloc z1 _).grown hgrow (by simp; omega) (fun k hk => (hown.lt k hk).1)).setCell (p := ⟨b, 1, none⟩) hB _

set_option maxRecDepth 100000 in
set_option maxHeartbeats 1000000 in
theorem WriteString_any (B b : Nat) (bs : List Value) (s : ByteArray) (w : World) (h : IsBuilder 74 5 B b bs w) (hlen : bs.length + s.size ≤ 140737488355328) (hBw : B ≤ w.heap.size) :
    Calls Tryd.prog 63 #[.pointer (some ⟨b, 0, none⟩), .string s] w (RBuilt B b (.tuple #[.int .i64 s.size, .nilIface]) (bs ++ strCells s) w) := by
  obtain ⟨i0, hi, hz0, hz1, hz2⟩ := info_parts infoByte
  have H := hid h
  clear h
  go_enter Tryd.func63, Tryd.ntmps63
  go_wp2_with fail
  refine (copyCheck_any B b bs _ H.out).mono ?_
  rintro e w1 ⟨rfl, h1, hb1⟩
  have hlt := h1.lt
  obtain ⟨hB, v, hbk, hown, hne⟩ := h1
  have c0 : w1.cell? ⟨b, 0, none⟩ = some (.pointer (some ⟨b, 0, none⟩)) := by rw [cell_of_row w1 b 0 _ _ (0, 0) hbk]; rfl
  have c1 : w1.cell? ⟨b, 1, none⟩ = some v := by rw [cell_of_row w1 b 1 _ _ (0, 0) hbk]; rfl
  have z1 : B ≤ w1.heap.size := Nat.le_trans hBw hb1.size
  go_wp2_with (at_builtin; refine wpList_append_own_string _ rfl _ _ 72 9 rfl B 5 i0 Tryd.underlying72 Tryd.underlying9 hi hz0 hz1 hz2 _ _ _ rfl hown s rfl ?c3 ?c4 ?c5 ?_)
  case c3 => unfold maxLen; omega
  case c4 => omega
  case c5 => omega
  intro v' w2 hown' hgrow _
  have hb2 : w2.heap[b]? = some (.cells #[.pointer (some ⟨b, 0, none⟩), v] 74 (0, 0)) := by
    rw [hgrow.block b hlt (fun e => hne e.symm)]
    exact hbk
  have d0 : w2.cell? ⟨b, 0, none⟩ = some (.pointer (some ⟨b, 0, none⟩)) := by rw [cell_of_row w2 b 0 _ _ (0, 0) hb2]; rfl
  have d1 : w2.cell? ⟨b, 1, none⟩ = some v := by rw [cell_of_row w2 b 1 _ _ (0, 0) hb2]; rfl
  have f1 : w2.frozen? ⟨b, 1, none⟩ = false := frozen_of_row w2 b 1 _ _ hb2
  obtain ⟨ao, n', cap, rfl⟩ : ∃ ao n' cap, v' = .slice ao n' cap := by
    rcases hown'.2 with ⟨hv, h0⟩ | ⟨g, cap, cur, hv, _⟩
    · exact ⟨none, 0, 0, hv⟩
    · exact ⟨_, _, cap, hv⟩
  have hs : (s.size : Int) ≤ 140737488355328 := by omega
  go_wp2
  go_ret2
  refine ⟨rfl, Or.inr ?_, ?_⟩
  · exact BuilderAt.put (T := 74) (e := 5) hB hb2 (bs' := bs ++ strCells s) (by simpa [strCells] using hown') (by decide)
  · exact (hb1.grown hgrow (by omega) (fun k hk => (hown.lt k hk).1)).setCell (p := ⟨b, 1, none⟩) hB _
end Go.Proofs.YtlicmnlllappnaaDoor
/- whole.Print of numbers of one or two digits. -/
namespace Go.Proofs.YtlicmnlllappnaaDoor
open Go.RowKit Big Go.Lib

theorem digits_small (n : Nat) (h : n < 100) (w : World) :
    Calls Tryd.prog 64 #[.int .u32 (n : Nat)] w fun e w' => e = .returned (.string ⟨(Lib.decDigits n).toArray⟩) ∧ w' = w := by
  go_enter Tryd.func64, Tryd.ntmps64
  go_wp2_with (first | (go_at_call 100; refine (Tryd.internal_strconv_small n h _).mono ?_; rintro e w' ⟨rfl, rfl⟩) | go_in)
  go_ret
  exact ⟨rfl, rfl⟩

def RStr (l : List UInt8) (w : World) (e : Ending) (w' : World) : Prop := e = .returned (.string ⟨l.toArray⟩) ∧ Below w.heap.size w w'

theorem decDigits_len (n : Nat) (h : n < 100) : (Lib.decDigits n).length ≤ 2 := by
  have : ∀ m : Fin 100, (Lib.decDigits m.val).length ≤ 2 := by decide +kernel
  exact this ⟨n, h⟩

set_option maxRecDepth 100000 in
set_option maxHeartbeats 1600000 in
theorem Print_small (v : Value) (neg : Bool) (n : Nat) (w : World) (h : RawAt w v (sg neg n)) (h0 : 0 < n) (hn : n < 100) :
    Calls Tryd.prog 35 #[v] w (RStr ((if neg then [45] else []) ++ Lib.decDigits n) w) := by
  obtain ⟨neg', s, l, rfl, ha, hs, hl, hz⟩ := h
  have hv : val W l = n := by have := congrArg Int.natAbs hz; rw [sg_natAbs, sg_natAbs] at this; exact this.symm
  have hneg : neg' = neg := by
    rw [hv] at hz
    have a := sg_neg neg n (by omega)
    have b := sg_neg neg' n (by omega)
    rw [hz, b] at a; exact a
  subst hneg
  have hsl := strip_dig W2 hs
  rw [hv] at hsl
  have hD : dig T n = [n] := dig_one T2 h0 (by unfold T; omega)
  have ht := fun W' hb => trim_val s l W' (ha.below (w' := W') hb)
  have hst := fun W' hb => (ha.below (w' := W') hb).strip
  rw [hsl] at hst
  rw [hsl] at ht
  have Ht : Hid (∀ W', Below w.heap.size w W' → Calls Tryd.prog 38 #[s] W' (fun e w' => e = .returned (cutTo s (dig W n).length) ∧ w' = W')) := ht
  have Hst : Hid (∀ W', Below w.heap.size w W' → At W' .u64 (cutTo s (dig W n).length) (dig W n)) := hst
  have HD := hid hD
  have hnW : sz W n ≤ 1 := sz_word (by unfold W; omega)
  have hlen := decDigits_len n hn
  clear ht hst hsl hD hv hz hs hl ha
  obtain ⟨L, hL⟩ : ∃ L, L = (if neg' then [45] else []) ++ Lib.decDigits n := ⟨_, rfl⟩
  rw [← hL]
  have HL := hid hL
  clear hL
  generalize hu : cutTo s (dig W n).length = u at *
  clear hu
  go_enter Tryd.func35, Tryd.ntmps35
  go_wp2_with fail
  refine (Ht.out _ (below1 _ _)).mono ?_
  rintro e w1 ⟨rfl, rfl⟩
  go_wp2_with fail
  refine (split_any u _ _ (Hst.out _ (below1 _ _)) (small_dig W2 _) (by show sz W n ≤ _; omega)).mono ?_
  rintro e w2 ⟨v2, rfl, ho2, hb2⟩
  rw [val_dig W2] at ho2
  go_wp2_with fail
  refine (tens_any _ v2 n _ ho2 (by unfold sz; rw [HD.out]; simp)).mono ?_
  rintro e w3 ⟨v3, rfl, ho3, hg3⟩
  have hb3 : Below (w.heap.size + 1) w2 w3 := by
    have hz := hb2.size
    rw [size_alloc] at hz
    cases hvb : v2.ownBlock with
    | none => rw [hvb] at hg3; exact (Below.refl _ w2).grown hg3 hz (fun k hk => by cases hk)
    | some g => rw [hvb] at hg3; exact grown_below hg3 (by have := ho2.row g hvb; rwa [size_alloc] at this) hz
  have bw3 : Below (w.heap.size + 1) (w.alloc (.cells #[.bool neg', s] 25)) w3 := (hb2.mono (B' := w.heap.size + 1) (by rw [size_alloc]; omega)).trans hb3
  have bw : Below w.heap.size w w3 := (below1 _ _).trans (bw3.mono (by omega))
  have c0 : w3.cell? ⟨w.heap.size, 0, none⟩ = some (.bool neg') := (bw3.cell (p := ⟨w.heap.size, 0, none⟩) (by show w.heap.size < _; omega)).trans (by simp [go_sem])
  have z3 : w.heap.size + 1 ≤ w3.heap.size := by have := bw3.size; rwa [size_alloc] at this
  rw [HD.out] at ho3
  obtain ⟨g, cap, rfl, hgB, hgl, hcap, hcap2⟩ := ho3.shape (by simp)
  have e0 := (ho3.cell 0 (by simp)).1
  simp only [List.getElem_cons_zero] at e0
  simp only [List.length_cons, List.length_nil, Nat.zero_add] at hcap ⊢
  unfold maxLen at hcap2
  clear ho3 hg3 ho2 hb2 hb3 HD Ht Hst bw3
  have c0' : ∀ o, (w3.alloc o).cell? ⟨w.heap.size, 0, none⟩ = some (.bool neg') := fun o => ((below1 w3 o).cell (p := ⟨w.heap.size, 0, none⟩) (by show w.heap.size < _; omega)).trans c0
  have e0' : ∀ o, (w3.alloc o).cell? ⟨g, 0, none⟩ = some (.int .u32 (n : Nat)) := fun o => ((below1 w3 o).cell (p := ⟨g, 0, none⟩) hgl).trans e0
  have hbl : IsBuilder 74 5 w3.heap.size w3.heap.size [] (w3.alloc (.cells #[.pointer none, .slice none 0 0] 74)) :=
    Or.inl ⟨Nat.le_refl _, .slice none 0 0, heap_alloc_new w3 _, World.ownsRow_nil _ _ _ _, by simp [Value.ownBlock]⟩
  have Hbl := hid hbl
  have hsz : (⟨(Lib.decDigits n).toArray⟩ : ByteArray).size ≤ 2 := hlen
  clear c0 e0 hbl hlen
  cases neg'
  · go_wp2_with fail
    refine (digits_small n hn _).mono ?_
    rintro e w4 ⟨rfl, rfl⟩
    go_wp2_with fail
    refine (WriteString_any _ _ _ _ _ Hbl.out (by simp; omega) (by simp)).mono ?_
    rintro e w5 ⟨rfl, hb5, hbel5⟩
    go_wp2_with fail
    refine wp_loop_rounds 1 ?_
    rw [rounds_succ]
    go_wp2_with fail
    refine (Tryd.Builder_String_any w3.heap.size w3.heap.size (Lib.decDigits n) w5 hb5 (by have := hbel5.size; simp at this; omega)).mono ?_
    rintro e w6 ⟨rfl, hbel6⟩
    go_wp2_with fail
    go_ret
    exact ⟨by rw [HL.out]; rfl, bw.trans ((((below1 w3 _).trans hbel5).trans hbel6).mono (by omega))⟩
  · go_wp2_with fail
    refine (WriteByte_any _ _ _ _ _ Hbl.out (by simp) (by simp)).mono ?_
    rintro e w4 ⟨rfl, hb4, hbel4⟩
    have e0'' : w4.cell? ⟨g, 0, none⟩ = some (.int .u32 (n : Nat)) := (hbel4.cell (p := ⟨g, 0, none⟩) hgl).trans (e0' _)
    clear e0' c0'
    go_wp2_with fail
    refine (digits_small n hn _).mono ?_
    rintro e w4' ⟨rfl, rfl⟩
    go_wp2_with fail
    refine (WriteString_any _ _ _ _ _ hb4 (by simp; omega) (by have := hbel4.size; simp at this; omega)).mono ?_
    rintro e w5 ⟨rfl, hb5, hbel5⟩
    go_wp2_with fail
    refine wp_loop_rounds 1 ?_
    rw [rounds_succ]
    go_wp2_with fail
    refine (Tryd.Builder_String_any w3.heap.size w3.heap.size (45 :: Lib.decDigits n) w5 hb5 (by have := hbel5.size; have := hbel4.size; simp at this; omega)).mono ?_
    rintro e w6 ⟨rfl, hbel6⟩
    go_wp2_with fail
    go_ret
    exact ⟨by rw [HL.out]; rfl, bw.trans (((((below1 w3 _).trans hbel4).trans hbel5).trans hbel6).mono (by omega))⟩
end Go.Proofs.YtlicmnlllappnaaDoor
/- whole.Parse of the text -0. -/
namespace Go.Proofs.YtlicmnlllappnaaDoor
open Go.RowKit Big Go.Lib

set_option maxHeartbeats 800000 in
theorem isSize_zero (w : World) : Calls Tryd.prog 57 #[.string ⟨#[48]⟩] w fun e w' => e = .returned (.bool true) ∧ w' = w := by
  go_enter Tryd.func57, Tryd.ntmps57
  go_wp2_with fail
  refine wp_loop_rounds 2 ?_
  rw [rounds_succ]
  go_wp2
  rw [rounds_succ]
  go_wp2
  go_ret
  exact ⟨rfl, rfl⟩

def RParse (z : Int) (c : Int) (w : World) (e : Ending) (w' : World) : Prop := ∃ v, e = .returned (.tuple #[v, .int .i64 c]) ∧ IntAt w' v z ∧ Below w.heap.size w w'

set_option maxHeartbeats 800000 in
theorem Parse_bad (w : World) : Calls Tryd.prog 33 #[.string ⟨#[45, 48]⟩] w (RParse 0 6 w) := by
  have hc := fun W' => Tryd.strings_CutPrefix ⟨#[45, 48]⟩ ⟨#[45]⟩ W'
  have e1 : (Lib.trimPrefix [45, 48] [45] : List UInt8) = [48] := by decide
  have e2 : Lib.hasPrefix ([45, 48] : List UInt8) [45] = true := by decide
  have hc' : ∀ W', Calls Tryd.prog 56 #[.string ⟨#[45, 48]⟩, .string ⟨#[45]⟩] W' fun e w' => e = .returned (.tuple #[.string ⟨#[48]⟩, .bool true]) ∧ w' = W' := fun W' => by
    have := hc W'
    rw [show (⟨#[45, 48]⟩ : ByteArray).data.toList = [45, 48] from rfl, show (⟨#[45]⟩ : ByteArray).data.toList = [45] from rfl, e1, e2] at this
    exact this
  have Hc := hid hc'
  clear hc hc' e1 e2
  go_enter Tryd.func33, Tryd.ntmps33
  go_wp2_with fail
  refine (Hc.out _).mono ?_
  rintro e w1 ⟨rfl, rfl⟩
  go_wp2_with fail
  refine (isSize_zero _).mono ?_
  rintro e w2 ⟨rfl, rfl⟩
  go_wp2_with fail
  go_goals
  exact bodyPost_ret (v := .tuple #[.agg #[.bool false, .slice none 0 0], .int .i64 6]) (by simp [results, Tryd.results33, go_sem]) rfl ⟨_, rfl, IntAt.zero _, below1 _ _⟩
end Go.Proofs.YtlicmnlllappnaaDoor
/- whole.Sub, Of. -/
namespace Go.Proofs.YtlicmnlllappnaaDoor
open Go.RowKit Big

set_option maxHeartbeats 1600000 in
theorem Sub_any (v0 v1 : Value) (a b : Int) (w : World) (h0 : RawAt w v0 a) (h1 : RawAt w v1 b) : Calls Tryd.prog 15 #[v0, v1] w (RInt (a - b) w) := by
  obtain ⟨n1, s1, l1, rfl, a1, b1, c1, hb⟩ := h1
  have hn : ∀ W, Below w.heap.size w W → RawAt W (.agg #[.bool (!n1), s1]) (-b) := fun W h => ⟨!n1, s1, l1, rfl, a1.below h, b1, c1, by rw [hb]; unfold sg; cases n1 <;> simp⟩
  have hs : a - b = a + -b := by omega
  rw [hs]
  have Hn := hid hn
  obtain ⟨p1', c1', rfl, -⟩ := a1
  clear hn hs hb b1 c1
  obtain ⟨n0, s0, l0, rfl, r0⟩ := id h0
  clear r0
  go_enter Tryd.func15, Tryd.ntmps15
  go_wp2_with fail
  refine (Add_any _ _ _ _ _ (h0.below (((below1 _ _).alloc (by simp) _).alloc (by simp; omega) _)) (Hn.out _ (((below1 _ _).alloc (by simp) _).alloc (by simp; omega) _))).mono ?_
  rintro e w1 ⟨v1, rfl, hi1, hb1⟩
  obtain ⟨p1, m1, c1, rfl, hi1⟩ := hi1.shape
  have hpr : Pair w1 (w.heap.size + 1 + 1) 25 := Pair.below (Pair.new2 ..) hb1
  obtain ⟨_, _, q0, q1, q2, q3⟩ := hpr.cells
  have bw : Below w.heap.size w w1 := (((below1 _ _).alloc (by simp) _).alloc (by simp; omega) _).trans (hb1.mono (B' := w.heap.size) (by simp; omega))
  have z1 : w.heap.size + 3 ≤ w1.heap.size := by have := hb1.size; simp at this; omega
  clear hb1
  go_wp2
  exact bodyPost_ret (v := .agg #[.bool (decide (a + -b < 0)), .slice p1 m1 c1]) (by simp [results, Tryd.results15, go_sem, q0, q1]) rfl
    ⟨_, rfl, hi1.stored hpr _ _ _ _, Below.stored bw (by omega) _ _⟩

theorem wrap_neg_neg (n : Nat) (h0 : 0 < n) (h : n < W) : IntKind.u64.wrap (-IntKind.u64.wrap (-(n : Int))) = (n : Int) := by
  unfold W at h
  simp only [IntKind.wrap, IntKind.bits, IntKind.signed]
  simp
  omega

set_option maxHeartbeats 800000 in
theorem Of_any (z : Int) (w : World) (h0 : -9223372036854775808 ≤ z) (h1 : z ≤ 9223372036854775807) : Calls Tryd.prog 31 #[.int .i64 z] w (RInt z w) := by
  by_cases hz : z < 0
  · obtain ⟨n, hn⟩ : ∃ n : Nat, z = -(n : Int) := ⟨z.natAbs, by omega⟩
    have Hn := hid hn
    have hnW : n < W := by unfold W; omega
    have Hz : Hid (sg true n = z) := by rw [hn]; rfl
    have hn0 : 0 < n := by omega
    clear hn
    subst_vars
    go_enter Tryd.func31, Tryd.ntmps31
    go_wp2_with fail
    rw [wrap_neg_neg n hn0 hnW]
    refine (ownWord_any n _ hnW).mono ?_
    rintro e w1 ⟨v1, rfl, ho1, hb1⟩
    go_wp2_with fail
    refine (told_any true v1 n _ ho1).mono ?_
    rintro e w2 ⟨v2, rfl, hi2, hb2⟩
    obtain ⟨p2, n2, c2, rfl, hi2⟩ := hi2.shape
    have hpr : Pair w2 w.heap.size 25 := Pair.below (Pair.below (Pair.new ..) hb1) hb2
    obtain ⟨_, _, q0, q1, q2, q3⟩ := hpr.cells
    have z1 : w.heap.size + 1 ≤ w1.heap.size := by have := hb1.size; simp at this; omega
    have bw : Below w.heap.size w w2 := ((below1 _ _).trans (hb1.mono (B' := w.heap.size) (by simp))).trans (hb2.mono (B' := w.heap.size) (by omega))
    have Hi := hid hi2
    clear hb1 hb2 hi2
    go_wp2
    exact bodyPost_ret (v := .agg #[.bool (decide (sg true n < 0)), .slice p2 n2 c2]) (by simp [results, Tryd.results31, go_sem, q0, q1]) rfl
      ⟨_, rfl, by rw [← Hz.out]; exact Hi.out.stored hpr _ _ _ _, Below.stored bw (by omega) _ _⟩
  · obtain ⟨n, hn⟩ : ∃ n : Nat, z = (n : Int) := ⟨z.natAbs, by omega⟩
    subst hn
    have hnW : n < W := by unfold W; omega
    go_enter Tryd.func31, Tryd.ntmps31
    go_wp2_with fail
    refine (ownWord_any n _ hnW).mono ?_
    rintro e w1 ⟨v1, rfl, ho1, hb1⟩
    go_wp2_with fail
    refine (told_any false v1 n _ ho1).mono ?_
    rintro e w2 ⟨v2, rfl, hi2, hb2⟩
    obtain ⟨p2, n2, c2, rfl, hi2⟩ := hi2.shape
    have hpr : Pair w2 w.heap.size 25 := Pair.below (Pair.below (Pair.new ..) hb1) hb2
    obtain ⟨_, _, q0, q1, q2, q3⟩ := hpr.cells
    have z1 : w.heap.size + 1 ≤ w1.heap.size := by have := hb1.size; simp at this; omega
    have bw : Below w.heap.size w w2 := ((below1 _ _).trans (hb1.mono (B' := w.heap.size) (by simp))).trans (hb2.mono (B' := w.heap.size) (by omega))
    have Hi := hid hi2
    clear hb1 hb2 hi2
    go_wp2
    exact bodyPost_ret (v := .agg #[.bool (decide (sg false n < 0)), .slice p2 n2 c2]) (by simp [results, Tryd.results31, go_sem, q0, q1]) rfl
      ⟨_, rfl, Hi.out.stored hpr _ _ _ _, Below.stored bw (by omega) _ _⟩
end Go.Proofs.YtlicmnlllappnaaDoor
/- elenchuslaw01.fixed answers true. -/
namespace Go.Proofs.YtlicmnlllappnaaDoor
open Go.RowKit Big

theorem IntAt.any {w : World} {v : Value} {z : Int} (h : IntAt w v z) : ∃ b p n c, v = .agg #[.bool b, .slice p n c] ∧ IntAt w (.agg #[.bool b, .slice p n c]) z := by
  obtain ⟨p, n, c, hv, hi⟩ := h.shape
  exact ⟨_, p, n, c, hv, hi⟩
theorem smallRaw {w : World} {v : Value} {z : Int} (h : IntAt w v z) (hz : z.natAbs < W) : RawAt w v z := h.raw (Nat.le_trans (sz_word hz) (by omega))
theorem DivSmall_any (v0 v1 : Value) (a b : Int) (w : World) (h0 : IntAt w v0 a) (h1 : IntAt w v1 b) (ha : a.natAbs < W) (hb : b.natAbs < W) (hb0 : b ≠ 0) :
    Calls Tryd.prog 25 #[v0, v1] w (RDiv (a / b) (a % b) 0 w) :=
  Div_of v0 v1 a b w (smallRaw h0 ha) (smallRaw h1 hb) hb0 fun W' u u' hu hu' => divide_small u u' _ _ W' hu hu' ha hb (by omega)
theorem Div_m7 (v0 v1 : Value) (w : World) (h0 : IntAt w v0 (-7)) (h1 : IntAt w v1 2) : Calls Tryd.prog 25 #[v0, v1] w (RDiv (-4) 1 0 w) :=
  DivSmall_any v0 v1 (-7) 2 w h0 h1 (by decide) (by decide) (by decide)
theorem Div_7 (v0 v1 : Value) (w : World) (h0 : IntAt w v0 7) (h1 : IntAt w v1 (-2)) : Calls Tryd.prog 25 #[v0, v1] w (RDiv (-3) 1 0 w) :=
  DivSmall_any v0 v1 7 (-2) w h0 h1 (by decide) (by decide) (by decide)
theorem print_1 (v : Value) (w : World) (h : IntAt w v 1) : Calls Tryd.prog 35 #[v] w (RStr [49] w) := by
  have := Print_small v false 1 w (smallRaw h (by decide)) (by decide) (by decide)
  rwa [show ((if false = true then [45] else []) ++ Lib.decDigits 1 : List UInt8) = [49] by decide +kernel] at this
theorem print_m3 (v : Value) (w : World) (h : IntAt w v (-3)) : Calls Tryd.prog 35 #[v] w (RStr [45, 51] w) := by
  have := Print_small v true 3 w (smallRaw h (by decide)) (by decide) (by decide)
  rwa [show ((if true = true then [45] else []) ++ Lib.decDigits 3 : List UInt8) = [45, 51] by decide +kernel] at this
theorem print_m4 (v : Value) (w : World) (h : IntAt w v (-4)) : Calls Tryd.prog 35 #[v] w (RStr [45, 52] w) := by
  have := Print_small v true 4 w (smallRaw h (by decide)) (by decide) (by decide)
  rwa [show ((if true = true then [45] else []) ++ Lib.decDigits 4 : List UInt8) = [45, 52] by decide +kernel] at this

/-- a variable that holds a whole number -/
def Var (w : World) (g : Nat) (b : Bool) (p : Option Addr) (n c : Nat) (z : Int) : Prop :=
  w.cell? ⟨g, 0, none⟩ = some (.bool b) ∧ w.cell? ⟨g, 1, none⟩ = some (.slice p n c) ∧ g < w.heap.size ∧ IntAt w (.agg #[.bool b, .slice p n c]) z
theorem Var.below {w w' : World} {g : Nat} {b : Bool} {p : Option Addr} {n c : Nat} {z : Int} (h : Var w g b p n c z) (hb : Below w.heap.size w w') : Var w' g b p n c z :=
  ⟨(hb.cell (p := ⟨g, 0, none⟩) h.2.2.1).trans h.1, (hb.cell (p := ⟨g, 1, none⟩) h.2.2.1).trans h.2.1, Nat.lt_of_lt_of_le h.2.2.1 hb.size, h.2.2.2.below hb⟩
theorem Var.new {w : World} {b : Bool} {p : Option Addr} {n c : Nat} {z : Int} {t : TypeId} (h : IntAt w (.agg #[.bool b, .slice p n c]) z) : Var (w.alloc (.cells #[.bool b, .slice p n c] t)) w.heap.size b p n c z :=
  ⟨(two_cells (heap_alloc_new w _)).1, (two_cells (heap_alloc_new w _)).2.1, by simp, h.below (below1 _ _)⟩
theorem Var.new1 {w : World} {o : Obj} {b : Bool} {p : Option Addr} {n c : Nat} {z : Int} {t : TypeId} (h : IntAt w (.agg #[.bool b, .slice p n c]) z) : Var ((w.alloc o).alloc (.cells #[.bool b, .slice p n c] t)) (w.heap.size + 1) b p n c z := by
  have := Var.new (t := t) (h.below (below1 w o))
  rwa [size_alloc] at this

set_option maxRecDepth 100000 in
set_option maxHeartbeats 1600000 in
theorem fixed_any (w : World) : Calls Tryd.prog 9 #[] w (RBool true w) := by
  go_enter Tryd.func9, Tryd.ntmps9
  go_wp2_with fail
  refine (Of_any (-7) _ (by decide) (by decide)).mono ?_
  rintro e w1 ⟨v1, rfl, i1, b1⟩
  go_wp2_with fail
  refine (Of_any 2 _ (by decide) (by decide)).mono ?_
  rintro e w2 ⟨v2, rfl, i2, b2⟩
  go_wp2_with fail
  refine (Div_m7 v1 v2 _ (i1.below b2) i2).mono ?_
  rintro e w3 ⟨q, r, rfl, iq, ir, b3⟩
  have bw3 := hid (b1.trans ((b2.mono (B' := w.heap.size) b1.size).trans (b3.mono (B' := w.heap.size) (Nat.le_trans b1.size b2.size))))
  obtain ⟨bq, pq, nq, cq, rfl, iq'⟩ := iq.any
  obtain ⟨br, pr, nr, cr, rfl, ir'⟩ := ir.any
  have Vq := (Var.new (t := 25) iq').below (below1 _ (.cells #[.bool br, .slice pr nr cr] 25))
  have Vr := Var.new1 (t := 25) (o := .cells #[.bool bq, .slice pq nq cq] 25) ir'
  have HVq := hid Vq; have HVr := hid Vr
  clear b1 b2 b3 i1 i2 iq ir iq' ir' Vq Vr
  go_wp2_with fail
  refine (Of_any 7 _ (by decide) (by decide)).mono ?_
  rintro e w4 ⟨v4, rfl, i4, b4⟩
  go_wp2_with fail
  refine (Of_any (-2) _ (by decide) (by decide)).mono ?_
  rintro e w5 ⟨v5, rfl, i5, b5⟩
  go_wp2_with fail
  refine (Div_7 v4 v5 _ (i4.below b5) i5).mono ?_
  rintro e w6 ⟨x, y, rfl, ix, iy, b6⟩
  have bw6 : Below w.heap.size w w6 := by
    have a := bw3.out
    have z := a.size
    have z4 := b4.size
    have z5 := b5.size
    simp at z4
    exact (((a.alloc (by omega) _).alloc (by simp; omega) _).trans (b4.mono (B' := w.heap.size) (by simp; omega))).trans ((b5.mono (B' := w.heap.size) (by omega)).trans (b6.mono (B' := w.heap.size) (by omega)))
  have Vq := ((HVq.out.below b4).below b5).below b6
  have Vr := ((HVr.out.below b4).below b5).below b6
  obtain ⟨bx, px, nx, cx, rfl, ix'⟩ := ix.any
  obtain ⟨by', py, ny, cy, rfl, iy'⟩ := iy.any
  have Vx := (Var.new (t := 25) ix').below (below1 _ (.cells #[.bool by', .slice py ny cy] 25))
  have Vy := Var.new1 (t := 25) (o := .cells #[.bool bx, .slice px nx cx] 25) iy'
  have b67 : Below w6.heap.size w6 ((w6.alloc (.cells #[.bool bx, .slice px nx cx] 25)).alloc (.cells #[.bool by', .slice py ny cy] 25)) := (below1 _ _).alloc (by simp) _
  have HVq' := hid (Vq.below b67); have HVr' := hid (Vr.below b67)
  have HVx := hid Vx; have HVy := hid Vy
  have bw7 := hid (bw6.trans (b67.mono (B' := w.heap.size) bw6.size))
  clear b4 b5 b6 i4 i5 ix iy ix' iy' Vq Vr Vx Vy HVq HVr bw3 bw6 b67
  go_wp2_with fail
  refine (Parse_bad _).mono ?_
  rintro e w8 ⟨z, rfl, iz, b8⟩
  obtain ⟨bz, pz, nz, cz, rfl, -⟩ := iz.any
  have b89 : ∀ o, Below w8.heap.size w8 (w8.alloc o) := fun o => below1 w8 o
  have Vq := hid (fun o => (HVq'.out.below b8).below (b89 o)); have Vr := hid (fun o => (HVr'.out.below b8).below (b89 o))
  have Vx := hid (fun o => (HVx.out.below b8).below (b89 o)); have Vy := hid (fun o => (HVy.out.below b8).below (b89 o))
  have bw9 := hid (fun o => (bw7.out.trans (b8.mono (B' := w.heap.size) bw7.out.size)).trans ((b89 o).mono (B' := w.heap.size) (Nat.le_trans bw7.out.size b8.size)))
  clear HVq' HVr' HVx HVy bw7 b8 b89 iz
  have q0 := (Vq.out (.cells #[.bool bz, .slice pz nz cz] 25)).1; have q1 := (Vq.out (.cells #[.bool bz, .slice pz nz cz] 25)).2.1
  go_wp2_with fail
  generalize hW : World.alloc w8 _ = W9
  have Vr9 := Vr.out (.cells #[.bool bz, .slice pz nz cz] 25)
  have Vx9 := Vx.out (.cells #[.bool bz, .slice pz nz cz] 25)
  have Vy9 := Vy.out (.cells #[.bool bz, .slice pz nz cz] 25)
  have Iq9 := (Vq.out (.cells #[.bool bz, .slice pz nz cz] 25)).2.2.2
  have bw10 := bw9.out (.cells #[.bool bz, .slice pz nz cz] 25)
  rw [hW] at Vr9 Vx9 Vy9 Iq9 bw10
  clear q0 q1 Vq Vr Vx Vy bw9 hW
  refine (print_m4 _ _ Iq9).mono ?_
  rintro e w10 ⟨rfl, b10⟩
  have Vr10 := Vr9.below b10; have Vx10 := Vx9.below b10; have Vy10 := Vy9.below b10
  have bw11 := bw10.trans (b10.mono (B' := w.heap.size) bw10.size)
  obtain ⟨d0, d1, -, Ir⟩ := Vr10
  clear Iq9 Vr9 Vx9 Vy9 b10 bw10
  have HVx := hid Vx10; have HVy := hid Vy10; have HIr := hid Ir; have Hbw := hid bw11
  clear Vx10 Vy10 Ir bw11
  go_wp2_with fail
  refine (print_1 _ _ HIr.out).mono ?_
  rintro e w11 ⟨rfl, b11⟩
  have Vx11 := HVx.out.below b11; have Vy11 := HVy.out.below b11
  have bw12 := Hbw.out.trans (b11.mono (B' := w.heap.size) Hbw.out.size)
  clear d0 d1 HIr HVx HVy Hbw b11
  obtain ⟨d0, d1, -, Ix⟩ := Vx11
  have HVy := hid Vy11; have HIx := hid Ix; have Hbw := hid bw12
  clear Vy11 Ix bw12
  go_wp2_with fail
  refine (print_m3 _ _ HIx.out).mono ?_
  rintro e w12 ⟨rfl, b12⟩
  have Vy12 := HVy.out.below b12
  have bw13 := Hbw.out.trans (b12.mono (B' := w.heap.size) Hbw.out.size)
  clear d0 d1 HIx HVy Hbw b12
  obtain ⟨d0, d1, -, Iy⟩ := Vy12
  have HIy := hid Iy; have Hbw := hid bw13
  clear Iy bw13
  go_wp2_with fail
  refine (print_1 _ _ HIy.out).mono ?_
  rintro e w13 ⟨rfl, b13⟩
  have bw14 := hid (Hbw.out.trans (b13.mono (B' := w.heap.size) Hbw.out.size))
  clear d0 d1 HIy Hbw b13
  go_wp2_with fail
  go_ret
  exact ⟨rfl, bw14.out⟩
end Go.Proofs.YtlicmnlllappnaaDoor
/- elenchuslaw01.WholeLaws answers true. -/
namespace Go.Proofs.YtlicmnlllappnaaDoor
open Go.RowKit Big

/-- the cells of three variables that a call has laid for its arguments -/
structure Three (w : World) (g : Nat) (a b c d e f : Value) : Prop where
  c00 : w.cell? ⟨g, 0, none⟩ = some a
  c01 : w.cell? ⟨g, 1, none⟩ = some b
  c10 : w.cell? ⟨g + 1, 0, none⟩ = some c
  c11 : w.cell? ⟨g + 1, 1, none⟩ = some d
  c20 : w.cell? ⟨g + 1 + 1, 0, none⟩ = some e
  c21 : w.cell? ⟨g + 1 + 1, 1, none⟩ = some f
  lt : g + 3 ≤ w.heap.size
theorem Three.below {w w' : World} {g : Nat} {a b c d e f : Value} (h : Three w g a b c d e f) (hb : Below w.heap.size w w') : Three w' g a b c d e f :=
  ⟨(hb.cell (p := ⟨g, 0, none⟩) (by have := h.lt; show g < _; omega)).trans h.c00, (hb.cell (p := ⟨g, 1, none⟩) (by have := h.lt; show g < _; omega)).trans h.c01,
   (hb.cell (p := ⟨g + 1, 0, none⟩) (by have := h.lt; show g + 1 < _; omega)).trans h.c10, (hb.cell (p := ⟨g + 1, 1, none⟩) (by have := h.lt; show g + 1 < _; omega)).trans h.c11,
   (hb.cell (p := ⟨g + 1 + 1, 0, none⟩) (by have := h.lt; show g + 1 + 1 < _; omega)).trans h.c20, (hb.cell (p := ⟨g + 1 + 1, 1, none⟩) (by have := h.lt; show g + 1 + 1 < _; omega)).trans h.c21, Nat.le_trans h.lt hb.size⟩
theorem Three.new (w : World) (a b c d e f : Value) (t : TypeId) : Three (((w.alloc (.cells #[a, b] t)).alloc (.cells #[c, d] t)).alloc (.cells #[e, f] t)) w.heap.size a b c d e f := by
  have h2 := (Two.new w a b c d t).below (below1 _ (.cells #[e, f] t))
  have h := two_cells (heap_alloc_new ((w.alloc (.cells #[a, b] t)).alloc (.cells #[c, d] t)) (.cells #[e, f] t))
  rw [size_alloc, size_alloc] at h
  exact ⟨h2.c00, h2.c01, h2.c10, h2.c11, h.1, h.2.1, by simp⟩
structure One (w : World) (g : Nat) (a b : Value) : Prop where
  c0 : w.cell? ⟨g, 0, none⟩ = some a
  c1 : w.cell? ⟨g, 1, none⟩ = some b
  lt : g < w.heap.size
theorem One.below {w w' : World} {g : Nat} {a b : Value} (h : One w g a b) (hb : Below w.heap.size w w') : One w' g a b :=
  ⟨(hb.cell (p := ⟨g, 0, none⟩) h.lt).trans h.c0, (hb.cell (p := ⟨g, 1, none⟩) h.lt).trans h.c1, Nat.lt_of_lt_of_le h.lt hb.size⟩
theorem One.new (w : World) (a b : Value) (t : TypeId) : One (w.alloc (.cells #[a, b] t)) w.heap.size a b := by
  have h := two_cells (heap_alloc_new w (.cells #[a, b] t))
  exact ⟨h.1, h.2.1, by simp⟩
/-- a told number's parts -/
def Parts (w : World) (z : Int) (d : Bool) (p : Option Addr) (n c : Nat) : Prop := IntAt w (.agg #[.bool d, .slice p n c]) z
theorem IntAt.parts {w : World} {v : Value} {z : Int} (h : IntAt w v z) : ∃ d p n c, v = .agg #[.bool d, .slice p n c] ∧ Parts w z d p n c := by
  obtain ⟨p, n, c, rfl, hi⟩ := h.shape
  exact ⟨_, p, n, c, rfl, hi⟩
theorem Parts.below {w w' : World} {z : Int} {d : Bool} {p : Option Addr} {n c : Nat} (h : Parts w z d p n c) (hb : Below w.heap.size w w') : Parts w' z d p n c := IntAt.below h hb
theorem Below.two {u w : World} (h : Below u.heap.size u w) (o o' : Obj) : Below u.heap.size u ((w.alloc o).alloc o') := (h.alloc h.size o).alloc (by have := h.size; simp; omega) o'
theorem six_cells {w : World} {g : Nat} {a b c d e f : Value} {t : TypeId} (h : w.heap[g]? = some (.cells #[a, b, c, d, e, f] t (0, 0))) :
    w.cell? ⟨g, 0, none⟩ = some a ∧ w.cell? ⟨g, 1, none⟩ = some b ∧ w.cell? ⟨g, 2, none⟩ = some c ∧ w.cell? ⟨g, 3, none⟩ = some d ∧ w.cell? ⟨g, 4, none⟩ = some e ∧ w.cell? ⟨g, 5, none⟩ = some f :=
  ⟨by rw [cell_of_row w g 0 _ t (0, 0) h]; rfl, by rw [cell_of_row w g 1 _ t (0, 0) h]; rfl, by rw [cell_of_row w g 2 _ t (0, 0) h]; rfl, by rw [cell_of_row w g 3 _ t (0, 0) h]; rfl, by rw [cell_of_row w g 4 _ t (0, 0) h]; rfl, by rw [cell_of_row w g 5 _ t (0, 0) h]; rfl⟩
theorem Cmp_same (v0 v1 : Value) (z : Int) (w : World) (h0 : RawAt w v0 z) (h1 : RawAt w v1 z) : Calls Tryd.prog 17 #[v0, v1] w (RNum .i64 0 w) := by
  have := Cmp_any v0 v1 z z w h0 h1
  rwa [ord_eq] at this

theorem sz_mul_int (a b : Int) : sz W (a * b).natAbs ≤ sz W a.natAbs + sz W b.natAbs := by rw [Int.natAbs_mul]; exact sz_mul W2 _ _
theorem sz_add_int {a b : Int} {k : Nat} (ha : sz W a.natAbs ≤ k) (hb : sz W b.natAbs ≤ k) : sz W (a + b).natAbs ≤ k + 1 := Nat.le_trans (sz_mono W2 (Int.natAbs_add_le a b)) (sz_add W2 ha hb)

set_option maxRecDepth 100000 in
set_option maxHeartbeats 8000000 in
theorem lawLaws_any (n0 n1 n2 : Bool) (s0 s1 s2 : Value) (l0 l1 l2 : List Nat) (w : World) (h0 : At w .u64 s0 l0) (h1 : At w .u64 s1 l1) (h2 : At w .u64 s2 l2) (w0 : Small W l0) (w1 : Small W l1) (w2 : Small W l2) :
    Calls Tryd.prog 8 #[.agg #[.bool n0, s0], .agg #[.bool n1, s1], .agg #[.bool n2, s2]] w (RBool true w) := by
  have H0 := hid h0; have H1 := hid h1; have H2 := hid h2
  obtain ⟨p0, c0, rfl, a1, a2, -⟩ := h0
  obtain ⟨p1, c1, rfl, b1, b2, -⟩ := h1
  obtain ⟨p2, c2, rfl, d1, d2, -⟩ := h2
  unfold maxLen at a2 b2 d2
  have hf := fun o o' o'' => fixed_any (((w.alloc o).alloc o').alloc o'')
  have Hf := hid hf
  clear hf
  go_enter Tryd.func8, Tryd.ntmps8
  go_wp2_with fail
  refine (Hf.out _ _ _).mono ?_
  rintro e u1 ⟨rfl, g1⟩
  have tw := (Three.new w (.bool n0) (.slice p0 l0.length c0) (.bool n1) (.slice p1 l1.length c1) (.bool n2) (.slice p2 l2.length c2) 25).below g1
  have bw := hid (((((below1 _ _).alloc (by simp) _).alloc (by simp; omega) _) : Below w.heap.size w (((w.alloc (.cells #[.bool n0, .slice p0 l0.length c0] 25)).alloc (.cells #[.bool n1, .slice p1 l1.length c1] 25)).alloc (.cells #[.bool n2, .slice p2 l2.length c2] 25))).trans (g1.mono (B' := w.heap.size) (by simp; omega)))
  have HT := hid tw
  have t00 := tw.c00; have t01 := tw.c01; have t10 := tw.c10; have t11 := tw.c11; have t20 := tw.c20; have t21 := tw.c21; have tz := tw.lt
  obtain ⟨f0, f1, f2, f3, f4, f5⟩ := six_cells (heap_alloc_new u1 (.cells #[.bool n0, .slice p0 l0.length c0, .bool n1, .slice p1 l1.length c1, .bool n2, .slice p2 l2.length c2] 25))
  have hfew := few3_any u1.heap.size n0 n1 n2 p0 p1 p2 l0.length c0 l1.length c1 l2.length c2 3 _ f0 f1 f2 f3 f4 f5 (by omega) (by omega) (by omega)
  have Hfew := hid hfew
  clear hfew f0 f1 f2 f3 f4 f5 g1 tw
  by_cases hsm : l0.length ≤ 20 ∧ l1.length ≤ 20 ∧ l2.length ≤ 20
  · rw [decide_eq_true hsm] at Hfew
    obtain ⟨hs0, hs1, hs2⟩ := hsm
    go_wp2_with fail
    refine Hfew.out.mono ?_
    rintro e u2 ⟨rfl, d2'⟩
    have d12 : Below u1.heap.size u1 u2 := (below1 _ _).trans (d2'.mono (B' := u1.heap.size) (by simp))
    have HT2 := hid (HT.out.below d12)
    have gz := HT2.out.lt
    have bw2 := hid (bw.out.trans (d12.mono (B' := w.heap.size) (by omega)))
    have A0 := H0.out.below bw2.out; have A1 := H1.out.below bw2.out; have A2 := H2.out.below bw2.out
    obtain ⟨za, hza⟩ : ∃ z, z = sg n0 (val W l0) := ⟨_, rfl⟩
    obtain ⟨zb, hzb⟩ : ∃ z, z = sg n1 (val W l1) := ⟨_, rfl⟩
    obtain ⟨zc, hzc⟩ : ∃ z, z = sg n2 (val W l2) := ⟨_, rfl⟩
    have RA : RawAt u2 (.agg #[.bool n0, .slice p0 l0.length c0]) za := ⟨_, _, l0, rfl, A0, w0, by omega, hza⟩
    have RB : RawAt u2 (.agg #[.bool n1, .slice p1 l1.length c1]) zb := ⟨_, _, l1, rfl, A1, w1, by omega, hzb⟩
    have RC : RawAt u2 (.agg #[.bool n2, .slice p2 l2.length c2]) zc := ⟨_, _, l2, rfl, A2, w2, by omega, hzc⟩
    have RS : RawAt u2 (.agg #[.bool false, .slice p1 l1.length c1]) (zb.natAbs : Nat) := ⟨_, _, l1, rfl, A1, w1, by omega, by rw [hzb, sg_natAbs]; simp [sg]⟩
    have la : sz W za.natAbs ≤ 20 := by rw [hza, sg_natAbs]; exact Nat.le_trans (sz_val (by simp [W]) w0) (by omega)
    have lb : sz W zb.natAbs ≤ 20 := by rw [hzb, sg_natAbs]; exact Nat.le_trans (sz_val (by simp [W]) w1) (by omega)
    have lc : sz W zc.natAbs ≤ 20 := by rw [hzc, sg_natAbs]; exact Nat.le_trans (sz_val (by simp [W]) w2) (by omega)
    have HS : Hid (∀ w', Below u2.heap.size u2 w' → w'.cell? ⟨w.heap.size, 0, none⟩ = some (.bool n0) ∧ w'.cell? ⟨w.heap.size, 1, none⟩ = some (.slice p0 l0.length c0) ∧ w'.cell? ⟨w.heap.size + 1, 0, none⟩ = some (.bool n1) ∧ w'.cell? ⟨w.heap.size + 1, 1, none⟩ = some (.slice p1 l1.length c1) ∧
        w'.cell? ⟨w.heap.size + 1 + 1, 0, none⟩ = some (.bool n2) ∧ w'.cell? ⟨w.heap.size + 1 + 1, 1, none⟩ = some (.slice p2 l2.length c2) ∧ Below u2.heap.size u2 w') := by
      intro w' hb
      have ht := HT2.out.below hb
      exact ⟨ht.c00, ht.c01, ht.c10, ht.c11, ht.c20, ht.c21, hb⟩
    have HRA := hid RA; have HRB := hid RB; have HRC := hid RC; have HRS := hid RS; have Hla := hid la; have Hlb := hid lb; have Hlc := hid lc
    clear d2' d12 HT t00 t01 t10 t11 t20 t21 tz bw Hfew A0 A1 A2 RA RB RC RS la lb lc hza hzb hzc H0 H1 H2 w0 w1 w2
    have Hla' := hid (Nat.le_trans Hla.out (show 20 ≤ 549755813888 by decide)); have Hlb' := hid (Nat.le_trans Hlb.out (show 20 ≤ 549755813888 by decide)); have Hlc' := hid (Nat.le_trans Hlc.out (show 20 ≤ 549755813888 by decide))
    have sb1 : sz W (zb + zc).natAbs ≤ 21 := sz_add_int Hlb.out Hlc.out
    have sbc := hid (Nat.le_trans sb1 (show 21 ≤ 1099511627776 by decide))
    have sbc' := hid (Nat.le_trans sb1 (show 21 ≤ 549755813888 by decide))
    have sabc : Hid (sz W (za * (zb + zc)).natAbs ≤ 1099511627776) := Nat.le_trans (sz_mul_int _ _) (by have := Hla.out; omega)
    have sab : Hid (sz W (za * zb).natAbs ≤ 1099511627776) := Nat.le_trans (sz_mul_int _ _) (by have := Hla.out; have := Hlb.out; omega)
    have sac : Hid (sz W (za * zc).natAbs ≤ 1099511627776) := Nat.le_trans (sz_mul_int _ _) (by have := Hla.out; have := Hlc.out; omega)
    clear sb1
    go_wp2_with fail
    go_region_held3 (fun w' => w'.cell? ⟨w.heap.size, 0, none⟩ = some (.bool n0) ∧ w'.cell? ⟨w.heap.size, 1, none⟩ = some (.slice p0 l0.length c0) ∧ w'.cell? ⟨w.heap.size + 1, 0, none⟩ = some (.bool n1) ∧ w'.cell? ⟨w.heap.size + 1, 1, none⟩ = some (.slice p1 l1.length c1) ∧
        w'.cell? ⟨w.heap.size + 1 + 1, 0, none⟩ = some (.bool n2) ∧ w'.cell? ⟨w.heap.size + 1 + 1, 1, none⟩ = some (.slice p2 l2.length c2) ∧ Below u2.heap.size u2 w')
        (first | exact HS.out _ (Below.drew (Below.refl _ _)) | (refine HS.out _ (Below.go hb ?_); go_split_ands; assumption))
        (first
          | (go_at_call_of 13 (p1); refine (Add_any _ _ zb zc _ (HRB.out.below (by go_split_ands; assumption)) (HRC.out.below (by go_split_ands; assumption))).mono ?_; rintro e wa ⟨v1, rfl, i1, hb⟩; have r1 := i1.raw sbc.out)
          | (go_at_call_of 26 (v1); refine (Mul_any _ _ za (zb + zc) _ (HRA.out.below (by go_split_ands; assumption)) r1 Hla'.out sbc'.out).mono ?_; rintro e wa ⟨v2, rfl, i2, hb⟩; clear r1; have r2 := i2.raw sabc.out)
          | (go_at_call_of 26 (p1); have _t := r2; refine (Mul_any _ _ za zb _ (HRA.out.below (by go_split_ands; assumption)) (HRB.out.below (by go_split_ands; assumption)) Hla'.out Hlb'.out).mono ?_; rintro e wa ⟨v3, rfl, i3, hb⟩; have q2 := r2.below hb; clear _t r2; have r3 := i3.raw sab.out)
          | (go_at_call_of 26 (p2); refine (Mul_any _ _ za zc _ (HRA.out.below (by go_split_ands; assumption)) (HRC.out.below (by go_split_ands; assumption)) Hla'.out Hlc'.out).mono ?_; rintro e wa ⟨v4, rfl, i4, hb⟩; have o2 := q2.below hb; clear q2; have q3 := r3.below hb; clear r3; have r4 := i4.raw sac.out)
          | (go_at_call_of 13 (v3); refine (Add_any _ _ (za * zb) (za * zc) _ q3 r4).mono ?_; rintro e wa ⟨v5, rfl, i5, hb⟩; rw [← Int.mul_add] at i5; have t2 := o2.below hb; clear o2 q3 r4; have r5 := i5.raw sabc.out)
          | (go_at_call_of 17 (v5); refine (Cmp_same _ _ (za * (zb + zc)) _ t2 r5).mono ?_; rintro e wa ⟨rfl, hb⟩; clear t2 r5)
          | (go_at_call_of 26 (p1); (fail_if_success have _t := r6); refine (Mul_any _ _ za zb _ (HRA.out.below (by go_split_ands; assumption)) (HRB.out.below (by go_split_ands; assumption)) Hla'.out Hlb'.out).mono ?_; rintro e wa ⟨v6, rfl, i6, hb⟩; have r6 := i6.raw sab.out)
          | (go_at_call_of 26 (p1); have _t := r6; refine (Mul_any _ _ zb za _ (HRB.out.below (by go_split_ands; assumption)) (HRA.out.below (by go_split_ands; assumption)) Hlb'.out Hla'.out).mono ?_; rintro e wa ⟨v7, rfl, i7, hb⟩; rw [Int.mul_comm zb za] at i7; have q6 := r6.below hb; clear _t r6; have r7 := i7.raw sab.out)
          | (go_at_call_of 17 (v7); refine (Cmp_same _ _ (za * zb) _ q6 r7).mono ?_; rintro e wb ⟨rfl, hb⟩; clear q6 r7))
    rename_i hHeld
    go_split_ands
    have HB := hid (show Below u2.heap.size u2 wb by assumption)
    by_cases hzb : zb = 0
    · have RB0 := hid (hzb ▸ HRB.out)
      go_wp2_with fail
      refine (Div_zero _ _ za _ (HRA.out.below HB.out) (RB0.out.below HB.out)).mono ?_
      rintro e w3 ⟨vq, vr, rfl, hq, hr, hb⟩
      obtain ⟨pq, nq, cq, rfl, -⟩ := hq.shape
      obtain ⟨pr, nr, cr, rfl, -⟩ := hr.shape
      have HB3 := hid (Below.go hb HB.out)
      have hk := HS.out _ HB3.out
      clear hb
      go_split_ands
      go_upto_region 8 with fail
      generalize hW : World.alloc (World.alloc w3 _) _ = W4
      have HB4 : Hid (Below u2.heap.size u2 W4) := by unfold Hid; rw [← hW]; exact (HB3.out.alloc HB3.out.size _).alloc (by have := HB3.out.size; simp; omega) _
      clear hW
      have hk := HS.out _ HB4.out
      go_split_ands
      have hsg := Sign_any _ 0 W4 (RB0.out.below HB4.out)
      rw [Int.sign_zero] at hsg
      have Hsg := hid hsg
      clear hsg
      go_wp2_with fail
      refine Hsg.out.mono ?_
      rintro e w5 ⟨rfl, hb⟩
      have HB5 := hid (Below.go hb HB4.out)
      clear hb
      go_wp2_with fail
      go_ret
      exact ⟨rfl, bw2.out.trans (HB5.out.mono bw2.out.size)⟩
    · have hsz : (zb.sign == 0) = false := beq_eq_false_iff_ne.2 (fun e => hzb (Int.sign_eq_zero_iff_zero.1 e))
      go_wp2_with fail
      refine (Div_any _ _ za zb _ (HRA.out.below HB.out) (HRB.out.below HB.out) hzb).mono ?_
      rintro e w3 ⟨vq, vr, rfl, hq, hr, hb⟩
      have hq := hq.parts
      obtain ⟨dq, pq, nq, cq, rfl, hq⟩ := hq
      have hr := hr.parts
      obtain ⟨dr, pr, nr, cr, rfl, hr⟩ := hr
      have HB3 := hid (Below.go hb HB.out)
      have hk := HS.out _ HB3.out
      clear hb
      go_split_ands
      go_upto_region 8 with fail
      generalize hW : World.alloc (World.alloc w3 _) _ = W4
      have X4 : Below w3.heap.size w3 W4 ∧ Two W4 w3.heap.size (.bool dq) (.slice pq nq cq) (.bool dr) (.slice pr nr cr) := by
        rw [← hW]; exact ⟨Below.two (Below.refl _ _) _ _, Two.new ..⟩
      have HB4 := hid (Below.go X4.1 HB3.out)
      have Q4 := hid X4.2
      have hq4 := hid (hq.below X4.1)
      have hr4 := hid (hr.below X4.1)
      clear hW X4 hq hr
      obtain ⟨gq, hgq⟩ : ∃ g, g = w3.heap.size := ⟨_, rfl⟩
      rw [← hgq] at Q4 ⊢
      clear hgq
      have hk := HS.out _ HB4.out
      go_split_ands
      go_wp2_with fail
      refine (Sign_any _ zb W4 (HRB.out.below HB4.out)).mono ?_
      rintro e w5 ⟨rfl, hb⟩
      have HB5 := hid (Below.go hb HB4.out)
      have B45 := hid hb
      have hk := HS.out _ HB5.out
      clear hb
      go_split_ands
      go_wp2_with fail
      refine (Gcd_any _ _ za zb _ (HRA.out.below HB5.out) (HRB.out.below HB5.out)).mono ?_
      rintro e w6 ⟨vg, rfl, hg, hb⟩
      have hg := hg.parts
      obtain ⟨dg, pg, ng, cg, rfl, hg⟩ := hg
      have HB6 := hid (Below.go hb HB5.out)
      have B46 := hid (Below.go hb B45.out)
      have hk := HS.out _ HB6.out
      clear hb
      go_split_ands
      go_upto_region 11 with fail
      generalize hW : World.alloc w6 _ = W7
      have X7 : Below w6.heap.size w6 W7 ∧ One W7 w6.heap.size (.bool dg) (.slice pg ng cg) := by
        rw [← hW]; exact ⟨below1 _ _, One.new ..⟩
      have HB7 := hid (Below.go X7.1 HB6.out)
      have B47 := hid (Below.go X7.1 B46.out)
      have G7 := hid X7.2
      have hg7 := hid (hg.below X7.1)
      clear hW X7 hg
      obtain ⟨gg, hgg⟩ : ∃ g, g = w6.heap.size := ⟨_, rfl⟩
      rw [← hgg] at G7 ⊢
      clear hgg
      have hk := HS.out _ HB7.out
      have k1 := G7.out.c0; have k2 := G7.out.c1
      go_split_ands
      obtain ⟨zg, hzg⟩ : ∃ z : Int, z = ((Nat.gcd za.natAbs zb.natAbs : Nat) : Int) := ⟨_, rfl⟩
      rw [← hzg] at hg7
      have hzg0 : zg ≠ 0 := by
        rw [hzg]
        intro e
        have := Int.ofNat_eq_zero.1 e
        rw [Nat.gcd_eq_zero_iff] at this
        exact hzb (Int.natAbs_eq_zero.1 this.2)
      have hga : za % zg = 0 := by rw [hzg]; exact Int.emod_eq_zero_of_dvd (Int.ofNat_dvd_left.2 (Nat.gcd_dvd_left _ _))
      have hgb : zb % zg = 0 := by rw [hzg]; exact Int.emod_eq_zero_of_dvd (Int.ofNat_dvd_left.2 (Nat.gcd_dvd_right _ _))
      have lg : sz W zg.natAbs ≤ 1099511627776 := by
        rw [hzg, Int.natAbs_natCast]
        refine Nat.le_trans (sz_mono W2 (Nat.gcd_le_right _ (Int.natAbs_pos.2 hzb))) ?_
        have := Hlb.out; omega
      have Hga := hid hga; have Hgb := hid hgb; have Hlg := hid lg
      have RG := hid (IntAt.raw hg7.out lg)
      clear hzg hga hgb lg
      go_wp2_with fail
      refine (Div_any _ _ za zg _ (HRA.out.below HB7.out) RG.out hzg0).mono ?_
      rintro e w8 ⟨vd, vu, rfl, hd, hu, hb⟩
      rw [Hga.out] at hu
      have hd := hd.parts
      obtain ⟨dd, pd, nd, cd, rfl, -⟩ := hd
      have hu := hu.parts
      obtain ⟨du, pu, nu, cu, rfl, hu⟩ := hu
      have HB8 := hid (Below.go hb HB7.out)
      have B78 := hid hb
      have hk := HS.out _ HB8.out
      clear hb k1 k2
      go_split_ands
      go_upto_region 12 with fail
      generalize hW : World.alloc (World.alloc w8 _) _ = W9
      have X9 : Below w8.heap.size w8 W9 ∧ Two W9 w8.heap.size (.bool dd) (.slice pd nd cd) (.bool du) (.slice pu nu cu) := by
        rw [← hW]; exact ⟨Below.two (Below.refl _ _) _ _, Two.new ..⟩
      have HB9 := hid (Below.go X9.1 HB8.out)
      have B79 := hid (Below.go X9.1 B78.out)
      have U9 := hid X9.2
      have hu9 := hid (hu.below X9.1)
      clear hW X9 hu
      obtain ⟨gu, hgu⟩ : ∃ g, g = w8.heap.size := ⟨_, rfl⟩
      rw [← hgu] at U9 ⊢
      clear hgu
      have G9 := hid (G7.out.below B79.out)
      have hk := HS.out _ HB9.out
      have k1 := G9.out.c0; have k2 := G9.out.c1
      go_split_ands
      go_wp2_with fail
      refine (Div_any _ _ zb zg _ (HRB.out.below HB9.out) (RG.out.below B79.out) hzg0).mono ?_
      rintro e w10 ⟨vd, vv, rfl, hd, hv, hb⟩
      rw [Hgb.out] at hv
      have hd := hd.parts
      obtain ⟨de, pe, ne, ce, rfl, -⟩ := hd
      have hv := hv.parts
      obtain ⟨dv, pv, nv, cv, rfl, hv⟩ := hv
      have HB10 := hid (Below.go hb HB9.out)
      have B910 := hid hb
      have hk := HS.out _ HB10.out
      clear hb k1 k2
      go_split_ands
      go_upto_region 13 with fail
      generalize hW : World.alloc (World.alloc w10 _) _ = W11
      have X11 : Below w10.heap.size w10 W11 ∧ Two W11 w10.heap.size (.bool de) (.slice pe ne ce) (.bool dv) (.slice pv nv cv) := by
        rw [← hW]; exact ⟨Below.two (Below.refl _ _) _ _, Two.new ..⟩
      have HB11 := hid (Below.go X11.1 HB10.out)
      have B911 := hid (Below.go X11.1 B910.out)
      have V11 := hid X11.2
      have hv11 := hid (hv.below X11.1)
      clear hW X11 hv
      obtain ⟨gv, hgv⟩ : ∃ g, g = w10.heap.size := ⟨_, rfl⟩
      rw [← hgv] at V11 ⊢
      clear hgv
      have hk := HS.out _ HB11.out
      go_split_ands
      go_upto_region 15 with fail
      generalize hW : World.alloc W11 _ = W12
      have X12 : Below W11.heap.size W11 W12 ∧ One W12 W11.heap.size (.bool false) (.slice p1 l1.length c1) := by
        rw [← hW]; exact ⟨below1 _ _, One.new ..⟩
      have HB12 := hid (Below.go X12.1 HB11.out)
      have B912 := hid (Below.go X12.1 B911.out)
      have B712 := hid (Below.go B912.out B79.out)
      have B412 := hid (Below.go B712.out B47.out)
      have S12 := hid X12.2
      have V12 := hid (V11.out.below X12.1)
      have U12 := hid (U9.out.below B912.out)
      have Q12 := hid (Q4.out.below B412.out)
      have T12 := hid (HT2.out.below HB12.out)
      have hv12 := hid (hv11.out.below X12.1)
      clear hW X12
      obtain ⟨gs, hgs⟩ : ∃ g, g = W11.heap.size := ⟨_, rfl⟩
      rw [← hgs] at S12 ⊢
      clear hgs
      have HS12 : Hid (∀ w', Below W12.heap.size W12 w' → w'.cell? ⟨w.heap.size, 0, none⟩ = some (.bool n0) ∧ w'.cell? ⟨w.heap.size, 1, none⟩ = some (.slice p0 l0.length c0) ∧ w'.cell? ⟨w.heap.size + 1, 0, none⟩ = some (.bool n1) ∧ w'.cell? ⟨w.heap.size + 1, 1, none⟩ = some (.slice p1 l1.length c1) ∧ w'.cell? ⟨gq, 0, none⟩ = some (.bool dq) ∧ w'.cell? ⟨gq, 1, none⟩ = some (.slice pq nq cq) ∧ w'.cell? ⟨gq + 1, 0, none⟩ = some (.bool dr) ∧ w'.cell? ⟨gq + 1, 1, none⟩ = some (.slice pr nr cr) ∧ w'.cell? ⟨gu + 1, 0, none⟩ = some (.bool du) ∧ w'.cell? ⟨gu + 1, 1, none⟩ = some (.slice pu nu cu) ∧ w'.cell? ⟨gv + 1, 0, none⟩ = some (.bool dv) ∧ w'.cell? ⟨gv + 1, 1, none⟩ = some (.slice pv nv cv) ∧ w'.cell? ⟨gs, 0, none⟩ = some (.bool false) ∧ w'.cell? ⟨gs, 1, none⟩ = some (.slice p1 l1.length c1) ∧ Below W12.heap.size W12 w') := by
        intro w' hb
        have a := T12.out.below hb; have b := Q12.out.below hb; have c := U12.out.below hb; have d := V12.out.below hb; have e := S12.out.below hb
        exact ⟨a.c00, a.c01, a.c10, a.c11, b.c00, b.c01, b.c10, b.c11, c.c10, c.c11, d.c10, d.c11, e.c0, e.c1, hb⟩
      have lq : sz W (za / zb).natAbs ≤ 20 := Nat.le_trans (sz_mono W2 (Int.natAbs_ediv_le_natAbs za zb)) Hla.out
      have hml : za % zb < zb.natAbs := Int.emod_lt za hzb
      have hm0 : 0 ≤ za % zb := Int.emod_nonneg za hzb
      have lr : sz W (za % zb).natAbs ≤ 20 := Nat.le_trans (sz_mono W2 (by omega)) Hlb.out
      have RQ := hid (IntAt.raw (hq4.out.below B412.out) (Nat.le_trans lq (by decide)))
      have RR := hid (IntAt.raw (hr4.out.below B412.out) (Nat.le_trans lr (by decide)))
      have RU := hid (IntAt.raw (hu9.out.below B912.out) (by show sz W 0 ≤ _; rw [sz_zero]; omega))
      have RV := hid (IntAt.raw hv12.out (by show sz W 0 ≤ _; rw [sz_zero]; omega))
      have RA12 := hid (HRA.out.below HB12.out)
      have RB12 := hid (HRB.out.below HB12.out)
      have RS12 := hid (HRS.out.below HB12.out)
      have Lq := hid (Nat.le_trans lq (show 20 ≤ 549755813888 by decide))
      have Lqb : Hid (sz W (za / zb * zb).natAbs ≤ 1099511627776) := Nat.le_trans (sz_mul_int _ _) (by have := Hlb.out; omega)
      have Lza : Hid (sz W za.natAbs ≤ 1099511627776) := Nat.le_trans Hla.out (by decide)
      have Hdm : Hid (za / zb * zb + za % zb = za) := by unfold Hid; rw [Int.mul_comm]; exact Int.mul_ediv_add_emod za zb
      have Hlt : Hid (∀ w', Below W12.heap.size W12 w' → Calls Tryd.prog 17 #[.agg #[.bool dr, .slice pr nr cr], .agg #[.bool false, .slice p1 l1.length c1]] w' (RNum .i64 (-1) w')) := by
        intro w' hb
        have := Cmp_any _ _ _ _ w' (RR.out.below hb) (RS12.out.below hb)
        rwa [ord_lt hml] at this
      have Hsu : Hid (∀ w', Below W12.heap.size W12 w' → Calls Tryd.prog 19 #[.agg #[.bool du, .slice pu nu cu]] w' (RNum .i64 0 w')) := by
        intro w' hb
        have := Sign_any _ _ w' (RU.out.below hb)
        rwa [Int.sign_zero] at this
      have Hsv : Hid (∀ w', Below W12.heap.size W12 w' → Calls Tryd.prog 19 #[.agg #[.bool dv, .slice pv nv cv]] w' (RNum .i64 0 w')) := by
        intro w' hb
        have := Sign_any _ _ w' (RV.out.below hb)
        rwa [Int.sign_zero] at this
      have hsr : 0 ≤ (za % zb).sign := Int.sign_nonneg_iff.2 hm0
      have bw12 := hid (bw2.out.trans (HB12.out.mono bw2.out.size))
      clear lq lr hml hm0 hzb hzg0 hsz
      go_region_held3 (fun w' => w'.cell? ⟨w.heap.size, 0, none⟩ = some (.bool n0) ∧ w'.cell? ⟨w.heap.size, 1, none⟩ = some (.slice p0 l0.length c0) ∧ w'.cell? ⟨w.heap.size + 1, 0, none⟩ = some (.bool n1) ∧ w'.cell? ⟨w.heap.size + 1, 1, none⟩ = some (.slice p1 l1.length c1) ∧ w'.cell? ⟨gq, 0, none⟩ = some (.bool dq) ∧ w'.cell? ⟨gq, 1, none⟩ = some (.slice pq nq cq) ∧ w'.cell? ⟨gq + 1, 0, none⟩ = some (.bool dr) ∧ w'.cell? ⟨gq + 1, 1, none⟩ = some (.slice pr nr cr) ∧ w'.cell? ⟨gu + 1, 0, none⟩ = some (.bool du) ∧ w'.cell? ⟨gu + 1, 1, none⟩ = some (.slice pu nu cu) ∧ w'.cell? ⟨gv + 1, 0, none⟩ = some (.bool dv) ∧ w'.cell? ⟨gv + 1, 1, none⟩ = some (.slice pv nv cv) ∧ w'.cell? ⟨gs, 0, none⟩ = some (.bool false) ∧ w'.cell? ⟨gs, 1, none⟩ = some (.slice p1 l1.length c1) ∧ Below W12.heap.size W12 w')
        (first | exact HS12.out _ (Below.drew (Below.refl _ _)) | (refine HS12.out _ (Below.go hb ?_); go_split_ands; assumption))
        (first
          | (go_at_call 26; refine (Mul_any _ _ (za / zb) zb _ (RQ.out.below (by go_split_ands; assumption)) (RB12.out.below (by go_split_ands; assumption)) Lq.out Hlb'.out).mono ?_; rintro e wa ⟨v1, rfl, i1, hb⟩; have r1 := i1.raw Lqb.out)
          | (go_at_call 13; refine (Add_any _ _ (za / zb * zb) (za % zb) _ r1 (RR.out.below (by go_split_ands; assumption))).mono ?_; rintro e wa ⟨v2, rfl, i2, hb⟩; rw [Hdm.out] at i2; clear r1; have r2 := i2.raw Lza.out)
          | (go_at_call_of 17 (v2); refine (Cmp_same _ _ za _ r2 (RA12.out.below (by go_split_ands; assumption))).mono ?_; rintro e wa ⟨rfl, hb⟩; clear r2)
          | (go_at_call_of 19 (pr); refine (Sign_any _ (za % zb) _ (RR.out.below (by go_split_ands; assumption))).mono ?_; rintro e wa ⟨rfl, hb⟩)
          | (go_at_call_of 17 (pr); refine (Hlt.out _ (by go_split_ands; assumption)).mono ?_; rintro e wa ⟨rfl, hb⟩)
          | (go_at_call_of 19 (pu); refine (Hsu.out _ (by go_split_ands; assumption)).mono ?_; rintro e wa ⟨rfl, hb⟩)
          | (go_at_call_of 19 (pv); refine (Hsv.out _ (by go_split_ands; assumption)).mono ?_; rintro e wb ⟨rfl, hb⟩))
      rename_i hHeld'
      go_split_ands
      have HBf := hid (show Below W12.heap.size W12 wb by assumption)
      go_wp2_with fail
      go_ret
      exact ⟨rfl, bw12.out.trans (HBf.out.mono bw12.out.size)⟩
  · rw [decide_eq_false hsm] at Hfew
    clear hsm
    go_wp2_with fail
    refine Hfew.out.mono ?_
    rintro e u2 ⟨rfl, d2⟩
    have bw2 := hid (bw.out.trans (((below1 _ _).trans (d2.mono (B' := u1.heap.size) (by simp))).mono (B' := w.heap.size) (by omega)))
    clear d2 HT t00 t01 t10 t11 t20 t21 tz bw Hfew
    go_wp2_with fail
    go_ret
    exact ⟨rfl, bw2.out⟩
end Go.Proofs.YtlicmnlllappnaaDoor
/- A number that comes in as data: a bool and a slice of words; how it reads. -/
namespace Go.Proofs.YtlicmnlllappnaaDoor
open Go.ChangeShapes Go.WideShapes Go.ChangeAt Go.RowKit Go.Deep Go.Joins Big

theorem laidOut : laidOutB Tryd.prog = true := by kernel_rfl
theorem fieldsInt : ∃ f0 f1 : Field, Tryd.prog.underlying 25 = some (.struct #[f0, f1]) ∧ oneCellFields Tryd.prog #[f0, f1] = true ∧ f0.type = 4 ∧ f1.type = 23 := ⟨_, _, Tryd.underlying25, by kernel_rfl, rfl, rfl⟩
theorem cellsInt : Tryd.prog.cellsOf 25 = 2 := by kernel_rfl
theorem cellsU64 : Tryd.prog.cellsOf 59 = 1 := by kernel_rfl

section
variable {H : Type} {enc : TypeId × Value → H} {w : World} {base : Nat} {spare : Nat → Bool} {held : Bool}
theorem wf_u64 {n : Int} (h : (Lit.int .u64 n).wf = true) : 0 ≤ n ∧ n < (W : Int) := by
  have h' : (decide (IntKind.u64.min ≤ n) && decide (n ≤ IntKind.u64.max)) = true := h
  have e1 : IntKind.u64.min = 0 := by decide
  have e2 : IntKind.u64.max = 18446744073709551615 := by decide
  rw [e1, e2] at h'
  simp only [Bool.and_eq_true, decide_eq_true_eq] at h'
  unfold W
  omega
/-- a slice of words that comes in -/
theorem open_nat {fuel : Nat} {v : Value} {y : DataW H × List MemPlace} (h : DataW.trod enc Tryd.prog w base spare held fuel 23 [v] = some y) : ∃ l, At w .u64 v l ∧ Small W l := by
  rcases open_ints Tryd.underlying23 Tryd.underlying59 cellsU64 h with ⟨hv, -⟩ | ⟨a, len, cap, zs, hv, hb, hl, hm, hz, -, hc, hwf⟩
  · obtain rfl : v = .slice none 0 0 := by simpa using hv
    exact ⟨[], At.nil w .u64, fun n hn => by cases hn⟩
  · obtain rfl : v = .slice (some a) len cap := by simpa using hv
    have hlz : len ≤ zs.length := by rw [hz]; split <;> omega
    refine ⟨(zs.take len).map Int.toNat, ?_, ?_⟩
    · have e : ((zs.take len).map Int.toNat).length = len := by simp [Nat.min_eq_left hlz]
      refine ⟨some a, cap, by rw [e], by rw [e]; exact hl, hm, nofun, fun h0 => ?_⟩
      rw [e] at h0
      have hs := hc 0 (by omega)
      obtain ⟨b, off, spot⟩ := a
      cases spot with
      | some x =>
        exfalso
        revert hs
        unfold World.cell? Addr.add
        split <;> simp
      | none =>
        refine ⟨b, off, rfl, ?_, fun i hi => ?_⟩
        · exact World.block_lt_of_cell? w _ hs
        · rw [e] at hi
          have hci := hc i (by omega)
          have hw := wf_u64 (hwf _ (List.getElem_mem (n := i) (l := zs) (by omega)))
          rw [add_plain] at hci
          rw [hci]
          have hg : zs.getD i 0 = zs[i]'(by omega) := by simp [List.getD, show i < zs.length by omega]
          rw [hg]
          simp only [List.getElem_map, List.getElem_take]
          congr 2
          omega
    · intro n hn
      obtain ⟨x, hx, rfl⟩ := List.mem_map.1 hn
      have hw := wf_u64 (hwf x (List.mem_of_mem_take hx))
      omega
set_option maxRecDepth 100000 in
/-- a number that comes in -/
theorem open_num {r : Reach} {b0 : Nat} {v : Value} {d : DataW H} {p : List MemPlace} (hv : Value.okWide Tryd.prog w r b0 25 v) (h : DataW.Trod enc Tryd.prog w base spare held 25 v d p) :
    ∃ neg s l, v = .agg #[.bool neg, s] ∧ At w .u64 s l ∧ Small W l := by
  obtain ⟨f0, f1, hs, hone, e0, e1⟩ := fieldsInt
  obtain ⟨v0, v1, y0, y1, n, rfl, -, -, h0, h1⟩ := open_agg2 hs hone cellsInt hv h
  rw [e0] at h0
  rw [e1] at h1
  obtain ⟨b, hb, -⟩ := DataW.trod_bool Tryd.underlying4 h0
  obtain ⟨l, ha, hl⟩ := open_nat h1
  obtain rfl : v0 = .bool b := by simpa using hb
  exact ⟨b, v1, l, rfl, ha, hl⟩
end
end Go.Proofs.YtlicmnlllappnaaDoor
