/- whole.Print of numbers of one or two digits. -/
import Derived.Test.YtlicmnlllappnaaDoorTens
import Derived.Test.YtlicmnlllappnaaDoorBuilder
import Derived.Test.YtlicmnlllappnaaDoorShelf
import Derived.Test.YtlicmnlllappnaaDoorRefOf
namespace Go.Proofs.YtlicmnlllappnaaDoor
open Go.RowKit Big Go.Lib

theorem digits_small (n : Nat) (h : n < 100) (w : World) :
    Calls Tryd.prog 64 #[.int .u32 (n : Nat)] w fun e w' => e = .returned (.string ⟨(Lib.decDigits n).toArray⟩) ∧ w' = w := by
  go_enter Tryd.func64, Tryd.ntmps64
  go_wp2_with (first | (go_at_call 100; refine (Tryd.internal_strconv_small n h _).mono ?_; rintro e w' ⟨rfl, rfl⟩) | go_in)
  go_ret
  exact ⟨rfl, rfl⟩

def RStr (l : List UInt8) (w : World) (e : Ending) (w' : World) : Prop := e = .returned (.string ⟨l.toArray⟩) ∧ Below w.heap.size w w'

theorem decDigits_len (n : Nat) (h : n < 100) : (Lib.decDigits n).length ≤ 2 := by
  have : ∀ m : Fin 100, (Lib.decDigits m.val).length ≤ 2 := by decide +kernel
  exact this ⟨n, h⟩

set_option maxRecDepth 100000 in
set_option maxHeartbeats 1600000 in
theorem Print_small (v : Value) (neg : Bool) (n : Nat) (w : World) (h : RawAt w v (sg neg n)) (h0 : 0 < n) (hn : n < 100) :
    Calls Tryd.prog 35 #[v] w (RStr ((if neg then [45] else []) ++ Lib.decDigits n) w) := by
  obtain ⟨neg', s, l, rfl, ha, hs, hl, hz⟩ := h
  have hv : val W l = n := by have := congrArg Int.natAbs hz; rw [sg_natAbs, sg_natAbs] at this; exact this.symm
  have hneg : neg' = neg := by
    rw [hv] at hz
    have a := sg_neg neg n (by omega)
    have b := sg_neg neg' n (by omega)
    rw [hz, b] at a; exact a
  subst hneg
  have hsl := strip_dig W2 hs
  rw [hv] at hsl
  have hD : dig T n = [n] := dig_one T2 h0 (by unfold T; omega)
  have ht := fun W' hb => trim_val s l W' (ha.below (w' := W') hb)
  have hst := fun W' hb => (ha.below (w' := W') hb).strip
  rw [hsl] at hst
  rw [hsl] at ht
  have Ht : Hid (∀ W', Below w.heap.size w W' → Calls Tryd.prog 38 #[s] W' (fun e w' => e = .returned (cutTo s (dig W n).length) ∧ w' = W')) := ht
  have Hst : Hid (∀ W', Below w.heap.size w W' → At W' .u64 (cutTo s (dig W n).length) (dig W n)) := hst
  have HD := hid hD
  have hnW : sz W n ≤ 1 := sz_word (by unfold W; omega)
  have hlen := decDigits_len n hn
  clear ht hst hsl hD hv hz hs hl ha
  obtain ⟨L, hL⟩ : ∃ L, L = (if neg' then [45] else []) ++ Lib.decDigits n := ⟨_, rfl⟩
  rw [← hL]
  have HL := hid hL
  clear hL
  generalize hu : cutTo s (dig W n).length = u at *
  clear hu
  go_enter Tryd.func35, Tryd.ntmps35
  go_wp2_with fail
  refine (Ht.out _ (below1 _ _)).mono ?_
  rintro e w1 ⟨rfl, rfl⟩
  go_wp2_with fail
  refine (split_any u _ _ (Hst.out _ (below1 _ _)) (small_dig W2 _) (by show sz W n ≤ _; omega)).mono ?_
  rintro e w2 ⟨v2, rfl, ho2, hb2⟩
  rw [val_dig W2] at ho2
  go_wp2_with fail
  refine (tens_any _ v2 n _ ho2 (by unfold sz; rw [HD.out]; simp)).mono ?_
  rintro e w3 ⟨v3, rfl, ho3, hg3⟩
  have hb3 : Below (w.heap.size + 1) w2 w3 := by
    have hz := hb2.size
    rw [size_alloc] at hz
    cases hvb : v2.ownBlock with
    | none => rw [hvb] at hg3; exact (Below.refl _ w2).grown hg3 hz (fun k hk => by cases hk)
    | some g => rw [hvb] at hg3; exact grown_below hg3 (by have := ho2.row g hvb; rwa [size_alloc] at this) hz
  have bw3 : Below (w.heap.size + 1) (w.alloc (.cells #[.bool neg', s] 25)) w3 := (hb2.mono (B' := w.heap.size + 1) (by rw [size_alloc]; omega)).trans hb3
  have bw : Below w.heap.size w w3 := (below1 _ _).trans (bw3.mono (by omega))
  have c0 : w3.cell? ⟨w.heap.size, 0, none⟩ = some (.bool neg') := (bw3.cell (p := ⟨w.heap.size, 0, none⟩) (by show w.heap.size < _; omega)).trans (by simp [go_sem])
  have z3 : w.heap.size + 1 ≤ w3.heap.size := by have := bw3.size; rwa [size_alloc] at this
  rw [HD.out] at ho3
  obtain ⟨g, cap, rfl, hgB, hgl, hcap, hcap2⟩ := ho3.shape (by simp)
  have e0 := (ho3.cell 0 (by simp)).1
  simp only [List.getElem_cons_zero] at e0
  simp only [List.length_cons, List.length_nil, Nat.zero_add] at hcap ⊢
  unfold maxLen at hcap2
  clear ho3 hg3 ho2 hb2 hb3 HD Ht Hst bw3
  have c0' : ∀ o, (w3.alloc o).cell? ⟨w.heap.size, 0, none⟩ = some (.bool neg') := fun o => ((below1 w3 o).cell (p := ⟨w.heap.size, 0, none⟩) (by show w.heap.size < _; omega)).trans c0
  have e0' : ∀ o, (w3.alloc o).cell? ⟨g, 0, none⟩ = some (.int .u32 (n : Nat)) := fun o => ((below1 w3 o).cell (p := ⟨g, 0, none⟩) hgl).trans e0
  have hbl : IsBuilder 74 5 w3.heap.size w3.heap.size [] (w3.alloc (.cells #[.pointer none, .slice none 0 0] 74)) :=
    Or.inl ⟨Nat.le_refl _, .slice none 0 0, heap_alloc_new w3 _, World.ownsRow_nil _ _ _ _, by simp [Value.ownBlock]⟩
  have Hbl := hid hbl
  have hsz : (⟨(Lib.decDigits n).toArray⟩ : ByteArray).size ≤ 2 := hlen
  clear c0 e0 hbl hlen
  cases neg'
  · go_wp2_with fail
    refine (digits_small n hn _).mono ?_
    rintro e w4 ⟨rfl, rfl⟩
    go_wp2_with fail
    refine (WriteString_any _ _ _ _ _ Hbl.out (by simp; omega) (by simp)).mono ?_
    rintro e w5 ⟨rfl, hb5, hbel5⟩
    go_wp2_with fail
    refine wp_loop_rounds 1 ?_
    rw [rounds_succ]
    go_wp2_with fail
    refine (Tryd.Builder_String_any w3.heap.size w3.heap.size (Lib.decDigits n) w5 hb5 (by have := hbel5.size; simp at this; omega)).mono ?_
    rintro e w6 ⟨rfl, hbel6⟩
    go_wp2_with fail
    go_ret
    exact ⟨by rw [HL.out]; rfl, bw.trans ((((below1 w3 _).trans hbel5).trans hbel6).mono (by omega))⟩
  · go_wp2_with fail
    refine (WriteByte_any _ _ _ _ _ Hbl.out (by simp) (by simp)).mono ?_
    rintro e w4 ⟨rfl, hb4, hbel4⟩
    have e0'' : w4.cell? ⟨g, 0, none⟩ = some (.int .u32 (n : Nat)) := (hbel4.cell (p := ⟨g, 0, none⟩) hgl).trans (e0' _)
    clear e0' c0'
    go_wp2_with fail
    refine (digits_small n hn _).mono ?_
    rintro e w4' ⟨rfl, rfl⟩
    go_wp2_with fail
    refine (WriteString_any _ _ _ _ _ hb4 (by simp; omega) (by have := hbel4.size; simp at this; omega)).mono ?_
    rintro e w5 ⟨rfl, hb5, hbel5⟩
    go_wp2_with fail
    refine wp_loop_rounds 1 ?_
    rw [rounds_succ]
    go_wp2_with fail
    refine (Tryd.Builder_String_any w3.heap.size w3.heap.size (45 :: Lib.decDigits n) w5 hb5 (by have := hbel5.size; have := hbel4.size; simp at this; omega)).mono ?_
    rintro e w6 ⟨rfl, hbel6⟩
    go_wp2_with fail
    go_ret
    exact ⟨by rw [HL.out]; rfl, bw.trans (((((below1 w3 _).trans hbel4).trans hbel5).trans hbel6).mono (by omega))⟩
end Go.Proofs.YtlicmnlllappnaaDoor
