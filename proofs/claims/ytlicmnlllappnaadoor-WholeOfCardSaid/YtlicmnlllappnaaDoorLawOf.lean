/- elenchuslaw01.WholeOf: any number of the language is the document's. -/
import Derived.Test.YtlicmnlllappnaaDoorFixed
import Derived.Test.YtlicmnlllappnaaDoorSame
namespace Go.Proofs.YtlicmnlllappnaaDoor
open Go.RowKit Big

set_option maxRecDepth 100000 in
set_option maxHeartbeats 1600000 in
theorem lawOf_any (a b : Int) (w : World) (ha0 : -9223372036854775808 ≤ a) (ha1 : a ≤ 9223372036854775807) (hb0 : -9223372036854775808 ≤ b) (hb1 : b ≤ 9223372036854775807) :
    Calls Tryd.prog 5 #[.int .i64 a, .int .i64 b] w (RBool true w) := by
  have f0 := hid (fixed_any w)
  have oa := hid (fun W => Of_any a W ha0 ha1)
  have ob := hid (fun W => Of_any b W hb0 hb1)
  have ra := hid (fun W => ROf_any a W ha0 ha1)
  have na : a.natAbs < W := by unfold W; omega
  have nb : b.natAbs < W := by unfold W; omega
  have Na := hid na; have Nb := hid nb
  clear na nb
  rcases Int.lt_trichotomy a b with hab | hab | hab
  · have ho := hid (ord_lt hab)
    go_enter Tryd.func5, Tryd.ntmps5
    go_wp2_with fail
    refine f0.out.mono ?_
    rintro e w1 ⟨rfl, b1⟩
    go_wp2_with fail
    refine (oa.out _).mono ?_
    rintro e w2 ⟨v2, rfl, i2, b2⟩
    go_wp2_with fail
    refine (ra.out _).mono ?_
    rintro e w3 ⟨v3, rfl, i3, b3⟩
    go_wp2_with fail
    refine (SameInt_same v2 v3 _ _ (i2.below b3) i3).mono ?_
    rintro e w4 ⟨rfl, b4⟩
    have z4 : w.heap.size ≤ w1.heap.size ∧ w1.heap.size ≤ w2.heap.size ∧ w2.heap.size ≤ w3.heap.size ∧ w3.heap.size ≤ w4.heap.size := ⟨b1.size, b2.size, b3.size, b4.size⟩
    have bw4 := hid (((b1.trans (b2.mono (B' := w.heap.size) (by omega))).trans (b3.mono (B' := w.heap.size) (by omega))).trans (b4.mono (B' := w.heap.size) (by omega)))
    clear b1 b2 b3 b4 z4 i2 i3
    go_wp2_with fail
    refine (oa.out _).mono ?_
    rintro e w5 ⟨v5, rfl, i5, b5⟩
    go_wp2_with fail
    refine (ob.out _).mono ?_
    rintro e w6 ⟨v6, rfl, i6, b6⟩
    have hc := Cmp_any v5 v6 _ _ w6 ((smallRaw i5 Na.out).below b6) (smallRaw i6 Nb.out)
    rw [ho.out] at hc
    go_wp2_with fail
    refine hc.mono ?_
    rintro e w7 ⟨rfl, b7⟩
    have z7 : w.heap.size ≤ w4.heap.size ∧ w4.heap.size ≤ w5.heap.size ∧ w5.heap.size ≤ w6.heap.size := ⟨bw4.out.size, b5.size, b6.size⟩
    have bw7 := hid (((bw4.out.trans (b5.mono (B' := w.heap.size) (by omega))).trans (b6.mono (B' := w.heap.size) (by omega))).trans (b7.mono (B' := w.heap.size) (by omega)))
    clear b5 b6 b7 z7 i5 i6 bw4 hc
    go_wp2_with fail
    go_ret
    exact ⟨rfl, bw7.out⟩
  · subst hab
    have ho := hid (ord_eq a)
    go_enter Tryd.func5, Tryd.ntmps5
    go_wp2_with fail
    refine f0.out.mono ?_
    rintro e w1 ⟨rfl, b1⟩
    go_wp2_with fail
    refine (oa.out _).mono ?_
    rintro e w2 ⟨v2, rfl, i2, b2⟩
    go_wp2_with fail
    refine (ra.out _).mono ?_
    rintro e w3 ⟨v3, rfl, i3, b3⟩
    go_wp2_with fail
    refine (SameInt_same v2 v3 _ _ (i2.below b3) i3).mono ?_
    rintro e w4 ⟨rfl, b4⟩
    have z4 : w.heap.size ≤ w1.heap.size ∧ w1.heap.size ≤ w2.heap.size ∧ w2.heap.size ≤ w3.heap.size ∧ w3.heap.size ≤ w4.heap.size := ⟨b1.size, b2.size, b3.size, b4.size⟩
    have bw4 := hid (((b1.trans (b2.mono (B' := w.heap.size) (by omega))).trans (b3.mono (B' := w.heap.size) (by omega))).trans (b4.mono (B' := w.heap.size) (by omega)))
    clear b1 b2 b3 b4 z4 i2 i3
    go_wp2_with fail
    refine (oa.out _).mono ?_
    rintro e w5 ⟨v5, rfl, i5, b5⟩
    go_wp2_with fail
    refine (oa.out _).mono ?_
    rintro e w6 ⟨v6, rfl, i6, b6⟩
    have hc := Cmp_any v5 v6 _ _ w6 ((smallRaw i5 Na.out).below b6) (smallRaw i6 Na.out)
    rw [ho.out] at hc
    go_wp2_with fail
    refine hc.mono ?_
    rintro e w7 ⟨rfl, b7⟩
    have z7 : w.heap.size ≤ w4.heap.size ∧ w4.heap.size ≤ w5.heap.size ∧ w5.heap.size ≤ w6.heap.size := ⟨bw4.out.size, b5.size, b6.size⟩
    have bw7 := hid (((bw4.out.trans (b5.mono (B' := w.heap.size) (by omega))).trans (b6.mono (B' := w.heap.size) (by omega))).trans (b7.mono (B' := w.heap.size) (by omega)))
    clear b5 b6 b7 z7 i5 i6 bw4 hc
    go_wp2_with fail
    go_ret
    exact ⟨rfl, bw7.out⟩
  · have hab' : ¬ a < b := by omega
    have ho := hid (ord_gt hab)
    go_enter Tryd.func5, Tryd.ntmps5
    go_wp2_with fail
    refine f0.out.mono ?_
    rintro e w1 ⟨rfl, b1⟩
    go_wp2_with fail
    refine (oa.out _).mono ?_
    rintro e w2 ⟨v2, rfl, i2, b2⟩
    go_wp2_with fail
    refine (ra.out _).mono ?_
    rintro e w3 ⟨v3, rfl, i3, b3⟩
    go_wp2_with fail
    refine (SameInt_same v2 v3 _ _ (i2.below b3) i3).mono ?_
    rintro e w4 ⟨rfl, b4⟩
    have z4 : w.heap.size ≤ w1.heap.size ∧ w1.heap.size ≤ w2.heap.size ∧ w2.heap.size ≤ w3.heap.size ∧ w3.heap.size ≤ w4.heap.size := ⟨b1.size, b2.size, b3.size, b4.size⟩
    have bw4 := hid (((b1.trans (b2.mono (B' := w.heap.size) (by omega))).trans (b3.mono (B' := w.heap.size) (by omega))).trans (b4.mono (B' := w.heap.size) (by omega)))
    clear b1 b2 b3 b4 z4 i2 i3
    go_wp2_with fail
    refine (oa.out _).mono ?_
    rintro e w5 ⟨v5, rfl, i5, b5⟩
    go_wp2_with fail
    refine (ob.out _).mono ?_
    rintro e w6 ⟨v6, rfl, i6, b6⟩
    have hc := Cmp_any v5 v6 _ _ w6 ((smallRaw i5 Na.out).below b6) (smallRaw i6 Nb.out)
    rw [ho.out] at hc
    go_wp2_with fail
    refine hc.mono ?_
    rintro e w7 ⟨rfl, b7⟩
    have z7 : w.heap.size ≤ w4.heap.size ∧ w4.heap.size ≤ w5.heap.size ∧ w5.heap.size ≤ w6.heap.size := ⟨bw4.out.size, b5.size, b6.size⟩
    have bw7 := hid (((bw4.out.trans (b5.mono (B' := w.heap.size) (by omega))).trans (b6.mono (B' := w.heap.size) (by omega))).trans (b7.mono (B' := w.heap.size) (by omega)))
    clear b5 b6 b7 z7 i5 i6 bw4 hc
    go_wp2_with fail
    go_ret
    exact ⟨rfl, bw7.out⟩
end Go.Proofs.YtlicmnlllappnaaDoor
