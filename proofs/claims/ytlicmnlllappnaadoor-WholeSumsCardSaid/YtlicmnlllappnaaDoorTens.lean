/- whole.tens: groups of nine digits. -/
import Derived.Test.YtlicmnlllappnaaDoorDivShort
namespace Go.Proofs.YtlicmnlllappnaaDoor
open Go.RowKit Big

def T : Nat := 1000000000
theorem T2 : 2 ≤ T := by decide
theorem Own.far {w w' : World} {base B : Nat} {e : TypeId} {k : IntKind} {v : Value} {l : List Nat} (h : Own w B e k v l) (hf : ∀ g, v.ownBlock = some g → g < base) (hb : Below base w w') : Own w' B e k v l := by
  refine ⟨h.1, ?_⟩
  rcases h.2 with hn | ⟨g, cap, cur, rfl, h1, hg, r⟩
  · exact Or.inl hn
  · exact Or.inr ⟨g, cap, cur, rfl, h1, by rw [hb.block g (hf g rfl)]; exact hg, r⟩
theorem Own.apart {w w' : World} {B : Nat} {e : TypeId} {k : IntKind} {v : Value} {l : List Nat} {g : Nat} (h : Own w B e k v l) (hg : g < B) (hw : w.grownBy w' (some g)) : Own w' B e k v l := by
  refine World.ownsRow.kept h hw ?_
  right
  intro e
  have := Own.row h g e
  omega
theorem cutTo_block (v : Value) (m : Nat) : (cutTo v m).ownBlock = v.ownBlock := by
  cases v <;> try rfl
  rename_i p n c
  cases p <;> rfl
theorem grown_below {w w' : World} {g : Nat} {B : Nat} (h : w.grownBy w' (some g)) (hg : B ≤ g) (hB : B ≤ w.heap.size) : Below B w w' := (Below.refl B w).grown h hB (fun k hk => by cases hk; exact hg)
theorem below_grown {w w' w'' : World} {g B : Nat} (h : w.grownBy w' (some g)) (hb : Below B w' w'') (hB : w.heap.size ≤ B) : w.grownBy w'' (some g) :=
  ⟨hb.os.trans h.os, hb.tape.trans h.tape, hb.output.trans h.output, Nat.le_trans h.size hb.size, fun i hi hne => (hb.block i (by omega)).trans (h.block i hi hne)⟩

theorem Own.len {w : World} {B : Nat} {e : TypeId} {k : IntKind} {v : Value} {l : List Nat} (h : Own w B e k v l) : lenOf v = l.length := by
  obtain ⟨p, c, rfl, -⟩ := h.at
  rfl
def RTens (n : Nat) (v : Value) (w : World) (e : Ending) (w' : World) : Prop := ∃ v', e = .returned v' ∧ Own w' w.heap.size 67 .u32 v' (dig T n) ∧ w.grownBy w' v.ownBlock

set_option maxRecDepth 100000 in
set_option maxHeartbeats 1600000 in
theorem tens_any (B : Nat) (v : Value) (n : Nat) (w : World) (h : Own w B 67 .u32 v (dig H n)) (hn : sz T n ≤ 8796093022208) :
    Calls Tryd.prog 60 #[v] w (RTens n v w) := by
  by_cases h0 : n = 0
  · subst h0
    obtain ⟨p, c, rfl, b1, b2, b3, -⟩ := h.at
    have hl : (dig H 0).length = 0 := rfl
    rw [hl] at *
    clear hl h
    go_enter Tryd.func60, Tryd.ntmps60
    go_wp2_with fail
    refine wp_loop_rounds 1 ?_
    rw [rounds_succ]
    go_wp2
    go_ret
    exact ⟨_, rfl, Own.nil _ _ _ _, World.grownBy.refl _ _⟩
  · have hpos : 0 < (dig H n).length := Nat.pos_of_ne_zero fun e => h0 ((sz_eq_zero H2).1 e)
    obtain ⟨g, cap, hv, hBg, hg, hc1, hc2⟩ := h.shape hpos
    have hvb : v.ownBlock = some g := by rw [hv]; rfl
    clear hpos
    have hunf : ∀ w' : World, w.grownBy w' (some g) → w.grownBy w' v.ownBlock := fun w' hh => by rw [hvb]; exact hh
    have Hunf := hid hunf
    have Hvb := hid hvb
    obtain ⟨post, hpost⟩ : ∃ post, post = RTens n v w := ⟨_, rfl⟩
    rw [← hpost]
    have Hpost := hid hpost
    clear hunf hvb hpost
    have ho := hid h
    unfold maxLen at hc2
    subst hv
    go_enter Tryd.func60, Tryd.ntmps60
    go_wp2_with fail
    go_loopw [0, 3] (fun hv gv wr => ∃ (m len cp : Nat) (G : List Nat), hv = .slice (some ⟨g, 0, none⟩) len cp ∧ Hid (len = sz H m) ∧ len ≤ cp ∧ cp ≤ 2 ^ 63 - 1 ∧ Hid (Own wr B 67 .u32 hv (dig H m)) ∧ Own wr w.heap.size 67 .u32 gv G ∧
        Hid (dig T n = G ++ dig T m) ∧ w.grownBy wr (some g)) (fun _ gv _ => sz T n - lenOf gv)
    case atStart => exact ⟨n, _, cap, [], rfl, rfl, hc1, hc2, h, Own.nil _ _ _ _, rfl, World.grownBy.refl _ _⟩
    case round =>
      obtain ⟨m, len, cp, G, rfl, hlen, hcl, hcp, hown, hG, hcat, hgr⟩ := hrel
      by_cases hm : 0 < len
      · have hm0 : m ≠ 0 := fun e => by have := hlen.out; rw [e, sz_zero] at this; omega
        have Hm0 := hid hm0
        have hds := divideShort_any B _ (dig H m) T wr hown.out (small_dig H2 _) (by decide) (by decide)
        rw [val_dig H2] at hds
        have Hds := hid hds
        have hGl : Hid (G.length + sz T (m / T) + 1 = sz T n) := by
          have := congrArg List.length hcat.out
          rw [List.length_append] at this
          have e := sz_pos T2 (n := m) (by omega)
          unfold Hid sz at *
          omega
        clear hds hm0
        have hgw : g < wr.heap.size := Nat.lt_of_lt_of_le hg hgr.size
        go_wp2_with fail
        refine Hds.out.mono ?_
        rintro e w1 ⟨rfl, ho1, hg1⟩
        have hG1 := hG.apart (w' := w1) hg (by simpa [Value.ownBlock] using hg1)
        have hg1' : wr.grownBy w1 (some g) := by simpa [Value.ownBlock] using hg1
        have ho1' := hid ho1
        have hz1 := hg1'.size
        clear ho1 hg1 hG
        have hsz1 : sz H (m / T) ≤ cp := by
          have := sz_mono H2 (Nat.div_le_self m T)
          have := hlen.out
          omega
        have hmod : m % T < 4294967296 := Nat.lt_trans (Nat.mod_lt m (by decide)) (by decide)
        go_wp2_with (at_builtin; refine wpList_append_at rfl _ _ 65 rfl elemHalves w.heap.size _ G rfl (hG1.alloc _) _ [m % T] rfl (At.oneI _ _ _ _ _ (by first | rfl | omega)) (by have := hGl.out; simp [maxLen]; omega) (by have := hGl.out; simp; omega) (by have := hgr.size; simp; omega) ?_; intro v2 w2 ho2 hb2 hs2)
        have l2 := hid ho2.len
        have l1 := hid hG1.len
        have hfin : w.grownBy w2 (some g) := below_grown (below_grown (grown_trans hgr hg1') ((below1 _ _).mono (B' := w.heap.size) (by have := hgr.size; omega)) (Nat.le_refl _)) hb2 (Nat.le_refl _)
        have hown2 : Own w2 B 67 .u32 (cutTo (.slice (some ⟨g, 0, none⟩) len cp) (sz H (m / T))) (dig H (m / T)) :=
          ((ho1'.out.far (base := w.heap.size) (fun g' e => by simp [cutTo, Value.ownBlock] at e; omega) ((below1 _ _).mono (by have := hgr.size; omega)))).far (fun g' e => by simp [cutTo, Value.ownBlock] at e; omega) hb2
        go_roundw
        case rel => exact ⟨m / T, sz H (m / T), cp, G ++ [m % T], rfl, rfl, hsz1, hcp, hown2, ho2, by
          have := hcat.out
          unfold Hid
          rw [this, dig_pos T2 (Nat.pos_of_ne_zero Hm0.out)]; simp, hfin⟩
        case measure =>
          rw [l2.out, l1.out, List.length_append]
          have := hGl.out
          simp
          omega
      · have hm0 : m = 0 := by
          have := hlen.out
          exact (sz_eq_zero H2).1 (by omega)
        have hc : Hid (dig T n = G) := by
          have := hcat.out
          rw [hm0, dig_zero, List.append_nil] at this
          exact this
        obtain rfl : len = 0 := by omega
        clear hlen hown hm0 hcat
        go_wp2
        rw [Hpost.out]
        exact ⟨_, rfl, by rw [hc.out]; exact hG, Hunf.out _ hgr⟩
end Go.Proofs.YtlicmnlllappnaaDoor
