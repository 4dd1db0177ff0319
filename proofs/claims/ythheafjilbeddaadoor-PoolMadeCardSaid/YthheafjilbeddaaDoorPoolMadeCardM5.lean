/- Texts put together: PlAgain, PlMade, MkOpen, Laid. -/
import Derived.Test.YthheafjilbeddaaDoorPoolMadeCardM4
import Derived.Test.YthheafjilbeddaaDoorCards
import Derived.Test.YthheafjilbeddaaDoorTie
import Derived.WalkKit
import Derived.ProofKit
import Derived.OpenShut
import Derived.Deep.DeepHandedRow
import Derived.Lib.LaidTab
/- PoolAgain answers true. -/
namespace Go.Proofs.YthheafjilbeddaaDoor
open Go.RowKit Big Go.WideMaps

/-- a pool whose terms, made one behind the other, come to their own places -/
def PoSelf (p : Po) : Prop := p.sorts.length = p.terms.length ∧ ∀ k (h : k < p.terms.length), plMake ⟨p.syms, p.terms.take k, p.sorts.take k⟩ p.terms[k] = (⟨p.syms, p.terms.take (k + 1), p.sorts.take (k + 1)⟩, ((k : Nat) : Int), 0)
theorem PoSelf.make {p : Po} (t : Tm) (h : PoSelf p) : PoSelf (plMake p t).1 ∧ (plMake p t).1.syms = p.syms ∧ ∀ x ∈ (plMake p t).1.terms, x ∈ p.terms ∨ x = t := by
  by_cases hw : plWrong p t = 0
  · cases hf : plFind p.terms t with
    | some k => rw [plMake_there hw hf]; exact ⟨h, rfl, fun x hx => .inl hx⟩
    | none =>
      by_cases h4 : p.terms.length = 4096
      · rw [plMake_full hw hf h4]; exact ⟨h, rfl, fun x hx => .inl hx⟩
      · have hm := plMake_new hw hf h4
        rw [hm]
        obtain ⟨h1, h2⟩ := h
        refine ⟨⟨by simp [h1], fun k hk => ?_⟩, rfl, fun x hx => by simpa using hx⟩
        have hk' : k < p.terms.length + 1 := by simpa using hk
        by_cases hlt : k < p.terms.length
        · show plMake ⟨p.syms, (p.terms ++ [t]).take k, (p.sorts ++ [plSort p t]).take k⟩ (p.terms ++ [t])[k] = (⟨p.syms, (p.terms ++ [t]).take (k + 1), (p.sorts ++ [plSort p t]).take (k + 1)⟩, ((k : Nat) : Int), 0)
          rw [List.take_append_of_le_length (by omega), List.take_append_of_le_length (by omega), List.take_append_of_le_length (by omega), List.take_append_of_le_length (by omega), List.getElem_append_left hlt]
          exact h2 k hlt
        · have e : k = p.terms.length := by omega
          subst e
          have e1 : (p.terms ++ [t]).take p.terms.length = p.terms := by simp
          have e2 : (p.sorts ++ [plSort p t]).take p.terms.length = p.sorts := by rw [← h1]; simp
          have e3 : (p.terms ++ [t]).take (p.terms.length + 1) = p.terms ++ [t] := List.take_of_length_le (by simp)
          have e4 : (p.sorts ++ [plSort p t]).take (p.terms.length + 1) = p.sorts ++ [plSort p t] := List.take_of_length_le (by simp [h1])
          have e5 : (p.terms ++ [t])[p.terms.length]'(by simp) = t := by simp
          show plMake ⟨p.syms, (p.terms ++ [t]).take p.terms.length, (p.sorts ++ [plSort p t]).take p.terms.length⟩ ((p.terms ++ [t])[p.terms.length]'(by simp)) = (⟨p.syms, (p.terms ++ [t]).take (p.terms.length + 1), (p.sorts ++ [plSort p t]).take (p.terms.length + 1)⟩, ((p.terms.length : Nat) : Int), 0)
          rw [e1, e2, e3, e4, e5]
          exact hm
  · rw [plMake_bad hw]; exact ⟨h, rfl, fun x hx => .inl hx⟩
theorem PoSelf.news {p : Po} (h : PoSelf p) : ∀ (n k : Nat), k + n = p.terms.length → (plNews ⟨p.syms, p.terms.take k, p.sorts.take k⟩ (p.terms.drop k)).2 = 0
  | 0, k, e => by rw [List.drop_of_length_le (by omega)]; rfl
  | n + 1, k, e => by
    have hk : k < p.terms.length := by omega
    rw [List.drop_eq_getElem_cons hk]
    have hnew : plNew ⟨p.syms, p.terms.take k, p.sorts.take k⟩ p.terms[k] = (⟨p.syms, p.terms.take (k + 1), p.sorts.take (k + 1)⟩, ((k : Nat) : Int), 0) := by
      unfold plNew
      rw [h.2 k hk, if_neg]
      intro h3
      have h4 := h3.2
      simp only [List.length_take] at h4
      omega
    unfold plNews
    rw [hnew, if_neg (by simp)]
    exact PoSelf.news h n (k + 1) (by omega)
theorem PoSelf.check {p : Po} (h : PoSelf p) (hs : plNewErr p.syms = 0) : plCheck p.syms p.terms = 0 := by
  unfold plCheck
  rw [if_neg (by simp [hs])]
  have := h.news p.terms.length 0 (by omega)
  rwa [List.drop_zero, List.take_zero, List.take_zero] at this
theorem RowsOwn.mono {B B' : Nat} {w : World} {v : Value} {s : List Sy} {t : List Tm} (h : RowsOwn B w v s t) (hb : B' ≤ B) : RowsOwn B' w v s t := by
  obtain ⟨a, b, h1, h2, h3⟩ := h
  exact ⟨a, b, h1, ownsRow_mono h2 hb, h3.mono hb⟩
theorem again_base {S S' : Nat → Prop} {n : Nat} {w w' : World} (h : ∀ i, S i → n ≤ i) (h' : ∀ k, S' k → S k ∨ w'.heap.size ≤ k) (hn : n ≤ w.heap.size) (hb : Below w.heap.size w w') : ∀ i, S' i → n ≤ i := fun i hi => by
  rcases h' i hi with h1 | h1
  · exact h i h1
  · have := hb.size; omega
theorem again_below {w w1 w2 w3 : World} {S : Nat → Prop} (h12 : Below w1.heap.size w1 w2) (h : Below w.heap.size w w1) (hA : Apart S w2 w3) (hS : ∀ i, S i → w.heap.size ≤ i) : Below w.heap.size w w3 :=
  (bel_go h12 h).trans (hA.below (B := w.heap.size) (bel_go h12 h).size hS)
/-- the first loop: the pool that is made -/
def AgainP (w : World) (L : List Tm) (sy : List Sy) (g : Nat) (wr : World) : Prop := ∃ pk Sk, PoAt wr Sk g pk ∧ (∀ i, Sk i → w.heap.size ≤ i) ∧ PoSelf pk ∧ pk.syms = sy ∧ (∀ x ∈ pk.terms, x ∈ L) ∧ Below w.heap.size w wr
/-- the second loop: the pool that is made again -/
def AgainQ (w : World) (p : Po) (g k : Nat) (wr : World) : Prop := ∃ Sk, PoAt wr Sk g ⟨p.syms, p.terms.take k, p.sorts.take k⟩ ∧ (∀ i, Sk i → w.heap.size ≤ i) ∧ Below w.heap.size w wr
set_option maxRecDepth 100000 in
set_option maxHeartbeats 25600000 in
theorem lawAgain_any (va vb : Value) (sy : List Sy) (tx : List Tx) (w : World) (htab : Tb w.heap.size w) (hs : SyIn w va sy) (ht : TxsIn w vb tx) (hn : ∀ s ∈ sy, s.name.length ≤ 281474976710656) :
    Calls Tryd.prog 6 #[va, vb] w (RBool true w) := by
  have Hs := hid hs; have Ht := hid ht; have Htab := hid htab; have Hn := hid hn
  have hsm := ht.small
  obtain ⟨pa, ca, rfl, i1, i2, -, -⟩ := hs
  obtain ⟨pb, cb, rfl, j1, j2, -, -⟩ := ht
  unfold maxLen at i2 j2
  have Hfx := hid (fixed_any w.heap.size w (Nat.le_refl _) htab)
  clear htab hn
  go_enter Tryd.func6, Tryd.ntmps6
  go_wp2_with fail
  refine Hfx.out.mono ?_
  rintro e w1 ⟨rfl, b1⟩
  have Hb1 := hid b1
  clear b1 Hfx
  cases h300 : decide ((300 : Int) < (sy.length : Nat))
  case true =>
    go_wp2
    go_ret
    exact ⟨rfl, Hb1.out⟩
  case false =>
  have Hfew := hid (RFew_any (.slice none 0 0) _ [] tx w1 (SyIn.nil w1) (Ht.out.below Hb1.out))
  go_wp2_with fail
  refine Hfew.out.mono ?_
  rintro e w2 ⟨rfl, b2⟩
  have Hb2 := hid (bel_go b2 Hb1.out)
  clear b2 Hfew Hb1
  cases hfew : plFew [] tx
  case false =>
    go_wp2
    go_ret
    exact ⟨rfl, Hb2.out⟩
  case true =>
  have hft := few_tm hfew
  have Htm := hid (Ht.out.tms fun x hx => Nat.le_trans (hft x hx).2 (by decide))
  have Hft : Hid (∀ t ∈ tx.map Tx.tm, t.args.length ≤ 70 ∧ sz W t.num.natAbs ≤ 8) := hid (fun t h => by
    obtain ⟨x, hx, rfl⟩ := List.mem_map.1 h
    exact ⟨(hft x hx).1, few_sz x (hft x hx).2 (hsm x hx)⟩)
  have HL := hid (show (tx.map Tx.tm).length = tx.length by simp)
  clear hft hfew hsm Ht
  generalize tx.map Tx.tm = L at *
  have Hnew := hid (New_any _ sy w2 (Hs.out.below Hb2.out) Hn.out)
  go_wp2_with fail
  refine Hnew.out.mono ?_
  rintro e w3 ⟨hbad, hok, b3⟩
  have Hb3 := hid (bel_go b3 Hb2.out)
  have hz3 := Hb2.out.size
  clear b3 Hnew
  by_cases hne : plNewErr sy = 0
  case neg =>
    obtain rfl := hbad hne
    clear hok hbad
    generalize plNewErr sy = er at *
    have hbt : (er != 0) = true := by simpa using hne
    go_wp2_with fail
    go_ret
    exact ⟨rfl, Hb3.out⟩
  case pos =>
  obtain ⟨g, S, rfl, hp, hS⟩ := hok hne
  have Hat : Hid (AgainP w L sy g w3) := hid ⟨_, S, hp, fun i hi => by have := hS i hi; omega, ⟨rfl, fun k h => absurd h (by simp)⟩, rfl, (fun x h => absurd h (by simp)), Hb3.out⟩
  have Hne := hid hne
  clear hok hbad hp hS Hb3 h300 hne Hb2 hz3 Hs
  go_wp2_with fail
  go_loopw [36] (fun i wr => ∃ k : Nat, k ≤ tx.length ∧ i = .int .i64 (k : Nat) ∧ Hid (AgainP w L sy g wr)) (fun i _ => tx.length - (intOf i).toNat)
  case atStart => exact ⟨0, Nat.zero_le _, rfl, Hat⟩
  case round =>
    obtain ⟨k, hk, rfl, Hk⟩ := hrel
    obtain ⟨pk, Sk, hp, hS, hself, hsy, hin, hb⟩ := Hk.out
    by_cases hlt : k < tx.length
    · have hlt' : (k : Int) < (tx.length : Nat) := by omega
      have hltL : k < L.length := by rw [HL.out]; exact hlt
      obtain ⟨pp, cc, e5, -, -, -, hc⟩ := Htm.out.below hb
      injection e5 with a5 b5 c5
      subst a5
      subst c5
      obtain ⟨bb, off, rfl, k1, k2⟩ := hc (by omega)
      obtain ⟨c0, c1, c2, c3, c4, m0, m1, m2, m3, m4, hraw⟩ := k2 k hltL
      have hns := (Hft.out L[k] (List.getElem_mem hltL)).1
      have hxm := List.getElem_mem hltL
      have htb := Lib.TabBelow.on Htab.out hb
      have hBr := hb.size
      have hdc := fun W (hw : Below wr.heap.size wr W) => Make_any w.heap.size Sk g pk L[k] _ W (hp.below hw) (Nat.le_trans hBr hw.size) (Lib.TabBelow.on htb (hw.mono hBr)) (hraw.below hw) (Nat.le_trans hns (by decide))
      have hmk := hself.make L[k]
      generalize L[k] = x at *
      generalize hrr : plMake pk x = rr at *
      obtain ⟨p2, n2, er⟩ := rr
      dsimp only at *
      obtain ⟨pa', ca', b, pm, nm, cm, ea, -, -⟩ := hraw
      cases ea
      have Hdc := hid hdc; have Hmk := hid hmk; have HS := hid hS; have Hb := hid hb; have Hin := hid hin; have Hxm := hid hxm; have Hsy := hid hsy
      have bx := below1 wr (.cells #[.int .i64 x.op, .slice pa' x.args.length ca', .bool b, .slice pm nm cm, .int .i64 x.sym] 39)
      clear k2 hns hdc hp hS hb Hk hrr htb hmk hin hxm hsy hself hc b5
      go_wp2_with fail
      refine (Hdc.out _ bx).mono ?_
      rintro e w4 ⟨rfl, S4, hp4, hS4, hA4⟩
      have Hk4 := hid (show AgainP w L sy g w4 from ⟨p2, S4, hp4, again_base HS.out hS4 hBr bx, Hmk.out.1, Hmk.out.2.1.trans Hsy.out, fun y hy => (Hmk.out.2.2 y hy).elim (Hin.out y) (fun e => e ▸ Hxm.out), again_below bx Hb.out hA4 HS.out⟩)
      clear hp4 hS4 hA4 bx
      go_wp2_with fail
      go_roundw
      case rel => exact ⟨k + 1, by omega, rfl, Hk4⟩
      case measure => simp [intOf]; omega
    · have hkk : k = tx.length := by omega
      subst hkk
      have Hrows := hid (Rows_any Sk g pk wr hp)
      have hsm : ∀ t ∈ pk.terms, t.args.length ≤ 70 ∧ sz W t.num.natAbs ≤ 8 := fun t h => Hft.out t (hin t h)
      have Hsm := hid hsm; have Hself := hid hself; have Hb := hid hb; have Hne' := hid (show plNewErr pk.syms = 0 by rw [hsy]; exact Hne.out)
      have Hn' := hid (show ∀ s ∈ pk.syms, s.name.length ≤ 281474976710656 by rw [hsy]; exact Hn.out)
      have Hso := hid hp.2.1.sorts
      have h4096 := hp.2.1.terms
      clear hlt hp hS hself hsy hin hb Hk hsm Hat Hne Hn
      obtain ⟨syms, terms, sorts⟩ := pk
      dsimp only at *
      go_wp2_with fail
      refine Hrows.out.mono ?_
      rintro e w5 ⟨vr, rfl, hro, b5⟩
      obtain ⟨va, vb, rfl, hsy, htms⟩ := hro
      have hin5 := htms.in (fun t h => Nat.le_trans (Hsm.out t h).2 (by decide))
      have hsy5 := (SyAt.own (ownsRow_mono hsy (Nat.zero_le _))).handed
      obtain ⟨pq, cq, rfl⟩ := ownsRow_shape hsy
      obtain ⟨cst, hrt, -⟩ := htms
      obtain ⟨pt, ct, rfl⟩ := ownsRow_shape hrt
      have bx := below1 w5 (.cells #[.slice pq syms.length cq, .slice pt terms.length ct] 27)
      have hx6 := heap_alloc_new w5 (.cells #[.slice pq syms.length cq, .slice pt terms.length ct] 27)
      have hz6 := size_alloc w5 (.cells #[.slice pq syms.length cq, .slice pt terms.length ct] 27)
      have Hin6 := hid (hin5.below bx)
      have Hsy6 := hid (hsy5.below bx)
      have Hb6 := hid (bel_go bx (bel_go b5 Hb.out))
      clear hsy hrt b5 Hrows hin5 hsy5 bx Hb
      go_wp2_with fail
      generalize hW6 : (w5.alloc (.cells #[.slice pq syms.length cq, .slice pt terms.length ct] 27)) = w6 at *
      obtain ⟨G, hG⟩ : ∃ G, G = w5.heap.size := ⟨_, rfl⟩
      rw [← hG] at hx6 hz6 ⊢
      have hGz : G < w6.heap.size := by omega
      have Hx6 := hid hx6
      clear hW6 hG hz6 hx6
      have Hnew := hid (New_any _ syms w6 Hsy6.out Hn'.out)
      refine Hnew.out.mono ?_
      rintro e w7 ⟨-, hok, b7⟩
      obtain ⟨gq, Sq, rfl, hq, hSq⟩ := hok Hne'.out
      have hx7 := (b7.block G hGz).trans Hx6.out
      have Hx7 := hid hx7
      have htb7 := Lib.TabBelow.on Htab.out (bel_go b7 Hb6.out)
      have Hck := hid (Check_any w.heap.size _ _ syms terms w7 (bel_go b7 Hb6.out).size htb7 (Hsy6.out.below b7) (Hin6.out.below b7) Hn'.out (fun t h => Nat.le_trans (Hsm.out t h).1 (by decide)))
      have hck0 : plCheck syms terms = 0 := Hself.out.check Hne'.out
      rw [hck0] at Hck
      have q := two_cells hx7
      obtain ⟨z0, z1, -, -⟩ := q
      have Hq := hid hq; have HSq := hid hSq; have Hb7 := hid b7
      clear hx7 Hnew hok b7 hq hSq hck0 htb7
      go_wp2_with fail
      refine Hck.out.mono ?_
      rintro e w8 ⟨rfl, b8⟩
      have h78 := Hb7.out.size
      have hx8 := (b8.block G (by omega)).trans Hx7.out
      have Hq8 : Hid (AgainQ w6 ⟨syms, terms, sorts⟩ gq 0 w8) := hid ⟨Sq, Hq.out.below b8, fun i hi => HSq.out i hi, bel_go b8 Hb7.out⟩
      have q := two_cells hx8
      clear z0 z1 Hck
      obtain ⟨z0, z1, -, -⟩ := q
      clear b8 hx8 Hq HSq Hb7 Hx7
      go_wp2_with fail
      go_loopw [62] (fun i wr => ∃ k : Nat, k ≤ terms.length ∧ i = .int .i64 (k : Nat) ∧ Hid (AgainQ w6 ⟨syms, terms, sorts⟩ gq k wr)) (fun i _ => terms.length - (intOf i).toNat)
      case atStart => exact ⟨0, Nat.zero_le _, rfl, Hq8⟩
      case round =>
        obtain ⟨k, hk, rfl, Hk⟩ := hrel
        obtain ⟨Sk, hp, hS, hb⟩ := Hk.out
        by_cases hlt : k < terms.length
        case pos =>
          have hlt' : (k : Int) < (terms.length : Nat) := by omega
          obtain ⟨pp, cc, e5, -, -, -, hc⟩ := Hin6.out.below hb
          injection e5 with a5 b5 c5
          subst a5
          subst c5
          obtain ⟨bb, off, rfl, k1, k2⟩ := hc (by omega)
          obtain ⟨c0, c1, c2, c3, c4, m0, m1, m2, m3, m4, hraw⟩ := k2 k hlt
          have hns := (Hsm.out terms[k] (List.getElem_mem hlt)).1
          have hBr := Nat.le_trans Hb6.out.size hb.size
          have htb := Lib.TabBelow.on Htab.out (bel_go hb Hb6.out)
          have hdc := fun W (hw : Below wr.heap.size wr W) => Make_any w.heap.size Sk gq ⟨syms, terms.take k, sorts.take k⟩ terms[k] _ W (hp.below hw) (Nat.le_trans hBr hw.size) (Lib.TabBelow.on htb (hw.mono hBr)) (hraw.below hw) (Nat.le_trans hns (by decide))
          have hmk := Hself.out.2 k hlt
          dsimp only at hmk
          rw [hmk] at hdc
          generalize terms[k] = x at *
          obtain ⟨pa', ca', b, pm, nm, cm, ea, -, -⟩ := hraw
          cases ea
          have Hdc := hid hdc; have HS := hid hS; have Hb := hid hb
          have bx := below1 wr (.cells #[.int .i64 x.op, .slice pa' x.args.length ca', .bool b, .slice pm nm cm, .int .i64 x.sym] 39)
          have hb6r := hb.size
          clear k2 hns hdc hp hS hb Hk htb hmk hc b5
          go_wp2_with fail
          refine (Hdc.out _ bx).mono ?_
          rintro e w9 ⟨rfl, S9, hp9, hS9, hA9⟩
          have Hk9 := hid (show AgainQ w6 ⟨syms, terms, sorts⟩ gq (k + 1) w9 from ⟨S9, hp9, again_base HS.out hS9 hb6r bx, again_below bx Hb.out hA9 HS.out⟩)
          clear hp9 hS9 hA9 bx
          go_wp2_with fail
          go_roundw
          case rel => exact ⟨k + 1, by omega, rfl, Hk9⟩
          case measure => simp [intOf]; omega
        case neg =>
          have hkk : k = terms.length := by omega
          subst hkk
          have e1 : terms.take terms.length = terms := List.take_length
          have e2 : sorts.take terms.length = sorts := by have := Hso.out; rw [← this]; exact List.take_length
          dsimp only at hp
          rw [e1, e2] at hp
          have Hrw := hid (fun W (hw : Below wr.heap.size wr W) => Rows_any Sk gq ⟨syms, terms, sorts⟩ W (hp.below hw))
          have HS : Hid (∀ w', Below wr.heap.size wr w' → w'.cell? ⟨G, 0, none⟩ = some (.slice pq syms.length cq) ∧ w'.cell? ⟨G, 1, none⟩ = some (.slice pt terms.length ct)) := hid fun w' hw =>
            have hx := (hw.block G (by have := hb.size; omega)).trans ((hb.block G hGz).trans Hx6.out)
            ⟨(two_cells hx).1, (two_cells hx).2.1⟩
          have Hsr : Hid (∀ (v : Value) (W : World), RowsOwn wr.heap.size W v syms terms → Below wr.heap.size wr W → Calls Tryd.prog 18 #[v, .agg #[.slice pq syms.length cq, .slice pt terms.length ct]] W (RBool true W)) := hid fun v W ho hw => by
            obtain ⟨a, b, rfl, hs9, ht9⟩ := ho
            exact SameRows_true _ _ syms terms W ⟨_, _, rfl, (SyAt.own (ownsRow_mono hs9 (Nat.zero_le _))).handed, ht9.in (fun t h => Nat.le_trans (Hsm.out t h).2 (by decide))⟩
              ⟨_, _, rfl, Hsy6.out.below (bel_go hw hb), Hin6.out.below (bel_go hw hb)⟩ (fun t h => Nat.le_trans (Hsm.out t h).2 (by decide))
          have Hbw := hid (bel_go hb Hb6.out)
          clear hp hS hb Hk e1 e2 hlt z0 z1
          go_upto_region 24 with fail
          refine wp_region_facts (w0 := wr) 5 0 [81, 82, 83, 84, 4] [undef, undef, undef, undef, u4]
            (fun i => match i with | 0 => eqD (.pointer (some ⟨gq, 0, none⟩)) | 1 => rowsF wr.heap.size syms terms | 2 => eqD (.agg #[.slice pq syms.length cq, .slice pt terms.length ct]) | 3 => eqD (.bool true) | _ => eqD (.bool true)) [] (by kernel_rfl) (by kernel_rfl) (by kernel_rfl) (by kernel_rfl) (by decide) rfl (by kernel_rfl) rfl (by simp) ?he1 ?_ ?_ ?_
          case he1 => simp only [putAll, Act.put, List.setIfInBounds_toArray, List.set_cons_zero, List.set_cons_succ]
          · intro i hi; simp at hi
          · intro i o hi ho vs wx hvl hb hdep K hK
            have hvs := vlen5 hvl
            obtain ⟨s81, s82, s83, s84, s4, rfl⟩ := hvs
            clear hvl
            have hk := HS.out wx hb
            go_split_ands
            rcases i with _ | _ | _ | _ | _ | i
            all_goals (simp only [List.getElem?_toArray, List.getElem?_cons_zero, List.getElem?_cons_succ, Option.some.injEq] at ho)
            all_goals try (subst ho)
            all_goals try simp only [putAll, Act.put, List.setIfInBounds_toArray, List.set_cons_zero, List.set_cons_succ]
            · go_simp
              have hK' := hK.out
              simp only [putAll, Act.put, List.setIfInBounds_toArray, List.set_cons_zero, List.set_cons_succ] at hK'
              exact hK' _ _ rfl (Below.refl _ _) (by simp)
            · have e0 : s81 = _ := hdep ⟨0, .data⟩ (by simp) rfl
              have e0 := e0.symm
              subst e0
              go_simp
              go_simp
              refine (Hrw.out _ hb).mono ?_
              rintro e wy ⟨v', rfl, ho, hby⟩
              go_wp2_with fail
              have hK' := hK.out
              simp only [putAll, Act.put, List.setIfInBounds_toArray, List.set_cons_zero, List.set_cons_succ] at hK'
              exact hK' _ _ (ho.mono hb.size) hby (by simp)
            · go_simp
              have hK' := hK.out
              simp only [putAll, Act.put, List.setIfInBounds_toArray, List.set_cons_zero, List.set_cons_succ] at hK'
              exact hK' _ _ rfl (Below.refl _ _) (by simp)
            · have e1 : (rowsF wr.heap.size syms terms).P s82 wx := hdep ⟨1, .data⟩ (by simp) rfl
              have e2 : s83 = _ := hdep ⟨2, .data⟩ (by simp) rfl
              have e2 := e2.symm
              subst e2
              go_simp
              have ho := (show RowsOwn wr.heap.size wx s82 syms terms from e1)
              have hsr := Hsr.out _ wx ho hb
              go_simp
              refine hsr.mono ?_
              rintro e wy ⟨rfl, hby⟩
              go_wp2_with fail
              have hK' := hK.out
              simp only [putAll, Act.put, List.setIfInBounds_toArray, List.set_cons_zero, List.set_cons_succ] at hK'
              exact hK' _ _ rfl hby (by simp)
            · have e3 : s84 = _ := hdep ⟨3, .data⟩ (by simp) rfl
              have e3 := e3.symm
              subst e3
              go_simp
              have hK' := hK.out
              simp only [putAll, Act.put, List.setIfInBounds_toArray, List.set_cons_zero, List.set_cons_succ] at hK'
              exact hK' _ _ rfl (Below.refl _ _) (by simp)
            · omega
          · intro vs wx hvl hb hf hdist
            have hvs := vlen5 hvl
            obtain ⟨s81, s82, s83, s84, s4, rfl⟩ := hvs
            have f4 : s4 = .bool true := hf 4 (by decide)
            clear hf hdist hvl
            subst f4
            refine wpAny_done (by kernel_rfl) ?_ _
            try simp only [putAll, Act.put, List.setIfInBounds_toArray, List.set_cons_zero, List.set_cons_succ]
            go_wp2
            go_ret
            exact ⟨rfl, bel_go hb Hbw.out⟩
end Go.Proofs.YthheafjilbeddaaDoor
/- PoolMade answers true. -/
namespace Go.Proofs.YthheafjilbeddaaDoor
open Go.RowKit Big Go.WideMaps

theorem mkSyms_ok : plNewErr mkSyms = 0 := by kernel_rfl
theorem MkSelf.self {p : Po} (h : MkSelf p) : PoSelf p := h
set_option maxRecDepth 100000 in
set_option maxHeartbeats 6400000 in
theorem lawMade_any (v : Value) (bs : List Nat) (w : World) (htab : Tb w.heap.size w) (hb : At w .u8 v bs) (hs : ∀ y ∈ bs, y < 256) :
    Calls Tryd.prog 7 #[v] w (RBool true w) := by
  have Hb := hid hb; have Hs := hid hs; have Htab := hid htab
  obtain ⟨pa, ca, rfl, i1, i2, -, -⟩ := hb
  unfold maxLen at i2
  have Hfx := hid (fixed_any w.heap.size w (Nat.le_refl _) htab)
  clear htab hs
  go_enter Tryd.func7, Tryd.ntmps7
  go_wp2_with fail
  refine Hfx.out.mono ?_
  rintro e w1 ⟨rfl, b1⟩
  have Hb1 := hid b1
  clear b1 Hfx
  cases h400 : decide ((400 : Int) < (bs.length : Nat))
  case true =>
    go_wp2
    go_ret
    exact ⟨rfl, Hb1.out⟩
  case false =>
  have b2 := below1 w1 (.cells #[.slice pa bs.length ca, .int .i64 0] 60)
  have hc2 := heap_alloc_new w1 (.cells #[.slice pa bs.length ca, .int .i64 0] 60)
  have HT := hid (show TpIn w (w1.alloc (.cells #[.slice pa bs.length ca, .int .i64 0] 60)) w1.heap.size (.slice pa bs.length ca) bs from ⟨Hb.out, Hs.out, Hb1.out.size, bel_go b2 Hb1.out, 0, Nat.zero_le _, hc2⟩)
  have HR := hid (Rows_mk HT.out)
  clear b2 hc2 HT
  go_wp2_with fail
  refine HR.out.mono ?_
  rintro e w3 ⟨vr, p, rfl, hrw, hmk, hsy, hb3, hf3⟩
  have hck : plCheck p.syms p.terms = 0 := hmk.self.self.check (by rw [hsy]; exact mkSyms_ok)
  have hnm : ∀ s ∈ p.syms, s.name.length ≤ 281474976710656 := by rw [hsy]; decide
  have hsm : ∀ t ∈ p.terms, t.args.length ≤ 8 ∧ sz W t.num.natAbs ≤ 8 := hmk.small
  obtain ⟨va, vb, rfl, hs3, ht3⟩ := hrw
  have hs3' := hs3
  have ht3' := ht3
  obtain ⟨p1, c1, rfl, -⟩ := hs3'
  obtain ⟨p2, c2, rfl, -⟩ := ht3'
  have b4 := below1 w3 (.cells #[.slice p1 p.syms.length c1, .slice p2 p.terms.length c2] 27)
  have hx4 := heap_alloc_new w3 (.cells #[.slice p1 p.syms.length c1, .slice p2 p.terms.length c2] 27)
  have hz4 := size_alloc w3 (.cells #[.slice p1 p.syms.length c1, .slice p2 p.terms.length c2] 27)
  have hbw4 := bel_go b4 hb3
  have Hck := hid (Check_any w.heap.size _ _ p.syms p.terms (w3.alloc (.cells #[.slice p1 p.syms.length c1, .slice p2 p.terms.length c2] 27)) hbw4.size (Lib.TabBelow.on Htab.out hbw4) (hs3.below b4) (ht3.below b4) hnm (fun t h => Nat.le_trans (hsm t h).1 (by decide)))
  have Hrc := hid (fun W (hW : Below (w3.alloc (.cells #[.slice p1 p.syms.length c1, .slice p2 p.terms.length c2] 27)).heap.size (w3.alloc (.cells #[.slice p1 p.syms.length c1, .slice p2 p.terms.length c2] 27)) W) => RCheck_any _ _ p.syms p.terms W ((hs3.below b4).below hW) ((ht3.below b4).below hW) (fun t h => Nat.le_trans (hsm t h).2 (by decide)))
  rw [hck] at Hck Hrc
  have Hb4 := hid hbw4; have Hx4 := hid hx4
  clear hs3 ht3 hck hnm hsm hmk hsy hb3 hf3 b4 hx4 hbw4 HR
  go_upto_region 6 with fail
  generalize hW : (w3.alloc (.cells #[.slice p1 p.syms.length c1, .slice p2 p.terms.length c2] 27)) = w4 at *
  have q := two_cells Hx4.out
  obtain ⟨z0, z1, -, -⟩ := q
  clear hW
  go_wp2_with fail
  refine Hck.out.mono ?_
  rintro e w5 ⟨rfl, b5⟩
  have hx5 := (b5.block w3.heap.size (by omega)).trans Hx4.out
  have q := two_cells hx5
  clear z0 z1
  obtain ⟨z0, z1, -, -⟩ := q
  have B5 := hid b5
  clear b5 hx5 Hck
  go_wp2_with fail
  refine (Hrc.out w5 B5.out).mono ?_
  rintro e w6 ⟨rfl, b6⟩
  have Hfin := hid (bel_go b6 (bel_go B5.out Hb4.out))
  clear b6 z0 z1 Hrc
  go_wp2
  go_ret
  exact ⟨rfl, Hfin.out⟩
end Go.Proofs.YthheafjilbeddaaDoor
/- A tape that comes in as data: its bytes, each below 256. -/
namespace Go.Proofs.YthheafjilbeddaaDoor
open Go.ChangeShapes Go.WideShapes Go.ChangeAt Go.RowKit Go.Deep Go.Joins Big

section
variable {H : Type} {enc : TypeId × Value → H} {w : World} {base : Nat} {spare : Nat → Bool} {held : Bool}
set_option maxRecDepth 100000 in
theorem open_tape {r : Reach} {b0 : Nat} {v : Value} {d : DataW H} {p : List MemPlace} (hv : Value.okWide Tryd.prog w r b0 56 v) (h : DataW.Trod enc Tryd.prog w base spare held 56 v d p) :
    ∃ l, At w .u8 v l ∧ ∀ y ∈ l, y < 256 := by
  obtain ⟨a, len, cap, rfl⟩ := okWide_slice Tryd.underlying56 hv
  obtain ⟨fuel, hf⟩ := h
  rcases open_ints Tryd.underlying56 Tryd.underlying5 cellsU8 hf with ⟨he, -⟩ | ⟨a', len', cap', zs, he, hb, hl, hm, hz, -, hc, hwf⟩
  · have he : Value.slice a len cap = .slice none 0 0 := by simpa [Value.cells] using he
    rw [he]
    exact ⟨[], At.nil w .u8, fun y h => by cases h⟩
  · have he : Value.slice a len cap = .slice (some a') len' cap' := by simpa [Value.cells] using he
    rw [he]
    have hlz : len' ≤ zs.length := by rw [hz]; split <;> omega
    refine ⟨(zs.take len').map Int.toNat, ?_, fun y hy => by
      obtain ⟨z, hz', rfl⟩ := List.mem_map.1 hy
      have := wf_u8 (hwf z (List.mem_of_mem_take hz'))
      omega⟩
    have e : ((zs.take len').map Int.toNat).length = len' := by simp [Nat.min_eq_left hlz]
    refine ⟨some a', cap', by rw [e], by rw [e]; exact hl, hm, nofun, fun h0 => ?_⟩
    rw [e] at h0
    have hs := hc 0 (by omega)
    obtain ⟨b, off, spot⟩ := a'
    cases spot with
    | some x =>
      exfalso
      revert hs
      unfold World.cell? Addr.add
      split <;> simp
    | none =>
      refine ⟨b, off, rfl, World.block_lt_of_cell? w _ hs, fun i hi => ?_⟩
      rw [e] at hi
      have hci := hc i (by omega)
      have hw := wf_u8 (hwf _ (List.getElem_mem (n := i) (l := zs) (by omega)))
      rw [add_plain] at hci
      rw [hci]
      have hg : zs.getD i 0 = zs[i]'(by omega) := by simp [List.getD, show i < zs.length by omega]
      rw [hg]
      simp only [List.getElem_map, List.getElem_take]
      congr 2
      omega
end
end Go.Proofs.YthheafjilbeddaaDoor
/- The package-level tables that the rows list, as start-up lays them; a world that holds them. -/
namespace Go.Proofs.YthheafjilbeddaaDoor
open Go.ChangeShapes Go.WideShapes Go.ChangeAt Go.RowKit

theorem own : ownKnob Tryd.prog.godebug = none := by kernel_rfl
def tabPow : Array Value := #[.int .u64 1, .int .u64 10, .int .u64 100, .int .u64 1000, .int .u64 10000, .int .u64 100000, .int .u64 1000000, .int .u64 10000000, .int .u64 100000000, .int .u64 1000000000, .int .u64 10000000000, .int .u64 100000000000, .int .u64 1000000000000, .int .u64 10000000000000, .int .u64 100000000000000, .int .u64 1000000000000000, .int .u64 10000000000000000, .int .u64 100000000000000000, .int .u64 1000000000000000000, .int .u64 10000000000000000000]
def tab32 : Array Value := #[.int .u8 0, .int .u8 1, .int .u8 28, .int .u8 2, .int .u8 29, .int .u8 14, .int .u8 24, .int .u8 3, .int .u8 30, .int .u8 22, .int .u8 20, .int .u8 15, .int .u8 25, .int .u8 17, .int .u8 4, .int .u8 8, .int .u8 31, .int .u8 27, .int .u8 13, .int .u8 23, .int .u8 21, .int .u8 19, .int .u8 16, .int .u8 7, .int .u8 26, .int .u8 12, .int .u8 18, .int .u8 6, .int .u8 11, .int .u8 5, .int .u8 10, .int .u8 9]
def tab64 : Array Value := #[.int .u8 0, .int .u8 1, .int .u8 56, .int .u8 2, .int .u8 57, .int .u8 49, .int .u8 28, .int .u8 3, .int .u8 61, .int .u8 58, .int .u8 42, .int .u8 50, .int .u8 38, .int .u8 29, .int .u8 17, .int .u8 4, .int .u8 62, .int .u8 47, .int .u8 59, .int .u8 36, .int .u8 45, .int .u8 43, .int .u8 51, .int .u8 22, .int .u8 53, .int .u8 39, .int .u8 33, .int .u8 30, .int .u8 24, .int .u8 18, .int .u8 12, .int .u8 5, .int .u8 63, .int .u8 55, .int .u8 48, .int .u8 27, .int .u8 60, .int .u8 41, .int .u8 37, .int .u8 16, .int .u8 46, .int .u8 35, .int .u8 44, .int .u8 21, .int .u8 52, .int .u8 32, .int .u8 23, .int .u8 11, .int .u8 54, .int .u8 26, .int .u8 40, .int .u8 15, .int .u8 34, .int .u8 20, .int .u8 31, .int .u8 10, .int .u8 25, .int .u8 14, .int .u8 19, .int .u8 9, .int .u8 13, .int .u8 8, .int .u8 7, .int .u8 6]
/-- the object that block k holds behind start-up -/
def laidObj (k : Nat) (o : Obj) : Obj :=
  match o with
  | .cells c t frozen => if k = 0 then .cells tabPow t frozen else if k = 1 then .cells tab32 t frozen else if k = 2 then .cells tab64 t frozen else .cells c t frozen
  | o => o
noncomputable def laidWorld (os : Os) : World :=
  { World.holding Tryd.prog os ⟨#[], #[], []⟩ with heap := (((World.holding Tryd.prog os ⟨#[], #[], []⟩).heap.modify 0 (laidObj 0)).modify 1 (laidObj 1)).modify 2 (laidObj 2) }
end Go.Proofs.YthheafjilbeddaaDoor
