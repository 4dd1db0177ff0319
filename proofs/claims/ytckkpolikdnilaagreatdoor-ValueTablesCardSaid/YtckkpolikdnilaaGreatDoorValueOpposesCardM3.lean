/- Texts put together: PlBad, PlEach, PlRows, PlRows2, PlRef, PlRef2, PlRef3, PlRef4, FromOwn, RefOwn, PlSame, PlRef5, PlRef6, OpenNum, PlFixed, PlOpen, PlRef7, PlRef8, VlTyped, VlOps, Same, Few, Copied, Copies, VlSum, VlParts, VlParts2, VlRow, VlEvalErr, VlCond, VlMaker, VlOps2, HalfTrim, Split, DivShort, Join, TimesPlus, TimesHalves. -/
import Derived.Test.YtckkpolikdnilaaGreatDoorValueOpposesCardM2
import Derived.Deep.DeepCutAuto
import Derived.Maps.AppendAt
import Derived.Lib.SmallJoins
import Derived.ChangeSlices
import Derived.OpenShut
import Derived.Carry
import Derived.Deep.DeepHandedRow
import Derived.ProofKit
import Derived.ChangeSame
import Derived.Deep.RegionHeld3
import Derived.Deep.AppendLies
import Derived.BigQuiet
import Derived.Deep.QuietTactic
import Derived.Laws.BitsAll
/- slices.IndexFunc, ContainsFunc of symbols with isNoSymbol. -/
namespace Go.Proofs.YtckkpolikdnilaaGreatDoor
open Go.RowKit Big Go.WideMaps

/-- symbols that are handed in -/
def SyIn (w : World) (v : Value) (l : List Sy) : Prop :=
  ∃ p cap, v = .slice p l.length cap ∧ l.length ≤ cap ∧ cap ≤ maxLen ∧ (p = none → cap = 0) ∧
    (0 < l.length → ∃ b off, p = some ⟨b, off, none⟩ ∧ b < w.heap.size ∧ ∀ i (h : i < l.length), w.cell? ⟨b, off + i * 3, none⟩ = some (.string ⟨l[i].name.toArray⟩) ∧ w.cell? ⟨b, off + i * 3 + 1, none⟩ = some (.int .i64 l[i].arity) ∧ w.cell? ⟨b, off + i * 3 + 2, none⟩ = some (.int .i64 l[i].sort))
theorem SyIn.stays {w w' : World} {v : Value} {l : List Sy} (h : SyIn w v l) (hz : w.heap.size ≤ w'.heap.size) (hb : ∀ k, v.ownBlock = some k → w'.heap[k]? = w.heap[k]?) : SyIn w' v l := by
  obtain ⟨p, cap, rfl, h1, h2, h3, h4⟩ := h
  refine ⟨p, cap, rfl, h1, h2, h3, fun hp => ?_⟩
  obtain ⟨b, off, rfl, h6, h7⟩ := h4 hp
  have e := hb b rfl
  have c : ∀ o, w'.cell? ⟨b, o, none⟩ = w.cell? ⟨b, o, none⟩ := fun o => World.cell?_of_block (w := w) e
  exact ⟨b, off, rfl, Nat.lt_of_lt_of_le h6 hz, fun i hi => by rw [c, c, c]; exact h7 i hi⟩
theorem SyIn.below {w w' : World} {v : Value} {l : List Sy} (h : SyIn w v l) (hb : Below w.heap.size w w') : SyIn w' v l := by
  obtain ⟨p, cap, rfl, h1, h2, h3, h4⟩ := h
  refine ⟨p, cap, rfl, h1, h2, h3, fun hp => ?_⟩
  obtain ⟨b, off, h5, h6, h7⟩ := h4 hp
  exact ⟨b, off, h5, Nat.lt_of_lt_of_le h6 hb.size, fun i hi => ⟨(hb.cell (p := ⟨b, off + i * 3, none⟩) h6).trans (h7 i hi).1, (hb.cell (p := ⟨b, off + i * 3 + 1, none⟩) h6).trans (h7 i hi).2.1, (hb.cell (p := ⟨b, off + i * 3 + 2, none⟩) h6).trans (h7 i hi).2.2⟩⟩
theorem SyAt.handed {w : World} {v : Value} {l : List Sy} (h : SyAt w v l) : SyIn w v l := by
  obtain ⟨p, cap, hv, h1, h2, h3, h4⟩ := h
  refine ⟨p, cap, hv, h1, h2, h3, fun hp => ?_⟩
  obtain ⟨b, h5, h6, h7⟩ := h4 hp
  exact ⟨b, 0, h5, h6, fun i hi => by simpa using h7 i hi⟩

set_option maxRecDepth 100000 in
set_option maxHeartbeats 3200000 in
theorem indexBadSym_any (v : Value) (l : List Sy) (w : World) (hl : SyIn w v l) :
    Calls Tryz.prog 95 #[v, .func (.func 69) #[] #[]] w (RIx (l.any plBadSym) w) := by
  obtain ⟨pa, ca, rfl, i1, i2, i3, i4⟩ := hl
  have Hi := hid i4
  unfold maxLen at i2
  clear i4 i3
  go_enter Tryz.func95, Tryz.ntmps95
  go_wp2_with fail
  go_loopw [8] (fun i wr => ∃ k : Nat, k ≤ l.length ∧ i = .int .i64 (k : Nat) ∧ Hid ((l.take k).any plBadSym = false) ∧ Hid (Below w.heap.size w wr)) (fun i _ => l.length - (intOf i).toNat)
  case atStart => exact ⟨0, Nat.zero_le _, rfl, by unfold Hid; rfl, by unfold Hid; exact Below.refl _ _⟩
  case round =>
    obtain ⟨k, hk, rfl, hany, hb⟩ := hrel
    by_cases hlt : k < l.length
    · have hlt' : (k : Int) < (l.length : Nat) := by omega
      obtain ⟨bb, off, rfl, j1, j2⟩ := Hi.out (by omega)
      obtain ⟨m0, m1, m2⟩ := j2 k hlt
      have m0 := (hb.out.cell (p := ⟨bb, off + k * 3, none⟩) j1).trans m0
      have m1 := (hb.out.cell (p := ⟨bb, off + k * 3 + 1, none⟩) j1).trans m1
      have m2 := (hb.out.cell (p := ⟨bb, off + k * 3 + 2, none⟩) j1).trans m2
      have hc := isNoSymbol_any l[k] wr
      have hs1 := any_take_succ plBadSym l k hlt hany.out
      have hs2 := any_of_at plBadSym l k hlt
      generalize l[k] = x at *
      generalize plBadSym x = r at *
      unfold Sy.val at hc
      have Hs1 := hid hs1; have Hs2 := hid hs2; have Hc := hid hc
      clear j2 hs1 hs2 hc hany Hi
      obtain ⟨nm, ar, so⟩ := x
      dsimp only at *
      cases r
      · go_wp2_with (refine Hc.out.mono ?_; rintro e w1 ⟨rfl, b1⟩)
        go_roundw
        case rel => exact ⟨k + 1, by omega, rfl, by unfold Hid; exact Hs1.out (by trivial), by unfold Hid; exact hb.out.trans (b1.mono hb.out.size)⟩
        case measure => simp [intOf]; omega
      · go_wp2_with (refine Hc.out.mono ?_; rintro e w1 ⟨rfl, b1⟩)
        go_ret
        exact ⟨_, rfl, by rw [Hs2.out (by trivial)]; simp, hb.out.trans (b1.mono hb.out.size)⟩
    · have hkk : k = l.length := by omega
      subst hkk
      have ha : l.any plBadSym = false := by have := hany.out; rwa [List.take_length] at this
      have Ha := hid ha
      clear ha hany
      go_wp2_with fail
      go_ret
      exact ⟨_, rfl, by rw [Ha.out]; simp, hb.out⟩

set_option maxRecDepth 100000 in
set_option maxHeartbeats 1600000 in
theorem containsBadSym_any (v : Value) (l : List Sy) (w : World) (hl : SyIn w v l) :
    Calls Tryz.prog 68 #[v, .func (.func 69) #[] #[]] w (RBool (l.any plBadSym) w) := by
  have hc := fun w' hb => indexBadSym_any v l w' (hl.below (w' := w') hb)
  have Hc := hid hc
  obtain ⟨pa, ca, rfl, i1, i2, i3, i4⟩ := hl
  clear hc i4
  generalize l.any plBadSym = f at *
  go_enter Tryz.func68, Tryz.ntmps68
  go_wp2_with fail
  refine (Hc.out _ (Below.refl _ _)).mono ?_
  rintro e w1 ⟨z, rfl, hz, b1⟩
  go_wp2
  go_ret
  exact ⟨rfl, b1⟩
end Go.Proofs.YtckkpolikdnilaaGreatDoor
/- (*pool.Pool).makeNew; pool.each of symbols and of terms; New, Check. -/
namespace Go.Proofs.YtckkpolikdnilaaGreatDoor
open Go.RowKit Big Go.WideMaps

/-- terms that are handed in -/
def TmsIn (w : World) (v : Value) (l : List Tm) : Prop :=
  ∃ p cap, v = .slice p l.length cap ∧ l.length ≤ cap ∧ cap ≤ maxLen ∧ (p = none → cap = 0) ∧
    (0 < l.length → ∃ b off, p = some ⟨b, off, none⟩ ∧ b < w.heap.size ∧ ∀ i (h : i < l.length), ∃ c0 c1 c2 c3 c4, w.cell? ⟨b, off + i * 5, none⟩ = some c0 ∧ w.cell? ⟨b, off + i * 5 + 1, none⟩ = some c1 ∧ w.cell? ⟨b, off + i * 5 + 2, none⟩ = some c2 ∧ w.cell? ⟨b, off + i * 5 + 3, none⟩ = some c3 ∧ w.cell? ⟨b, off + i * 5 + 4, none⟩ = some c4 ∧
      TmRaw w (.agg #[c0, c1, c2, c3, c4]) l[i])
theorem TmsIn.below {w w' : World} {v : Value} {l : List Tm} (h : TmsIn w v l) (hb : Below w.heap.size w w') : TmsIn w' v l := by
  obtain ⟨p, cap, rfl, h1, h2, h3, h4⟩ := h
  refine ⟨p, cap, rfl, h1, h2, h3, fun hp => ?_⟩
  obtain ⟨b, off, h5, h6, h7⟩ := h4 hp
  refine ⟨b, off, h5, Nat.lt_of_lt_of_le h6 hb.size, fun i hi => ?_⟩
  obtain ⟨c0, c1, c2, c3, c4, e0, e1, e2, e3, e4, ht⟩ := h7 i hi
  have c : ∀ o, w'.cell? ⟨b, o, none⟩ = w.cell? ⟨b, o, none⟩ := fun o => hb.cell (p := ⟨b, o, none⟩) h6
  exact ⟨c0, c1, c2, c3, c4, (c _).trans e0, (c _).trans e1, (c _).trans e2, (c _).trans e3, (c _).trans e4, ht.below hb⟩

def plNew (p : Po) (t : Tm) : Po × Int × Int := if (plMake p t).2.2 = 0 ∧ (plMake p t).2.1 < (p.terms.length : Nat) then ((plMake p t).1, 0, 6) else plMake p t
def plDecls : Po → List Sy → Po × Int
  | p, [] => (p, 0)
  | p, s :: l => if (plDeclare p s).2.2 ≠ 0 then ((plDeclare p s).1, (plDeclare p s).2.2) else plDecls (plDeclare p s).1 l
def plNews : Po → List Tm → Po × Int
  | p, [] => (p, 0)
  | p, t :: l => if (plNew p t).2.2 ≠ 0 then ((plNew p t).1, (plNew p t).2.2) else plNews (plNew p t).1 l

set_option maxRecDepth 100000 in
set_option maxHeartbeats 6400000 in
theorem makeNew_any (B : Nat) (S : Nat → Prop) (g : Nat) (p : Po) (t : Tm) (v : Value) (w : World) (h : PoAt w S g p) (hB : B ≤ w.heap.size) (htab : Tb B w) (ht : TmRaw w v t) (hla : t.args.length ≤ 1099511627776) :
    Calls Tryz.prog 50 #[.pointer (some ⟨g, 0, none⟩), v] w (RMk S g (plNew p t) w) := by
  have Hpt := hid ht
  have Hpo := hid h
  have Htab := hid htab
  obtain ⟨pa, ca, b, pm, nm, cm, rfl, -, -⟩ := ht
  have bx := heap_alloc_new w (.cells #[.int .i64 t.op, .slice pa t.args.length ca, .bool b, .slice pm nm cm, .int .i64 t.sym] 71)
  have b0 := below1 w (.cells #[.int .i64 t.op, .slice pa t.args.length ca, .bool b, .slice pm nm cm, .int .i64 t.sym] 71)
  have hmk := Make_any B S g p t _ _ (Hpo.out.below b0) (Nat.le_trans hB b0.size) (Htab.out.on (b0.mono hB)) (Hpt.out.below b0) hla
  have h1 := Hpo.out.below b0
  obtain ⟨⟨vs, vt, vo, mn, mk, cs, H1⟩, -, -⟩ := h1
  obtain ⟨pt, cpt, evt⟩ := ownsRow_shape H1.terms
  subst evt
  have q1 := five_cells H1.cell
  have q0 := five_cells bx
  generalize hr : plMake p t = r at hmk
  have Hr := hid hr
  obtain ⟨p', n, er⟩ := r
  have Hmk := hid hmk
  obtain ⟨x0, x1, x2, x3, x4⟩ := q0
  obtain ⟨y0, y1, y2, y3, y4⟩ := q1
  generalize hL : p.terms.length = L at *
  have HL := hid hL
  clear h htab hmk bx H1 hr hL y0 y2 y3 y4
  go_enter Tryz.func50, Tryz.ntmps50
  go_wp2_with fail
  generalize hW : (w.alloc (.cells #[.int .i64 t.op, .slice pa t.args.length ca, .bool b, .slice pm nm cm, .int .i64 t.sym] 71)) = W0 at *
  refine Hmk.out.mono ?_
  rintro e w1 ⟨rfl, S', hp', hS', hA⟩
  have Hp' := hid hp'; have HS' := hid hS'; have HA := hid hA
  clear x0 x1 x2 x3 x4 y1 hp' hS' hA hW Hmk
  cases he : (er == 0)
  case false =>
    have hne : er ≠ 0 := by simpa using he
    have Hne := hid hne
    clear hne
    go_wp2
    go_ret2
    have hp : plNew p t = (p', n, er) := by unfold plNew; rw [Hr.out, if_neg (fun h => Hne.out h.1)]
    exact ⟨by rw [hp]; rfl, S', by rw [hp]; exact Hp'.out, fun k hk => (HS'.out k hk).imp id (Nat.le_trans b0.size), (Apart.of_below b0).go HA.out⟩
  case true =>
    have hez : er = 0 := by simpa using he
    subst hez
    clear he
    cases hlt : decide (n < (L : Int))
    case true =>
      have Hlt := hid (of_decide_eq_true hlt)
      go_wp2
      go_ret2
      have hp : plNew p t = (p', 0, 6) := by unfold plNew; rw [Hr.out, if_pos ⟨rfl, by rw [HL.out]; exact Hlt.out⟩]
      exact ⟨by rw [hp]; rfl, S', by rw [hp]; exact Hp'.out, fun k hk => (HS'.out k hk).imp id (Nat.le_trans b0.size), (Apart.of_below b0).go HA.out⟩
    case false =>
      have Hlt := hid (of_decide_eq_false hlt)
      go_wp2
      go_ret2
      have hp : plNew p t = (p', n, 0) := by unfold plNew; rw [Hr.out, if_neg (fun h => by have h2 := h.2; rw [HL.out] at h2; dsimp only at h2; have := Hlt.out; omega)]
      exact ⟨by rw [hp]; rfl, S', by rw [hp]; exact Hp'.out, fun k hk => (HS'.out k hk).imp id (Nat.le_trans b0.size), (Apart.of_below b0).go HA.out⟩

def REach (S : Nat → Prop) (g : Nat) (r : Po × Int) (w : World) (e : Ending) (w' : World) : Prop := e = .returned (.int .i64 r.2) ∧ ∃ S', PoAt w' S' g r.1 ∧ (∀ k, S' k → S k ∨ w.heap.size ≤ k) ∧ Apart S w w'
/-- where a loop over items stands -/
def EachAt {α : Type} (f : Po → List α → Po × Int) (l : List α) (p : Po) (S : Nat → Prop) (g : Nat) (w : World) (k : Nat) (wr : World) : Prop :=
  ∃ pk Sk, f p l = f pk (l.drop k) ∧ PoAt wr Sk g pk ∧ (∀ i, Sk i → S i ∨ w.heap.size ≤ i) ∧ Apart S w wr
theorem grow_wide {S S' S'' : Nat → Prop} {n m : Nat} (h : ∀ k, S' k → S k ∨ n ≤ k) (h' : ∀ k, S'' k → S' k ∨ m ≤ k) (hm : n ≤ m) : ∀ k, S'' k → S k ∨ n ≤ k := fun k hk => by
  rcases h' k hk with h1 | h1
  · exact h k h1
  · exact .inr (Nat.le_trans hm h1)
set_option maxRecDepth 100000 in
set_option maxHeartbeats 6400000 in
theorem eachSyms_any (S : Nat → Prop) (g : Nat) (p : Po) (v : Value) (l : List Sy) (w : World) (h : PoAt w S g p) (hl : SyIn w v l) (hv : ∀ k, 0 < l.length → v.ownBlock = some k → ¬ S k) (hn : ∀ s ∈ l, s.name.length ≤ 281474976710656) :
    Calls Tryz.prog 70 #[v, .func (.func 71) #[.pointer (some ⟨g, 0, none⟩)] #[]] w (REach S g (plDecls p l) w) := by
  obtain ⟨pa, ca, rfl, i1, i2, i3, i4⟩ := hl
  have Hi := hid i4
  have Hn := hid hn
  have Hv := hid hv
  have Hpo := hid h
  unfold maxLen at i2
  clear i4 i3 hn h hv
  go_enter Tryz.func70, Tryz.ntmps70
  go_wp2_with fail
  go_loopw [11] (fun i wr => ∃ k : Nat, k ≤ l.length ∧ i = .int .i64 (k : Nat) ∧ Hid (EachAt plDecls l p S g w k wr)) (fun i _ => l.length - (intOf i).toNat)
  case atStart => exact ⟨0, Nat.zero_le _, rfl, hid ⟨p, S, by rw [List.drop_zero], Hpo.out, fun k h => .inl h, Apart.refl _ _⟩⟩
  case round =>
    obtain ⟨k, hk, rfl, Hb⟩ := hrel
    by_cases hlt : k < l.length
    · have hlt' : (k : Int) < (l.length : Nat) := by omega
      obtain ⟨bb, off, rfl, j1, j2⟩ := Hi.out (by omega)
      have hb := Hb.out
      obtain ⟨pk, Sk, hf, hp, hS, hA⟩ := hb
      have hbb : ∀ o, wr.cell? ⟨bb, o, none⟩ = w.cell? ⟨bb, o, none⟩ := fun o => hA.cell (p := ⟨bb, o, none⟩) j1 (Hv.out bb (by omega) rfl)
      obtain ⟨m0, m1, m2⟩ := j2 k hlt
      have m0 := (hbb _).trans m0
      have m1 := (hbb _).trans m1
      have m2 := (hbb _).trans m2
      have hns := Hn.out l[k] (List.getElem_mem hlt)
      have hdr : plDecls pk (l.drop k) = if (plDeclare pk l[k]).2.2 ≠ 0 then ((plDeclare pk l[k]).1, (plDeclare pk l[k]).2.2) else plDecls (plDeclare pk l[k]).1 (l.drop (k + 1)) := by
        rw [List.drop_eq_getElem_cons hlt]; rfl
      have hdc := fun W (hw : Below wr.heap.size wr W) => Declare_any Sk g pk l[k] W (hp.below hw) hns
      generalize l[k] = x at *
      generalize hrr : plDeclare pk x = rr at *
      obtain ⟨p2, n2, er⟩ := rr
      dsimp only at *
      unfold Sy.val at hdc
      obtain ⟨nm, ar, so⟩ := x
      dsimp only at *
      have Hdc := hid hdc; have Hdr := hid hdr; have Hf := hid hf; have HS := hid hS; have HA := hid hA
      have bx := below1 wr (.cells #[.string ⟨nm.toArray⟩, .int .i64 ar, .int .i64 so] 39)
      clear hbb j2 hns hdr hdc hf hp hS hA Hb Hi Hn hrr
      go_wp2_with fail
      refine (Hdc.out _ bx).mono ?_
      rintro e w3 ⟨rfl, S3, hp3, hS3, hA3⟩
      have Hp3 := hid hp3
      have HS3 := hid (grow_wide HS.out (fun k hk => (hS3 k hk).imp id (Nat.le_trans bx.size)) HA.out.size)
      have HA3 := hid (HA.out.trans ((Apart.of_below (S := Sk) bx).go hA3) HS.out)
      clear hp3 hS3 hA3 bx
      cases he : (er != 0)
      · have Her := hid (show er = 0 by simpa using he)
        go_wp2_with fail
        go_roundw
        case rel => exact ⟨k + 1, by omega, rfl, hid ⟨p2, S3, by rw [Hf.out, Hdr.out, if_neg (by simp [Her.out])], Hp3.out, HS3.out, HA3.out⟩⟩
        case measure => simp [intOf]; omega
      · have Her := hid (show er ≠ 0 by simpa using he)
        go_wp2_with fail
        go_ret
        have hfin : plDecls p l = (p2, er) := by rw [Hf.out, Hdr.out, if_pos Her.out]
        exact ⟨by rw [hfin]; rfl, S3, by rw [hfin]; exact Hp3.out, HS3.out, HA3.out⟩
    · have hkk : k = l.length := by omega
      subst hkk
      go_wp2_with fail
      go_ret
      obtain ⟨pk, Sk, hf, hp, hS, hA⟩ := Hb.out
      rw [List.drop_length] at hf
      have hfin : plDecls p l = (pk, 0) := hf
      exact ⟨by rw [hfin]; rfl, Sk, by rw [hfin]; exact hp, hS, hA⟩
set_option maxRecDepth 100000 in
set_option maxHeartbeats 6400000 in
theorem eachTerms_any (B : Nat) (S : Nat → Prop) (g : Nat) (p : Po) (v : Value) (l : List Tm) (w : World) (h : PoAt w S g p) (hS0 : ∀ k, S k → B ≤ k) (hB : B ≤ w.heap.size) (htab : Tb B w) (hl : TmsIn w v l) (hlow : ∀ W, Apart S w W → TmsIn W v l) (hn : ∀ t ∈ l, t.args.length ≤ 1099511627776) :
    Calls Tryz.prog 49 #[v, .func (.func 50) #[.pointer (some ⟨g, 0, none⟩)] #[]] w (REach S g (plNews p l) w) := by
  obtain ⟨pa, ca, rfl, i1, i2, i3, i4⟩ := hl
  have Hi := hid i4
  have Hn := hid hn
  have Hlow := hid hlow
  have Htab := hid htab
  have HSB := hid hS0
  have Hpo := hid h
  unfold maxLen at i2
  clear i4 i3 hn h hlow htab hS0
  go_enter Tryz.func49, Tryz.ntmps49
  go_wp2_with fail
  go_loopw [11] (fun i wr => ∃ k : Nat, k ≤ l.length ∧ i = .int .i64 (k : Nat) ∧ Hid (EachAt plNews l p S g w k wr)) (fun i _ => l.length - (intOf i).toNat)
  case atStart => exact ⟨0, Nat.zero_le _, rfl, hid ⟨p, S, by rw [List.drop_zero], Hpo.out, fun k h => .inl h, Apart.refl _ _⟩⟩
  case round =>
    obtain ⟨k, hk, rfl, Hb⟩ := hrel
    by_cases hlt : k < l.length
    · have hlt' : (k : Int) < (l.length : Nat) := by omega
      have hb := Hb.out
      obtain ⟨pk, Sk, hf, hp, hS, hA⟩ := hb
      obtain ⟨_, _, e5, -, -, -, hc⟩ := Hlow.out wr hA
      cases e5
      obtain ⟨bb, off, rfl, j1, j2⟩ := hc (by omega)
      obtain ⟨c0, c1, c2, c3, c4, m0, m1, m2, m3, m4, hraw⟩ := j2 k hlt
      have hns := Hn.out l[k] (List.getElem_mem hlt)
      have hdr : plNews pk (l.drop k) = if (plNew pk l[k]).2.2 ≠ 0 then ((plNew pk l[k]).1, (plNew pk l[k]).2.2) else plNews (plNew pk l[k]).1 (l.drop (k + 1)) := by
        rw [List.drop_eq_getElem_cons hlt]; rfl
      have htb : Tb B wr := Htab.out.on (hA.below hB HSB.out)
      have hBr := Nat.le_trans hB hA.size
      have hdc := fun W (hw : Below wr.heap.size wr W) => makeNew_any B Sk g pk l[k] _ W (hp.below hw) (Nat.le_trans hBr hw.size) (htb.on (hw.mono hBr)) (hraw.below hw) hns
      generalize l[k] = x at *
      generalize hrr : plNew pk x = rr at *
      obtain ⟨p2, n2, er⟩ := rr
      dsimp only at *
      obtain ⟨pa, ca', b, pm, nm, cm, ea, -, -⟩ := hraw
      cases ea
      have Hdc := hid hdc; have Hdr := hid hdr; have Hf := hid hf; have HS := hid hS; have HA := hid hA
      have bx := below1 wr (.cells #[.int .i64 x.op, .slice pa x.args.length ca', .bool b, .slice pm nm cm, .int .i64 x.sym] 71)
      clear j2 hns hdr hdc hf hp hS hA Hb Hi Hn hrr Hlow htb
      go_wp2_with fail
      refine (Hdc.out _ bx).mono ?_
      rintro e w3 ⟨rfl, S3, hp3, hS3, hA3⟩
      have Hp3 := hid hp3
      have HS3 := hid (grow_wide HS.out (fun k hk => (hS3 k hk).imp id (Nat.le_trans bx.size)) HA.out.size)
      have HA3 := hid (HA.out.trans ((Apart.of_below (S := Sk) bx).go hA3) HS.out)
      clear hp3 hS3 hA3 bx
      cases he : (er != 0)
      · have Her := hid (show er = 0 by simpa using he)
        go_wp2_with fail
        go_roundw
        case rel => exact ⟨k + 1, by omega, rfl, hid ⟨p2, S3, by rw [Hf.out, Hdr.out, if_neg (by simp [Her.out])], Hp3.out, HS3.out, HA3.out⟩⟩
        case measure => simp [intOf]; omega
      · have Her := hid (show er ≠ 0 by simpa using he)
        go_wp2_with fail
        go_ret
        have hfin : plNews p l = (p2, er) := by rw [Hf.out, Hdr.out, if_pos Her.out]
        exact ⟨by rw [hfin]; rfl, S3, by rw [hfin]; exact Hp3.out, HS3.out, HA3.out⟩
    · have hkk : k = l.length := by omega
      subst hkk
      go_wp2_with fail
      go_ret
      obtain ⟨pk, Sk, hf, hp, hS, hA⟩ := Hb.out
      rw [List.drop_length] at hf
      have hfin : plNews p l = (pk, 0) := hf
      exact ⟨by rw [hfin]; rfl, Sk, by rw [hfin]; exact hp, hS, hA⟩

def plNewErr (l : List Sy) : Int := if 256 < l.length then 11 else if l.any plBadSym then 6 else (plDecls ⟨[], [], []⟩ l).2
def plCheck (syms : List Sy) (terms : List Tm) : Int := if plNewErr syms ≠ 0 then plNewErr syms else (plNews ⟨syms, [], []⟩ terms).2
theorem plDeclare_ok {p : Po} {s : Sy} (h : (plDeclare p s).2.2 = 0) : (plDeclare p s).1 = ⟨p.syms ++ [s], p.terms, p.sorts⟩ := by
  unfold plDeclare at h ⊢
  split at h
  · simp at h
  · split at h
    · simp at h
    · split at h
      · simp at h
      · rename_i h1 h2 h3
        rw [if_neg h1, if_neg h2, if_neg h3]
theorem plDecls_ok : ∀ (l : List Sy) (p : Po), (plDecls p l).2 = 0 → (plDecls p l).1 = ⟨p.syms ++ l, p.terms, p.sorts⟩
  | [], p, _ => by simp [plDecls]
  | s :: l, p, h => by
    unfold plDecls at h ⊢
    by_cases h0 : (plDeclare p s).2.2 = 0
    · rw [if_neg (by simp [h0])] at h ⊢
      have := plDecls_ok l _ h
      rw [this, plDeclare_ok h0]
      simp
    · rw [if_pos h0] at h
      exact absurd h h0
theorem PoAt.empty {w : World} {g : Nat} (h : w.heap[g]? = some (.cells #[.slice none 0 0, .slice none 0 0, .slice none 0 0, .map none, .map none] 119 (0, 0))) : PoAt w (fun k => k = g) g ⟨[], [], []⟩ := by
  refine ⟨⟨_, _, _, none, none, [], ⟨rfl, h, World.ownsRow_nil _ _ _ _, fun k hk => by simp [Value.ownBlock] at hk, World.ownsRow_nil _ _ _ _, fun k hk => by simp [Value.ownBlock] at hk, World.ownsRow_nil _ _ _ _, fun k hk => by simp [Value.ownBlock] at hk, rfl, ⟨.inl ⟨rfl, rfl⟩, fun b e => by cases e⟩, ⟨.inl ⟨rfl, rfl⟩, fun b e => by cases e⟩, fun b e => by cases e⟩⟩, ?_, fun k hk => by subst hk; exact lt_of_block h⟩
  exact ⟨by simp, by simp, rfl, by simp, by simp, by simp, by simp⟩
def RNew (l : List Sy) (w : World) (e : Ending) (w' : World) : Prop := (plNewErr l ≠ 0 → e = .returned (.tuple #[.pointer none, .int .i64 (plNewErr l)])) ∧
  (plNewErr l = 0 → ∃ g S, e = .returned (.tuple #[.pointer (some ⟨g, 0, none⟩), .int .i64 0]) ∧ PoAt w' S g ⟨l, [], []⟩ ∧ ∀ k, S k → w.heap.size ≤ k) ∧ Below w.heap.size w w'
set_option maxRecDepth 100000 in
set_option maxHeartbeats 6400000 in
theorem New_any (v : Value) (l : List Sy) (w : World) (hl : SyIn w v l) (hn : ∀ s ∈ l, s.name.length ≤ 281474976710656) : Calls Tryz.prog 48 #[v] w (RNew l w) := by
  have Hl := hid hl
  have Hn := hid hn
  have Hc := hid (fun w' hb => containsBadSym_any v l w' (hl.below (w' := w') hb))
  obtain ⟨pa, ca, rfl, i1, i2, -, i4⟩ := hl
  have Hi := hid i4
  unfold maxLen at i2
  clear hn i4
  cases hlong : decide ((256 : Int) < (l.length : Nat))
  case true =>
    have he : plNewErr l = 11 := by unfold plNewErr; rw [if_pos (by have := of_decide_eq_true hlong; omega)]
    have He := hid he
    clear he
    go_enter Tryz.func48, Tryz.ntmps48
    go_wp2
    go_ret2
    exact ⟨fun _ => by rw [He.out]; rfl, (fun h => by rw [He.out] at h; cases h), Below.refl _ _⟩
  case false =>
    have hle : ¬ 256 < l.length := by have := of_decide_eq_false hlong; omega
    generalize hbad : l.any plBadSym = bad at Hc
    have Hbad := hid hbad
    clear hbad
    cases bad
    case true =>
      have He := hid (show plNewErr l = 6 by unfold plNewErr; rw [if_neg hle, Hbad.out]; rfl)
      go_enter Tryz.func48, Tryz.ntmps48
      go_wp2_with (refine (Hc.out _ (Below.refl _ _)).mono ?_; rintro e w1 ⟨rfl, b1⟩)
      go_ret2
      exact ⟨fun _ => by rw [He.out]; rfl, (fun h => by rw [He.out] at h; cases h), b1⟩
    case false =>
      have He := hid (show plNewErr l = (plDecls ⟨[], [], []⟩ l).2 by unfold plNewErr; rw [if_neg hle, Hbad.out]; rfl)
      go_enter Tryz.func48, Tryz.ntmps48
      go_wp2_with fail
      refine (Hc.out _ (Below.refl _ _)).mono ?_
      rintro e w1 ⟨rfl, b1⟩
      have bx := heap_alloc_new w1 (.cells #[.slice none 0 0, .slice none 0 0, .slice none 0 0, .map none, .map none] 119)
      have b2 := bel_go (below1 w1 (.cells #[.slice none 0 0, .slice none 0 0, .slice none 0 0, .map none, .map none] 119)) b1
      have hz1 := b1.size
      have hea := eachSyms_any (fun k => k = w1.heap.size) w1.heap.size ⟨[], [], []⟩ _ l _ (PoAt.empty bx) (Hl.out.below b2) (fun k h0 hk e => by
        obtain ⟨bb, off, rfl, j1, -⟩ := Hi.out h0
        cases hk
        have e' : bb = w1.heap.size := e
        omega) Hn.out
      have Hea := hid hea
      have Hb2 := hid b2
      generalize hrr : plDecls ⟨[], [], []⟩ l = rr at He Hea
      obtain ⟨p2, er⟩ := rr
      have Hrr := hid hrr
      clear hea b2 bx hrr Hc Hi Hn
      go_wp2_with fail
      refine Hea.out.mono ?_
      rintro e w3 ⟨rfl, S3, hp3, hS3, hA3⟩
      have hb3 := Hb2.out.trans (hA3.below (B := w.heap.size) Hb2.out.size (fun i hi => by subst hi; exact hz1))
      have Hp3 := hid hp3; have HS3 := hid hS3; have Hb3 := hid hb3
      clear hp3 hS3 hA3 hb3
      cases he : (er != 0)
      case true =>
        have Her := hid (show er ≠ 0 by simpa using he)
        go_wp2
        go_ret2
        exact ⟨fun _ => by rw [He.out]; rfl, fun h => absurd (by rw [He.out] at h; exact h) Her.out, Hb3.out⟩
      case false =>
        have Her := hid (show er = 0 by simpa using he)
        go_wp2
        go_ret2
        refine ⟨fun h => absurd (by rw [He.out]; exact Her.out) h, fun _ => ⟨w1.heap.size, S3, rfl, ?_, fun k hk => ?_⟩, Hb3.out⟩
        · have h1 := plDecls_ok l ⟨[], [], []⟩ (by rw [Hrr.out]; exact Her.out)
          rw [Hrr.out] at h1
          simp only [List.nil_append] at h1
          have h2 := Hp3.out
          rw [h1] at h2
          exact h2
        · rcases HS3.out k hk with h | h
          · omega
          · have := Hb2.out.size; omega
set_option maxRecDepth 100000 in
set_option maxHeartbeats 6400000 in
theorem Check_any (B : Nat) (vs vt : Value) (syms : List Sy) (terms : List Tm) (w : World) (hB : B ≤ w.heap.size) (htab : Tb B w) (hs : SyIn w vs syms) (ht : TmsIn w vt terms) (hn : ∀ s ∈ syms, s.name.length ≤ 281474976710656) (ha : ∀ t ∈ terms, t.args.length ≤ 1099511627776) :
    Calls Tryz.prog 27 #[.agg #[vs, vt]] w (RNum .i64 (plCheck syms terms) w) := by
  have Hs := hid hs; have Ht := hid ht; have Hn := hid hn; have Ha := hid ha; have Htab := hid htab
  obtain ⟨ps, cps, rfl, -, -, -, -⟩ := hs
  obtain ⟨pt, cpt, rfl, -, -, -, -⟩ := ht
  have bx := heap_alloc_new w (.cells #[.slice ps syms.length cps, .slice pt terms.length cpt] 25)
  have b0 := below1 w (.cells #[.slice ps syms.length cps, .slice pt terms.length cpt] 25)
  have hs0 := size_alloc w (.cells #[.slice ps syms.length cps, .slice pt terms.length cpt] 25)
  have x := two_cells bx
  obtain ⟨x0, x1, -, -⟩ := x
  have Hnew := hid (New_any _ syms _ (Hs.out.below b0) Hn.out)
  clear hn ha htab
  go_enter Tryz.func27, Tryz.ntmps27
  go_wp2_with fail
  generalize hW : (w.alloc (.cells #[.slice ps syms.length cps, .slice pt terms.length cpt] 25)) = W0 at *
  refine Hnew.out.mono ?_
  rintro e w1 ⟨hbad, hok, b1⟩
  have bw1 := bel_go b1 b0
  have Hb1 := hid bw1
  clear hW
  by_cases he : plNewErr syms = 0
  · obtain ⟨g, S, rfl, hp, hS⟩ := hok he
    have He := hid he
    have x1 := ((b1.cell (p := ⟨w.heap.size, 1, none⟩) (by dsimp only; omega)).trans x1)
    have hlt := b1.size
    have hSw : ∀ k, S k → w.heap.size ≤ k := fun k hk => by have := hS k hk; omega
    have hea := eachTerms_any B S g ⟨syms, [], []⟩ _ terms w1 hp (fun k hk => by have := hSw k hk; omega) (Nat.le_trans hB bw1.size) (Htab.out.on (bw1.mono hB)) (Ht.out.below bw1)
      (fun W hA => Ht.out.below (bw1.trans (hA.below (B := w.heap.size) bw1.size hSw))) Ha.out
    have Hea := hid hea
    have HSw := hid hSw
    clear hbad hok he hp hS hea hSw bx x0 Hnew
    go_wp2_with fail
    refine Hea.out.mono ?_
    rintro e w3 ⟨rfl, S3, -, -, hA3⟩
    have Hb3 := hid (Hb1.out.trans (hA3.below (B := w.heap.size) Hb1.out.size HSw.out))
    clear hA3 x1
    go_wp2_with fail
    go_ret
    have hfin : plCheck syms terms = (plNews ⟨syms, [], []⟩ terms).2 := by unfold plCheck; rw [if_neg (by simp [He.out])]
    exact ⟨by rw [hfin]; rfl, Hb3.out⟩
  · obtain rfl := hbad he
    have He := hid (show plCheck syms terms = plNewErr syms by unfold plCheck; rw [if_pos he])
    have hnz : (plNewErr syms != 0) = true := by simpa using he
    generalize plNewErr syms = er at *
    clear hok he bx x0 x1 Hnew
    go_wp2_with fail
    go_ret
    exact ⟨by rw [He.out]; rfl, Hb1.out⟩
end Go.Proofs.YtckkpolikdnilaaGreatDoor
/- pool.copied of terms. -/
namespace Go.Proofs.YtckkpolikdnilaaGreatDoor
open Go.RowKit Big Go.WideMaps

theorem TmIn.handed {w : World} {S : Nat → Prop} {vo : Value} {t : Tm} {c : List Value} (h : TmIn w S vo t c) (hs : sz W t.num.natAbs ≤ 1099511627776) : TmRaw w (.agg c.toArray) t := h.raw hs
theorem TmRows.in {w : World} {S : Nat → Prop} {vo v : Value} {l : List Tm} {cs : List Value} (h : TmRows w S vo l cs) (hrow : w.ownsRow 0 71 5 v l.length cs) (hs : ∀ t ∈ l, sz W t.num.natAbs ≤ 1099511627776) : TmsIn w v l := by
  obtain ⟨p, cap, rfl, h1, h2, h3, h4⟩ := row_handed hrow
  refine ⟨p, cap, rfl, h1, h2, h3, fun hl => ?_⟩
  obtain ⟨b, hp, hb, hc⟩ := h4 hl
  refine ⟨b, 0, hp, hb, fun i hi => ?_⟩
  obtain ⟨c, ht, hj⟩ := h.at i hi
  have hr := ht.raw (hs _ (List.getElem_mem hi))
  obtain ⟨va, vn, rfl, -⟩ := ht
  have e0 := hj 0 (by decide); have e1 := hj 1 (by decide); have e2 := hj 2 (by decide); have e3 := hj 3 (by decide); have e4 := hj 4 (by decide)
  exact ⟨_, _, _, _, _, by rw [Nat.zero_add]; exact hc _ _ e0, by rw [Nat.zero_add]; exact hc _ _ e1, by rw [Nat.zero_add]; exact hc _ _ e2, by rw [Nat.zero_add]; exact hc _ _ e3, by rw [Nat.zero_add]; exact hc _ _ e4, hr⟩
/-- terms in rows of the call's own, from block B on -/
def TmsOwn (B : Nat) (w : World) (v : Value) (l : List Tm) : Prop := ∃ cs, w.ownsRow B 71 5 v l.length cs ∧ TmRows w (fun k => B ≤ k) (.slice none 0 0) l cs
theorem TmRows.below {w w' : World} {S : Nat → Prop} {vo : Value} {l : List Tm} {cs : List Value} (h : TmRows w S vo l cs) (hb : Below w.heap.size w w') : TmRows w' S vo l cs :=
  h.stays (fun _ h => h) (fun k _ hc => by rcases hc with ⟨cc, hc⟩ | ⟨⟨cc, hc⟩, _⟩ <;> exact hb.block k (lt_of_block hc)) (.inl rfl)
theorem TmsOwn.below {B : Nat} {w w' : World} {v : Value} {l : List Tm} (h : TmsOwn B w v l) (hb : Below w.heap.size w w') : TmsOwn B w' v l := by
  obtain ⟨cs, h1, h2⟩ := h
  exact ⟨cs, ownsRow_later h1 hb, h2.below hb⟩
theorem TmsOwn.in {B : Nat} {w : World} {v : Value} {l : List Tm} (h : TmsOwn B w v l) (hs : ∀ t ∈ l, sz W t.num.natAbs ≤ 1099511627776) : TmsIn w v l := by
  obtain ⟨cs, h1, h2⟩ := h
  exact h2.in (ownsRow_mono h1 (Nat.zero_le _)) hs
/-- rows of terms stay when a row of terms grows -/
theorem TmRows.grown {w w' : World} {S : Nat → Prop} {l : List Tm} {cs : List Value} {v : Value} {B n : Nat} {xs : List Value} (h : TmRows w S (.slice none 0 0) l cs) (hr : w.ownsRow B 71 5 v n xs) (hg : w.grownBy w' v.ownBlock) : TmRows w' S (.slice none 0 0) l cs :=
  h.stays (fun _ h => h) (fun k _ hc => by
    have hne : ∀ (c : Array Value) t, w.heap[k]? = some (.cells c t (0, 0)) → t ≠ 71 → some k ≠ v.ownBlock := fun c t hc hne e => by
      obtain ⟨c', hc'⟩ := row_tag hr k e.symm
      exact tag_ne hc hc' hne rfl
    rcases hc with ⟨cc, hc⟩ | ⟨⟨cc, hc⟩, _⟩
    · exact hg.block k (lt_of_block hc) (hne _ _ hc (by decide))
    · exact hg.block k (lt_of_block hc) (hne _ _ hc (by decide))) (.inl rfl)
end Go.Proofs.YtckkpolikdnilaaGreatDoor
/- (*pool.Pool).Rows. -/
namespace Go.Proofs.YtckkpolikdnilaaGreatDoor
open Go.RowKit Big Go.WideMaps

theorem TmsOwn.mono {B B' : Nat} {w : World} {v : Value} {l : List Tm} (h : TmsOwn B w v l) (hb : B' ≤ B) : TmsOwn B' w v l := by
  obtain ⟨cs, h1, h2⟩ := h
  refine ⟨cs, ownsRow_mono h1 hb, h2.stays (fun k hk => Nat.le_trans hb hk) (fun _ _ _ => rfl) (.inl rfl)⟩
theorem TmsOwn.setFar {B : Nat} {w : World} {v : Value} {l : List Tm} (h : TmsOwn B w v l) (a : Addr) (u : Value) (ha : a.block < B) : TmsOwn B (w.setCell a u) v l := by
  obtain ⟨cs, h1, h2⟩ := h
  exact ⟨cs, ownsRow_setCell_below h1 ha u, h2.stays (fun _ h => h) (fun k hk _ => Below.heap_setCell _ _ _ _ (by have : B ≤ k := hk; omega)) (.inl rfl)⟩
def symF (B : Nat) (l : List Sy) : SFact := ⟨fun v w => w.ownsRow B 39 3 v l.length (syCells l), fun _ _ _ h hb => ownsRow_later h hb⟩
def tmsF (B : Nat) (l : List Tm) : SFact := ⟨fun v w => TmsOwn B w v l, fun _ _ _ h hb => h.below hb⟩
/-- rows in memory of the call's own -/
def RowsOwn (B : Nat) (w : World) (v : Value) (s : List Sy) (t : List Tm) : Prop := ∃ a b, v = .agg #[a, b] ∧ w.ownsRow B 39 3 a s.length (syCells s) ∧ TmsOwn B w b t
theorem RowsOwn.below {B : Nat} {w w' : World} {v : Value} {s : List Sy} {t : List Tm} (h : RowsOwn B w v s t) (hb : Below w.heap.size w w') : RowsOwn B w' v s t := by
  obtain ⟨a, b, h1, h2, h3⟩ := h
  exact ⟨a, b, h1, ownsRow_later h2 hb, h3.below hb⟩
def rowsF (B : Nat) (s : List Sy) (t : List Tm) : SFact := ⟨fun v w => RowsOwn B w v s t, fun _ _ _ h hb => h.below hb⟩
end Go.Proofs.YtckkpolikdnilaaGreatDoor
/- elenchusref04.Sort, counts: over rows that may be. -/
namespace Go.Proofs.YtckkpolikdnilaaGreatDoor
open Go.RowKit Big Go.WideMaps

/-- rows of which each term was made over those ahead -/
def PoGood (p : Po) : Prop := p.sorts.length = p.terms.length ∧ p.terms.length ≤ 4096 ∧ p.syms.length ≤ 256 ∧ ∀ k (h : k < p.terms.length), (p.terms[k].op = 4 → ∃ j : Nat, p.terms[k].sym = (j : Nat) ∧ j < p.syms.length) ∧ (p.terms[k].op = 9 → ∃ (h1 : 1 < p.terms[k].args.length) (j : Nat), p.terms[k].args[1] = (j : Nat) ∧ j < k) ∧
  1 ≤ p.terms[k].op ∧ p.terms[k].op ≤ 13 ∧ plSortAt p (k : Nat) = plSort p p.terms[k]
/-- rows that are handed in -/
def RwIn (w : World) (v : Value) (s : List Sy) (t : List Tm) : Prop := ∃ a b, v = .agg #[a, b] ∧ SyIn w a s ∧ TmsIn w b t
theorem RwIn.below {w w' : World} {v : Value} {s : List Sy} {t : List Tm} (h : RwIn w v s t) (hb : Below w.heap.size w w') : RwIn w' v s t := by
  obtain ⟨a, b, e, h1, h2⟩ := h
  exact ⟨a, b, e, h1.below hb, h2.below hb⟩
theorem plSort_three (p : Po) (t : Tm) (h : t.op = 3 ∨ t.op = 12 ∨ t.op = 13) : plSort p t = 2 := by
  unfold plSort
  rcases h with h | h | h <;> rw [if_neg (by omega), if_neg (by omega), h] <;> rfl
theorem plSort_bool (p : Po) (t : Tm) (h1 : 1 ≤ t.op) (h2 : t.op ≤ 13) (h3 : t.op ≠ 3) (h4 : t.op ≠ 4) (h9 : t.op ≠ 9) (h12 : t.op ≠ 12) (h13 : t.op ≠ 13) : plSort p t = 1 := by
  unfold plSort
  rw [if_neg h4, if_neg h9]
  have : t.op = 1 ∨ t.op = 2 ∨ t.op = 5 ∨ t.op = 6 ∨ t.op = 7 ∨ t.op = 8 ∨ t.op = 10 ∨ t.op = 11 := by omega
  rcases this with h | h | h | h | h | h | h | h <;> rw [h] <;> rfl
set_option maxRecDepth 100000 in
set_option maxHeartbeats 12800000 in
theorem RSort_any (p : Po) (hp : PoGood p) : ∀ (k : Nat) (v : Value) (w : World), RwIn w v p.syms p.terms → k < p.terms.length → Calls Tryz.prog 20 #[v, .int .i64 (k : Nat)] w (RNum .i64 (plSortAt p (k : Nat)) w) := by
  intro k
  induction k using Nat.strongRecOn with
  | _ k ih =>
  intro v w hr hk
  have Hr := hid hr
  obtain ⟨va, vb, rfl, hs, ht⟩ := hr
  obtain ⟨h4, h9, hlo, hhi, hso⟩ := hp.2.2.2 k hk
  obtain ⟨pa, ca, rfl, a1, a2, a3, a4⟩ := hs
  obtain ⟨pb, cb, rfl, b1, b2, b3, b4⟩ := ht
  obtain ⟨bb, off, rfl, j1, j2⟩ := b4 (by omega)
  obtain ⟨c0, c1, c2, c3, c4, m0, m1, m2, m3, m4, hraw⟩ := j2 k hk
  have hkl : (k : Int) < (p.terms.length : Nat) := by omega
  rw [hso]
  obtain ⟨x, hx⟩ : ∃ x, x = p.terms[k] := ⟨_, rfl⟩
  rw [← hx] at hraw h4 h9 hlo hhi ⊢
  obtain ⟨pc, cc, b, pm, nm, cm, ea, hargs, -⟩ := hraw
  simp only [Value.agg.injEq, Array.mk.injEq, List.cons.injEq, and_true] at ea
  obtain ⟨rfl, rfl, rfl, rfl, rfl⟩ := ea
  have Hx := hid hx
  clear hx
  obtain ⟨op, ar, nu, sy⟩ := x
  dsimp only at *
  have bx := below1 w (.cells #[.slice pa p.syms.length ca, .slice (some ⟨bb, off, none⟩) p.terms.length cb] 25)
  have hx0 := heap_alloc_new w (.cells #[.slice pa p.syms.length ca, .slice (some ⟨bb, off, none⟩) p.terms.length cb] 25)
  have q := two_cells hx0
  obtain ⟨q0, q1, -, -⟩ := q
  have hz := size_alloc w (.cells #[.slice pa p.syms.length ca, .slice (some ⟨bb, off, none⟩) p.terms.length cb] 25)
  have m0 := (bx.cell (p := ⟨bb, off + k * 5, none⟩) j1).trans m0
  have m1 := (bx.cell (p := ⟨bb, off + k * 5 + 1, none⟩) j1).trans m1
  have m2 := (bx.cell (p := ⟨bb, off + k * 5 + 2, none⟩) j1).trans m2
  have m3 := (bx.cell (p := ⟨bb, off + k * 5 + 3, none⟩) j1).trans m3
  have m4 := (bx.cell (p := ⟨bb, off + k * 5 + 4, none⟩) j1).trans m4
  have by_ := below1 (w.alloc (.cells #[.slice pa p.syms.length ca, .slice (some ⟨bb, off, none⟩) p.terms.length cb] 25)) (.cells #[.int .i64 op, .slice pc ar.length cc, .bool b, .slice pm nm cm, .int .i64 sy] 71)
  have hy0 := heap_alloc_new (w.alloc (.cells #[.slice pa p.syms.length ca, .slice (some ⟨bb, off, none⟩) p.terms.length cb] 25)) (.cells #[.int .i64 op, .slice pc ar.length cc, .bool b, .slice pm nm cm, .int .i64 sy] 71)
  rw [hz] at hy0
  have hx1 := (by_.block w.heap.size (by omega)).trans hx0
  have bw := bel_go by_ bx
  have qy := five_cells hy0
  have q1' := two_cells hx1
  unfold maxLen at b2 a2
  clear hso j2 b4 hx0 hy0 hx1 b3 a3
  by_cases c3 : op = 3 ∨ op = 12 ∨ op = 13
  · have hsr := plSort_three p ⟨op, ar, nu, sy⟩ c3
    rw [hsr]
    obtain ⟨y0, -, -, -, -⟩ := qy
    clear hsr a4 h4 h9 hargs q1' Hr ih
    clear hlo hhi
    rcases c3 with rfl | rfl | rfl
    all_goals
      go_enter Tryz.func20, Tryz.ntmps20
      go_wp2
      go_ret
      exact ⟨rfl, bw⟩
  · by_cases c4 : op = 4
    · obtain ⟨j, hj, hjl⟩ := h4 c4
      obtain ⟨ba, offa, rfl, k1, k2⟩ := a4 (by omega)
      have n2 := (k2 j hjl).2.2
      have hjl' : (j : Int) < (p.syms.length : Nat) := by omega
      have n2 := (bw.cell (p := ⟨ba, offa + j * 3 + 2, none⟩) k1).trans n2
      have hsr : plSort p ⟨op, ar, nu, sy⟩ = p.syms[j].sort := by
        unfold plSort plSymAt
        rw [if_pos c4, hj]
        simp [hjl]
      rw [hsr]
      clear hsr h4 h9 c3 hlo hhi Hx
      subst c4 hj
      obtain ⟨y0, -, -, -, y4⟩ := qy
      obtain ⟨z0, z1, -, -⟩ := q1'
      clear a4 k2 hargs Hr ih
      generalize p.syms[j].sort = so at *
      go_enter Tryz.func20, Tryz.ntmps20
      go_wp2
      go_ret
      exact ⟨rfl, bw⟩
    · by_cases c9 : op = 9
      · obtain ⟨hl1, j, hj, hjk⟩ := h9 c9
        obtain ⟨pc', cc', e, i1, i2, i3, i4⟩ := hargs
        cases e
        obtain ⟨bc, offc, rfl, o1, o2⟩ := i4 (by omega)
        have n1 := o2 1 hl1
        rw [hj] at n1
        have n1 := (bw.cell (p := ⟨bc, offc + 1, none⟩) o1).trans n1
        have hl1' : (1 : Int) < (ar.length : Nat) := by omega
        have hih := fun W (hW : Below w.heap.size w W) => ih j hjk _ W (Hr.out.below hW) (by omega)
        have Hih := hid hih
        have hsr : plSort p ⟨op, ar, nu, sy⟩ = plSortAt p (j : Nat) := by
          unfold plSort
          rw [if_neg c4, if_pos c9, List.getElem?_eq_getElem hl1, hj]
          rfl
        rw [hsr]
        clear hsr h4 h9 c3 c4 hlo hhi Hx
        subst c9
        obtain ⟨y0, y1, -, -, -⟩ := qy
        obtain ⟨z0, z1, -, -⟩ := q1'
        clear o2 i4 Hr ih hj hih a4 i3
        go_enter Tryz.func20, Tryz.ntmps20
        go_upto_region 10 with fail
        generalize hW : ((w.alloc (.cells #[.slice pa p.syms.length ca, .slice (some ⟨bb, off, none⟩) p.terms.length cb] 25)).alloc (.cells #[.int .i64 9, .slice (some ⟨bc, offc, none⟩) ar.length cc, .bool b, .slice pm nm cm, .int .i64 sy] 71)) = W2 at *
        clear hW
        have hz2 := by_.size
        have HS : Hid (∀ w', Below W2.heap.size W2 w' → w'.cell? ⟨w.heap.size, 0, none⟩ = some (.slice pa p.syms.length ca) ∧ w'.cell? ⟨w.heap.size, 1, none⟩ = some (.slice (some ⟨bb, off, none⟩) p.terms.length cb) ∧ w'.cell? ⟨w.heap.size + 1, 1, none⟩ = some (.slice (some ⟨bc, offc, none⟩) ar.length cc) ∧ w'.cell? ⟨bc, offc + 1, none⟩ = some (.int .i64 (j : Nat))) := hid fun w' hb =>
          ⟨(hb.cell (p := ⟨w.heap.size, 0, none⟩) (World.block_lt_of_cell? _ _ z0)).trans z0, (hb.cell (p := ⟨w.heap.size, 1, none⟩) (World.block_lt_of_cell? _ _ z1)).trans z1, (hb.cell (p := ⟨w.heap.size + 1, 1, none⟩) (World.block_lt_of_cell? _ _ y1)).trans y1, (hb.cell (p := ⟨bc, offc + 1, none⟩) (World.block_lt_of_cell? _ _ n1)).trans n1⟩
        clear z0 z1 y0 y1 n1 m0 m1 m2 m3 m4 q0 q1
        refine wp_region_facts (w0 := W2) 7 0 [28, 29, 30, 31, 32, 33, 4] [undef, undef, undef, undef, undef, undef, .int .i64 0]
          (fun i => match i with | 0 => eqD (.agg #[.slice pa p.syms.length ca, .slice (some ⟨bb, off, none⟩) p.terms.length cb]) | 1 => eqD (.pointer (some ⟨w.heap.size + 1, 1, none⟩)) | 2 => eqD (.slice (some ⟨bc, offc, none⟩) ar.length cc) | 3 => eqD (.pointer (some ⟨bc, offc + 1, none⟩)) | 4 => eqD (.int .i64 (j : Nat)) | 5 => eqD (.int .i64 (plSortAt p (j : Nat))) | _ => eqD (.int .i64 (plSortAt p (j : Nat)))) [] (by kernel_rfl) (by kernel_rfl) (by kernel_rfl) (by kernel_rfl) (by decide) rfl (by kernel_rfl) rfl (by simp) ?he1 ?_ ?_ ?_
        case he1 => simp only [putAll, Act.put, List.setIfInBounds_toArray, List.set_cons_zero, List.set_cons_succ]
        · intro i hi; simp at hi
        · intro i o hi ho vs wx hvl hb hdep K hK
          have hvs := vlen7 hvl
          obtain ⟨s28, s29, s30, s31, s32, s33, s4, rfl⟩ := hvs
          clear hvl
          have hk := HS.out wx hb
          go_split_ands
          rcases i with _ | _ | _ | _ | _ | _ | _ | i
          all_goals (simp only [List.getElem?_toArray, List.getElem?_cons_zero, List.getElem?_cons_succ, Option.some.injEq] at ho)
          all_goals try (subst ho)
          all_goals try simp only [putAll, Act.put, List.setIfInBounds_toArray, List.set_cons_zero, List.set_cons_succ]
          · go_simp
            have hK' := hK.out
            simp only [putAll, Act.put, List.setIfInBounds_toArray, List.set_cons_zero, List.set_cons_succ] at hK'
            exact hK' _ _ rfl (Below.refl _ _) (by simp)
          · go_simp
            have hK' := hK.out
            simp only [putAll, Act.put, List.setIfInBounds_toArray, List.set_cons_zero, List.set_cons_succ] at hK'
            exact hK' _ _ rfl (Below.refl _ _) (by simp)
          · have e1 : s29 = _ := hdep ⟨1, .data⟩ (by simp) rfl
            have e1 := e1.symm
            subst e1
            go_simp
            have hK' := hK.out
            simp only [putAll, Act.put, List.setIfInBounds_toArray, List.set_cons_zero, List.set_cons_succ] at hK'
            exact hK' _ _ rfl (Below.refl _ _) (by simp)
          · have e2 : s30 = _ := hdep ⟨2, .data⟩ (by simp) rfl
            have e2 := e2.symm
            subst e2
            go_simp
            have hK' := hK.out
            simp only [putAll, Act.put, List.setIfInBounds_toArray, List.set_cons_zero, List.set_cons_succ] at hK'
            exact hK' _ _ rfl (Below.refl _ _) (by simp)
          · have e3 : s31 = _ := hdep ⟨3, .data⟩ (by simp) rfl
            have e3 := e3.symm
            subst e3
            go_simp
            have hK' := hK.out
            simp only [putAll, Act.put, List.setIfInBounds_toArray, List.set_cons_zero, List.set_cons_succ] at hK'
            exact hK' _ _ rfl (Below.refl _ _) (by simp)
          · have e0 : s28 = _ := hdep ⟨0, .data⟩ (by simp) rfl
            have e0 := e0.symm
            subst e0
            have e4 : s32 = _ := hdep ⟨4, .data⟩ (by simp) rfl
            have e4 := e4.symm
            subst e4
            go_simp
            go_simp
            refine (Hih.out _ (bel_go hb bw)).mono ?_
            rintro e wy ⟨rfl, hby⟩
            go_wp2_with fail
            have hK' := hK.out
            simp only [putAll, Act.put, List.setIfInBounds_toArray, List.set_cons_zero, List.set_cons_succ] at hK'
            exact hK' _ _ rfl hby (by simp)
          · have e5 : s33 = _ := hdep ⟨5, .data⟩ (by simp) rfl
            have e5 := e5.symm
            subst e5
            go_simp
            have hK' := hK.out
            simp only [putAll, Act.put, List.setIfInBounds_toArray, List.set_cons_zero, List.set_cons_succ] at hK'
            exact hK' _ _ rfl (Below.refl _ _) (by simp)
          · omega
        · intro vs wx hvl hb hf hdist
          have hvs := vlen7 hvl
          obtain ⟨s28, s29, s30, s31, s32, s33, s4, rfl⟩ := hvs
          have f6 : s4 = .int .i64 (plSortAt p (j : Nat)) := hf 6 (by decide)
          subst f6
          clear hf hdist hvl
          refine wpAny_done (by kernel_rfl) ?_ _
          simp only [putAll, Act.put, List.setIfInBounds_toArray, List.set_cons_zero, List.set_cons_succ]
          have hfin := bel_go hb bw
          go_wp2
          go_ret
          exact ⟨rfl, hfin⟩
      · have hsr := plSort_bool p ⟨op, ar, nu, sy⟩ hlo hhi (by show op ≠ 3; omega) c4 c9 (by show op ≠ 12; omega) (by show op ≠ 13; omega)
        rw [hsr]
        obtain ⟨y0, -, -, -, -⟩ := qy
        clear hsr a4 h4 h9 hargs q1' Hr ih
        have d3 : (op == 3) = false := by simp; omega
        have d12 : (op == 12) = false := by simp; omega
        have d13 : (op == 13) = false := by simp; omega
        have d4 : (op == 4) = false := by simp; omega
        have d9 : (op == 9) = false := by simp; omega
        clear c3 c4 c9
        go_enter Tryz.func20, Tryz.ntmps20
        go_wp2
        go_ret
        exact ⟨rfl, bw⟩
end Go.Proofs.YtckkpolikdnilaaGreatDoor
/- elenchusref04.counts. -/
namespace Go.Proofs.YtckkpolikdnilaaGreatDoor
open Go.RowKit Big Go.WideMaps

def plLeast (p : Po) (t : Tm) : Int := if t.op = 4 then (plSymAt p t.sym).arity else (plRu t.op).least
def plMost (p : Po) (t : Tm) : Int := if t.op = 4 then (plSymAt p t.sym).arity else (plRu t.op).most
set_option maxRecDepth 100000 in
set_option maxHeartbeats 12800000 in
theorem counts_any (p : Po) (t : Tm) (v vt : Value) (w : World) (hr : RwIn w v p.syms p.terms) (ht : TmRaw w vt t) (hlo : 1 ≤ t.op) (hhi : t.op ≤ 13) (hs : plNoSym p t = false) :
    Calls Tryz.prog 93 #[v, vt] w (RTwo (plLeast p t) (plMost p t) w) := by
  obtain ⟨va, vb, rfl, hs', ht'⟩ := hr
  obtain ⟨pa, ca, rfl, a1, a2, a3, a4⟩ := hs'
  obtain ⟨pb, cb, rfl, -, -, -, -⟩ := ht'
  obtain ⟨pc, cc, b, pm, nm, cm, rfl, -, -⟩ := ht
  have bx := below1 w (.cells #[.slice pa p.syms.length ca, .slice pb p.terms.length cb] 25)
  have hx0 := heap_alloc_new w (.cells #[.slice pa p.syms.length ca, .slice pb p.terms.length cb] 25)
  have hz := size_alloc w (.cells #[.slice pa p.syms.length ca, .slice pb p.terms.length cb] 25)
  have by_ := below1 (w.alloc (.cells #[.slice pa p.syms.length ca, .slice pb p.terms.length cb] 25)) (.cells #[.int .i64 t.op, .slice pc t.args.length cc, .bool b, .slice pm nm cm, .int .i64 t.sym] 71)
  have hy0 := heap_alloc_new (w.alloc (.cells #[.slice pa p.syms.length ca, .slice pb p.terms.length cb] 25)) (.cells #[.int .i64 t.op, .slice pc t.args.length cc, .bool b, .slice pm nm cm, .int .i64 t.sym] 71)
  rw [hz] at hy0
  have hx1 := (by_.block w.heap.size (by omega)).trans hx0
  have bw := bel_go by_ bx
  have qy := five_cells hy0
  have qx := two_cells hx1
  obtain ⟨y0, -, -, -, y4⟩ := qy
  obtain ⟨z0, -, -, -⟩ := qx
  unfold maxLen at a2
  clear hx0 hy0 hx1 a3 hz by_
  obtain ⟨op, ar, nu, sy⟩ := t
  dsimp only at *
  by_cases c4 : op = 4
  · subst c4
    have hsy : ∃ j : Nat, sy = (j : Nat) ∧ j < p.syms.length := by
      unfold plNoSym at hs
      simp at hs
      exact ⟨sy.toNat, by omega, by omega⟩
    obtain ⟨j, rfl, hjl⟩ := hsy
    obtain ⟨ba, offa, rfl, k1, k2⟩ := a4 (by omega)
    have n1 := (k2 j hjl).2.1
    have n1 := (bw.cell (p := ⟨ba, offa + j * 3 + 1, none⟩) k1).trans n1
    have hjl' : (j : Int) < (p.syms.length : Nat) := by omega
    have hl : plLeast p ⟨4, ar, nu, (j : Nat)⟩ = p.syms[j].arity := by unfold plLeast plSymAt; simp [hjl]
    have hm : plMost p ⟨4, ar, nu, (j : Nat)⟩ = p.syms[j].arity := by unfold plMost plSymAt; simp [hjl]
    rw [hl, hm]
    clear hl hm k2 a4 hs bx
    generalize p.syms[j].arity = n at *
    go_enter Tryz.func93, Tryz.ntmps93
    go_wp2_with fail
    go_quiet (fail)
    go_wp2
    go_ret2
    exact ⟨rfl, below_drewN bw _⟩
  · clear a4 hs bx z0
    have hc : op = 1 ∨ op = 2 ∨ op = 3 ∨ op = 5 ∨ op = 6 ∨ op = 7 ∨ op = 8 ∨ op = 9 ∨ op = 10 ∨ op = 11 ∨ op = 12 ∨ op = 13 := by omega
    clear hlo hhi c4
    rcases hc with rfl | rfl | rfl | rfl | rfl | rfl | rfl | rfl | rfl | rfl | rfl | rfl
    all_goals
      go_enter Tryz.func93, Tryz.ntmps93
      go_wp2
      go_ret2
      exact ⟨rfl, bw⟩
end Go.Proofs.YtckkpolikdnilaaGreatDoor
/- elenchusref04.CheckTerm. -/
namespace Go.Proofs.YtckkpolikdnilaaGreatDoor
open Go.RowKit Big Go.WideMaps

theorem wrong_form {p : Po} {t : Tm} (h : plBadForm t = true) : plWrong p t = 6 := by unfold plWrong; rw [if_pos h]
theorem wrong_sym {p : Po} {t : Tm} (h : plBadForm t = false) (h1 : plNoSym p t = true) : plWrong p t = 7 := by unfold plWrong; rw [if_neg (by simp [h]), if_pos h1]
theorem wrong_part {p : Po} {t : Tm} (h : plBadForm t = false) (h1 : plNoSym p t = false) (h2 : plNoPart p t = true) : plWrong p t = 1 := by unfold plWrong; rw [if_neg (by simp [h]), if_neg (by simp [h1]), if_pos h2]
theorem wrong_count {p : Po} {t : Tm} (h : plBadForm t = false) (h1 : plNoSym p t = false) (h2 : plNoPart p t = false) (h3 : plBadCount p t = true) : plWrong p t = 9 := by unfold plWrong; rw [if_neg (by simp [h]), if_neg (by simp [h1]), if_neg (by simp [h2]), if_pos h3]
theorem wrong_sort {p : Po} {t : Tm} (h : plBadForm t = false) (h1 : plNoSym p t = false) (h2 : plNoPart p t = false) (h3 : plBadCount p t = false) (h4 : plBadSort p t = true) : plWrong p t = 8 := by unfold plWrong; rw [if_neg (by simp [h]), if_neg (by simp [h1]), if_neg (by simp [h2]), if_neg (by simp [h3]), if_pos h4]
theorem wrong_none {p : Po} {t : Tm} (h : plBadForm t = false) (h1 : plNoSym p t = false) (h2 : plNoPart p t = false) (h3 : plBadCount p t = false) (h4 : plBadSort p t = false) : plWrong p t = 0 := by unfold plWrong; rw [if_neg (by simp [h]), if_neg (by simp [h1]), if_neg (by simp [h2]), if_neg (by simp [h3]), if_neg (by simp [h4])]
/-- the reference's first two tests, in its words -/
def rfForm (t : Tm) : Bool := (t.op != 3 && t.op != 13 && t.num.sign != 0) || (t.op != 4 && t.sym != 0)
theorem rule_out {op : Int} (h : ¬ (1 ≤ op ∧ op ≤ 13)) : plRule op = none := by
  unfold plRule
  rw [if_neg (by omega), if_neg (by omega), if_neg (by omega), if_neg (by omega), if_neg (by omega), if_neg (by omega), if_neg (by omega), if_neg (by omega), if_neg (by omega), if_neg (by omega)]
theorem sign_ne (z : Int) : (z.sign != 0) = (z != 0) := by
  rcases Int.lt_trichotomy z 0 with h | h | h
  · rw [Int.sign_eq_neg_one_of_neg h]; simp; omega
  · rw [h]; rfl
  · rw [Int.sign_eq_one_of_pos h]; simp; omega
theorem badForm_in {t : Tm} (h0 : 1 ≤ t.op) (h1 : t.op ≤ 13) : plBadForm t = rfForm t := by
  unfold plBadForm rfForm
  rw [sign_ne]
  have hc : t.op = 1 ∨ t.op = 2 ∨ t.op = 3 ∨ t.op = 4 ∨ t.op = 5 ∨ t.op = 6 ∨ t.op = 7 ∨ t.op = 8 ∨ t.op = 9 ∨ t.op = 10 ∨ t.op = 11 ∨ t.op = 12 ∨ t.op = 13 := by omega
  rcases hc with h | h | h | h | h | h | h | h | h | h | h | h | h <;> rw [h] <;> simp [plRu, plRule]
theorem badForm_out {t : Tm} (h : ¬ (1 ≤ t.op ∧ t.op ≤ 13)) : plBadForm t = true := by
  unfold plBadForm
  rw [rule_out h]
  rfl
theorem badCount_eq (p : Po) (t : Tm) : plBadCount p t = (decide ((t.args.length : Int) < plLeast p t) || decide (plMost p t < (t.args.length : Int))) := by
  unfold plBadCount plLeast plMost
  split
  · rw [Bool.eq_iff_iff]; simp; omega
  · rfl
/-- what the reference wants of the part at place i -/
def rfWant (p : Po) (t : Tm) (i : Nat) : Int := if t.op = 4 ∨ t.op = 10 ∨ t.op = 11 ∨ t.op = 12 ∨ t.op = 13 then 2 else if t.op = 9 ∧ 0 < i then plSortAt p (t.args[1]?.getD 0) else 1
theorem want_eq (p : Po) (t : Tm) (i : Nat) (h0 : 1 ≤ t.op) (h1 : t.op ≤ 13) (hc : plBadCount p t = false) (hi : i < t.args.length) : plPart p t i = rfWant p t i := by
  unfold plPart rfWant
  have hn : ¬ (t.op = 1 ∨ t.op = 2 ∨ t.op = 3) := fun h => by
    unfold plBadCount at hc
    rw [if_neg (by omega)] at hc
    simp at hc
    have h2 := hc.2
    have : (plRu t.op).most = 0 := by rcases h with h | h | h <;> rw [h] <;> rfl
    omega
  by_cases h9 : t.op = 9
  · rw [h9]
    by_cases hp : 0 < i
    · simp [hp]
    · simp [hp, plRu, plRule]
  · rw [if_neg (fun h => h9 h.1), if_neg (c := t.op = 9 ∧ 0 < i) (fun h => h9 h.1)]
    have hcs : t.op = 4 ∨ t.op = 5 ∨ t.op = 6 ∨ t.op = 7 ∨ t.op = 8 ∨ t.op = 10 ∨ t.op = 11 ∨ t.op = 12 ∨ t.op = 13 := by omega
    rcases hcs with h | h | h | h | h | h | h | h | h <;> rw [h] <;> rfl
end Go.Proofs.YtckkpolikdnilaaGreatDoor
/- elenchusref04.CheckTerm, walked. -/
namespace Go.Proofs.YtckkpolikdnilaaGreatDoor
open Go.RowKit Big Go.WideMaps

theorem part_in {p : Po} {t : Tm} (h : plNoPart p t = false) (i : Nat) (hi : i < t.args.length) : ∃ m : Nat, t.args[i] = (m : Nat) ∧ m < p.terms.length := by
  have h0 : plNoTerm p t.args[i] = false := by
    cases hx : plNoTerm p t.args[i] with
    | false => rfl
    | true =>
      have h2 : plNoPart p t = true := List.any_eq_true.2 ⟨_, List.getElem_mem hi, hx⟩
      rw [h] at h2
      cases h2
  unfold plNoTerm at h0
  simp at h0
  exact ⟨t.args[i].toNat, by omega, by omega⟩
set_option maxRecDepth 100000 in
set_option maxHeartbeats 25600000 in
theorem CheckTerm_any (p : Po) (hp : PoGood p) (t : Tm) (v vt : Value) (w : World) (hr : RwIn w v p.syms p.terms) (ht : TmRaw w vt t) :
    Calls Tryz.prog 66 #[v, vt] w (RNum .i64 (plWrong p t) w) := by
  have Hr := hid hr
  have Ht := hid ht
  obtain ⟨va, vb, rfl, hs', ht'⟩ := hr
  obtain ⟨pa, ca, rfl, a1, a2, a3, a4⟩ := hs'
  obtain ⟨pb, cb, rfl, -, b2, -, -⟩ := ht'
  obtain ⟨pc, cc, b, pm, nm, cm, rfl, hargs, hnum⟩ := ht
  have hsg := fun W (hW : Below w.heap.size w W) => RSign_any (.agg #[.bool b, .slice pm nm cm]) t.num W (hnum.below hW)
  have bx := below1 w (.cells #[.slice pa p.syms.length ca, .slice pb p.terms.length cb] 25)
  have hx0 := heap_alloc_new w (.cells #[.slice pa p.syms.length ca, .slice pb p.terms.length cb] 25)
  have hz := size_alloc w (.cells #[.slice pa p.syms.length ca, .slice pb p.terms.length cb] 25)
  have by_ := below1 (w.alloc (.cells #[.slice pa p.syms.length ca, .slice pb p.terms.length cb] 25)) (.cells #[.int .i64 t.op, .slice pc t.args.length cc, .bool b, .slice pm nm cm, .int .i64 t.sym] 71)
  have hy0 := heap_alloc_new (w.alloc (.cells #[.slice pa p.syms.length ca, .slice pb p.terms.length cb] 25)) (.cells #[.int .i64 t.op, .slice pc t.args.length cc, .bool b, .slice pm nm cm, .int .i64 t.sym] 71)
  have hz2 := size_alloc (w.alloc (.cells #[.slice pa p.syms.length ca, .slice pb p.terms.length cb] 25)) (.cells #[.int .i64 t.op, .slice pc t.args.length cc, .bool b, .slice pm nm cm, .int .i64 t.sym] 71)
  rw [hz] at hy0 hz2
  have hx1 := (by_.block w.heap.size (by omega)).trans hx0
  have bw := bel_go by_ bx
  have Hsg := hid hsg
  obtain ⟨r, hrr⟩ : ∃ r, r = plWrong p t := ⟨_, rfl⟩
  rw [← hrr]
  have Hrr := hid hrr
  have Hcn := hid (fun W (hW : Below w.heap.size w W) h0 h1 h2 => counts_any p t _ _ W (Hr.out.below hW) (Ht.out.below hW) h0 h1 h2)
  have Hso := hid (fun k W (hW : Below w.heap.size w W) (hk : k < p.terms.length) => RSort_any p hp k _ W (Hr.out.below hW) hk)
  have hlen := hp.2.1
  clear hsg bx hx0 by_ hnum hrr
  unfold maxLen at a2 b2
  go_enter Tryz.func66, Tryz.ntmps66
  go_upto_region 1 with fail
  generalize hW : ((w.alloc (.cells #[.slice pa p.syms.length ca, .slice pb p.terms.length cb] 25)).alloc (.cells #[.int .i64 t.op, .slice pc t.args.length cc, .bool b, .slice pm nm cm, .int .i64 t.sym] 71)) = W2 at *
  clear hW hz
  have HX := hid hx1; have HY := hid hy0
  obtain ⟨z0, z1, -, -⟩ := two_cells hx1
  obtain ⟨y0, y1, y2, y3, y4⟩ := five_cells hy0
  clear hx1 hy0
  by_cases hop : 1 ≤ t.op ∧ t.op ≤ 13
  case neg =>
    have He := hid (show r = 6 by rw [Hrr.out]; exact wrong_form (badForm_out hop))
    by_cases h1 : t.op < 1
    · clear hop
      go_wp2
      go_ret
      exact ⟨by rw [He.out]; rfl, bw⟩
    · have h2 : 13 < t.op := by omega
      clear hop
      go_wp2
      go_ret
      exact ⟨by rw [He.out]; rfl, bw⟩
  case pos =>
  obtain ⟨hlo, hhi⟩ := hop
  have hbf := badForm_in hlo hhi
  have d1 : ¬ t.op < 1 := by omega
  have d2 : ¬ 13 < t.op := by omega
  go_upto_region 3 with fail
  cases hfm : rfForm t
  case true =>
    have He := hid (show r = 6 by rw [Hrr.out]; exact wrong_form (by rw [hbf, hfm]))
    unfold rfForm at hfm
    cases e3 : (t.op != 3)
    · cases e4 : (t.op != 4)
      · exfalso; rw [e3, e4] at hfm; cases hfm
      · cases e5 : (t.sym != 0)
        · exfalso; rw [e3, e4, e5] at hfm; cases hfm
        · clear hfm hbf
          go_wp2
          go_ret
          exact ⟨by rw [He.out]; rfl, bw⟩
    · cases e13 : (t.op != 13)
      · cases e4 : (t.op != 4)
        · exfalso; rw [e3, e13, e4] at hfm; cases hfm
        · cases e5 : (t.sym != 0)
          · exfalso; rw [e3, e13, e4, e5] at hfm; cases hfm
          · clear hfm hbf
            go_wp2
            go_ret
            exact ⟨by rw [He.out]; rfl, bw⟩
      · cases e6 : (t.num.sign != 0)
        · cases e4 : (t.op != 4)
          · exfalso; rw [e3, e13, e4, e6] at hfm; cases hfm
          · cases e5 : (t.sym != 0)
            · exfalso; rw [e3, e13, e4, e5, e6] at hfm; cases hfm
            · clear hfm hbf
              go_wp2_with fail
              refine (Hsg.out _ bw).mono ?_
              rintro e w3 ⟨rfl, b3⟩
              have y0 := (b3.cell (p := ⟨w.heap.size + 1, 0, none⟩) (by dsimp only; omega)).trans y0
              have y4 := (b3.cell (p := ⟨w.heap.size + 1, 4, none⟩) (by dsimp only; omega)).trans y4
              have bw3 := bel_go b3 bw
              clear z0 z1 y1 y2 y3 b3 bw
              go_wp2
              go_ret
              exact ⟨by rw [He.out]; rfl, bw3⟩
        · clear hfm hbf
          go_wp2_with fail
          refine (Hsg.out _ bw).mono ?_
          rintro e w3 ⟨rfl, b3⟩
          have bw3 := bel_go b3 bw
          clear z0 z1 y0 y1 y2 y3 y4 b3 bw
          go_wp2
          go_ret
          exact ⟨by rw [He.out]; rfl, bw3⟩
  case false =>
  have Hbf := hid (show plBadForm t = false by rw [hbf, hfm])
  have hcls : (t.op = 3 ∨ t.op = 13 ∨ (t.op = 4 ∧ t.num.sign = 0) ∨ ((t.op != 3) = true ∧ (t.op != 13) = true ∧ (t.op != 4) = true ∧ t.num.sign = 0)) ∧ ((t.op != 4) = true → (t.sym != 0) = false) := by
    unfold rfForm at hfm
    by_cases h3 : t.op = 3
    · simp [h3] at hfm ⊢; exact hfm
    · by_cases h13 : t.op = 13
      · simp [h13] at hfm ⊢; exact hfm
      · by_cases h4 : t.op = 4
        · simp [h4] at hfm ⊢; exact hfm
        · simp [h3, h13, h4] at hfm ⊢; exact hfm
  clear hfm hbf d1 d2
  obtain ⟨hcl, hsy⟩ := hcls
  have HZ : Hid (∀ w', Below W2.heap.size W2 w' → w'.cell? ⟨w.heap.size, 0, none⟩ = some (.slice pa p.syms.length ca) ∧ w'.cell? ⟨w.heap.size, 1, none⟩ = some (.slice pb p.terms.length cb) ∧ w'.cell? ⟨w.heap.size + 1, 0, none⟩ = some (.int .i64 t.op) ∧ w'.cell? ⟨w.heap.size + 1, 1, none⟩ = some (.slice pc t.args.length cc) ∧ w'.cell? ⟨w.heap.size + 1, 2, none⟩ = some (.bool b) ∧ w'.cell? ⟨w.heap.size + 1, 3, none⟩ = some (.slice pm nm cm) ∧ w'.cell? ⟨w.heap.size + 1, 4, none⟩ = some (.int .i64 t.sym)) := hid fun w' hb => ⟨(two_cells ((hb.block w.heap.size (by omega)).trans HX.out)).1, (two_cells ((hb.block w.heap.size (by omega)).trans HX.out)).2.1, five_cells ((hb.block (w.heap.size + 1) (by omega)).trans HY.out)⟩
  have HBw := hid bw
  rcases hcl with h3 | h13 | ⟨h4, hs0⟩ | ⟨e3, e13, e4, hs0⟩
  · have e3 : (t.op != 3) = false := by simp [h3]
    have e4 : (t.op != 4) = true := by simp [h3]
    have e5 := hsy e4
    have g4 : (t.op == 4) = false := by simp [h3]
    have Hns := hid (show plNoSym p t = false by unfold plNoSym; rw [g4]; rfl)
    have Hh3 := hid h3
    clear h3
    clear hsy
    go_upto_region 5 with fail
    clear z0 z1 y0 y1 y2 y3 y4 e3 e4 e5
    have Bz := hid (Below.refl W2.heap.size W2)
    obtain ⟨z0, z1, y0, y1, y2, y3, y4⟩ := HZ.out W2 Bz.out
    go_upto_region 7 with fail
    clear z0 z1 y0 y2 y3 y4
    go_wp2_with fail
    go_loopw [63] (fun i wr => ∃ k : Nat, k ≤ t.args.length ∧ i = .int .i64 (k : Nat) ∧ Hid ((t.args.take k).any (plNoTerm p) = false) ∧ Hid (Below W2.heap.size W2 wr)) (fun i _ => t.args.length - (intOf i).toNat)
    case atStart => exact ⟨0, Nat.zero_le _, rfl, hid rfl, hid (Below.refl _ _)⟩
    case round =>
      obtain ⟨k, hk, rfl, hany, Hb⟩ := hrel
      have Hbw := hid (bel_go Hb.out Bz.out)
      by_cases hlt : k < t.args.length
      · have hlt' : (k : Int) < (t.args.length : Nat) := by omega
        obtain ⟨_, _, e, i1, i2, i3, i4⟩ := hargs
        cases e
        obtain ⟨bb, off, rfl, o1, o2⟩ := i4 (by omega)
        have m1 := ((bel_go Hbw.out HBw.out).cell (p := ⟨bb, off + k, none⟩) o1).trans (o2 k hlt)
        have h0 := HZ.out wr Hbw.out
        obtain ⟨-, z1, -, -, -, -, -⟩ := h0
        have Hs1 := hid (any_take_succ (plNoTerm p) t.args k hlt hany.out)
        have Hs2 := hid (any_of_at (plNoTerm p) t.args k hlt)
        unfold maxLen at i2
        clear o2 i4 hany i3
        generalize t.args[k] = x at *
        cases hneg : decide (x < 0)
        · cases hge : decide ((p.terms.length : Int) ≤ x)
          · have hf : plNoTerm p x = false := by unfold plNoTerm; rw [hneg, hge]; rfl
            have Hf := hid hf
            clear hf
            go_wp2_with fail
            go_roundw
            case rel => exact ⟨k + 1, by omega, rfl, hid (Hs1.out Hf.out), Hb⟩
            case measure => simp [intOf]; omega
          · have hf : plNoTerm p x = true := by unfold plNoTerm; rw [hneg, hge]; rfl
            have He := hid (show r = 1 by rw [Hrr.out]; exact wrong_part Hbf.out Hns.out (Hs2.out hf))
            clear hf
            go_wp2_with fail
            go_ret
            exact ⟨by rw [He.out]; rfl, bel_go Hbw.out HBw.out⟩
        · have hf : plNoTerm p x = true := by unfold plNoTerm; rw [hneg]; rfl
          have He := hid (show r = 1 by rw [Hrr.out]; exact wrong_part Hbf.out Hns.out (Hs2.out hf))
          clear hf
          go_wp2_with fail
          go_ret
          exact ⟨by rw [He.out]; rfl, bel_go Hbw.out HBw.out⟩
      · have hkk : k = t.args.length := by omega
        subst hkk
        have Hnp : Hid (plNoPart p t = false) := hid (by have := hany.out; rwa [List.take_length] at this)
        have h0 := HZ.out wr Hbw.out
        obtain ⟨z0, z1, y0, y1, y2, y3, y4⟩ := h0
        clear hany
        go_wp2_with fail
        refine (Hcn.out _ (bel_go Hbw.out HBw.out) hlo hhi Hns.out).mono ?_
        rintro e w5 ⟨rfl, b5⟩
        clear z0 z1 y0 y1 y2 y3 y4
        have Hb5 := hid (bel_go b5 Hbw.out)
        have h0 := HZ.out w5 Hb5.out
        obtain ⟨z0, z1, y0, y1, y2, y3, y4⟩ := h0
        have hbc := badCount_eq p t
        generalize plLeast p t = lst at *
        generalize plMost p t = mst at *
        clear b5 Hb Hbw
        cases e1 : decide ((t.args.length : Int) < lst)
        case true =>
          have He := hid (show r = 9 by rw [Hrr.out]; exact wrong_count Hbf.out Hns.out Hnp.out (by rw [hbc, e1]; rfl))
          clear hbc z0 z1 y0 y2 y3 y4
          go_wp2
          go_ret
          exact ⟨by rw [He.out]; rfl, bel_go Hb5.out HBw.out⟩
        case false =>
        cases e2 : decide (mst < (t.args.length : Int))
        case true =>
          have He := hid (show r = 9 by rw [Hrr.out]; exact wrong_count Hbf.out Hns.out Hnp.out (by rw [hbc, e1, e2]; rfl))
          clear hbc z0 z1 y0 y2 y3 y4
          go_wp2
          go_ret
          exact ⟨by rw [He.out]; rfl, bel_go Hb5.out HBw.out⟩
        case false =>
        have Hbc := hid (show plBadCount p t = false by rw [hbc, e1, e2]; rfl)
        clear hbc
        go_upto_region 16 with fail
        clear z0 z1 y0 y2 y3 y4 e1 e2
        go_wp2_with fail
        clear y1
        go_loopw [98] (fun i wr => ∃ k : Nat, k ≤ t.args.length ∧ i = .int .i64 (k : Nat) ∧ Hid (∀ i (hi : i < t.args.length), i < k → plBadAt p t i t.args[i] = false) ∧ Hid (Below w5.heap.size w5 wr)) (fun i _ => t.args.length - (intOf i).toNat)
        case atStart => exact ⟨0, Nat.zero_le _, rfl, hid (fun i _ h => absurd h (by omega)), hid (Below.refl _ _)⟩
        case round =>
          obtain ⟨k, hk, rfl, Hbad, Hb⟩ := hrel
          have Hbw := hid (bel_go Hb.out Hb5.out)
          by_cases hlt : k < t.args.length
          · have hlt' : (k : Int) < (t.args.length : Nat) := by omega
            obtain ⟨_, _, e, i1, i2, i3, i4⟩ := hargs
            cases e
            obtain ⟨bb, off, rfl, o1, o2⟩ := i4 (by omega)
            have m1 := ((bel_go Hbw.out HBw.out).cell (p := ⟨bb, off + k, none⟩) o1).trans (o2 k hlt)
            have hxm : ∃ m : Nat, t.args[k] = (m : Nat) ∧ m < p.terms.length := part_in Hnp.out k hlt
            obtain ⟨m, hxm, hm⟩ := hxm
            rw [hxm] at m1
            have Hxm := hid hxm
            have Hwe := hid (want_eq p t k hlo hhi Hbc.out hlt)
            unfold maxLen at i2
            clear hxm i3
            exfalso
            have h3 := Hh3.out
            have hq := Hbc.out
            unfold plBadCount at hq
            rw [if_neg (by omega), h3] at hq
            simp only [Bool.or_eq_false_iff, decide_eq_false_iff_not] at hq
            have h2 := hq.2
            rw [show (plRu 3).most = 0 from rfl] at h2
            omega
          · have hkk : k = t.args.length := by omega
            subst hkk
            have He := hid (show r = 0 by rw [Hrr.out]; exact wrong_none Hbf.out Hns.out Hnp.out Hbc.out (badSort_none p t fun i hi => Hbad.out i hi hi))
            go_wp2_with fail
            go_ret
            exact ⟨by rw [He.out]; rfl, bel_go Hbw.out HBw.out⟩
  · have e3 : (t.op != 3) = true := by simp [h13]
    have e13 : (t.op != 13) = false := by simp [h13]
    have e4 : (t.op != 4) = true := by simp [h13]
    have e5 := hsy e4
    have g4 : (t.op == 4) = false := by simp [h13]
    have Hns := hid (show plNoSym p t = false by unfold plNoSym; rw [g4]; rfl)
    have Hh13 := hid h13
    clear h13
    clear hsy
    go_upto_region 5 with fail
    clear z0 z1 y0 y1 y2 y3 y4 e3 e4 e5 e13
    have Bz := hid (Below.refl W2.heap.size W2)
    obtain ⟨z0, z1, y0, y1, y2, y3, y4⟩ := HZ.out W2 Bz.out
    go_upto_region 7 with fail
    clear z0 z1 y0 y2 y3 y4
    go_wp2_with fail
    go_loopw [63] (fun i wr => ∃ k : Nat, k ≤ t.args.length ∧ i = .int .i64 (k : Nat) ∧ Hid ((t.args.take k).any (plNoTerm p) = false) ∧ Hid (Below W2.heap.size W2 wr)) (fun i _ => t.args.length - (intOf i).toNat)
    case atStart => exact ⟨0, Nat.zero_le _, rfl, hid rfl, hid (Below.refl _ _)⟩
    case round =>
      obtain ⟨k, hk, rfl, hany, Hb⟩ := hrel
      have Hbw := hid (bel_go Hb.out Bz.out)
      by_cases hlt : k < t.args.length
      · have hlt' : (k : Int) < (t.args.length : Nat) := by omega
        obtain ⟨_, _, e, i1, i2, i3, i4⟩ := hargs
        cases e
        obtain ⟨bb, off, rfl, o1, o2⟩ := i4 (by omega)
        have m1 := ((bel_go Hbw.out HBw.out).cell (p := ⟨bb, off + k, none⟩) o1).trans (o2 k hlt)
        have h0 := HZ.out wr Hbw.out
        obtain ⟨-, z1, -, -, -, -, -⟩ := h0
        have Hs1 := hid (any_take_succ (plNoTerm p) t.args k hlt hany.out)
        have Hs2 := hid (any_of_at (plNoTerm p) t.args k hlt)
        unfold maxLen at i2
        clear o2 i4 hany i3
        generalize t.args[k] = x at *
        cases hneg : decide (x < 0)
        · cases hge : decide ((p.terms.length : Int) ≤ x)
          · have hf : plNoTerm p x = false := by unfold plNoTerm; rw [hneg, hge]; rfl
            have Hf := hid hf
            clear hf
            go_wp2_with fail
            go_roundw
            case rel => exact ⟨k + 1, by omega, rfl, hid (Hs1.out Hf.out), Hb⟩
            case measure => simp [intOf]; omega
          · have hf : plNoTerm p x = true := by unfold plNoTerm; rw [hneg, hge]; rfl
            have He := hid (show r = 1 by rw [Hrr.out]; exact wrong_part Hbf.out Hns.out (Hs2.out hf))
            clear hf
            go_wp2_with fail
            go_ret
            exact ⟨by rw [He.out]; rfl, bel_go Hbw.out HBw.out⟩
        · have hf : plNoTerm p x = true := by unfold plNoTerm; rw [hneg]; rfl
          have He := hid (show r = 1 by rw [Hrr.out]; exact wrong_part Hbf.out Hns.out (Hs2.out hf))
          clear hf
          go_wp2_with fail
          go_ret
          exact ⟨by rw [He.out]; rfl, bel_go Hbw.out HBw.out⟩
      · have hkk : k = t.args.length := by omega
        subst hkk
        have Hnp : Hid (plNoPart p t = false) := hid (by have := hany.out; rwa [List.take_length] at this)
        have h0 := HZ.out wr Hbw.out
        obtain ⟨z0, z1, y0, y1, y2, y3, y4⟩ := h0
        clear hany
        go_wp2_with fail
        refine (Hcn.out _ (bel_go Hbw.out HBw.out) hlo hhi Hns.out).mono ?_
        rintro e w5 ⟨rfl, b5⟩
        clear z0 z1 y0 y1 y2 y3 y4
        have Hb5 := hid (bel_go b5 Hbw.out)
        have h0 := HZ.out w5 Hb5.out
        obtain ⟨z0, z1, y0, y1, y2, y3, y4⟩ := h0
        have hbc := badCount_eq p t
        generalize plLeast p t = lst at *
        generalize plMost p t = mst at *
        clear b5 Hb Hbw
        cases e1 : decide ((t.args.length : Int) < lst)
        case true =>
          have He := hid (show r = 9 by rw [Hrr.out]; exact wrong_count Hbf.out Hns.out Hnp.out (by rw [hbc, e1]; rfl))
          clear hbc z0 z1 y0 y2 y3 y4
          go_wp2
          go_ret
          exact ⟨by rw [He.out]; rfl, bel_go Hb5.out HBw.out⟩
        case false =>
        cases e2 : decide (mst < (t.args.length : Int))
        case true =>
          have He := hid (show r = 9 by rw [Hrr.out]; exact wrong_count Hbf.out Hns.out Hnp.out (by rw [hbc, e1, e2]; rfl))
          clear hbc z0 z1 y0 y2 y3 y4
          go_wp2
          go_ret
          exact ⟨by rw [He.out]; rfl, bel_go Hb5.out HBw.out⟩
        case false =>
        have Hbc := hid (show plBadCount p t = false by rw [hbc, e1, e2]; rfl)
        clear hbc
        go_upto_region 16 with fail
        clear z0 z1 y0 y2 y3 y4 e1 e2
        go_wp2_with fail
        clear y1
        go_loopw [98] (fun i wr => ∃ k : Nat, k ≤ t.args.length ∧ i = .int .i64 (k : Nat) ∧ Hid (∀ i (hi : i < t.args.length), i < k → plBadAt p t i t.args[i] = false) ∧ Hid (Below w5.heap.size w5 wr)) (fun i _ => t.args.length - (intOf i).toNat)
        case atStart => exact ⟨0, Nat.zero_le _, rfl, hid (fun i _ h => absurd h (by omega)), hid (Below.refl _ _)⟩
        case round =>
          obtain ⟨k, hk, rfl, Hbad, Hb⟩ := hrel
          have Hbw := hid (bel_go Hb.out Hb5.out)
          by_cases hlt : k < t.args.length
          · have hlt' : (k : Int) < (t.args.length : Nat) := by omega
            obtain ⟨_, _, e, i1, i2, i3, i4⟩ := hargs
            cases e
            obtain ⟨bb, off, rfl, o1, o2⟩ := i4 (by omega)
            have m1 := ((bel_go Hbw.out HBw.out).cell (p := ⟨bb, off + k, none⟩) o1).trans (o2 k hlt)
            have hxm : ∃ m : Nat, t.args[k] = (m : Nat) ∧ m < p.terms.length := part_in Hnp.out k hlt
            obtain ⟨m, hxm, hm⟩ := hxm
            rw [hxm] at m1
            have Hxm := hid hxm
            have Hwe := hid (want_eq p t k hlo hhi Hbc.out hlt)
            unfold maxLen at i2
            clear hxm i3
            clear o2 i4
            have h13 := Hh13.out
            have g4 : (t.op == 4) = false := by simp; omega
            have g10 : (t.op == 10) = false := by simp; omega
            have g11 : (t.op == 11) = false := by simp; omega
            have g12 : (t.op == 12) = false := by simp; omega
            have g13 : (t.op == 13) = true := by simp; omega
            have hwant : rfWant p t k = 2 := by unfold rfWant; rw [if_pos (by omega)]
            have Hwant := hid hwant
            clear hwant h13
            have h0 := (HZ.out wr Hbw.out)
            obtain ⟨z0, z1, y0, y1, y2, y3, y4⟩ := h0
            go_upto_region 30 with fail
            clear y0 y1 y2 y3 y4
            go_wp2_with fail
            refine (Hso.out m _ (bel_go Hbw.out HBw.out) hm).mono ?_
            rintro e w6 ⟨rfl, b6⟩
            have HW6 := hid (bel_go b6 Hbw.out)
            have HB6 := hid (Hb.out.trans (b6.mono Hb.out.size))
            clear z0 z1 b6
            cases hne : (plSortAt p (m : Nat) != 2)
            · go_wp2_with fail
              go_roundw
              case rel =>
                refine ⟨k + 1, by omega, rfl, hid fun i hi hik => ?_, HB6⟩
                by_cases hie : i = k
                · subst hie
                  unfold plBadAt
                  rw [Hwe.out, Hxm.out, Hwant.out]
                  exact hne
                · exact Hbad.out i hi (by omega)
              case measure => simp [intOf]; omega
            · have He := hid (show r = 8 by
                rw [Hrr.out]
                exact wrong_sort Hbf.out Hns.out Hnp.out Hbc.out (badSort_of p t k hlt (by unfold plBadAt; rw [Hwe.out, Hxm.out, Hwant.out]; exact hne)))
              go_wp2_with fail
              go_ret
              exact ⟨by rw [He.out]; rfl, bel_go HW6.out HBw.out⟩
          · have hkk : k = t.args.length := by omega
            subst hkk
            have He := hid (show r = 0 by rw [Hrr.out]; exact wrong_none Hbf.out Hns.out Hnp.out Hbc.out (badSort_none p t fun i hi => Hbad.out i hi hi))
            go_wp2_with fail
            go_ret
            exact ⟨by rw [He.out]; rfl, bel_go Hbw.out HBw.out⟩
  · have e3 : (t.op != 3) = true := by simp [h4]
    have e13 : (t.op != 13) = true := by simp [h4]
    have e4 : (t.op != 4) = false := by simp [h4]
    have e6 : (t.num.sign != 0) = false := by simp [hs0]
    have g4 : (t.op == 4) = true := by simp [h4]
    have Hh4 := hid h4
    clear h4
    clear hsy hs0
    go_wp2_with fail
    refine (Hsg.out _ HBw.out).mono ?_
    rintro e wz ⟨rfl, b3⟩
    have Bz := hid b3
    clear z0 z1 y0 y1 y2 y3 y4 b3
    obtain ⟨z0, z1, y0, y1, y2, y3, y4⟩ := HZ.out wz Bz.out
    go_upto_region 5 with fail
    clear e3 e13 e4 e6
    cases hneg : decide (t.sym < 0)
    case true =>
      have He := hid (show r = 7 by rw [Hrr.out]; exact wrong_sym Hbf.out (by unfold plNoSym; rw [g4, hneg]; rfl))
      go_wp2
      go_ret
      exact ⟨by rw [He.out]; rfl, bel_go Bz.out HBw.out⟩
    case false =>
    cases hge : decide ((p.syms.length : Int) ≤ t.sym)
    case true =>
      have He := hid (show r = 7 by rw [Hrr.out]; exact wrong_sym Hbf.out (by unfold plNoSym; rw [g4, hneg, hge]; rfl))
      go_wp2
      go_ret
      exact ⟨by rw [He.out]; rfl, bel_go Bz.out HBw.out⟩
    case false =>
    have Hns := hid (show plNoSym p t = false by unfold plNoSym; rw [g4, hneg, hge]; rfl)
    go_upto_region 7 with fail
    clear z0 z1 y0 y2 y3 y4 hneg hge
    go_wp2_with fail
    go_loopw [63] (fun i wr => ∃ k : Nat, k ≤ t.args.length ∧ i = .int .i64 (k : Nat) ∧ Hid ((t.args.take k).any (plNoTerm p) = false) ∧ Hid (Below wz.heap.size wz wr)) (fun i _ => t.args.length - (intOf i).toNat)
    case atStart => exact ⟨0, Nat.zero_le _, rfl, hid rfl, hid (Below.refl _ _)⟩
    case round =>
      obtain ⟨k, hk, rfl, hany, Hb⟩ := hrel
      have Hbw := hid (bel_go Hb.out Bz.out)
      by_cases hlt : k < t.args.length
      · have hlt' : (k : Int) < (t.args.length : Nat) := by omega
        obtain ⟨_, _, e, i1, i2, i3, i4⟩ := hargs
        cases e
        obtain ⟨bb, off, rfl, o1, o2⟩ := i4 (by omega)
        have m1 := ((bel_go Hbw.out HBw.out).cell (p := ⟨bb, off + k, none⟩) o1).trans (o2 k hlt)
        have h0 := HZ.out wr Hbw.out
        obtain ⟨-, z1, -, -, -, -, -⟩ := h0
        have Hs1 := hid (any_take_succ (plNoTerm p) t.args k hlt hany.out)
        have Hs2 := hid (any_of_at (plNoTerm p) t.args k hlt)
        unfold maxLen at i2
        clear o2 i4 hany i3
        generalize t.args[k] = x at *
        cases hneg : decide (x < 0)
        · cases hge : decide ((p.terms.length : Int) ≤ x)
          · have hf : plNoTerm p x = false := by unfold plNoTerm; rw [hneg, hge]; rfl
            have Hf := hid hf
            clear hf
            go_wp2_with fail
            go_roundw
            case rel => exact ⟨k + 1, by omega, rfl, hid (Hs1.out Hf.out), Hb⟩
            case measure => simp [intOf]; omega
          · have hf : plNoTerm p x = true := by unfold plNoTerm; rw [hneg, hge]; rfl
            have He := hid (show r = 1 by rw [Hrr.out]; exact wrong_part Hbf.out Hns.out (Hs2.out hf))
            clear hf
            go_wp2_with fail
            go_ret
            exact ⟨by rw [He.out]; rfl, bel_go Hbw.out HBw.out⟩
        · have hf : plNoTerm p x = true := by unfold plNoTerm; rw [hneg]; rfl
          have He := hid (show r = 1 by rw [Hrr.out]; exact wrong_part Hbf.out Hns.out (Hs2.out hf))
          clear hf
          go_wp2_with fail
          go_ret
          exact ⟨by rw [He.out]; rfl, bel_go Hbw.out HBw.out⟩
      · have hkk : k = t.args.length := by omega
        subst hkk
        have Hnp : Hid (plNoPart p t = false) := hid (by have := hany.out; rwa [List.take_length] at this)
        have h0 := HZ.out wr Hbw.out
        obtain ⟨z0, z1, y0, y1, y2, y3, y4⟩ := h0
        clear hany
        go_wp2_with fail
        refine (Hcn.out _ (bel_go Hbw.out HBw.out) hlo hhi Hns.out).mono ?_
        rintro e w5 ⟨rfl, b5⟩
        clear z0 z1 y0 y1 y2 y3 y4
        have Hb5 := hid (bel_go b5 Hbw.out)
        have h0 := HZ.out w5 Hb5.out
        obtain ⟨z0, z1, y0, y1, y2, y3, y4⟩ := h0
        have hbc := badCount_eq p t
        generalize plLeast p t = lst at *
        generalize plMost p t = mst at *
        clear b5 Hb Hbw
        cases e1 : decide ((t.args.length : Int) < lst)
        case true =>
          have He := hid (show r = 9 by rw [Hrr.out]; exact wrong_count Hbf.out Hns.out Hnp.out (by rw [hbc, e1]; rfl))
          clear hbc z0 z1 y0 y2 y3 y4
          go_wp2
          go_ret
          exact ⟨by rw [He.out]; rfl, bel_go Hb5.out HBw.out⟩
        case false =>
        cases e2 : decide (mst < (t.args.length : Int))
        case true =>
          have He := hid (show r = 9 by rw [Hrr.out]; exact wrong_count Hbf.out Hns.out Hnp.out (by rw [hbc, e1, e2]; rfl))
          clear hbc z0 z1 y0 y2 y3 y4
          go_wp2
          go_ret
          exact ⟨by rw [He.out]; rfl, bel_go Hb5.out HBw.out⟩
        case false =>
        have Hbc := hid (show plBadCount p t = false by rw [hbc, e1, e2]; rfl)
        clear hbc
        go_upto_region 16 with fail
        clear z0 z1 y0 y2 y3 y4 e1 e2
        go_wp2_with fail
        clear y1
        go_loopw [98] (fun i wr => ∃ k : Nat, k ≤ t.args.length ∧ i = .int .i64 (k : Nat) ∧ Hid (∀ i (hi : i < t.args.length), i < k → plBadAt p t i t.args[i] = false) ∧ Hid (Below w5.heap.size w5 wr)) (fun i _ => t.args.length - (intOf i).toNat)
        case atStart => exact ⟨0, Nat.zero_le _, rfl, hid (fun i _ h => absurd h (by omega)), hid (Below.refl _ _)⟩
        case round =>
          obtain ⟨k, hk, rfl, Hbad, Hb⟩ := hrel
          have Hbw := hid (bel_go Hb.out Hb5.out)
          by_cases hlt : k < t.args.length
          · have hlt' : (k : Int) < (t.args.length : Nat) := by omega
            obtain ⟨_, _, e, i1, i2, i3, i4⟩ := hargs
            cases e
            obtain ⟨bb, off, rfl, o1, o2⟩ := i4 (by omega)
            have m1 := ((bel_go Hbw.out HBw.out).cell (p := ⟨bb, off + k, none⟩) o1).trans (o2 k hlt)
            have hxm : ∃ m : Nat, t.args[k] = (m : Nat) ∧ m < p.terms.length := part_in Hnp.out k hlt
            obtain ⟨m, hxm, hm⟩ := hxm
            rw [hxm] at m1
            have Hxm := hid hxm
            have Hwe := hid (want_eq p t k hlo hhi Hbc.out hlt)
            unfold maxLen at i2
            clear hxm i3
            clear o2 i4
            have h4 := Hh4.out
            have hwant : rfWant p t k = 2 := by unfold rfWant; rw [if_pos (by omega)]
            have Hwant := hid hwant
            clear hwant h4
            have h0 := (HZ.out wr Hbw.out)
            obtain ⟨z0, z1, y0, y1, y2, y3, y4⟩ := h0
            go_upto_region 30 with fail
            clear y0 y1 y2 y3 y4
            go_wp2_with fail
            refine (Hso.out m _ (bel_go Hbw.out HBw.out) hm).mono ?_
            rintro e w6 ⟨rfl, b6⟩
            have HW6 := hid (bel_go b6 Hbw.out)
            have HB6 := hid (Hb.out.trans (b6.mono Hb.out.size))
            clear z0 z1 b6
            cases hne : (plSortAt p (m : Nat) != 2)
            · go_wp2_with fail
              go_roundw
              case rel =>
                refine ⟨k + 1, by omega, rfl, hid fun i hi hik => ?_, HB6⟩
                by_cases hie : i = k
                · subst hie
                  unfold plBadAt
                  rw [Hwe.out, Hxm.out, Hwant.out]
                  exact hne
                · exact Hbad.out i hi (by omega)
              case measure => simp [intOf]; omega
            · have He := hid (show r = 8 by
                rw [Hrr.out]
                exact wrong_sort Hbf.out Hns.out Hnp.out Hbc.out (badSort_of p t k hlt (by unfold plBadAt; rw [Hwe.out, Hxm.out, Hwant.out]; exact hne)))
              go_wp2_with fail
              go_ret
              exact ⟨by rw [He.out]; rfl, bel_go HW6.out HBw.out⟩
          · have hkk : k = t.args.length := by omega
            subst hkk
            have He := hid (show r = 0 by rw [Hrr.out]; exact wrong_none Hbf.out Hns.out Hnp.out Hbc.out (badSort_none p t fun i hi => Hbad.out i hi hi))
            go_wp2_with fail
            go_ret
            exact ⟨by rw [He.out]; rfl, bel_go Hbw.out HBw.out⟩
  · have e5 := hsy e4
    have e6 : (t.num.sign != 0) = false := by simp [hs0]
    have g4 : (t.op == 4) = false := by simpa [bne] using e4
    have g13 : (t.op == 13) = false := by simpa [bne] using e13
    have Hns := hid (show plNoSym p t = false by unfold plNoSym; rw [g4]; rfl)
    have n3 : t.op ≠ 3 := by simpa using e3
    have n13 : t.op ≠ 13 := by simpa using e13
    have n4 : t.op ≠ 4 := by simpa using e4
    have Nx := hid (And.intro n3 (And.intro n13 n4))
    clear n3 n13 n4
    clear hsy hs0
    go_wp2_with fail
    refine (Hsg.out _ HBw.out).mono ?_
    rintro e wz ⟨rfl, b3⟩
    have Bz := hid b3
    clear z0 z1 y0 y1 y2 y3 y4 b3
    obtain ⟨z0, z1, y0, y1, y2, y3, y4⟩ := HZ.out wz Bz.out
    go_upto_region 5 with fail
    clear e3 e13 e4 e5 e6
    go_upto_region 7 with fail
    clear z0 z1 y0 y2 y3 y4
    go_wp2_with fail
    go_loopw [63] (fun i wr => ∃ k : Nat, k ≤ t.args.length ∧ i = .int .i64 (k : Nat) ∧ Hid ((t.args.take k).any (plNoTerm p) = false) ∧ Hid (Below wz.heap.size wz wr)) (fun i _ => t.args.length - (intOf i).toNat)
    case atStart => exact ⟨0, Nat.zero_le _, rfl, hid rfl, hid (Below.refl _ _)⟩
    case round =>
      obtain ⟨k, hk, rfl, hany, Hb⟩ := hrel
      have Hbw := hid (bel_go Hb.out Bz.out)
      by_cases hlt : k < t.args.length
      · have hlt' : (k : Int) < (t.args.length : Nat) := by omega
        obtain ⟨_, _, e, i1, i2, i3, i4⟩ := hargs
        cases e
        obtain ⟨bb, off, rfl, o1, o2⟩ := i4 (by omega)
        have m1 := ((bel_go Hbw.out HBw.out).cell (p := ⟨bb, off + k, none⟩) o1).trans (o2 k hlt)
        have h0 := HZ.out wr Hbw.out
        obtain ⟨-, z1, -, -, -, -, -⟩ := h0
        have Hs1 := hid (any_take_succ (plNoTerm p) t.args k hlt hany.out)
        have Hs2 := hid (any_of_at (plNoTerm p) t.args k hlt)
        unfold maxLen at i2
        clear o2 i4 hany i3
        generalize t.args[k] = x at *
        cases hneg : decide (x < 0)
        · cases hge : decide ((p.terms.length : Int) ≤ x)
          · have hf : plNoTerm p x = false := by unfold plNoTerm; rw [hneg, hge]; rfl
            have Hf := hid hf
            clear hf
            go_wp2_with fail
            go_roundw
            case rel => exact ⟨k + 1, by omega, rfl, hid (Hs1.out Hf.out), Hb⟩
            case measure => simp [intOf]; omega
          · have hf : plNoTerm p x = true := by unfold plNoTerm; rw [hneg, hge]; rfl
            have He := hid (show r = 1 by rw [Hrr.out]; exact wrong_part Hbf.out Hns.out (Hs2.out hf))
            clear hf
            go_wp2_with fail
            go_ret
            exact ⟨by rw [He.out]; rfl, bel_go Hbw.out HBw.out⟩
        · have hf : plNoTerm p x = true := by unfold plNoTerm; rw [hneg]; rfl
          have He := hid (show r = 1 by rw [Hrr.out]; exact wrong_part Hbf.out Hns.out (Hs2.out hf))
          clear hf
          go_wp2_with fail
          go_ret
          exact ⟨by rw [He.out]; rfl, bel_go Hbw.out HBw.out⟩
      · have hkk : k = t.args.length := by omega
        subst hkk
        have Hnp : Hid (plNoPart p t = false) := hid (by have := hany.out; rwa [List.take_length] at this)
        have h0 := HZ.out wr Hbw.out
        obtain ⟨z0, z1, y0, y1, y2, y3, y4⟩ := h0
        clear hany
        go_wp2_with fail
        refine (Hcn.out _ (bel_go Hbw.out HBw.out) hlo hhi Hns.out).mono ?_
        rintro e w5 ⟨rfl, b5⟩
        clear z0 z1 y0 y1 y2 y3 y4
        have Hb5 := hid (bel_go b5 Hbw.out)
        have h0 := HZ.out w5 Hb5.out
        obtain ⟨z0, z1, y0, y1, y2, y3, y4⟩ := h0
        have hbc := badCount_eq p t
        generalize plLeast p t = lst at *
        generalize plMost p t = mst at *
        clear b5 Hb Hbw
        cases e1 : decide ((t.args.length : Int) < lst)
        case true =>
          have He := hid (show r = 9 by rw [Hrr.out]; exact wrong_count Hbf.out Hns.out Hnp.out (by rw [hbc, e1]; rfl))
          clear hbc z0 z1 y0 y2 y3 y4
          go_wp2
          go_ret
          exact ⟨by rw [He.out]; rfl, bel_go Hb5.out HBw.out⟩
        case false =>
        cases e2 : decide (mst < (t.args.length : Int))
        case true =>
          have He := hid (show r = 9 by rw [Hrr.out]; exact wrong_count Hbf.out Hns.out Hnp.out (by rw [hbc, e1, e2]; rfl))
          clear hbc z0 z1 y0 y2 y3 y4
          go_wp2
          go_ret
          exact ⟨by rw [He.out]; rfl, bel_go Hb5.out HBw.out⟩
        case false =>
        have Hbc := hid (show plBadCount p t = false by rw [hbc, e1, e2]; rfl)
        clear hbc
        go_upto_region 16 with fail
        clear z0 z1 y0 y2 y3 y4 e1 e2
        go_wp2_with fail
        clear y1
        go_loopw [98] (fun i wr => ∃ k : Nat, k ≤ t.args.length ∧ i = .int .i64 (k : Nat) ∧ Hid (∀ i (hi : i < t.args.length), i < k → plBadAt p t i t.args[i] = false) ∧ Hid (Below w5.heap.size w5 wr)) (fun i _ => t.args.length - (intOf i).toNat)
        case atStart => exact ⟨0, Nat.zero_le _, rfl, hid (fun i _ h => absurd h (by omega)), hid (Below.refl _ _)⟩
        case round =>
          obtain ⟨k, hk, rfl, Hbad, Hb⟩ := hrel
          have Hbw := hid (bel_go Hb.out Hb5.out)
          by_cases hlt : k < t.args.length
          · have hlt' : (k : Int) < (t.args.length : Nat) := by omega
            obtain ⟨_, _, e, i1, i2, i3, i4⟩ := hargs
            cases e
            obtain ⟨bb, off, rfl, o1, o2⟩ := i4 (by omega)
            have m1 := ((bel_go Hbw.out HBw.out).cell (p := ⟨bb, off + k, none⟩) o1).trans (o2 k hlt)
            have hxm : ∃ m : Nat, t.args[k] = (m : Nat) ∧ m < p.terms.length := part_in Hnp.out k hlt
            obtain ⟨m, hxm, hm⟩ := hxm
            rw [hxm] at m1
            have Hxm := hid hxm
            have Hwe := hid (want_eq p t k hlo hhi Hbc.out hlt)
            unfold maxLen at i2
            clear hxm i3
            obtain ⟨n3, n13, n4⟩ := Nx.out
            by_cases hw2 : t.op = 10 ∨ t.op = 11 ∨ t.op = 12
            · clear o2 i4
              have hwant : rfWant p t k = 2 := by unfold rfWant; rw [if_pos (by omega)]
              have Hwant := hid hwant
              clear hwant n3 n13 n4
              rcases hw2 with h | h | h
              · have g10 : (t.op == 10) = true := by simp; omega
                clear h
                have h0 := (HZ.out wr Hbw.out)
                obtain ⟨z0, z1, y0, y1, y2, y3, y4⟩ := h0
                go_upto_region 30 with fail
                clear y0 y1 y2 y3 y4
                go_wp2_with fail
                refine (Hso.out m _ (bel_go Hbw.out HBw.out) hm).mono ?_
                rintro e w6 ⟨rfl, b6⟩
                have HW6 := hid (bel_go b6 Hbw.out)
                have HB6 := hid (Hb.out.trans (b6.mono Hb.out.size))
                clear z0 z1 b6
                cases hne : (plSortAt p (m : Nat) != 2)
                · go_wp2_with fail
                  go_roundw
                  case rel =>
                    refine ⟨k + 1, by omega, rfl, hid fun i hi hik => ?_, HB6⟩
                    by_cases hie : i = k
                    · subst hie
                      unfold plBadAt
                      rw [Hwe.out, Hxm.out, Hwant.out]
                      exact hne
                    · exact Hbad.out i hi (by omega)
                  case measure => simp [intOf]; omega
                · have He := hid (show r = 8 by
                    rw [Hrr.out]
                    exact wrong_sort Hbf.out Hns.out Hnp.out Hbc.out (badSort_of p t k hlt (by unfold plBadAt; rw [Hwe.out, Hxm.out, Hwant.out]; exact hne)))
                  go_wp2_with fail
                  go_ret
                  exact ⟨by rw [He.out]; rfl, bel_go HW6.out HBw.out⟩
              · have g10 : (t.op == 10) = false := by simp; omega
                have g11 : (t.op == 11) = true := by simp; omega
                clear h
                have h0 := (HZ.out wr Hbw.out)
                obtain ⟨z0, z1, y0, y1, y2, y3, y4⟩ := h0
                go_upto_region 30 with fail
                clear y0 y1 y2 y3 y4
                go_wp2_with fail
                refine (Hso.out m _ (bel_go Hbw.out HBw.out) hm).mono ?_
                rintro e w6 ⟨rfl, b6⟩
                have HW6 := hid (bel_go b6 Hbw.out)
                have HB6 := hid (Hb.out.trans (b6.mono Hb.out.size))
                clear z0 z1 b6
                cases hne : (plSortAt p (m : Nat) != 2)
                · go_wp2_with fail
                  go_roundw
                  case rel =>
                    refine ⟨k + 1, by omega, rfl, hid fun i hi hik => ?_, HB6⟩
                    by_cases hie : i = k
                    · subst hie
                      unfold plBadAt
                      rw [Hwe.out, Hxm.out, Hwant.out]
                      exact hne
                    · exact Hbad.out i hi (by omega)
                  case measure => simp [intOf]; omega
                · have He := hid (show r = 8 by
                    rw [Hrr.out]
                    exact wrong_sort Hbf.out Hns.out Hnp.out Hbc.out (badSort_of p t k hlt (by unfold plBadAt; rw [Hwe.out, Hxm.out, Hwant.out]; exact hne)))
                  go_wp2_with fail
                  go_ret
                  exact ⟨by rw [He.out]; rfl, bel_go HW6.out HBw.out⟩
              · have g10 : (t.op == 10) = false := by simp; omega
                have g11 : (t.op == 11) = false := by simp; omega
                have g12 : (t.op == 12) = true := by simp; omega
                clear h
                have h0 := (HZ.out wr Hbw.out)
                obtain ⟨z0, z1, y0, y1, y2, y3, y4⟩ := h0
                go_upto_region 30 with fail
                clear y0 y1 y2 y3 y4
                go_wp2_with fail
                refine (Hso.out m _ (bel_go Hbw.out HBw.out) hm).mono ?_
                rintro e w6 ⟨rfl, b6⟩
                have HW6 := hid (bel_go b6 Hbw.out)
                have HB6 := hid (Hb.out.trans (b6.mono Hb.out.size))
                clear z0 z1 b6
                cases hne : (plSortAt p (m : Nat) != 2)
                · go_wp2_with fail
                  go_roundw
                  case rel =>
                    refine ⟨k + 1, by omega, rfl, hid fun i hi hik => ?_, HB6⟩
                    by_cases hie : i = k
                    · subst hie
                      unfold plBadAt
                      rw [Hwe.out, Hxm.out, Hwant.out]
                      exact hne
                    · exact Hbad.out i hi (by omega)
                  case measure => simp [intOf]; omega
                · have He := hid (show r = 8 by
                    rw [Hrr.out]
                    exact wrong_sort Hbf.out Hns.out Hnp.out Hbc.out (badSort_of p t k hlt (by unfold plBadAt; rw [Hwe.out, Hxm.out, Hwant.out]; exact hne)))
                  go_wp2_with fail
                  go_ret
                  exact ⟨by rw [He.out]; rfl, bel_go HW6.out HBw.out⟩
            · have g10 : (t.op == 10) = false := by simp; omega
              have g11 : (t.op == 11) = false := by simp; omega
              have g12 : (t.op == 12) = false := by simp; omega
              by_cases h9 : t.op = 9
              · have g9 : (t.op == 9) = true := by simp; omega
                by_cases hk0 : 0 < k
                · have hl1 : 1 < t.args.length := by omega
                  obtain ⟨j, hj1, hj⟩ := part_in Hnp.out 1 hl1
                  have n1 := ((bel_go Hbw.out HBw.out).cell (p := ⟨bb, off + 1, none⟩) o1).trans (o2 1 hl1)
                  rw [hj1] at n1
                  have hwant : rfWant p t k = plSortAt p (j : Nat) := by unfold rfWant; rw [if_neg (by omega), if_pos ⟨h9, hk0⟩, List.getElem?_eq_getElem hl1, hj1]; rfl
                  have Hwant := hid hwant
                  have hk0' : (0 : Int) < (k : Nat) := by omega
                  have hl1' : (1 : Int) < (t.args.length : Nat) := by omega
                  have HN1 := hid n1
                  have h0 := (HZ.out wr Hbw.out)
                  obtain ⟨z0, z1, y0, y1, y2, y3, y4⟩ := h0
                  clear hwant h9 hw2 o2 i4 n1 hj1 n3 n13 n4
                  go_upto_region 29 with fail
                  have HS : Hid (∀ w', Below wr.heap.size wr w' → (w'.cell? ⟨w.heap.size, 0, none⟩ = some (.slice pa p.syms.length ca) ∧ w'.cell? ⟨w.heap.size, 1, none⟩ = some (.slice pb p.terms.length cb) ∧ w'.cell? ⟨w.heap.size + 1, 0, none⟩ = some (.int .i64 t.op) ∧ w'.cell? ⟨w.heap.size + 1, 1, none⟩ = some (.slice (some ⟨bb, off, none⟩) t.args.length cc) ∧ w'.cell? ⟨w.heap.size + 1, 2, none⟩ = some (.bool b) ∧ w'.cell? ⟨w.heap.size + 1, 3, none⟩ = some (.slice pm nm cm) ∧ w'.cell? ⟨w.heap.size + 1, 4, none⟩ = some (.int .i64 t.sym)) ∧ w'.cell? ⟨bb, off + 1, none⟩ = some (.int .i64 (j : Nat))) := hid fun w' hb => ⟨HZ.out w' (bel_go hb Hbw.out), (hb.cell (p := ⟨bb, off + 1, none⟩) (Nat.lt_of_lt_of_le o1 (bel_go Hbw.out HBw.out).size)).trans HN1.out⟩
                  clear z0 z1 y0 y1 y2 y3 y4 m1
                  refine wp_region_facts (w0 := wr) 7 0 [115, 116, 117, 118, 119, 120, 11] [u115, u116, u117, u118, u119, u120, .int .i64 1]
                    (fun i => match i with | 0 => eqD (.agg #[.slice pa p.syms.length ca, .slice pb p.terms.length cb]) | 1 => eqD (.pointer (some ⟨w.heap.size + 1, 1, none⟩)) | 2 => eqD (.slice (some ⟨bb, off, none⟩) t.args.length cc) | 3 => eqD (.pointer (some ⟨bb, off + 1, none⟩)) | 4 => eqD (.int .i64 (j : Nat)) | 5 => eqD (.int .i64 (plSortAt p (j : Nat))) | _ => eqD (.int .i64 (plSortAt p (j : Nat)))) [] (by kernel_rfl) (by kernel_rfl) (by kernel_rfl) (by kernel_rfl) (by decide) rfl (by kernel_rfl) rfl (by simp) ?he1 ?_ ?_ ?_
                  case he1 => simp only [putAll, Act.put, List.setIfInBounds_toArray, List.set_cons_zero, List.set_cons_succ]
                  · intro i hi; simp at hi
                  · intro i o hi ho vs wx hvl hb hdep K hK
                    have hvs := vlen7 hvl
                    obtain ⟨s115, s116, s117, s118, s119, s120, s11, rfl⟩ := hvs
                    clear hvl
                    have hk := HS.out wx hb
                    go_split_ands
                    rcases i with _ | _ | _ | _ | _ | _ | _ | i
                    all_goals (simp only [List.getElem?_toArray, List.getElem?_cons_zero, List.getElem?_cons_succ, Option.some.injEq] at ho)
                    all_goals try (subst ho)
                    all_goals try simp only [putAll, Act.put, List.setIfInBounds_toArray, List.set_cons_zero, List.set_cons_succ]
                    · go_simp
                      have hK' := hK.out
                      simp only [putAll, Act.put, List.setIfInBounds_toArray, List.set_cons_zero, List.set_cons_succ] at hK'
                      exact hK' _ _ rfl (Below.refl _ _) (by simp)
                    · go_simp
                      have hK' := hK.out
                      simp only [putAll, Act.put, List.setIfInBounds_toArray, List.set_cons_zero, List.set_cons_succ] at hK'
                      exact hK' _ _ rfl (Below.refl _ _) (by simp)
                    · have e1 : s116 = _ := hdep ⟨1, .data⟩ (by simp) rfl
                      have e1 := e1.symm
                      subst e1
                      go_simp
                      have hK' := hK.out
                      simp only [putAll, Act.put, List.setIfInBounds_toArray, List.set_cons_zero, List.set_cons_succ] at hK'
                      exact hK' _ _ rfl (Below.refl _ _) (by simp)
                    · have e2 : s117 = _ := hdep ⟨2, .data⟩ (by simp) rfl
                      have e2 := e2.symm
                      subst e2
                      go_simp
                      have hK' := hK.out
                      simp only [putAll, Act.put, List.setIfInBounds_toArray, List.set_cons_zero, List.set_cons_succ] at hK'
                      exact hK' _ _ rfl (Below.refl _ _) (by simp)
                    · have e3 : s118 = _ := hdep ⟨3, .data⟩ (by simp) rfl
                      have e3 := e3.symm
                      subst e3
                      go_simp
                      have hK' := hK.out
                      simp only [putAll, Act.put, List.setIfInBounds_toArray, List.set_cons_zero, List.set_cons_succ] at hK'
                      exact hK' _ _ rfl (Below.refl _ _) (by simp)
                    · have e0 : s115 = _ := hdep ⟨0, .data⟩ (by simp) rfl
                      have e0 := e0.symm
                      subst e0
                      have e4 : s119 = _ := hdep ⟨4, .data⟩ (by simp) rfl
                      have e4 := e4.symm
                      subst e4
                      go_simp
                      go_simp
                      refine (Hso.out j _ (bel_go (bel_go hb Hbw.out) HBw.out) hj).mono ?_
                      rintro e wy ⟨rfl, hby⟩
                      go_wp2_with fail
                      have hK' := hK.out
                      simp only [putAll, Act.put, List.setIfInBounds_toArray, List.set_cons_zero, List.set_cons_succ] at hK'
                      exact hK' _ _ rfl hby (by simp)
                    · have e5 : s120 = _ := hdep ⟨5, .data⟩ (by simp) rfl
                      have e5 := e5.symm
                      subst e5
                      go_simp
                      have hK' := hK.out
                      simp only [putAll, Act.put, List.setIfInBounds_toArray, List.set_cons_zero, List.set_cons_succ] at hK'
                      exact hK' _ _ rfl (Below.refl _ _) (by simp)
                    · omega
                  · intro vs wx hvl hb hf hdist
                    have hvs := vlen7 hvl
                    obtain ⟨s115, s116, s117, s118, s119, s120, s11, rfl⟩ := hvs
                    have f6 : s11 = .int .i64 (plSortAt p (j : Nat)) := hf 6 (by decide)
                    subst f6
                    clear hf hdist hvl
                    refine wpAny_done (by kernel_rfl) ?_ _
                    simp only [putAll, Act.put, List.setIfInBounds_toArray, List.set_cons_zero, List.set_cons_succ]
                    have Hb9 := hid (Hb.out.trans (hb.mono Hb.out.size))
                    have Hbw9 := hid (bel_go hb Hbw.out)
                    clear Hb Hbw HS hb
                    have Hb := Hb9
                    have Hbw := Hbw9
                    clear Hb9 Hbw9
                    generalize hwx : wx = wr at *
                    clear hwx
                    have h0 := (HZ.out wr Hbw.out)
                    obtain ⟨z0, z1, y0, y1, y2, y3, y4⟩ := h0
                    go_upto_region 30 with fail
                    clear y0 y1 y2 y3 y4
                    go_wp2_with fail
                    refine (Hso.out m _ (bel_go Hbw.out HBw.out) hm).mono ?_
                    rintro e w6 ⟨rfl, b6⟩
                    have HW6 := hid (bel_go b6 Hbw.out)
                    have HB6 := hid (Hb.out.trans (b6.mono Hb.out.size))
                    clear z0 z1 b6
                    cases hne : (plSortAt p (m : Nat) != plSortAt p (j : Nat))
                    · go_wp2_with fail
                      go_roundw
                      case rel =>
                        refine ⟨k + 1, by omega, rfl, hid fun i hi hik => ?_, HB6⟩
                        by_cases hie : i = k
                        · subst hie
                          unfold plBadAt
                          rw [Hwe.out, Hxm.out, Hwant.out]
                          exact hne
                        · exact Hbad.out i hi (by omega)
                      case measure => simp [intOf]; omega
                    · have He := hid (show r = 8 by
                        rw [Hrr.out]
                        exact wrong_sort Hbf.out Hns.out Hnp.out Hbc.out (badSort_of p t k hlt (by unfold plBadAt; rw [Hwe.out, Hxm.out, Hwant.out]; exact hne)))
                      go_wp2_with fail
                      go_ret
                      exact ⟨by rw [He.out]; rfl, bel_go HW6.out HBw.out⟩
                · have hwant : rfWant p t k = 1 := by unfold rfWant; rw [if_neg (by omega), if_neg (by omega)]
                  have Hwant := hid hwant
                  have hk0' : ¬ (0 : Int) < (k : Nat) := by omega
                  clear hwant h9 hw2 o2 i4 n3 n13 n4
                  have h0 := (HZ.out wr Hbw.out)
                  obtain ⟨z0, z1, y0, y1, y2, y3, y4⟩ := h0
                  go_upto_region 30 with fail
                  clear y0 y1 y2 y3 y4
                  go_wp2_with fail
                  refine (Hso.out m _ (bel_go Hbw.out HBw.out) hm).mono ?_
                  rintro e w6 ⟨rfl, b6⟩
                  have HW6 := hid (bel_go b6 Hbw.out)
                  have HB6 := hid (Hb.out.trans (b6.mono Hb.out.size))
                  clear z0 z1 b6
                  cases hne : (plSortAt p (m : Nat) != 1)
                  · go_wp2_with fail
                    go_roundw
                    case rel =>
                      refine ⟨k + 1, by omega, rfl, hid fun i hi hik => ?_, HB6⟩
                      by_cases hie : i = k
                      · subst hie
                        unfold plBadAt
                        rw [Hwe.out, Hxm.out, Hwant.out]
                        exact hne
                      · exact Hbad.out i hi (by omega)
                    case measure => simp [intOf]; omega
                  · have He := hid (show r = 8 by
                      rw [Hrr.out]
                      exact wrong_sort Hbf.out Hns.out Hnp.out Hbc.out (badSort_of p t k hlt (by unfold plBadAt; rw [Hwe.out, Hxm.out, Hwant.out]; exact hne)))
                    go_wp2_with fail
                    go_ret
                    exact ⟨by rw [He.out]; rfl, bel_go HW6.out HBw.out⟩
              · have g9 : (t.op == 9) = false := by simp; omega
                have hwant : rfWant p t k = 1 := by unfold rfWant; rw [if_neg (by omega), if_neg (by omega)]
                have Hwant := hid hwant
                clear hwant h9 hw2 o2 i4 n3 n13 n4
                have h0 := (HZ.out wr Hbw.out)
                obtain ⟨z0, z1, y0, y1, y2, y3, y4⟩ := h0
                go_upto_region 30 with fail
                clear y0 y1 y2 y3 y4
                go_wp2_with fail
                refine (Hso.out m _ (bel_go Hbw.out HBw.out) hm).mono ?_
                rintro e w6 ⟨rfl, b6⟩
                have HW6 := hid (bel_go b6 Hbw.out)
                have HB6 := hid (Hb.out.trans (b6.mono Hb.out.size))
                clear z0 z1 b6
                cases hne : (plSortAt p (m : Nat) != 1)
                · go_wp2_with fail
                  go_roundw
                  case rel =>
                    refine ⟨k + 1, by omega, rfl, hid fun i hi hik => ?_, HB6⟩
                    by_cases hie : i = k
                    · subst hie
                      unfold plBadAt
                      rw [Hwe.out, Hxm.out, Hwant.out]
                      exact hne
                    · exact Hbad.out i hi (by omega)
                  case measure => simp [intOf]; omega
                · have He := hid (show r = 8 by
                    rw [Hrr.out]
                    exact wrong_sort Hbf.out Hns.out Hnp.out Hbc.out (badSort_of p t k hlt (by unfold plBadAt; rw [Hwe.out, Hxm.out, Hwant.out]; exact hne)))
                  go_wp2_with fail
                  go_ret
                  exact ⟨by rw [He.out]; rfl, bel_go HW6.out HBw.out⟩
          · have hkk : k = t.args.length := by omega
            subst hkk
            have He := hid (show r = 0 by rw [Hrr.out]; exact wrong_none Hbf.out Hns.out Hnp.out Hbc.out (badSort_none p t fun i hi => Hbad.out i hi hi))
            go_wp2_with fail
            go_ret
            exact ⟨by rw [He.out]; rfl, bel_go Hbw.out HBw.out⟩
end Go.Proofs.YtckkpolikdnilaaGreatDoor
/- elenchusref01.From: what it tells lies in memory of its own (the proof of XFrom, told more of). -/
namespace Go.Proofs.YtckkpolikdnilaaGreatDoor
open Go.RowKit Big

set_option maxRecDepth 100000 in
set_option maxHeartbeats 3200000 in
theorem From_own (v : Value) (l : List Nat) (w : World) (h : At w .i64 v l) (hs : Small D l) (hlen : l.length ≤ 8796093022208) :
    Calls Tryz.prog 60 #[v] w (ROwn 94 .u64 (dig W (val D l)) w) := by
  have hv0 : val D (strip l) = val D l := by rw [strip_dig D2 hs, val_dig D2]
  have hs' : Small D (strip l) := by rw [strip_dig D2 hs]; exact small_dig D2 _
  have hl' : (strip l).length ≤ 8796093022208 := Nat.le_trans (strip_length l) hlen
  have hlast : strip l = dig D (val D l) := strip_dig D2 hs
  have G := hid (rtrim_any v l w h)
  rw [← hv0] at hlast ⊢
  clear h hlen hs hv0
  generalize strip l = l' at *
  have Hl := hid hlast; clear hlast
  go_enter Tryz.func60, Tryz.ntmps60
  go_wp2_with fail
  refine G.out.mono ?_
  rintro e w' ⟨v', rfl, ⟨p, cap, rfl, a1, a2, a3, a4⟩, rfl⟩
  unfold maxLen at a2
  go_wp2_with fail
  go_loopw [3, 4] (fun o s wr => ∃ (i j : Nat) (L : List Nat), i ≤ l'.length + 3 ∧ Hid (i = 4 * j) ∧ s = .int .i64 (i : Nat) ∧ Own wr w.heap.size 94 .u64 o L ∧ Hid (L.length = j) ∧ j ≤ i ∧ Small W L ∧
      Hid (val W L = val D (l'.take i)) ∧ Below w.heap.size w wr) (fun _ s _ => l'.length + 4 - (intOf s).toNat)
  case atStart => exact ⟨0, 0, [], by omega, rfl, rfl, Own.nil _ _ _ _, rfl, by omega, small_nil _, rfl, Below.refl _ _⟩
  case round =>
    obtain ⟨i, j, L, hi, hij, rfl, hown, hLj, hji, hsl, hv, hbel⟩ := hrel
    by_cases hil : i < l'.length
    · obtain ⟨b, off, rfl, hbb, hcell⟩ := a4 (by omega)
      obtain ⟨x0, hx0⟩ : ∃ x, x = l'[i]?.getD 0 := ⟨_, rfl⟩
      obtain ⟨x1, hx1⟩ : ∃ x, x = l'[i + 1]?.getD 0 := ⟨_, rfl⟩
      obtain ⟨x2, hx2⟩ : ∃ x, x = l'[i + 2]?.getD 0 := ⟨_, rfl⟩
      obtain ⟨x3, hx3⟩ : ∃ x, x = l'[i + 3]?.getD 0 := ⟨_, rfl⟩
      have y0 : x0 < 65536 := by rw [hx0]; exact small_getD hs' (by decide) _
      have y1 : x1 < 65536 := by rw [hx1]; exact small_getD hs' (by decide) _
      have y2 : x2 < 65536 := by rw [hx2]; exact small_getD hs' (by decide) _
      have y3 : x3 < 65536 := by rw [hx3]; exact small_getD hs' (by decide) _
      have cell : ∀ m, i + m < l'.length → wr.cell? ⟨b, off + (i + m), none⟩ = some (.int .i64 (l'[i + m]?.getD 0 : Nat)) := fun m hm => by
        rw [(hbel.cell (p := ⟨b, off + (i + m), none⟩) hbb).trans (hcell (i + m) hm)]; simp [hm]
      have zero : ∀ m, ¬ i + m < l'.length → l'[i + m]?.getD 0 = 0 := fun m hm => by rw [List.getElem?_eq_none (by omega)]; rfl
      have Cell := hid cell
      have Zero := hid zero
      have Hx0 := hid hx0; have Hx1 := hid hx1; have Hx2 := hid hx2; have Hx3 := hid hx3
      clear cell zero hx0 hx1 hx2 hx3 hcell a4
      go_wp2_with fail
      obtain ⟨wo, rfl⟩ : ∃ wo : World, wo = wr := ⟨_, rfl⟩
      go_loopw [5, 6] (fun a s wq => ∃ m : Nat, m ≤ 4 ∧ s = .int .i64 ((m : Int) - 1) ∧ a = .int .u64 (acc x0 x1 x2 x3 m : Nat) ∧ wq = wo) (fun _ s _ => (intOf s + 1).toNat)
      case atStart => exact ⟨4, by omega, rfl, rfl, rfl⟩
      case round =>
        obtain ⟨m, hm, rfl, rfl, rfl⟩ := hrel
        by_cases hm0 : 0 < m
        · rcases (by omega : m = 4 ∨ m = 3 ∨ m = 2 ∨ m = 1) with rfl | rfl | rfl | rfl
          · by_cases hin : i + 3 < l'.length
            · skip
              have c := Cell.out 3 hin
              rw [← Hx3.out] at c
              simp only [acc]
              go_wp2
              go_roundw
              case rel => exact ⟨3, by omega, rfl, num_eq (by first | rfl | omega | (simp only; omega)), by trivial⟩
              case measure => simp [intOf]
            · skip
              have hz : x3 = 0 := by rw [Hx3.out]; exact Zero.out 3 hin
              have Hz := hid hz
              clear hz
              simp only [acc]
              go_wp2
              go_roundw
              case rel => exact ⟨3, by omega, rfl, num_eq (by have := Hz.out; first | omega | (simp only; omega)), by trivial⟩
              case measure => simp [intOf]
          · by_cases hin : i + 2 < l'.length
            · skip
              have c := Cell.out 2 hin
              rw [← Hx2.out] at c
              simp only [acc]
              go_wp2
              go_roundw
              case rel => exact ⟨2, by omega, rfl, num_eq (by first | rfl | omega | (simp only; omega)), by trivial⟩
              case measure => simp [intOf]
            · skip
              have hz : x2 = 0 := by rw [Hx2.out]; exact Zero.out 2 hin
              have Hz := hid hz
              clear hz
              simp only [acc]
              go_wp2
              go_roundw
              case rel => exact ⟨2, by omega, rfl, num_eq (by have := Hz.out; first | omega | (simp only; omega)), by trivial⟩
              case measure => simp [intOf]
          · by_cases hin : i + 1 < l'.length
            · skip
              have c := Cell.out 1 hin
              rw [← Hx1.out] at c
              simp only [acc]
              go_wp2
              go_roundw
              case rel => exact ⟨1, by omega, rfl, num_eq (by first | rfl | omega | (simp only; omega)), by trivial⟩
              case measure => simp [intOf]
            · skip
              have hz : x1 = 0 := by rw [Hx1.out]; exact Zero.out 1 hin
              have Hz := hid hz
              clear hz
              simp only [acc]
              go_wp2
              go_roundw
              case rel => exact ⟨1, by omega, rfl, num_eq (by have := Hz.out; first | omega | (simp only; omega)), by trivial⟩
              case measure => simp [intOf]
          · by_cases hin : i + 0 < l'.length
            · skip
              have c := Cell.out 0 hin
              simp only [Nat.add_zero] at c
              rw [← Hx0.out] at c
              simp only [acc]
              go_wp2
              go_roundw
              case rel => exact ⟨0, by omega, rfl, num_eq (by first | rfl | omega | (simp only; omega)), by trivial⟩
              case measure => simp [intOf]
            · exact absurd hil (by simpa using hin)
        · obtain rfl : m = 0 := by omega
          simp only [acc]
          go_wp2_with (at_builtin; refine wpList_append_at rfl _ _ 42 rfl elemNat w.heap.size _ L rfl (hown.alloc _) _ [((x3 * 65536 + x2) * 65536 + x1) * 65536 + x0] rfl (At.oneI _ _ _ _ _ (by omega)) (by rw [hLj.out]; simp [maxLen]; omega) (by rw [hLj.out]; simp; omega) (by have := hbel.size; simp; omega) ?_; intro v2 w2 ho2 hb2 hs2)
          go_roundw
          case rel => exact ⟨i + 4, j + 1, L ++ [((x3 * 65536 + x2) * 65536 + x1) * 65536 + x0], by omega, by have := hij.out; unfold Hid; omega, by go_num, ho2, by have := hLj.out; unfold Hid; simp; omega, by omega,
            small_snoc hsl (by unfold W; omega), from_step hij.out hLj.out hv.out Hx0.out Hx1.out Hx2.out Hx3.out, (hbel.trans ((below1 _ _).mono hbel.size)).trans hb2⟩
          case measure => simp [intOf]; omega
    · have hv' : Hid (L = dig W (val D l')) := by
        have e := hv.out
        rw [val_take_ge _ _ _ (by omega)] at e
        unfold Hid
        rw [← e]
        refine canon W2 hsl ?_
        by_cases hj0 : j = 0
        · left; exact List.eq_nil_of_length_eq_zero (by rw [hLj.out, hj0])
        · right
          have hne : l' ≠ [] := by
            intro h0; have := hij.out; rw [h0] at hi; simp at hi; omega
          have hlen : l'.length = sz D (val D l') := by unfold sz; rw [← Hl.out]
          have hpos : 0 < val D l' := Nat.pos_of_ne_zero fun e0 => by
            have := Hl.out; rw [e0] at this; exact hne this
          have hp := pow_sz_le D2 hpos
          rw [← hlen] at hp
          rw [e, hLj.out]
          refine Nat.le_trans ?_ hp
          rw [show W ^ (j - 1) = D ^ (4 * (j - 1)) by rw [Nat.pow_mul]; rfl]
          exact Nat.pow_le_pow_right (by decide) (by have := hij.out; omega)
      clear a4 hij hv Hl
      go_wp2
      go_ret
      exact ⟨_, rfl, by rw [← hv'.out]; exact hown, hbel⟩
end Go.Proofs.YtckkpolikdnilaaGreatDoor
/- elenchusref01.Whole: what it tells lies in memory of its own. -/
namespace Go.Proofs.YtckkpolikdnilaaGreatDoor
open Go.RowKit Big

theorem IntOwn.whole {w : World} {B : Nat} {neg : Bool} {n : Nat} {p : Option Addr} {len c : Nat} (h : Own w B 94 .u64 (.slice p len c) (dig W n)) :
    IntOwn w B (.agg #[.bool (neg && decide (0 < len)), .slice p len c]) (sg neg n) := by
  have h2 := IntAt.whole (neg := neg) h.at
  obtain ⟨s, e, -⟩ := h2
  injection e with e
  simp only [Array.mk.injEq, List.cons.injEq, and_true] at e
  obtain ⟨e1, e2⟩ := e
  refine ⟨.slice p len c, by rw [e1], by rw [sg_natAbs]; exact h⟩
set_option maxHeartbeats 800000 in
theorem Whole_own (neg : Bool) (v : Value) (l : List Nat) (w : World) (h : At w .u64 v l) (hs : Small W l) (hlen : l.length ≤ 2199023255552) :
    Calls Tryz.prog 40 #[.bool neg, v] w fun e w' => ∃ v', e = .returned v' ∧ IntOwn w' w.heap.size v' (sg neg (val W l)) ∧ Below w.heap.size w w' := by
  have hd : ∀ o, Calls Tryz.prog 61 #[v] (w.alloc o) (RAt .i64 (dig D (val W l)) (w.alloc o)) := fun o => Digits_any v l _ (h.alloc o) hs hlen
  have hsz : (dig D (val W l)).length ≤ 8796093022208 := by
    have h1 := sz4 (val W l)
    have h2 := sz_val W2 hs
    show sz D (val W l) ≤ _
    omega
  have Hd := hid hd
  have Hsz := hid hsz
  clear hd hsz
  generalize val W l = n at *
  go_enter Tryz.func40, Tryz.ntmps40
  go_wp2_with fail
  refine (Hd.out _).mono ?_
  rintro e w1 ⟨v1, rfl, h1, hb1⟩
  go_wp2_with fail
  refine (From_own v1 _ w1 h1 (small_dig D2 n) Hsz.out).mono ?_
  rintro e w2 ⟨v2, rfl, h2, hb2⟩
  rw [val_dig D2] at h2
  have hpr : Pair w2 w.heap.size 44 := Pair.below (Pair.below (Pair.new ..) hb1) hb2
  obtain ⟨_, _, q0, q1, q2, q3⟩ := hpr.cells
  have z1 : w.heap.size + 1 ≤ w1.heap.size := by have := hb1.size; simp at this; omega
  have bw : Below w.heap.size w w2 := ((below1 _ _).trans (hb1.mono (B' := w.heap.size) (by simp))).trans (hb2.mono (B' := w.heap.size) (by omega))
  have h2 := h2.mono (base' := w.heap.size + 1) z1
  obtain ⟨p, c, rfl, -⟩ := h2.at
  have hI := IntOwn.whole (neg := neg) h2
  have HI := hid hI
  clear hb1 hb2 h1 h2 hI
  generalize (dig W n).length = len at *
  cases neg
  · go_wp2
    exact bodyPost_ret (v := .agg #[.bool false, .slice p len c]) (by simp [results, Tryz.results40, go_sem, q0, q1]) rfl
      ⟨_, rfl, IntOwn.mono (IntOwn.stored (show IntOwn w2 _ _ _ from HI.out) (by omega) _ _) (by omega), Below.stored bw (by omega) _ _⟩
  · by_cases h0 : 0 < len
    · have hx : Hid (decide (0 < len) = true) := by unfold Hid; simpa using h0
      go_wp2
      exact bodyPost_ret (v := .agg #[.bool true, .slice p len c]) (by simp [results, Tryz.results40, go_sem, q0, q1]) rfl
        ⟨_, rfl, (by have := HI.out; rw [hx.out] at this; exact (this.stored (by omega) _ _).mono (by omega)), Below.stored bw (by omega) _ _⟩
    · have hx : Hid (decide (0 < len) = false) := by unfold Hid; simpa using h0
      go_wp2
      exact bodyPost_ret (v := .agg #[.bool false, .slice p len c]) (by simp [results, Tryz.results40, go_sem, q0, q1]) rfl
        ⟨_, rfl, (by have := HI.out; rw [hx.out] at this; exact (this.stored (by omega) _ _).mono (by omega)), Below.stored bw (by omega) _ _⟩
end Go.Proofs.YtckkpolikdnilaaGreatDoor
/- elenchusref04.Same of two terms that are handed in. -/
namespace Go.Proofs.YtckkpolikdnilaaGreatDoor
open Go.RowKit Big Go.WideMaps

set_option maxRecDepth 100000 in
set_option maxHeartbeats 6400000 in
theorem RefSame_any (a b : Tm) (va vb : Value) (w : World) (ha : TmRaw w va a) (hb : TmRaw w vb b) (sa : sz W a.num.natAbs ≤ 549755813888) (sb : sz W b.num.natAbs ≤ 549755813888) :
    Calls Tryz.prog 94 #[va, vb] w (RBool (decide (a = b)) w) := by
  obtain ⟨pa, ca, ba, pm, nm, cm, rfl, hla, hma⟩ := ha
  obtain ⟨pa', ca', ba', pm', nm', cm', rfl, hlb, hmb⟩ := hb
  have hcmp : ∀ W', Below w.heap.size w W' → Calls Tryz.prog 38 #[.agg #[.bool ba, .slice pm nm cm], .agg #[.bool ba', .slice pm' nm' cm']] W' (RNum .i64 (ord a.num b.num) W') := fun W' h => RCmp_any _ _ _ _ W' (hma.below h) (hmb.below h) sa sb
  have Hcmp := hid hcmp
  have b1 := below1 w (.cells #[.int .i64 a.op, .slice pa a.args.length ca, .bool ba, .slice pm nm cm, .int .i64 a.sym] 71)
  have b2 := below1 (w.alloc (.cells #[.int .i64 a.op, .slice pa a.args.length ca, .bool ba, .slice pm nm cm, .int .i64 a.sym] 71)) (.cells #[.int .i64 b.op, .slice pa' b.args.length ca', .bool ba', .slice pm' nm' cm', .int .i64 b.sym] 71)
  have h1 := (b2.block w.heap.size (by simp)).trans (heap_alloc_new w (.cells #[.int .i64 a.op, .slice pa a.args.length ca, .bool ba, .slice pm nm cm, .int .i64 a.sym] 71))
  have h2 := heap_alloc_new (w.alloc (.cells #[.int .i64 a.op, .slice pa a.args.length ca, .bool ba, .slice pm nm cm, .int .i64 a.sym] 71)) (.cells #[.int .i64 b.op, .slice pa' b.args.length ca', .bool ba', .slice pm' nm' cm', .int .i64 b.sym] 71)
  have hs1 := size_alloc w (.cells #[.int .i64 a.op, .slice pa a.args.length ca, .bool ba, .slice pm nm cm, .int .i64 a.sym] 71)
  have hs2 := size_alloc (w.alloc (.cells #[.int .i64 a.op, .slice pa a.args.length ca, .bool ba, .slice pm nm cm, .int .i64 a.sym] 71)) (.cells #[.int .i64 b.op, .slice pa' b.args.length ca', .bool ba', .slice pm' nm' cm', .int .i64 b.sym] 71)
  rw [hs1] at h2 hs2
  have bw := bel_go b2 b1
  have hr : decide (a = b) = (!(a.op != b.op) && !(a.sym != b.sym) && !((a.args.length : Int) != (b.args.length : Int)) && !(a.num != b.num) && decide (a.args = b.args)) := by
    rw [Bool.eq_iff_iff]
    simp
    constructor
    · rintro rfl; simp
    · rintro ⟨⟨⟨⟨e1, e2⟩, -⟩, e4⟩, e5⟩
      cases a; cases b; simp_all
  have hz : (a.num != b.num) = (ord a.num b.num != 0) := by
    by_cases h : a.num = b.num
    · rw [h, ord_eq]; simp
    · have : ord a.num b.num ≠ 0 := by unfold ord; split <;> (try split) <;> omega
      rw [bne_iff_ne.2 this, bne_iff_ne.2 h]
  rw [hz] at hr
  generalize decide (a = b) = r at *
  have Hr := hid hr
  clear hr hz hcmp sa sb hma hmb b1 b2
  go_enter Tryz.func94, Tryz.ntmps94
  go_upto_region 1 with fail
  generalize hW : ((w.alloc (.cells #[.int .i64 a.op, .slice pa a.args.length ca, .bool ba, .slice pm nm cm, .int .i64 a.sym] 71)).alloc (.cells #[.int .i64 b.op, .slice pa' b.args.length ca', .bool ba', .slice pm' nm' cm', .int .i64 b.sym] 71)) = W2 at *
  clear hW hs1
  have Hx := hid (five_cells h1)
  have Hy := hid (five_cells h2)
  obtain ⟨x0, x1, x2, x3, x4⟩ := Hx.out
  obtain ⟨y0, y1, y2, y3, y4⟩ := Hy.out
  clear h1 h2
  obtain ⟨_, _, e, i1, i2, i3, i4⟩ := hla
  cases e
  obtain ⟨_, _, e, k1, k2, k3, k4⟩ := hlb
  cases e
  have Hi := hid i4; have Hk := hid k4
  unfold maxLen at i2 k2
  clear i4 k4 i3 k3
  generalize ord a.num b.num = od at *
  cases e1 : (a.op != b.op)
  case true => (have hr0 : r = false := by rw [Hr.out, e1]; rfl); subst hr0; clear Hr; go_wp2; go_ret; exact ⟨rfl, bw⟩
  cases e2 : (a.sym != b.sym)
  case true => (have hr0 : r = false := by rw [Hr.out, e1, e2]; rfl); subst hr0; clear Hr; go_wp2; go_ret; exact ⟨rfl, bw⟩
  cases e3 : ((a.args.length : Int) != (b.args.length : Int))
  case true => (have hr0 : r = false := by rw [Hr.out, e1, e2, e3]; rfl); subst hr0; clear Hr; go_wp2; go_ret; exact ⟨rfl, bw⟩
  have hlen : a.args.length = b.args.length := by simp at e3; omega
  cases e4 : (od != 0)
  case true =>
    have hr0 : r = false := by rw [Hr.out, e1, e2, e3, e4]; rfl
    subst hr0
    clear Hr
    go_wp2_with (refine (Hcmp.out _ bw).mono ?_; rintro e w4 ⟨rfl, b4⟩)
    go_ret
    exact ⟨rfl, bel_go b4 bw⟩
  have hr1 : r = decide (a.args = b.args) := by rw [Hr.out, e1, e2, e3, e4]; rfl
  have Hr1 := hid hr1
  clear Hr hr1
  go_wp2_with (first | (go_at_call 38; refine (Hcmp.out _ bw).mono ?_; rintro e w4 ⟨rfl, b4⟩; have x1 := (b4.cell (p := ⟨w.heap.size, 1, none⟩) (by dsimp only; omega)).trans x1))
  have Hb4 := hid b4
  have hz4 := b4.size
  clear b4 x0 x2 x3 x4 y0 y1 y2 y3 y4 x1 e1 e2 e3 e4 Hcmp
  go_loopw [38] (fun i wr => ∃ k : Nat, k ≤ a.args.length ∧ i = .int .i64 (k : Nat) ∧ Hid (a.args.take k = b.args.take k) ∧ Hid (Below w4.heap.size w4 wr)) (fun i _ => a.args.length - (intOf i).toNat)
  case atStart => exact ⟨0, Nat.zero_le _, rfl, hid (by simp), hid (Below.refl _ _)⟩
  case round =>
    obtain ⟨k, hk, rfl, htk, Hb⟩ := hrel
    have hb2 : Below W2.heap.size W2 wr := Hb4.out.trans (Hb.out.mono hz4)
    have hbw : Below w.heap.size w wr := bel_go hb2 bw
    by_cases hlt : k < a.args.length
    · have hlt' : (k : Int) < (a.args.length : Nat) := by omega
      have hltb : k < b.args.length := by omega
      obtain ⟨-, x1, -, -, -⟩ := Hx.out
      obtain ⟨-, y1, -, -, -⟩ := Hy.out
      have x1 := (hb2.cell (p := ⟨w.heap.size, 1, none⟩) (by dsimp only; omega)).trans x1
      have y1 := (hb2.cell (p := ⟨w.heap.size + 1, 1, none⟩) (by dsimp only; omega)).trans y1
      obtain ⟨bb, off, rfl, j1, j2⟩ := Hi.out (by omega)
      obtain ⟨bc, off', rfl, o1, o2⟩ := Hk.out (by omega)
      have m1 := (hbw.cell (p := ⟨bb, off + k, none⟩) j1).trans (j2 k hlt)
      have m2 := (hbw.cell (p := ⟨bc, off' + k, none⟩) o1).trans (o2 k hltb)
      have hnx : (a.args[k] != b.args[k]) = false → a.args.take (k + 1) = b.args.take (k + 1) := fun h => by
        rw [List.take_succ_eq_append_getElem hlt, List.take_succ_eq_append_getElem hltb, htk.out, show a.args[k] = b.args[k] by simpa using h]
      have hno : (a.args[k] != b.args[k]) = true → r = false := fun h => by
        rw [Hr1.out]
        simp at h ⊢
        intro e
        exact h (by simp [e])
      have Hnx := hid hnx; have Hno := hid hno
      clear hnx hno j2 o2 Hi Hk Hx Hy htk
      generalize a.args[k] = p1 at *
      generalize b.args[k] = p2 at *
      cases hpp : (p1 != p2)
      · go_wp2_with fail
        go_quiet (fail)
        go_wp2
        go_roundw
        case rel => exact ⟨k + 1, by omega, rfl, hid (Hnx.out (by trivial)), hid (below_drewN Hb.out _)⟩
        case measure => simp [intOf]; omega
      · go_wp2_with fail
        go_quiet (fail)
        go_wp2
        go_ret
        exact ⟨by rw [Hno.out (by trivial)]; rfl, below_drewN hbw _⟩
    · have hkk : k = a.args.length := by omega
      subst hkk
      have he : r = true := by
        rw [Hr1.out]
        have := htk.out
        rw [List.take_length, hlen, List.take_length] at this
        simpa using this
      subst he
      clear Hr1 htk Hi Hk Hx Hy
      go_wp2_with fail
      go_ret
      exact ⟨rfl, hbw⟩
end Go.Proofs.YtckkpolikdnilaaGreatDoor
/- elenchusref04.Find; rows that the reference has made. -/
namespace Go.Proofs.YtckkpolikdnilaaGreatDoor
open Go.RowKit Big Go.WideMaps

theorem findIdx_step (l : List Tm) (t : Tm) (k : Nat) (h : k < l.length) (hn : plFind (l.take k) t = none) : (l[k] = t → plFind l t = some k) ∧ (l[k] ≠ t → plFind (l.take (k + 1)) t = none) := by
  have hn' : ∀ x ∈ l.take k, x ≠ t := by
    unfold plFind at hn
    rw [List.findIdx?_eq_none_iff] at hn
    intro x hx e
    have := hn x hx
    simp [e] at this
  refine ⟨fun e => ?_, fun e => ?_⟩
  · unfold plFind
    rw [List.findIdx?_eq_some_iff_getElem]
    refine ⟨h, by simp [e], fun j hj => ?_⟩
    have : l[j] ∈ l.take k := by
      rw [List.mem_take_iff_getElem]
      exact ⟨j, by omega, rfl⟩
    simpa using hn' _ this
  · unfold plFind
    rw [List.findIdx?_eq_none_iff]
    intro x hx
    rw [List.take_succ_eq_append_getElem h] at hx
    rcases List.mem_append.1 hx with hx | hx
    · simpa using hn' x hx
    · simp at hx; subst hx; simpa using e
def rfFound (l : List Tm) (t : Tm) : Int := match plFind l t with | some k => (k : Nat) | none => -1
set_option maxRecDepth 100000 in
set_option maxHeartbeats 12800000 in
theorem Find_any (s : List Sy) (l : List Tm) (t : Tm) (v vt : Value) (w : World) (hr : RwIn w v s l) (ht : TmRaw w vt t) (hst : sz W t.num.natAbs ≤ 549755813888) (hsl : ∀ x ∈ l, sz W x.num.natAbs ≤ 549755813888) :
    Calls Tryz.prog 67 #[v, vt] w (RNum .i64 (rfFound l t) w) := by
  have Ht := hid ht
  have Hsl := hid hsl
  obtain ⟨va, vb, rfl, hs', ht'⟩ := hr
  have Htl := hid ht'
  obtain ⟨pa, ca, rfl, -, -, -, -⟩ := hs'
  obtain ⟨pb, cb, rfl, b1, b2, -, -⟩ := ht'
  obtain ⟨pc, cc, b, pm, nm, cm, rfl, -, -⟩ := ht
  have bx := below1 w (.cells #[.slice pa s.length ca, .slice pb l.length cb] 25)
  have hx0 := heap_alloc_new w (.cells #[.slice pa s.length ca, .slice pb l.length cb] 25)
  have hz := size_alloc w (.cells #[.slice pa s.length ca, .slice pb l.length cb] 25)
  have by_ := below1 (w.alloc (.cells #[.slice pa s.length ca, .slice pb l.length cb] 25)) (.cells #[.int .i64 t.op, .slice pc t.args.length cc, .bool b, .slice pm nm cm, .int .i64 t.sym] 71)
  have hy0 := heap_alloc_new (w.alloc (.cells #[.slice pa s.length ca, .slice pb l.length cb] 25)) (.cells #[.int .i64 t.op, .slice pc t.args.length cc, .bool b, .slice pm nm cm, .int .i64 t.sym] 71)
  have hz2 := size_alloc (w.alloc (.cells #[.slice pa s.length ca, .slice pb l.length cb] 25)) (.cells #[.int .i64 t.op, .slice pc t.args.length cc, .bool b, .slice pm nm cm, .int .i64 t.sym] 71)
  rw [hz] at hy0 hz2
  have hx1 := (by_.block w.heap.size (by omega)).trans hx0
  have bw := bel_go by_ bx
  clear hsl bx hx0 by_
  unfold maxLen at b2
  go_enter Tryz.func67, Tryz.ntmps67
  go_upto_region 1 with fail
  generalize hW : ((w.alloc (.cells #[.slice pa s.length ca, .slice pb l.length cb] 25)).alloc (.cells #[.int .i64 t.op, .slice pc t.args.length cc, .bool b, .slice pm nm cm, .int .i64 t.sym] 71)) = W2 at *
  clear hW hz
  have HY := hid hy0
  have HBw := hid bw
  obtain ⟨z0, z1, -, -⟩ := two_cells hx1
  clear hx1 hy0 bw
  go_wp2_with fail
  go_loopw [10] (fun i wr => ∃ k : Nat, k ≤ l.length ∧ i = .int .i64 (k : Nat) ∧ Hid (plFind (l.take k) t = none) ∧ Hid (Below W2.heap.size W2 wr)) (fun i _ => l.length - (intOf i).toNat)
  case atStart => exact ⟨0, Nat.zero_le _, rfl, hid rfl, hid (Below.refl _ _)⟩
  case round =>
    obtain ⟨k, hk, rfl, hno, Hb⟩ := hrel
    clear z0 z1
    have Hbw := hid (bel_go Hb.out HBw.out)
    by_cases hlt : k < l.length
    · have hlt' : (k : Int) < (l.length : Nat) := by omega
      obtain ⟨_, _, e5, -, -, -, hc⟩ := Htl.out.below Hbw.out
      cases e5
      obtain ⟨bb, off, rfl, j1, j2⟩ := hc (by omega)
      obtain ⟨c0, c1, c2, c3, c4, m0, m1, m2, m3, m4, hraw⟩ := j2 k hlt
      have hstep := findIdx_step l t k hlt hno.out
      have hsx := Hsl.out l[k] (List.getElem_mem hlt)
      generalize l[k] = x at *
      have Hraw := hid hraw
      obtain ⟨pd, cd, b', pm', nm', cm', ea, -, -⟩ := hraw
      cases ea
      have hsame := fun W (hw : Below wr.heap.size wr W) => RefSame_any x t _ _ W (Hraw.out.below hw) (Ht.out.below (bel_go hw Hbw.out)) hsx hst
      have Hsame := hid hsame
      have Hstep := hid hstep
      have q := five_cells ((Hb.out.block (w.heap.size + 1) (by omega)).trans HY.out)
      obtain ⟨y0, y1, y2, y3, y4⟩ := q
      have bz := below1 wr (.cells #[.int .i64 x.op, .slice pd x.args.length cd, .bool b', .slice pm' nm' cm', .int .i64 x.sym] 71)
      have hsr := Hb.out.size
      have y0 := (bz.cell (p := ⟨w.heap.size + 1, 0, none⟩) (by dsimp only; omega)).trans y0
      have y1 := (bz.cell (p := ⟨w.heap.size + 1, 1, none⟩) (by dsimp only; omega)).trans y1
      have y2 := (bz.cell (p := ⟨w.heap.size + 1, 2, none⟩) (by dsimp only; omega)).trans y2
      have y3 := (bz.cell (p := ⟨w.heap.size + 1, 3, none⟩) (by dsimp only; omega)).trans y3
      have y4 := (bz.cell (p := ⟨w.heap.size + 1, 4, none⟩) (by dsimp only; omega)).trans y4
      clear hc j2 hno hstep hsx hsame Hsl Htl
      go_wp2_with fail
      refine (Hsame.out _ bz).mono ?_
      rintro e w3 ⟨rfl, b3⟩
      have Hb3 := hid (Hb.out.trans ((bel_go b3 bz).mono Hb.out.size))
      clear b3 bz y0 y1 y2 y3 y4
      by_cases hxt : x = t
      · have hd : decide (x = t) = true := by simpa using hxt
        have He := hid (show rfFound l t = (k : Nat) by unfold rfFound; rw [Hstep.out.1 hxt])
        rw [hd]
        clear hxt hd
        go_wp2_with fail
        go_ret
        exact ⟨by rw [He.out]; rfl, bel_go Hb3.out HBw.out⟩
      · have hd : decide (x = t) = false := by simpa using hxt
        have He := hid (Hstep.out.2 hxt)
        rw [hd]
        clear hxt hd
        go_wp2_with fail
        go_roundw
        case rel => exact ⟨k + 1, by omega, rfl, He, Hb3⟩
        case measure => simp [intOf]; omega
    · have hkk : k = l.length := by omega
      subst hkk
      have He := hid (show rfFound l t = -1 by have := hno.out; rw [List.take_length] at this; unfold rfFound; rw [this])
      go_wp2_with fail
      go_ret
      exact ⟨by rw [He.out]; rfl, Hbw.out⟩

/-- a term in a row that the reference has made: its parts' numbers as they came in, its number in memory of its own -/
def RfTm (W0 : World) (B : Nat) (w : World) (t : Tm) (c : List Value) : Prop := ∃ va vn, c = [.int .i64 t.op, va, .bool (decide (t.num < 0)), vn, .int .i64 t.sym] ∧ IAt W0 va t.args ∧ Own w B 94 .u64 vn (dig W t.num.natAbs)
def RfRows (W0 : World) (B : Nat) (w : World) : List Tm → List Value → Prop
  | [], cs => cs = []
  | t :: l, cs => ∃ c r, cs = c ++ r ∧ RfTm W0 B w t c ∧ RfRows W0 B w l r
theorem RfTm.len {W0 w : World} {B : Nat} {t : Tm} {c : List Value} (h : RfTm W0 B w t c) : c.length = 5 := by
  obtain ⟨va, vn, rfl, _⟩ := h; rfl
theorem RfRows.snoc {W0 w : World} {B : Nat} {t : Tm} {c : List Value} : ∀ {l : List Tm} {cs : List Value}, RfRows W0 B w l cs → RfTm W0 B w t c → RfRows W0 B w (l ++ [t]) (cs ++ c)
  | [], _, h, ht => by
    subst h
    exact ⟨c, [], by simp, ht, rfl⟩
  | x :: l, _, ⟨c', r, rfl, hx, hr⟩, ht => ⟨c', r ++ c, by simp, hx, hr.snoc ht⟩
theorem RfRows.at {W0 w : World} {B : Nat} : ∀ {l : List Tm} {cs : List Value}, RfRows W0 B w l cs → ∀ i (h : i < l.length), ∃ c, RfTm W0 B w l[i] c ∧ ∀ j, j < 5 → cs[i * 5 + j]? = c[j]?
  | x :: l, _, ⟨c', r, rfl, hx, hr⟩, 0, _ => ⟨c', hx, fun j hj => by
      rw [Nat.zero_mul, Nat.zero_add, List.getElem?_append_left (by rw [hx.len]; exact hj)]⟩
  | x :: l, _, ⟨c', r, rfl, hx, hr⟩, i + 1, h => by
    obtain ⟨c, hc, hj⟩ := RfRows.at hr i (by simpa using h)
    refine ⟨c, hc, fun j hj' => ?_⟩
    rw [← hj j hj', List.getElem?_append_right (by rw [hx.len]; omega), hx.len]
    congr 1
    omega
/-- such rows stay where words stay -/
theorem RfRows.stays {W0 w w' : World} {B : Nat} (hb : ∀ (k : Nat), (∃ cc : Array Value, w.heap[k]? = some (Obj.cells cc 94 (0, 0))) → w'.heap[k]? = w.heap[k]?) : ∀ {l : List Tm} {cs : List Value}, RfRows W0 B w l cs → RfRows W0 B w' l cs
  | [], _, h => h
  | _ :: _, _, ⟨c', r, e, ⟨va, vn, e2, h1, h2⟩, hr⟩ => ⟨c', r, e, ⟨va, vn, e2, h1, row_stays h2 fun k hk => hb k (row_tag h2 k hk)⟩, hr.stays hb⟩
def RfIn (W0 : World) (B : Nat) (w : World) (v : Value) (l : List Tm) : Prop := ∃ cs, w.ownsRow B 71 5 v l.length cs ∧ RfRows W0 B w l cs
theorem RfIn.stays {W0 w w' : World} {B : Nat} {v : Value} {l : List Tm} (h : RfIn W0 B w v l) (hb : ∀ (k : Nat) (c : Array Value) t, w.heap[k]? = some (Obj.cells c t (0, 0)) → B ≤ k → (t = 94 ∨ v.ownBlock = some k) → w'.heap[k]? = w.heap[k]?) (hw : ∀ (k : Nat) (c : Array Value), w.heap[k]? = some (Obj.cells c 94 (0, 0)) → w'.heap[k]? = w.heap[k]?) : RfIn W0 B w' v l := by
  obtain ⟨cs, h1, h2⟩ := h
  refine ⟨cs, row_stays h1 fun k hk => ?_, h2.stays fun k ⟨cc, hc⟩ => hw k cc hc⟩
  obtain ⟨c, hc⟩ := row_tag h1 k hk
  exact hb k c _ hc (World.ownsRow.lt h1 k hk).1 (.inr hk)
theorem RfIn.below {W0 w w' : World} {B : Nat} {v : Value} {l : List Tm} (h : RfIn W0 B w v l) (hb : Below w.heap.size w w') : RfIn W0 B w' v l := by
  obtain ⟨cs, h1, h2⟩ := h
  exact ⟨cs, ownsRow_later h1 hb, h2.stays fun k ⟨cc, hc⟩ => hb.block k (lt_of_block hc)⟩
theorem RfIn.tms {W0 w : World} {B : Nat} {v : Value} {l : List Tm} (h : RfIn W0 B w v l) (h0 : Below W0.heap.size W0 w) (hs : ∀ t ∈ l, sz W t.num.natAbs ≤ 1099511627776) : TmsIn w v l := by
  obtain ⟨cs, hrow, hr⟩ := h
  obtain ⟨p, cap, rfl, h1, h2, h3, h4⟩ := row_handed (ownsRow_mono hrow (Nat.zero_le _))
  refine ⟨p, cap, rfl, h1, h2, h3, fun hl => ?_⟩
  obtain ⟨b, hp, hb, hc⟩ := h4 hl
  refine ⟨b, 0, hp, hb, fun i hi => ?_⟩
  obtain ⟨c, ⟨va, vn, rfl, k1, k2⟩, hj⟩ := hr.at i hi
  have e0 := hj 0 (by decide); have e1 := hj 1 (by decide); have e2 := hj 2 (by decide); have e3 := hj 3 (by decide); have e4 := hj 4 (by decide)
  refine ⟨_, _, _, _, _, by rw [Nat.zero_add]; exact hc _ _ e0, by rw [Nat.zero_add]; exact hc _ _ e1, by rw [Nat.zero_add]; exact hc _ _ e2, by rw [Nat.zero_add]; exact hc _ _ e3, by rw [Nat.zero_add]; exact hc _ _ e4, ?_⟩
  have k1' := k1.below h0
  obtain ⟨pa, ca, rfl, r1⟩ := id k1'
  have k3 := k2.at
  obtain ⟨pn, cn, rfl, r2⟩ := id k3
  exact ⟨pa, ca, _, pn, _, cn, rfl, k1', IntAt.raw ⟨_, rfl, k3⟩ (hs _ (List.getElem_mem hi))⟩
end Go.Proofs.YtckkpolikdnilaaGreatDoor
/- elenchusref04.Make. -/
namespace Go.Proofs.YtckkpolikdnilaaGreatDoor
open Go.RowKit Big Go.WideMaps

theorem PoGood.make {p : Po} {t : Tm} (h : PoGood p) (hw : plWrong p t = 0) (hl : p.terms.length < 4096) : PoGood ⟨p.syms, p.terms ++ [t], p.sorts ++ [plSort p t]⟩ := by
  obtain ⟨h1, h2, h3, h4⟩ := h
  obtain ⟨w1, w2, w3, w4, w5⟩ := plWrong_zero hw
  have hop : 1 ≤ t.op ∧ t.op ≤ 13 := by
    unfold plBadForm at w1
    simp only [Bool.or_eq_false_iff] at w1
    exact plRule_op w1.1.1
  have old : ∀ (j : Nat), j < p.terms.length → plSortAt ⟨p.syms, p.terms ++ [t], p.sorts ++ [plSort p t]⟩ (j : Nat) = plSortAt p (j : Nat) := fun j hj => by
    unfold plSortAt
    simp only [Int.toNat_natCast]
    rw [List.getElem?_append_left (by omega)]
  have srt : ∀ x : Tm, (x.op = 9 → ∃ (h1 : 1 < x.args.length) (j : Nat), x.args[1] = (j : Nat) ∧ j < p.terms.length) → plSort ⟨p.syms, p.terms ++ [t], p.sorts ++ [plSort p t]⟩ x = plSort p x := fun x hx => by
    unfold plSort
    by_cases e4 : x.op = 4
    · rw [if_pos e4, if_pos e4]; rfl
    · rw [if_neg e4, if_neg e4]
      by_cases e9 : x.op = 9
      · rw [if_pos e9, if_pos e9]
        obtain ⟨k1, j, k2, k3⟩ := hx e9
        rw [List.getElem?_eq_getElem k1, k2]
        exact old j k3
      · rw [if_neg e9, if_neg e9]
  refine ⟨by simp [h1], by simp; omega, h3, fun k hk => ?_⟩
  have hk' : k < p.terms.length + 1 := by simpa using hk
  by_cases hkk : k < p.terms.length
  · have e : (p.terms ++ [t])[k]'hk = p.terms[k] := List.getElem_append_left hkk
    show (((p.terms ++ [t])[k]'hk).op = 4 → _) ∧ _
    rw [e]
    obtain ⟨a1, a2, a3, a4, a5⟩ := h4 k hkk
    refine ⟨a1, a2, a3, a4, ?_⟩
    rw [old k hkk, srt _ (fun h => by obtain ⟨k1, j, k2, k3⟩ := a2 h; exact ⟨k1, j, k2, by omega⟩)]
    exact a5
  · have hke : k = p.terms.length := by omega
    have e : (p.terms ++ [t])[k]'hk = t := by subst hke; simp
    show (((p.terms ++ [t])[k]'hk).op = 4 → _) ∧ _
    rw [e]
    have hite := iteIn_of p t w3 w4
    refine ⟨fun h => ?_, fun h => ?_, hop.1, hop.2, ?_⟩
    · unfold plNoSym at w2
      simp [h] at w2
      exact ⟨t.sym.toNat, by omega, by show _ < p.syms.length; omega⟩
    · obtain ⟨k1, j, k2, k3⟩ := hite h
      exact ⟨k1, j, k2, by omega⟩
    · rw [srt t hite]
      unfold plSortAt
      simp only [Int.toNat_natCast]
      rw [hke, List.getElem?_append_right (by omega), h1]
      simp
def RRf (W0 : World) (B : Nat) (vs vr : Value) (r : Po × Int × Int) (w : World) (e : Ending) (w' : World) : Prop := ∃ vr', e = .returned (.tuple #[.agg #[vs, vr'], .int .i64 r.2.1, .int .i64 r.2.2]) ∧ RfIn W0 B w' vr' r.1.terms ∧ Apart (fun k => vr.ownBlock = some k) w w' ∧ (vr'.ownBlock = vr.ownBlock ∨ ∀ k, vr'.ownBlock = some k → w.heap.size ≤ k)
theorem agg5 {c0 c1 c2 c3 c4 d0 d1 d2 d3 d4 : Value} (e : (Value.agg #[c0, c1, c2, c3, c4]) = .agg #[d0, d1, d2, d3, d4]) : c0 = d0 ∧ c1 = d1 ∧ c2 = d2 ∧ c3 = d3 ∧ c4 = d4 := by
  simpa using e
theorem Apart.setNew {S : Nat → Prop} {a w : World} (h : Apart S a w) {q : Addr} (hq : a.heap.size ≤ q.block) (u : Value) : Apart S a (w.setCell q u) :=
  ⟨h.os, h.tape, h.output, by simpa [World.setCell] using h.size, fun k hk hn => (Below.heap_setCell _ _ _ _ (by omega)).trans (h.block k hk hn)⟩
theorem set2_same {w : World} {g : Nat} {a b : Value} {t : TypeId} (h : w.heap[g]? = some (.cells #[a, b] t (0, 0))) (u0 u1 : Value) :
    ((w.setCell ⟨g, 0, none⟩ u0).setCell ⟨g, 1, none⟩ u1).heap[g]? = some (.cells #[u0, u1] t (0, 0)) := by
  have := heap_setCell_same _ g 1 _ _ u1 (heap_setCell_same w g 0 _ _ u0 h)
  simpa using this
theorem RfIn.setFar {W0 w : World} {B : Nat} {v : Value} {l : List Tm} (h : RfIn W0 B w v l) (a : Addr) (u : Value) (c : Array Value) (t : TypeId) (ha : w.heap[a.block]? = some (.cells c t (0, 0))) (ht : t ≠ 94) (hv : v.ownBlock ≠ some a.block) : RfIn W0 B (w.setCell a u) v l :=
  h.stays (fun k c' t' hc _ hk => Below.heap_setCell _ _ _ _ (fun e => by
    rcases hk with rfl | hk
    · exact tag_ne hc (e ▸ ha) (fun e => ht e.symm) rfl
    · rw [e] at hk; exact hv hk)) (fun k c' hc => Below.heap_setCell _ _ _ _ (fun e => tag_ne hc (e ▸ ha) (fun e => ht e.symm) rfl))
theorem frozen_all {w : World} {g : Nat} {c : Array Value} {t : TypeId} (h : w.heap[g]? = some (.cells c t (0, 0))) (j : Nat) : w.frozen? ⟨g, j, none⟩ = false := frozen_of_row w g j _ _ h
end Go.Proofs.YtckkpolikdnilaaGreatDoor
/- A number that comes in as data: a bool and a slice of words; how it reads. -/
namespace Go.Proofs.YtckkpolikdnilaaGreatDoor
open Go.ChangeShapes Go.WideShapes Go.ChangeAt Go.RowKit Go.Deep Go.Joins Big

section
variable {H : Type} {enc : TypeId × Value → H} {w : World} {base : Nat} {spare : Nat → Bool} {held : Bool}
end
end Go.Proofs.YtckkpolikdnilaaGreatDoor
/- elenchuslaw04.fixed; PoolNil. -/
namespace Go.Proofs.YtckkpolikdnilaaGreatDoor
open Go.RowKit Big Go.WideMaps

theorem zeroRaw (w : World) : RawAt w (.agg #[.bool false, .slice none 0 0]) 0 := ⟨false, _, [], rfl, At.nil _ _, (fun x hx => by cases hx), by simp, by simp [sg, val]⟩
theorem IAt.two (w : World) (a b : Int) : IAt (w.alloc (.cells #[.int .i64 a, .int .i64 b] 3)) (.slice (some ⟨w.heap.size, 0, none⟩) 2 2) [a, b] :=
  ⟨_, 2, rfl, by simp, by simp [maxLen], fun h => (by cases h), fun _ => ⟨_, 0, rfl, by simp, fun i hi => by
    have h := cells_at (c := [.int .i64 a, .int .i64 b]) (heap_alloc_new w (.cells #[.int .i64 a, .int .i64 b] 3)) i
    rw [Go.WideShapes.add_plain] at h
    match i, hi with
    | 0, _ => exact h _ rfl
    | 1, _ => exact h _ rfl⟩⟩
def tTrue : Tm := ⟨1, [], 0, 0⟩
def tAnd : Tm := ⟨6, [0, 0], 0, 0⟩
theorem SyIn.nil (w : World) : SyIn w (.slice none 0 0) [] := ⟨none, 0, rfl, by simp, by simp [maxLen], fun _ => rfl, fun h => absurd h (by simp)⟩


end Go.Proofs.YtckkpolikdnilaaGreatDoor
/- Terms and symbols that come in as data: how they read. -/
namespace Go.Proofs.YtckkpolikdnilaaGreatDoor
open Go.ChangeShapes Go.WideShapes Go.ChangeAt Go.RowKit Go.Deep Go.Joins Big

/-- a term as it comes in: its number by sign and words -/
structure Tx where
  op : Int
  args : List Int
  neg : Bool
  words : List Nat
  sym : Int
def Tx.tm (x : Tx) : Tm := ⟨x.op, x.args, sg x.neg (val W x.words), x.sym⟩
def TxAt (w : World) (v : Value) (x : Tx) : Prop := ∃ pa ca pm cm, v = .agg #[.int .i64 x.op, .slice pa x.args.length ca, .bool x.neg, .slice pm x.words.length cm, .int .i64 x.sym] ∧
  IAt w (.slice pa x.args.length ca) x.args ∧ At w .u64 (.slice pm x.words.length cm) x.words ∧ Small W x.words
theorem TxAt.raw {w : World} {v : Value} {x : Tx} (h : TxAt w v x) (hs : x.words.length ≤ 1099511627776) : TmRaw w v x.tm := by
  obtain ⟨pa, ca, pm, cm, rfl, h1, h2, h3⟩ := h
  exact ⟨pa, ca, _, pm, _, cm, rfl, h1, _, _, _, rfl, h2, h3, hs, rfl⟩
theorem TxAt.below {w w' : World} {v : Value} {x : Tx} (h : TxAt w v x) (hb : Below w.heap.size w w') : TxAt w' v x := by
  obtain ⟨pa, ca, pm, cm, rfl, h1, h2, h3⟩ := h
  exact ⟨pa, ca, pm, cm, rfl, h1.below hb, h2.below hb, h3⟩
theorem laidOutP : laidOutB Tryz.prog = true := by kernel_rfl
theorem ownP : ownKnob Tryz.prog.godebug = none := by kernel_rfl
def dataOf {H : Type} : DataW H → List (DataW H)
  | .slice e _ => e
  | _ => []
section
variable {H : Type} {enc : TypeId × Value → H} {w : World} {base : Nat} {spare : Nat → Bool} {held : Bool}
/-- terms that come in -/
def TxsIn (w : World) (v : Value) (l : List Tx) : Prop :=
  ∃ p cap, v = .slice p l.length cap ∧ l.length ≤ cap ∧ cap ≤ maxLen ∧ (p = none → cap = 0) ∧
    (0 < l.length → ∃ b off, p = some ⟨b, off, none⟩ ∧ b < w.heap.size ∧ ∀ i (h : i < l.length), ∃ c0 c1 c2 c3 c4, w.cell? ⟨b, off + i * 5, none⟩ = some c0 ∧ w.cell? ⟨b, off + i * 5 + 1, none⟩ = some c1 ∧ w.cell? ⟨b, off + i * 5 + 2, none⟩ = some c2 ∧ w.cell? ⟨b, off + i * 5 + 3, none⟩ = some c3 ∧ w.cell? ⟨b, off + i * 5 + 4, none⟩ = some c4 ∧
      TxAt w (.agg #[c0, c1, c2, c3, c4]) l[i])
theorem TxsIn.tms {v : Value} {l : List Tx} (h : TxsIn w v l) (hs : ∀ x ∈ l, x.words.length ≤ 1099511627776) : TmsIn w v (l.map Tx.tm) := by
  obtain ⟨p, cap, rfl, h1, h2, h3, h4⟩ := h
  refine ⟨p, cap, by rw [List.length_map], by rw [List.length_map]; exact h1, h2, h3, fun h0 => ?_⟩
  rw [List.length_map] at h0
  obtain ⟨b, off, e, hb, hc⟩ := h4 h0
  refine ⟨b, off, e, hb, fun i hi => ?_⟩
  rw [List.length_map] at hi
  obtain ⟨c0, c1, c2, c3, c4, k0, k1, k2, k3, k4, hx⟩ := hc i hi
  exact ⟨c0, c1, c2, c3, c4, k0, k1, k2, k3, k4, by rw [List.getElem_map]; exact hx.raw (hs _ (List.getElem_mem hi))⟩
end
end Go.Proofs.YtckkpolikdnilaaGreatDoor
/- elenchusref04.CheckSyms, Few. -/
namespace Go.Proofs.YtckkpolikdnilaaGreatDoor
open Go.RowKit Big Go.WideMaps

/-- two symbols of one name stand among these -/
def dupN : List Sy → Bool
  | [] => false
  | s :: l => dupN l || l.any (fun x => x.name == s.name)
/-- a name stands twice among the first k -/
def dupAt (l : List Sy) (i : Nat) (h : i < l.length) : Bool := (l.take i).any fun x => x.name == l[i].name
end Go.Proofs.YtckkpolikdnilaaGreatDoor
/- elenchusref04.Check. -/
namespace Go.Proofs.YtckkpolikdnilaaGreatDoor
open Go.RowKit Big Go.WideMaps

theorem plMake_split (p : Po) (t : Tm) (h : p.terms.length ≤ 4096) : (plMake p t).2.2 ≠ 0 ∨ (∃ k : Nat, k < p.terms.length ∧ plMake p t = (p, ((k : Nat) : Int), 0)) ∨ (plWrong p t = 0 ∧ p.terms.length < 4096 ∧ plMake p t = (⟨p.syms, p.terms ++ [t], p.sorts ++ [plSort p t]⟩, ((p.terms.length : Nat) : Int), 0)) := by
  by_cases hw : plWrong p t = 0
  · cases hf : plFind p.terms t with
    | some k => exact .inr (.inl ⟨k, (plFind_some hf).1, plMake_there hw hf⟩)
    | none =>
      by_cases hl : p.terms.length = 4096
      · left; rw [plMake_full hw hf hl]; show (11 : Int) ≠ 0; decide
      · exact .inr (.inr ⟨hw, by omega, plMake_new hw hf hl⟩)
  · left; rw [plMake_bad hw]; exact hw
/-- where the reference's Check stands -/
def ChkAt (W0 : World) (B G : Nat) (vs : Value) (syms : List Sy) (terms : List Tm) (k : Nat) (wr : World) : Prop :=
  ∃ pk vr, (plNews ⟨syms, [], []⟩ terms).2 = (plNews pk (terms.drop k)).2 ∧ PoGood pk ∧ pk.syms = syms ∧ pk.terms.length = k ∧ RfIn W0 B wr vr pk.terms ∧ (∀ x ∈ pk.terms, sz W x.num.natAbs ≤ 549755813888) ∧
    wr.heap[G]? = some (.cells #[vs, vr] 25 (0, 0)) ∧ Below W0.heap.size W0 wr
end Go.Proofs.YtckkpolikdnilaaGreatDoor
/- Of rows that may be: truths are worth 0 or 1, so that the reference's Ops are the program's. -/
namespace Go.Proofs.YtckkpolikdnilaaGreatDoor

/-- what an Op makes of its parts' values, as the reference has it -/
def vlRefOp (syms : List Sy) (ts : List Tb5) (t : Tm) (l : List Int) : Int :=
  if t.op = 1 then 1
  else if t.op = 3 then t.num
  else if t.op = 4 then vlTell ((syms[t.sym.toNat]?.getD ⟨[], 0, 0⟩).sort) (vlTabAt ts t.sym) l
  else if t.op = 5 then vlTruth (!(vlAt l 0 != 0))
  else if t.op = 8 then vlTruth ((vlAt l 0 != 0) == (vlAt l 1 != 0))
  else if t.op = 9 then (if vlAt l 0 ≠ 0 then vlAt l 1 else vlAt l 2)
  else if t.op = 10 then vlTruth (decide (vlAt l 0 = vlAt l 1))
  else if t.op = 11 then vlTruth (decide (vlAt l 0 ≤ vlAt l 1))
  else if t.op = 13 then t.num * vlAt l 0
  else if t.op = 6 ∨ t.op = 7 then vlTruth (decide (l.countP (· != 0) = l.length) || (decide (t.op = 7) && decide (0 < l.countP (· != 0))))
  else if t.op = 12 then vlSum l
  else 0
def Steps : Po → List Tm → Prop
  | _, [] => True
  | p, t :: l => plWrong p t = 0 ∧ Steps ⟨p.syms, p.terms ++ [t], p.sorts ++ [plSort p t]⟩ l
theorem steps_of_news : ∀ (l : List Tm) (p : Po), p.terms.length ≤ 4096 → (plNews p l).2 = 0 → Steps p l
  | [], _, _, _ => trivial
  | t :: l, p, hp, h => by
    unfold plNews at h
    by_cases hne : (plNew p t).2.2 ≠ 0
    · rw [if_pos hne] at h; exact absurd h hne
    · rw [if_neg hne] at h
      rcases plMake_split p t hp with h1 | ⟨k, hk, h1⟩ | ⟨h1, h2, h3⟩
      · exfalso
        apply hne
        unfold plNew
        rw [if_neg (by intro ⟨a, _⟩; exact h1 a)]
        exact h1
      · exfalso
        apply hne
        unfold plNew
        rw [h1]
        rw [if_pos ⟨rfl, by show ((k : Nat) : Int) < (p.terms.length : Nat); omega⟩]
        show (6 : Int) ≠ 0
        decide
      · have e : plNew p t = plMake p t := by
          unfold plNew
          rw [h3, if_neg (by rintro ⟨_, a⟩; exact absurd a (by show ¬ ((p.terms.length : Nat) : Int) < (p.terms.length : Nat); omega))]
        rw [e, h3] at h
        exact ⟨h1, steps_of_news l _ (by simp; omega) h⟩
/-- the values of terms, truths among them 0 or 1 -/
structure Known (p : Po) (known : List Int) : Prop where
  len : known.length = p.terms.length
  sorts : p.sorts.length = p.terms.length
  bit : ∀ a : Int, 0 ≤ a → a < (p.terms.length : Nat) → plSortAt p a = 1 → vlAt known a = 0 ∨ vlAt known a = 1
theorem truth_bit (b : Bool) : vlTruth b = 0 ∨ vlTruth b = 1 := by cases b <;> simp [vlTruth]
structure Right (p : Po) (t : Tm) : Prop where
  rule : ∃ r, plRule t.op = some r
  sym : t.op = 4 → 0 ≤ t.sym ∧ t.sym < (p.syms.length : Nat)
  part : ∀ a ∈ t.args, 0 ≤ a ∧ a < (p.terms.length : Nat)
  count : t.op ≠ 4 → (plRu t.op).least ≤ (t.args.length : Nat) ∧ ((t.args.length : Nat) : Int) ≤ (plRu t.op).most
  sort : ∀ i (h : i < t.args.length), plSortAt p (t.args[i]'h) = plPart p t i
theorem right_of {p : Po} {t : Tm} (h : plWrong p t = 0) : Right p t := by
  unfold plWrong at h
  have h1 : plBadForm t = false := by cases e : plBadForm t; rfl; simp [e] at h
  rw [h1] at h
  have h2 : plNoSym p t = false := by cases e : plNoSym p t; rfl; simp [e] at h
  rw [h2] at h
  have h3 : plNoPart p t = false := by cases e : plNoPart p t; rfl; simp [e] at h
  rw [h3] at h
  have h4 : plBadCount p t = false := by cases e : plBadCount p t; rfl; simp [e] at h
  rw [h4] at h
  have h5 : plBadSort p t = false := by cases e : plBadSort p t; rfl; simp [e] at h
  refine ⟨?_, fun h => ?_, fun a ha => ?_, fun h => ?_, fun i hi => ?_⟩
  · unfold plBadForm at h1
    simp only [Bool.or_eq_false_iff] at h1
    exact Option.isSome_iff_exists.1 (by simpa using h1.1.1)
  · unfold plNoSym at h2
    rw [h] at h2
    simp at h2
    omega
  · unfold plNoPart at h3
    have := List.any_eq_false.1 h3 a ha
    unfold plNoTerm at this
    simp at this
    omega
  · unfold plBadCount at h4
    rw [if_neg h] at h4
    simp at h4
    exact h4
  · unfold plBadSort at h5
    have := List.any_eq_false.1 h5 (t.args[i], i) (by
      rw [List.mem_iff_getElem]
      exact ⟨i, by simpa using hi, by simp⟩)
    simpa using this
theorem rule_ops {op : Int} {r : Ru} (h : plRule op = some r) : op = 1 ∨ op = 2 ∨ op = 3 ∨ op = 4 ∨ op = 5 ∨ op = 6 ∨ op = 7 ∨ op = 8 ∨ op = 9 ∨ op = 10 ∨ op = 11 ∨ op = 12 ∨ op = 13 := by
  unfold plRule at h
  repeat (split at h; omega)
  cases h
theorem at_parts {t : Tm} {known : List Int} {i : Nat} (h : i < t.args.length) : vlAt (vlParts t known) (i : Nat) = vlAt known t.args[i] := by
  unfold vlParts
  show ((t.args.map (vlAt known))[(((i : Nat) : Int)).toNat]?).getD 0 = _
  simp [h]
variable {p : Po} {t : Tm} {known : List Int}
theorem Known.part (hk : Known p known) (hr : Right p t) {i : Nat} (h : i < t.args.length) (hs : plPart p t i = 1) : vlAt (vlParts t known) (i : Nat) = 0 ∨ vlAt (vlParts t known) (i : Nat) = 1 := by
  rw [at_parts h]
  have h1 := hr.part _ (List.getElem_mem h)
  exact hk.bit _ h1.1 h1.2 ((hr.sort i h).trans hs)
theorem countP_all (l : List Int) : decide (l.countP (· != 0) = l.length) = l.all (· != 0) := by
  rw [Bool.eq_iff_iff]
  simp [List.countP_eq_length]
theorem countP_any (l : List Int) : decide (0 < l.countP (· != 0)) = l.any (· != 0) := by
  rw [Bool.eq_iff_iff]
  simp [List.countP_pos_iff]
theorem op_ref (ts : List Tb5) (hk : Known p known) (hr : Right p t) : vlRefOp p.syms ts t (vlParts t known) = vlOp p.syms ts t (vlParts t known) := by
  obtain ⟨r, hru⟩ := hr.rule
  have hl : (vlParts t known).length = t.args.length := by simp [vlParts]
  rcases rule_ops hru with e | e | e | e | e | e | e | e | e | e | e | e | e
  · have hc := hr.count (by omega)
    have : t.args.length = 0 := by rw [e] at hc; have : (plRu 1).most = 0 := by decide
                                   omega
    have h0 : vlParts t known = [] := List.eq_nil_of_length_eq_zero (by omega)
    rw [h0]
    unfold vlRefOp vlOp
    rw [if_pos e, if_pos (.inl e)]
    rfl
  · have hc := hr.count (by omega)
    have : t.args.length = 0 := by rw [e] at hc; have : (plRu 2).most = 0 := by decide
                                   omega
    have h0 : vlParts t known = [] := List.eq_nil_of_length_eq_zero (by omega)
    rw [h0]
    unfold vlRefOp vlOp
    simp [e, vlTruth]
  · unfold vlRefOp vlOp; simp [e]
  · unfold vlRefOp vlOp; simp [e]
  · unfold vlRefOp vlOp; simp [e]
    congr 1
    generalize vlAt (vlParts t known) 0 = x
    rw [Bool.eq_iff_iff]
    simp
  · unfold vlRefOp vlOp; simp [e]
    rw [← countP_all]
    simp
  · have hc := hr.count (by omega)
    unfold vlRefOp vlOp; simp only [e]
    simp only [show ¬ ((7 : Int) = 1) by decide, show ¬ ((7 : Int) = 3) by decide, show ¬ ((7 : Int) = 4) by decide, show ¬ ((7 : Int) = 5) by decide, show ¬ ((7 : Int) = 8) by decide, show ¬ ((7 : Int) = 9) by decide, show ¬ ((7 : Int) = 10) by decide, show ¬ ((7 : Int) = 11) by decide, show ¬ ((7 : Int) = 13) by decide, show ¬ ((7 : Int) = 6) by decide, show ¬ ((7 : Int) = 2) by decide, if_false, or_true, if_true, or_self, decide_true, Bool.true_and]
    rw [countP_all, countP_any]
    congr 1
    have hpos : 0 < (vlParts t known).length := by
      rw [e] at hc
      have : (plRu 7).least = 2 := by decide
      omega
    generalize vlParts t known = m at *
    cases ha : m.any (· != 0)
    · rw [Bool.or_false]
      cases hb : m.all (· != 0)
      · rfl
      · exfalso
        have h1 := List.all_eq_true.1 hb (m[0]) (List.getElem_mem hpos)
        have h2 := List.any_eq_false.1 ha (m[0]) (List.getElem_mem hpos)
        exact h2 h1
    · rw [Bool.or_true]
  · have hc := hr.count (by omega)
    have h2 : t.args.length = 2 := by rw [e] at hc; have h1 : (plRu 8).most = 2 := by decide
                                      have h3 : (plRu 8).least = 2 := by decide
                                      omega
    have p0 := hk.part hr (i := 0) (by omega) (by unfold plPart; rw [e, if_neg (by decide)]; decide)
    have p1 := hk.part hr (i := 1) (by omega) (by unfold plPart; rw [e, if_neg (by decide)]; decide)
    unfold vlRefOp vlOp; simp [e]
    congr 1
    generalize ha : vlAt (vlParts t known) 0 = x at *
    generalize hb : vlAt (vlParts t known) 1 = y at *
    have p0 : x = 0 ∨ x = 1 := by have := p0; simpa [ha] using this
    have p1 : y = 0 ∨ y = 1 := by have := p1; simpa [hb] using this
    rcases p0 with rfl | rfl <;> rcases p1 with rfl | rfl <;> decide
  · unfold vlRefOp vlOp; simp [e]
  · unfold vlRefOp vlOp; simp [e]
  · unfold vlRefOp vlOp; simp [e]
  · unfold vlRefOp vlOp; simp [e]
  · unfold vlRefOp vlOp; simp [e]
/-- one term more -/
theorem Known.snoc (ts : List Tb5) (hk : Known p known) (hr : Right p t) : Known ⟨p.syms, p.terms ++ [t], p.sorts ++ [plSort p t]⟩ (known ++ [vlOp p.syms ts t (vlParts t known)]) := by
  refine ⟨by simp [hk.len], by simp [hk.sorts], fun a h0 h1 hs => ?_⟩
  have hv : vlAt (known ++ [vlOp p.syms ts t (vlParts t known)]) a = if a.toNat < known.length then vlAt known a else vlOp p.syms ts t (vlParts t known) := by
    unfold vlAt
    split
    · next h => rw [List.getElem?_append_left h]
    · next h =>
      have : a.toNat = known.length := by have := hk.len; simp at h1; omega
      rw [this]; simp
  have hso : plSortAt ⟨p.syms, p.terms ++ [t], p.sorts ++ [plSort p t]⟩ a = if a.toNat < known.length then plSortAt p a else plSort p t := by
    unfold plSortAt
    have := hk.len; have := hk.sorts
    split
    · next h => rw [List.getElem?_append_left (by omega)]
    · next h =>
      have : a.toNat = p.sorts.length := by simp at h1; omega
      rw [this]; simp
  rw [hv]
  rw [hso] at hs
  split
  · next h =>
    rw [if_pos h] at hs
    exact hk.bit a h0 (by have := hk.len; omega) hs
  · next h =>
    rw [if_neg h] at hs
    obtain ⟨r, hru⟩ := hr.rule
    unfold plSort at hs
    unfold vlOp
    rcases rule_ops hru with e | e | e | e | e | e | e | e | e | e | e | e | e
    · simp [e]; exact truth_bit _
    · simp [e]; exact truth_bit _
    · rw [e, if_neg (by decide), if_neg (by decide)] at hs; exact absurd hs (by decide)
    · rw [if_pos e] at hs
      simp only [e]
      simp
      unfold plSymAt at hs
      unfold vlTell
      rw [if_pos hs]
      exact truth_bit _
    · simp [e]; exact truth_bit _
    · simp [e]; exact truth_bit _
    · simp [e]; exact truth_bit _
    · simp [e]; exact truth_bit _
    · have hc := hr.count (by omega)
      have h3 : t.args.length = 3 := by rw [e] at hc; have h1 : (plRu 9).most = 3 := by decide
                                        have h3 : (plRu 9).least = 3 := by decide
                                        omega
      rw [if_neg (by omega), if_pos e] at hs
      have hs1 : plPart p t 1 = 1 := by unfold plPart; rw [if_pos ⟨e, by omega⟩]; exact hs
      have hs2 : plPart p t 2 = 1 := by unfold plPart; rw [if_pos ⟨e, by omega⟩]; exact hs
      have p1 := hk.part hr (i := 1) (by omega) hs1
      have p2 := hk.part hr (i := 2) (by omega) hs2
      simp only [e]
      simp
      split
      · exact p2
      · exact p1
    · simp [e]; exact truth_bit _
    · simp [e]; exact truth_bit _
    · rw [e, if_neg (by decide), if_neg (by decide)] at hs; exact absurd hs (by decide)
    · rw [e, if_neg (by decide), if_neg (by decide)] at hs; exact absurd hs (by decide)
end Go.Proofs.YtckkpolikdnilaaGreatDoor
/- The methods of value.meaning that draw no order. -/
namespace Go.Proofs.YtckkpolikdnilaaGreatDoor
open Go.RowKit Big Go.WideMaps

/-- a meaning: its block, and what its cells read as -/
def MeanAt (w : World) (g : Nat) (syms : List Sy) (ts : List Tb5) (t : Tm) (l : List Int) : Prop :=
  ∃ vs vt va nn ns vp, w.heap[g]? = some (.cells #[vs, vt, .int .i64 t.op, va, .bool nn, ns, .int .i64 t.sym, vp] 80 (0, 0)) ∧
    SyIn w vs syms ∧ TabsIn w vt ts ∧ RawAt w (.agg #[.bool nn, ns]) t.num ∧ NumsIn w vp l
theorem MeanAt.below {w w' : World} {g : Nat} {syms : List Sy} {ts : List Tb5} {t : Tm} {l : List Int} (h : MeanAt w g syms ts t l) (hb : Below w.heap.size w w') : MeanAt w' g syms ts t l := by
  obtain ⟨vs, vt, va, nn, ns, vp, h0, h1, h2, h3, h4⟩ := h
  exact ⟨vs, vt, va, nn, ns, vp, (hb.block g (Array.getElem?_eq_some_iff.1 h0).1).trans h0, h1.below hb, h2.below hb, h3.below hb, h4.below hb⟩
theorem rec8_cells {w : World} {g : Nat} {a0 a1 a2 a3 a4 a5 a6 a7 : Value} {t : TypeId} (h : w.heap[g]? = some (.cells #[a0, a1, a2, a3, a4, a5, a6, a7] t (0, 0))) : w.cell? ⟨g, 0, none⟩ = some a0 ∧ w.cell? ⟨g, 1, none⟩ = some a1 ∧ w.cell? ⟨g, 2, none⟩ = some a2 ∧ w.cell? ⟨g, 4, none⟩ = some a4 ∧ w.cell? ⟨g, 5, none⟩ = some a5 ∧ w.cell? ⟨g, 6, none⟩ = some a6 ∧ w.cell? ⟨g, 7, none⟩ = some a7 := by
  simp [World.cell?, h]
theorem NumsIn.at {w : World} {v : Value} {l : List Int} (h : NumsIn w v l) (i : Nat) (hi : i < l.length) : ∃ b o c x q d g, v = .slice (some ⟨b, o, none⟩) l.length c ∧ b < w.heap.size ∧ w.cell? ⟨b, o + i * 2, none⟩ = some (.bool x) ∧ w.cell? ⟨b, o + i * 2 + 1, none⟩ = some (.slice q d g) ∧ RawAt w (.agg #[.bool x, .slice q d g]) l[i] := by
  obtain ⟨p, c, rfl, -, -, -, h4⟩ := h
  obtain ⟨b, o, rfl, hb, hc⟩ := h4 (by omega)
  obtain ⟨x, s, k0, k1, hr⟩ := hc i hi
  obtain ⟨q, d, g, rfl⟩ := hr.shape
  exact ⟨b, o, c, x, q, d, g, rfl, hb, k0, k1, hr⟩
theorem all_not (l : List Int) : (!l.any (fun z : Int => z == 0)) = l.all (fun z => z != 0) := by
  induction l with
  | nil => rfl
  | cons x l ih => simp only [List.any_cons, List.all_cons, ← ih, Bool.not_or]; rfl
set_option maxRecDepth 100000 in
set_option maxHeartbeats 3200000 in
theorem mall_any (g : Nat) (w : World) (syms : List Sy) (ts : List Tb5) (t : Tm) (l : List Int) (h : MeanAt w g syms ts t l) :
    Calls Tryz.prog 73 #[.pointer (some ⟨g, 0, none⟩)] w (RInt (vlTruth (l.all (fun z => z != 0))) w) := by
  have b0 := below1 w (.cells #[.bool false, .slice none 0 0] 44)
  have hp : Pair (w.alloc (.cells #[.bool false, .slice none 0 0] 44)) w.heap.size 44 := Pair.new ..
  have hm := h.below b0
  obtain ⟨vs, vt, va, nn, ns, vp, h0, h1, h2, h3, h4⟩ := hm
  obtain ⟨x0, x1, x2, x4, x5, x6, x7⟩ := rec8_cells h0
  generalize hW : w.alloc (.cells #[.bool false, .slice none 0 0] 44) = W at *
  have G : Hid (g < W.heap.size) := hid (Array.getElem?_eq_some_iff.1 h0).1
  clear h h0
  have Hc := hid (containsFalse_any vp l W h4)
  have Ht := hid (fun w' => truth_any (!l.any (fun z : Int => z == 0)) w')
  have hbb : l.all (fun z => z != 0) = !l.any (fun z : Int => z == 0) := (all_not l).symm
  rw [hbb]
  clear hbb h1 h2 h3
  obtain ⟨pp, cp, rfl, -⟩ := h4
  generalize l.any (fun z : Int => z == 0) = r at *
  have hp := hid hp; have b0 := hid b0
  go_enter Tryz.func73, Tryz.ntmps73
  go_wp2_with fail
  clear hW
  refine Hc.out.mono ?_
  rintro e w2 ⟨rfl, b2⟩
  have B2 := hid b2
  clear Hc b2
  have Hc := hid (Ht.out w2)
  clear Ht
  go_wp2_with fail
  refine Hc.out.mono ?_
  rintro e w3 ⟨v3, rfl, hi, b3⟩
  obtain ⟨p, l0, c, rfl, hi⟩ := hi.shape
  have hpr := hid (hp.out.below (bel_go b3 B2.out))
  have hq := hpr.out.cells
  obtain ⟨_, _, q0, q1, q2, q3⟩ := hq
  have Hi := hid hi; have Hb := hid (bel_go (bel_go b3 B2.out) b0.out)
  clear hi b3 Hc
  go_wp2
  exact bodyPost_ret (v := .agg #[.bool (decide (vlTruth (!r) < 0)), .slice p l0 c]) (by simp [results, Tryz.results73, go_sem, q0, q1]) rfl ⟨_, rfl, Hi.out.stored hpr.out _ _ _ _, Below.stored Hb.out (by omega) _ _⟩
set_option maxRecDepth 100000 in
set_option maxHeartbeats 3200000 in
theorem msome_any (g : Nat) (w : World) (syms : List Sy) (ts : List Tb5) (t : Tm) (l : List Int) (h : MeanAt w g syms ts t l) :
    Calls Tryz.prog 74 #[.pointer (some ⟨g, 0, none⟩)] w (RInt (vlTruth (l.any (fun z : Int => z != 0))) w) := by
  have b0 := below1 w (.cells #[.bool false, .slice none 0 0] 44)
  have hp : Pair (w.alloc (.cells #[.bool false, .slice none 0 0] 44)) w.heap.size 44 := Pair.new ..
  have hm := h.below b0
  obtain ⟨vs, vt, va, nn, ns, vp, h0, h1, h2, h3, h4⟩ := hm
  obtain ⟨x0, x1, x2, x4, x5, x6, x7⟩ := rec8_cells h0
  generalize hW : w.alloc (.cells #[.bool false, .slice none 0 0] 44) = W at *
  have G : Hid (g < W.heap.size) := hid (Array.getElem?_eq_some_iff.1 h0).1
  clear h h0
  have Hc := hid (containsTrue_any vp l W h4)
  have Ht := hid (fun w' => truth_any (l.any (fun z : Int => z != 0)) w')
  have hbb : l.any (fun z : Int => z != 0) = l.any (fun z : Int => z != 0) := rfl
  rw [hbb]
  clear hbb h1 h2 h3
  obtain ⟨pp, cp, rfl, -⟩ := h4
  generalize l.any (fun z : Int => z != 0) = r at *
  have hp := hid hp; have b0 := hid b0
  go_enter Tryz.func74, Tryz.ntmps74
  go_wp2_with fail
  clear hW
  refine Hc.out.mono ?_
  rintro e w2 ⟨rfl, b2⟩
  have B2 := hid b2
  clear Hc b2
  have Hc := hid (Ht.out w2)
  clear Ht
  go_wp2_with fail
  refine Hc.out.mono ?_
  rintro e w3 ⟨v3, rfl, hi, b3⟩
  obtain ⟨p, l0, c, rfl, hi⟩ := hi.shape
  have hpr := hid (hp.out.below (bel_go b3 B2.out))
  have hq := hpr.out.cells
  obtain ⟨_, _, q0, q1, q2, q3⟩ := hq
  have Hi := hid hi; have Hb := hid (bel_go (bel_go b3 B2.out) b0.out)
  clear hi b3 Hc
  go_wp2
  exact bodyPost_ret (v := .agg #[.bool (decide (vlTruth (r) < 0)), .slice p l0 c]) (by simp [results, Tryz.results74, go_sem, q0, q1]) rfl ⟨_, rfl, Hi.out.stored hpr.out _ _ _ _, Below.stored Hb.out (by omega) _ _⟩
set_option maxRecDepth 100000 in
set_option maxHeartbeats 3200000 in
theorem mnot_any (g : Nat) (w : World) (syms : List Sy) (ts : List Tb5) (t : Tm) (l : List Int) (h : MeanAt w g syms ts t l) (hl : 1 ≤ l.length) :
    Calls Tryz.prog 77 #[.pointer (some ⟨g, 0, none⟩)] w (RInt (vlTruth (vlAt l 0 == 0)) w) := by
  have b0 := below1 w (.cells #[.bool false, .slice none 0 0] 44)
  have hp : Pair (w.alloc (.cells #[.bool false, .slice none 0 0] 44)) w.heap.size 44 := Pair.new ..
  have hm := h.below b0
  obtain ⟨vs, vt, va, nn, ns, vp, h0, h1, h2, h3, h4⟩ := hm
  obtain ⟨x0, x1, x2, x4, x5, x6, x7⟩ := rec8_cells h0
  generalize hW : w.alloc (.cells #[.bool false, .slice none 0 0] 44) = W at *
  have G : Hid (g < W.heap.size) := hid (Array.getElem?_eq_some_iff.1 h0).1
  clear h h0
  obtain ⟨m0, o0, c0, n0, q0, d0, g0, e0, M0, y0, z0, r0⟩ := h4.at 0 (by omega)
  rw [e0] at x7
  have M := hid M0
  clear M0
  have hv : vlAt l 0 = l[0] := by unfold vlAt; simp [show (0 : Int).toNat = 0 from rfl, List.getElem?_eq_getElem (show 0 < l.length by omega)]
  rw [hv]
  have Hc := hid (isFalse_any _ _ W r0)
  have Ht := hid (fun w' => truth_any (l[0] == 0) w')
  have y0 : W.cell? ⟨m0, o0, none⟩ = some (.bool n0) := y0
  have z0 : W.cell? ⟨m0, o0 + 1, none⟩ = some (.slice q0 d0 g0) := (congrArg (fun k => W.cell? ⟨m0, k, none⟩) (by omega)).trans z0
  clear hv h1 h2 h3 h4 r0 e0
  generalize (l[0] == 0) = r at *
  have hp := hid hp; have b0 := hid b0
  go_enter Tryz.func77, Tryz.ntmps77
  go_wp2_with fail
  clear hW
  refine Hc.out.mono ?_
  rintro e w2 ⟨rfl, b2⟩
  have B2 := hid b2
  clear Hc b2
  have Hc := hid (Ht.out w2)
  clear Ht
  go_wp2_with fail
  refine Hc.out.mono ?_
  rintro e w3 ⟨v3, rfl, hi, b3⟩
  obtain ⟨p, l0, c, rfl, hi⟩ := hi.shape
  have hpr := hid (hp.out.below (bel_go b3 B2.out))
  have hq := hpr.out.cells
  obtain ⟨_, _, q0, q1, q2, q3⟩ := hq
  have Hi := hid hi; have Hb := hid (bel_go (bel_go b3 B2.out) b0.out)
  clear hi b3 Hc
  go_wp2
  exact bodyPost_ret (v := .agg #[.bool (decide (vlTruth r < 0)), .slice p l0 c]) (by simp [results, Tryz.results77, go_sem, q0, q1]) rfl ⟨_, rfl, Hi.out.stored hpr.out _ _ _ _, Below.stored Hb.out (by omega) _ _⟩
set_option maxRecDepth 100000 in
set_option maxHeartbeats 3200000 in
theorem mnumber_any (g : Nat) (w : World) (syms : List Sy) (ts : List Tb5) (t : Tm) (l : List Int) (h : MeanAt w g syms ts t l) :
    Calls Tryz.prog 75 #[.pointer (some ⟨g, 0, none⟩)] w (RInt (t.num) w) := by
  have b0 := below1 w (.cells #[.bool false, .slice none 0 0] 44)
  have hp : Pair (w.alloc (.cells #[.bool false, .slice none 0 0] 44)) w.heap.size 44 := Pair.new ..
  have hm := h.below b0
  obtain ⟨vs, vt, va, nn, ns, vp, h0, h1, h2, h3, h4⟩ := hm
  obtain ⟨x0, x1, x2, x4, x5, x6, x7⟩ := rec8_cells h0
  generalize hW : w.alloc (.cells #[.bool false, .slice none 0 0] 44) = W at *
  have G : Hid (g < W.heap.size) := hid (Array.getElem?_eq_some_iff.1 h0).1
  clear h h0
  have hs := h3.shape
  obtain ⟨q, d, k, rfl⟩ := hs
  have Hc := hid (Norm_any _ _ W h3)
  clear h1 h2 h3 h4
  have hp := hid hp; have b0 := hid b0
  go_enter Tryz.func75, Tryz.ntmps75
  go_wp2_with fail
  clear hW
  refine Hc.out.mono ?_
  rintro e w3 ⟨v3, rfl, hi, b3⟩
  obtain ⟨p, l0, c, rfl, hi⟩ := hi.shape
  have hpr := hid (hp.out.below b3)
  have hq := hpr.out.cells
  obtain ⟨_, _, q0, q1, q2, q3⟩ := hq
  have Hi := hid hi; have Hb := hid (bel_go b3 b0.out)
  clear hi b3 Hc
  go_wp2
  exact bodyPost_ret (v := .agg #[.bool (decide (t.num < 0)), .slice p l0 c]) (by simp [results, Tryz.results75, go_sem, q0, q1]) rfl ⟨_, rfl, Hi.out.stored hpr.out _ _ _ _, Below.stored Hb.out (by omega) _ _⟩
set_option maxRecDepth 100000 in
set_option maxHeartbeats 3200000 in
theorem mchosen_any (g : Nat) (w : World) (syms : List Sy) (ts : List Tb5) (t : Tm) (l : List Int) (h : MeanAt w g syms ts t l) (hl : 3 ≤ l.length) :
    Calls Tryz.prog 79 #[.pointer (some ⟨g, 0, none⟩)] w (RInt (if vlAt l 0 ≠ 0 then vlAt l 1 else vlAt l 2) w) := by
  have b0 := below1 w (.cells #[.bool false, .slice none 0 0] 44)
  have hp : Pair (w.alloc (.cells #[.bool false, .slice none 0 0] 44)) w.heap.size 44 := Pair.new ..
  have hm := h.below b0
  obtain ⟨vs, vt, va, nn, ns, vp, h0, h1, h2, h3, h4⟩ := hm
  obtain ⟨x0, x1, x2, x4, x5, x6, x7⟩ := rec8_cells h0
  generalize hW : w.alloc (.cells #[.bool false, .slice none 0 0] 44) = W at *
  have G : Hid (g < W.heap.size) := hid (Array.getElem?_eq_some_iff.1 h0).1
  clear h h0
  obtain ⟨m0, o0, c0, n0, q0, d0, g0, e0, M0, y0, z0, r0⟩ := h4.at 0 (by omega)
  obtain ⟨m1, o1, c1, n1, q1, d1, g1, e1, M1, y1, z1, r1⟩ := h4.at 1 (by omega)
  obtain ⟨m2, o2, c2, n2, q2, d2, g2, e2, M2, y2, z2, r2⟩ := h4.at 2 (by omega)
  rw [e0] at x7
  have M := hid M0
  clear M0
  clear M1
  clear M2
  rw [e0] at e1
  injection e1 with ea1
  injection ea1 with ea1
  injection ea1 with eb1 ec1
  subst eb1 ec1
  rw [e0] at e2
  injection e2 with ea2
  injection ea2 with ea2
  injection ea2 with eb2 ec2
  subst eb2 ec2
  have hv : vlAt l 0 = l[0] ∧ vlAt l 1 = l[1] ∧ vlAt l 2 = l[2] := by
    refine ⟨?_, ?_, ?_⟩ <;> unfold vlAt
    · simp [show (0 : Int).toNat = 0 from rfl, List.getElem?_eq_getElem (show 0 < l.length by omega)]
    · simp [show (1 : Int).toNat = 1 from rfl, List.getElem?_eq_getElem (show 1 < l.length by omega)]
    · simp [show (2 : Int).toNat = 2 from rfl, List.getElem?_eq_getElem (show 2 < l.length by omega)]
  obtain ⟨hv0, hv1, hv2⟩ := hv
  rw [hv0, hv1, hv2]
  have Hc0 := hid (isTrue_any _ _ W r0)
  have H1 := hid r1; have H2 := hid r2
  have y0 : W.cell? ⟨m0, o0, none⟩ = some (.bool n0) := y0
  have z0 : W.cell? ⟨m0, o0 + 1, none⟩ = some (.slice q0 d0 g0) := (congrArg (fun k => W.cell? ⟨m0, k, none⟩) (by omega)).trans z0
  have y1 : W.cell? ⟨m0, o0 + 2, none⟩ = some (.bool n1) := y1
  have z1 : W.cell? ⟨m0, o0 + 3, none⟩ = some (.slice q1 d1 g1) := z1
  have y2 : W.cell? ⟨m0, o0 + 4, none⟩ = some (.bool n2) := y2
  have z2 : W.cell? ⟨m0, o0 + 5, none⟩ = some (.slice q2 d2 g2) := z2
  clear hv0 hv1 hv2 h1 h2 h3 h4 r0 r1 r2 e0
  generalize hb : (l[0] != 0) = r at Hc0
  generalize l[1] = a1 at *
  generalize l[2] = a2 at *
  cases r
  · rw [if_neg (by simpa using hb)]
    clear hb
    have hp := hid hp; have b0 := hid b0
    go_enter Tryz.func79, Tryz.ntmps79
    go_wp2_with fail
    clear hW
    refine Hc0.out.mono ?_
    rintro e w2 ⟨rfl, b2⟩
    have B2 := hid b2
    have x7 := (b2.cell (p := ⟨g, 7, none⟩) (by have := G.out; omega)).trans x7
    have y2 := (b2.cell (p := ⟨m0, o0 + 4, none⟩) (by have := M.out; omega)).trans y2
    have z2 := (b2.cell (p := ⟨m0, o0 + 5, none⟩) (by have := M.out; omega)).trans z2
    have Hc := hid (Norm_any _ _ _ (H2.out.below b2))
    clear Hc0 b2
    go_wp2_with fail
    refine Hc.out.mono ?_
    rintro e w3 ⟨v3, rfl, hi, b3⟩
    obtain ⟨p, l0, c, rfl, hi⟩ := hi.shape
    have hpr := hid (hp.out.below (bel_go b3 B2.out))
    have hq := hpr.out.cells
    obtain ⟨_, _, q0, q1, q2, q3⟩ := hq
    have Hi := hid hi; have Hb := hid (bel_go (bel_go b3 B2.out) b0.out)
    clear hi b3 Hc
    go_wp2
    exact bodyPost_ret (v := .agg #[.bool (decide (a2 < 0)), .slice p l0 c]) (by simp [results, Tryz.results79, go_sem, q0, q1]) rfl ⟨_, rfl, Hi.out.stored hpr.out _ _ _ _, Below.stored Hb.out (by omega) _ _⟩
  · rw [if_pos (by simpa using hb)]
    clear hb
    have hp := hid hp; have b0 := hid b0
    go_enter Tryz.func79, Tryz.ntmps79
    go_wp2_with fail
    clear hW
    refine Hc0.out.mono ?_
    rintro e w2 ⟨rfl, b2⟩
    have B2 := hid b2
    have x7 := (b2.cell (p := ⟨g, 7, none⟩) (by have := G.out; omega)).trans x7
    have y1 := (b2.cell (p := ⟨m0, o0 + 2, none⟩) (by have := M.out; omega)).trans y1
    have z1 := (b2.cell (p := ⟨m0, o0 + 3, none⟩) (by have := M.out; omega)).trans z1
    have Hc := hid (Norm_any _ _ _ (H1.out.below b2))
    clear Hc0 b2
    go_wp2_with fail
    refine Hc.out.mono ?_
    rintro e w3 ⟨v3, rfl, hi, b3⟩
    obtain ⟨p, l0, c, rfl, hi⟩ := hi.shape
    have hpr := hid (hp.out.below (bel_go b3 B2.out))
    have hq := hpr.out.cells
    obtain ⟨_, _, q0, q1, q2, q3⟩ := hq
    have Hi := hid hi; have Hb := hid (bel_go (bel_go b3 B2.out) b0.out)
    clear hi b3 Hc
    go_wp2
    exact bodyPost_ret (v := .agg #[.bool (decide (a1 < 0)), .slice p l0 c]) (by simp [results, Tryz.results79, go_sem, q0, q1]) rfl ⟨_, rfl, Hi.out.stored hpr.out _ _ _ _, Below.stored Hb.out (by omega) _ _⟩
end Go.Proofs.YtckkpolikdnilaaGreatDoor
/- elenchusref01.Same, SameInt. -/
namespace Go.Proofs.YtckkpolikdnilaaGreatDoor
open Go.RowKit Big

def RDrawn (v : Value) (w : World) (e : Ending) (w' : World) : Prop := e = .returned v ∧ ∃ k, w' = w.drewN k

set_option maxHeartbeats 800000 in
theorem Same_any (v0 v1 : Value) (l0 l1 : List Nat) (w : World) (h0 : At w .u64 v0 l0) (h1 : At w .u64 v1 l1) :
    Calls Tryz.prog 32 #[v0, v1] w (RDrawn (.bool (decide (l0 = l1))) w) := by
  obtain ⟨r, hr⟩ : ∃ r, r = decide (l0 = l1) := ⟨_, rfl⟩
  rw [← hr]
  have Hr := hid hr
  clear hr
  obtain ⟨p0, c0, rfl, a1, a2, a3, a4⟩ := h0
  obtain ⟨p1, c1, rfl, b1, b2, b3, b4⟩ := h1
  unfold maxLen at a2 b2
  by_cases hl : l0.length = l1.length
  · have Hl := hid hl
    rw [hl] at a1 ⊢; clear hl
    go_enter Tryz.func32, Tryz.ntmps32
    go_wp2_with fail
    go_loopw [13] (fun i wr => ∃ (k : Nat), k ≤ l1.length ∧ i = .int .i64 (k : Nat) ∧ Hid (l0.take k = l1.take k) ∧ Hid (∃ j, wr = w.drewN j)) (fun i _ => l1.length - (intOf i).toNat)
    case atStart => exact ⟨0, Nat.zero_le _, rfl, rfl, 0, rfl⟩
    case round =>
      obtain ⟨k, hk, rfl, hd, Hw⟩ := hrel
      by_cases hk0 : k < l1.length
      · have hkl : k < l0.length := by rw [Hl.out]; omega
        obtain ⟨b, off, rfl, hbb, hc0⟩ := a4 (Nat.lt_of_le_of_lt (Nat.zero_le _) hkl)
        obtain ⟨b', off', rfl, hbb', hc1⟩ := b4 (by omega)
        have e0 : wr.cell? ⟨b, off + k, none⟩ = some (.int .u64 (l0[k] : Nat)) := by obtain ⟨j, rfl⟩ := Hw.out; exact hc0 k hkl
        have e1 : wr.cell? ⟨b', off' + k, none⟩ = some (.int .u64 (l1[k] : Nat)) := by obtain ⟨j, rfl⟩ := Hw.out; exact hc1 k (by omega)
        have es : l0[k] = l1[k] → l0.take (k + 1) = l1.take (k + 1) := fun h => by rw [take_succ' l0 k hkl, take_succ' l1 k hk0, hd.out, h]
        have en : l0[k] ≠ l1[k] → decide (l0 = l1) = false := fun h => by simp only [decide_eq_false_iff_not]; rintro rfl; exact h rfl
        generalize l0[k] = x at *
        generalize l1[k] = y at *
        have Es : Hid (x = y → l0.take (k + 1) = l1.take (k + 1)) := es
        have En : Hid (x ≠ y → decide (l0 = l1) = false) := en
        clear a4 b4 hc0 hc1 es en hbb hbb'
        have hlow : (0 : Int) ≤ (k : Int) := by omega
        have hup : (k : Int) < (l1.length : Int) := by omega
        by_cases hxy : x = y
        · subst hxy
          go_wp2
          go_quiet (fail)
          go_wp2
          go_roundw
          case rel => exact ⟨k + 1, by omega, by go_num, Es.out (by trivial), drawn_more Hw.out⟩
          case measure => (simp [intOf] <;> omega)
        · have hb : ((x : Int) != (y : Int)) = true := bne_iff_ne.2 (fun h => hxy (by omega))
          have Hf : Hid (decide (l0 = l1) = false) := En.out hxy
          clear Es En
          go_wp2
          go_quiet (fail)
          go_wp2
          go_ret
          exact ⟨by rw [Hr.out, Hf.out]; rfl, drawn_more Hw.out⟩
      · obtain rfl : k = l1.length := by omega
        have ht : Hid (decide (l0 = l1) = true) := by
          have h := hd.out
          rw [List.take_length, List.take_of_length_le (Nat.le_of_eq Hl.out)] at h
          simpa [Hid] using h
        clear a4 b4 hd
        go_wp2
        go_ret
        exact ⟨by rw [Hr.out, ht.out]; rfl, Hw.out⟩
  · have hb : ((l0.length : Int) != (l1.length : Int)) = true := bne_iff_ne.2 (by omega)
    have Hf : Hid (decide (l0 = l1) = false) := by
      simp only [Hid, decide_eq_false_iff_not]; rintro rfl; exact hl rfl
    clear a4 b4
    go_enter Tryz.func32, Tryz.ntmps32
    go_wp2
    go_ret
    exact ⟨by rw [Hr.out, Hf.out]; rfl, 0, rfl⟩

set_option maxHeartbeats 800000 in
theorem SameInt_raw (n0 n1 : Bool) (s0 s1 : Value) (l0 l1 : List Nat) (w : World) (h0 : At w .u64 s0 l0) (h1 : At w .u64 s1 l1) (hn : n0 = n1) (hl : l0 = l1) :
    Calls Tryz.prog 14 #[.agg #[.bool n0, s0], .agg #[.bool n1, s1]] w (RBool true w) := by
  subst hn
  subst hl
  have g : ∀ o o', Calls Tryz.prog 32 #[s0, s1] ((w.alloc o).alloc o') (RDrawn (.bool true) ((w.alloc o).alloc o')) := fun o o' => by
    have := Same_any s0 s1 l0 l0 _ ((h0.alloc o).alloc o') ((h1.alloc o).alloc o')
    rwa [decide_eq_true rfl] at this
  have G := hid g
  clear g h0 h1
  go_enter Tryz.func14, Tryz.ntmps14
  go_wp2_with fail
  refine (G.out _ _).mono ?_
  rintro e w' ⟨rfl, k, rfl⟩
  go_wp2_with fail
  go_ret
  exact ⟨rfl, below_drewN ((below1 _ _).alloc (by simp) _) _⟩
theorem SameInt_same (v0 v1 : Value) (z : Int) (w : World) (h0 : IntAt w v0 z) (h1 : IntAt w v1 z) : Calls Tryz.prog 14 #[v0, v1] w (RBool true w) := by
  obtain ⟨s0, rfl, a0⟩ := h0
  obtain ⟨s1, rfl, a1⟩ := h1
  exact SameInt_raw _ _ s0 s1 _ _ w a0 a1 rfl rfl
end Go.Proofs.YtckkpolikdnilaaGreatDoor
/- elenchuslaw01.few of two numbers, copied. -/
namespace Go.Proofs.YtckkpolikdnilaaGreatDoor
open Go.RowKit Big

end Go.Proofs.YtckkpolikdnilaaGreatDoor
/- elenchuslaw01.copied: the same number in new memory. -/
namespace Go.Proofs.YtckkpolikdnilaaGreatDoor
open Go.RowKit Big

theorem Pair.far {w w' : World} {g B : Nat} {t : TypeId} (h : Pair w g t) (hg : g < B) (hb : Below B w w') : Pair w' g t := by
  obtain ⟨x, p, n, c, h⟩ := h
  exact ⟨x, p, n, c, (hb.block g hg).trans h⟩
def RCopied (neg : Bool) (l : List Nat) (w : World) (e : Ending) (w' : World) : Prop := ∃ p c, e = .returned (.agg #[.bool neg, .slice p l.length c]) ∧ At w' .u64 (.slice p l.length c) l ∧ Below w.heap.size w w'

end Go.Proofs.YtckkpolikdnilaaGreatDoor
/- 'x, y := copied(a), copied(b)': what holds of the frame and the world, whatever has come up of the statement. -/
namespace Go.Proofs.YtckkpolikdnilaaGreatDoor
open Go.RowKit Big

theorem Two.drew {w : World} {g : Nat} {a b c d : Value} (h : Two w g a b c d) : Two w.drew g a b c d := ⟨h.c00, h.c01, h.c10, h.c11, h.lt⟩
theorem Two.set {w : World} {g : Nat} {a b c d : Value} (h : Two w g a b c d) (x j : Nat) (u : Value) (hx : g + 1 < x) : Two (w.setCell ⟨x, j, none⟩ u) g a b c d :=
  ⟨(World.cell?_of_block (w := w) (Below.heap_setCell w _ u g (by show g ≠ x; omega))).trans h.c00, (World.cell?_of_block (w := w) (Below.heap_setCell w _ u g (by show g ≠ x; omega))).trans h.c01,
   (World.cell?_of_block (w := w) (Below.heap_setCell w _ u (g + 1) (by show g + 1 ≠ x; omega))).trans h.c10, (World.cell?_of_block (w := w) (Below.heap_setCell w _ u (g + 1) (by show g + 1 ≠ x; omega))).trans h.c11, by simpa [World.setCell] using h.lt⟩
theorem four_cells {w : World} {g : Nat} {a b c d : Value} {t : TypeId} (h : w.heap[g]? = some (.cells #[a, b, c, d] t (0, 0))) :
    w.cell? ⟨g, 0, none⟩ = some a ∧ w.cell? ⟨g, 1, none⟩ = some b ∧ w.cell? ⟨g, 2, none⟩ = some c ∧ w.cell? ⟨g, 3, none⟩ = some d :=
  ⟨by rw [cell_of_row w g 0 _ t (0, 0) h]; rfl, by rw [cell_of_row w g 1 _ t (0, 0) h]; rfl, by rw [cell_of_row w g 2 _ t (0, 0) h]; rfl, by rw [cell_of_row w g 3 _ t (0, 0) h]; rfl⟩

theorem Below.go {u w w' : World} (hb : Below w.heap.size w w') (h : Below u.heap.size u w) : Below u.heap.size u w' := h.trans (hb.mono h.size)
/-- a value is a number's copy -/
def Cop (w : World) (n : Bool) (l : List Nat) (v : Value) : Prop := ∃ q k, v = .agg #[.bool n, .slice q l.length k] ∧ At w .u64 (.slice q l.length k) l
theorem Cop.below {w w' : World} {n : Bool} {l : List Nat} {v : Value} (h : Cop w n l v) (hb : Below w.heap.size w w') : Cop w' n l v := by
  obtain ⟨q, k, rfl, ha⟩ := h
  exact ⟨q, k, rfl, ha.below hb⟩
/-- a pointer to a variable of a number, from block B on -/
def VarAt (w : World) (B : Nat) (v : Value) : Prop := ∃ g, v = .pointer (some ⟨g, 0, none⟩) ∧ Pair w g 44 ∧ B ≤ g
theorem VarAt.below {w w' : World} {B : Nat} {v : Value} (h : VarAt w B v) (hb : Below w.heap.size w w') : VarAt w' B v := by
  obtain ⟨g, rfl, hp, hB⟩ := h
  exact ⟨g, rfl, hp.below hb, hB⟩
/-- .. which holds the number's copy -/
def Holds (w : World) (n : Bool) (l : List Nat) (v : Value) : Prop :=
  ∃ g q k, v = .pointer (some ⟨g, 0, none⟩) ∧ w.heap[g]? = some (.cells #[.bool n, .slice q l.length k] 44 (0, 0)) ∧ At w .u64 (.slice q l.length k) l

structure C2 (g0 : Nat) (n0 n1 : Bool) (p0 p1 : Option Addr) (c0 c1 : Nat) (l0 l1 : List Nat) (B : Nat) (u : World) (L : Array Bool) (s5 s6 s15 s16 s17 s18 : Value) (w : World) : Prop where
  two : Two w g0 (.bool n0) (.slice p0 l0.length c0) (.bool n1) (.slice p1 l1.length c1)
  low : g0 + 2 ≤ B
  bel : Below B u w
  sz : B ≤ w.heap.size
  a0 : At w .u64 (.slice p0 l0.length c0) l0
  a1 : At w .u64 (.slice p1 l1.length c1) l1
  f0 : L.getD 0 false = true → s15 = .agg #[.bool n0, .slice p0 l0.length c0]
  f1 : L.getD 1 false = true → Cop w n0 l0 s16
  f2 : L.getD 2 false = true → s17 = .agg #[.bool n1, .slice p1 l1.length c1]
  f3 : L.getD 3 false = true → Cop w n1 l1 s18
  f4 : L.getD 4 false = true → VarAt w B s5
  f5 : L.getD 5 false = true → VarAt w B s6
  f45 : L.getD 4 false = true → L.getD 5 false = true → s5 ≠ s6
  f6 : L.getD 6 false = true → Holds w n0 l0 s5
  f7 : L.getD 7 false = true → Holds w n1 l1 s6
  d6 : L.getD 6 false = true → L.getD 4 false = true ∧ L.getD 5 false = true
  d7 : L.getD 7 false = true → L.getD 6 false = true

section
variable {g0 : Nat} {n0 n1 : Bool} {p0 p1 : Option Addr} {c0 c1 : Nat} {l0 l1 : List Nat} {B : Nat} {u : World} {L : Array Bool} {s5 s6 s15 s16 s17 s18 : Value} {w : World}
theorem Holds.below {w w' : World} {n : Bool} {l : List Nat} {v : Value} (h : Holds w n l v) (hb : Below w.heap.size w w') : Holds w' n l v := by
  obtain ⟨g, q, k, rfl, hg, ha⟩ := h
  exact ⟨g, q, k, rfl, (hb.block g (Array.getElem?_eq_some_iff.1 hg).1).trans hg, ha.below hb⟩
theorem VarAt.ne {w : World} {v : Value} {B : Nat} (h : VarAt w B v) : v ≠ .pointer (some ⟨w.heap.size, 0, none⟩) := by
  obtain ⟨g, rfl, hp, -⟩ := h
  intro he
  have hl := hp.lt
  injection he with he
  injection he with he
  injection he with he
  omega
theorem Cop.stored {w : World} {n : Bool} {l : List Nat} {v : Value} (h : Cop w n l v) {g : Nat} {t : TypeId} (hp : Pair w g t) (x : Bool) (p : Option Addr) (m c : Nat) :
    Cop ((w.setCell ⟨g, 0, none⟩ (.bool x)).setCell ⟨g, 1, none⟩ (.slice p m c)) n l v := by
  obtain ⟨q, k, rfl, ha⟩ := h
  exact ⟨q, k, rfl, ha.stored hp x p m c⟩
theorem Pair.apart {w : World} {g g' : Nat} {t : TypeId} (h : Pair w g t) (hne : g ≠ g') (u u' : Value) : Pair ((w.setCell ⟨g', 0, none⟩ u).setCell ⟨g', 1, none⟩ u') g t := by
  obtain ⟨x, p, n, c, h⟩ := h
  exact ⟨x, p, n, c, ((Below.heap_setCell _ _ _ _ hne).trans (Below.heap_setCell _ _ _ _ hne)).trans h⟩
theorem Pair.self {w : World} {g : Nat} {t : TypeId} (h : Pair w g t) (x : Bool) (p : Option Addr) (n c : Nat) : Pair ((w.setCell ⟨g, 0, none⟩ (.bool x)).setCell ⟨g, 1, none⟩ (.slice p n c)) g t := (h.set0 x).set1 p n c
theorem VarAt.stored {w : World} {B : Nat} {v : Value} (h : VarAt w B v) {g : Nat} (hp : Pair w g 44) (x : Bool) (p : Option Addr) (n c : Nat) : VarAt ((w.setCell ⟨g, 0, none⟩ (.bool x)).setCell ⟨g, 1, none⟩ (.slice p n c)) B v := by
  obtain ⟨g', rfl, hp', hB⟩ := h
  refine ⟨g', rfl, ?_, hB⟩
  by_cases he : g' = g
  · subst he; exact hp'.self x p n c
  · exact hp'.apart he _ _
theorem Pair.put {w : World} {g : Nat} {t : TypeId} (h : Pair w g t) (x : Bool) (p : Option Addr) (n c : Nat) : ((w.setCell ⟨g, 0, none⟩ (.bool x)).setCell ⟨g, 1, none⟩ (.slice p n c)).heap[g]? = some (.cells #[.bool x, .slice p n c] t (0, 0)) := by
  obtain ⟨y, p', n', c', h⟩ := h
  have h1 := heap_setCell_same w g 0 _ t (.bool x) h
  exact heap_setCell_same _ g 1 _ t (.slice p n c) h1
/-- all has come up -/
structure Done2 (g0 : Nat) (n0 n1 : Bool) (p0 p1 : Option Addr) (c0 c1 : Nat) (l0 l1 : List Nat) (B : Nat) (u : World) (s5 s6 : Value) (w : World) : Prop where
  two : Two w g0 (.bool n0) (.slice p0 l0.length c0) (.bool n1) (.slice p1 l1.length c1)
  bel : Below B u w
  sz : B ≤ w.heap.size
  a0 : At w .u64 (.slice p0 l0.length c0) l0
  a1 : At w .u64 (.slice p1 l1.length c1) l1
  hx : Holds w n0 l0 s5
  hy : Holds w n1 l1 s6
theorem C2.done (h : C2 g0 n0 n1 p0 p1 c0 c1 l0 l1 B u L s5 s6 s15 s16 s17 s18 w) (h6 : L.getD 6 false = true) (h7 : L.getD 7 false = true) : Done2 g0 n0 n1 p0 p1 c0 c1 l0 l1 B u s5 s6 w :=
  { h with hx := h.f6 h6, hy := h.f7 h7 }
theorem C2.start {g0 : Nat} {n0 n1 : Bool} {p0 p1 : Option Addr} {c0 c1 : Nat} {l0 l1 : List Nat} {w : World} {s5 s6 s15 s16 s17 s18 : Value} (ht : Two w g0 (.bool n0) (.slice p0 l0.length c0) (.bool n1) (.slice p1 l1.length c1))
    (ha : At w .u64 (.slice p0 l0.length c0) l0) (hb : At w .u64 (.slice p1 l1.length c1) l1) : C2 g0 n0 n1 p0 p1 c0 c1 l0 l1 w.heap.size w (Array.replicate 8 false) s5 s6 s15 s16 s17 s18 w.drew :=
  { two := ht.drew, low := ht.lt, bel := Below.drew (Below.refl _ _), sz := Nat.le_refl _, a0 := ha.drew, a1 := hb.drew
    f0 := fun h => by simp at h
    f1 := fun h => by simp at h
    f2 := fun h => by simp at h
    f3 := fun h => by simp at h
    f4 := fun h => by simp at h
    f5 := fun h => by simp at h
    f45 := fun h => by simp at h
    f6 := fun h => by simp at h
    f7 := fun h => by simp at h
    d6 := fun h => by simp at h
    d7 := fun h => by simp at h }
end
end Go.Proofs.YtckkpolikdnilaaGreatDoor
/- value.meaning's sum. -/
namespace Go.Proofs.YtckkpolikdnilaaGreatDoor
open Go.RowKit Big Go.WideMaps

def VlCell (w : World) (g : Nat) (z : Int) : Prop := ∃ d p n c, w.heap[g]? = some (.cells #[.bool d, .slice p n c] 44 (0, 0)) ∧ IntAt w (.agg #[.bool d, .slice p n c]) z
theorem VlCell.pair {w : World} {g : Nat} {z : Int} (h : VlCell w g z) : Pair w g 44 := by
  obtain ⟨d, p, n, c, h, -⟩ := h
  exact ⟨d, p, n, c, h⟩
theorem VlCell.put {w : World} {g : Nat} {z : Int} {d : Bool} {p : Option Addr} {n c : Nat} (hp : Pair w g 44) (hi : IntAt w (.agg #[.bool d, .slice p n c]) z) :
    VlCell ((w.setCell ⟨g, 0, none⟩ (.bool d)).setCell ⟨g, 1, none⟩ (.slice p n c)) g z := ⟨d, p, n, c, hp.put .., hi.stored hp ..⟩
theorem vlSum_take (l : List Int) (k : Nat) (h : k < l.length) : vlSum (l.take (k + 1)) = vlSum (l.take k) + l[k] := by
  rw [List.take_succ_eq_append_getElem h, vlSum_snoc]
set_option maxRecDepth 100000 in
set_option maxHeartbeats 3200000 in
theorem msum_any (g : Nat) (w : World) (syms : List Sy) (ts : List Tb5) (t : Tm) (l : List Int) (h : MeanAt w g syms ts t l) (hs : ∀ k, k ≤ l.length → sz Big.W (vlSum (l.take k)).natAbs ≤ 549755813888) :
    Calls Tryz.prog 81 #[.pointer (some ⟨g, 0, none⟩)] w (RInt (vlSum l) w) := by
  have b0 := below1 w (.cells #[.bool false, .slice none 0 0] 44)
  have hp : Pair (w.alloc (.cells #[.bool false, .slice none 0 0] 44)) w.heap.size 44 := Pair.new ..
  generalize hW : w.alloc (.cells #[.bool false, .slice none 0 0] 44) = W at *
  obtain ⟨vs, vt, va, nn, ns, vp, h0, h1, h2, h3, h4⟩ := h
  have G : g < w.heap.size := (Array.getElem?_eq_some_iff.1 h0).1
  obtain ⟨x0, x1, x2, x4, x5, x6, x7⟩ := rec8_cells ((b0.block g G).trans h0)
  clear h0
  obtain ⟨pp, cp, rfl, i0, i1, i2, i3⟩ := h4
  unfold maxLen at i1
  have I3 := hid i3
  obtain ⟨L, hL⟩ : ∃ L, L = l.length := ⟨_, rfl⟩
  have HL := hid hL
  have Hs := hid hs
  rw [← hL] at i0 x7
  have Ho := hid (Of_any 0 W (by decide) (by decide))
  have hgG : Hid (g < W.heap.size) := hid (by have := b0.size; omega)
  have hGW : Hid (w.heap.size < W.heap.size) := hid hp.lt
  have Hx7 := hid x7
  have HP := hid hp; have HB0 := hid b0
  clear h1 h2 h3 hs hL i2 i3 x7 hp b0 x0 x1 x2 x4 x5 x6
  go_enter Tryz.func81, Tryz.ntmps81
  go_wp2_with fail
  clear hW
  refine Ho.out.mono ?_
  rintro e w1 ⟨v1, rfl, hi, b1⟩
  obtain ⟨p1, n1, c1, rfl, hi⟩ := hi.shape
  go_upto_region 2 with fail
  generalize hW4 : World.alloc w1 _ = W4
  have X4 : Below W.heap.size W W4 ∧ VlCell W4 w1.heap.size 0 := by
    rw [← hW4]; exact ⟨b1.trans ((below1 _ _).mono (B' := W.heap.size) b1.size), _, _, _, _, heap_alloc_new w1 _, hi.below (below1 _ _)⟩
  have x7 := (X4.1.cell (p := ⟨g, 7, none⟩) hgG.out).trans Hx7.out
  have HP4 := hid (HP.out.below X4.1)
  have HB4 := hid (bel_go X4.1 HB0.out)
  have HC4 := hid X4.2
  have hgt : Hid (w.heap.size < w1.heap.size) := hid (by have := b1.size; have := hGW.out; omega)
  obtain ⟨gt, hgt'⟩ : ∃ gt, gt = w1.heap.size := ⟨_, rfl⟩
  rw [← hgt'] at HC4 hgt ⊢
  clear hW4 X4 b1 hi Ho Hx7 HP HB0 hgt'
  go_wp2_with fail
  go_loopw [12] (fun i wr => ∃ k : Nat, k ≤ L ∧ i = .int .i64 (k : Nat) ∧ Hid (VlCell wr gt (vlSum (l.take k))) ∧ Hid (Pair wr w.heap.size 44) ∧ Hid (Below w.heap.size w wr)) (fun i _ => L - (intOf i).toNat)
  case atStart => exact ⟨0, Nat.zero_le _, rfl, HC4, HP4, HB4⟩
  case round =>
    obtain ⟨k, hk, rfl, hT, hP, hB⟩ := hrel
    obtain ⟨td, tp, tn, tc, hh, hi⟩ := id hT.out
    obtain ⟨u0, u1⟩ := pair_cells hh
    have htl : gt < wr.heap.size := (Array.getElem?_eq_some_iff.1 hh).1
    by_cases hlt : k < L
    · have hkr : k < l.length := by rw [← HL.out]; exact hlt
      obtain ⟨b, o, rfl, hb, hc⟩ := I3.out (by omega)
      obtain ⟨n, s, k0, k1, hr⟩ := hc k hkr
      obtain ⟨q0, d0, g0, rfl⟩ := hr.shape
      have m0 := (hB.out.cell (p := ⟨b, o + k * 2, none⟩) hb).trans k0
      have m1 := (hB.out.cell (p := ⟨b, o + k * 2 + 1, none⟩) hb).trans k1
      have b5 := below1 wr (.cells #[.bool n, .slice q0 d0 g0] 44)
      have u0 := (b5.cell (p := ⟨gt, 0, none⟩) htl).trans u0
      have u1 := (b5.cell (p := ⟨gt, 1, none⟩) htl).trans u1
      have HA := hid (Add_any _ _ _ _ _ ((hi.raw (by have := Hs.out k (by omega); omega)).below b5) ((hr.below hB.out).below b5))
      have B5 := hid b5
      have Hnext := hid (vlSum_take l k hkr)
      have Htl := hid htl
      generalize l[k] = xk at *
      clear k0 k1 hr hc hb hh hi b5 htl
      go_wp2_with fail
      refine HA.out.mono ?_
      rintro e w3 ⟨v3, rfl, hi3, b3⟩
      obtain ⟨p3, n3, c3, rfl, hi3⟩ := hi3.shape
      have b6 := bel_go b3 B5.out
      have hpt := hid (hT.out.pair.below b6)
      have hq := hpt.out.cells
      obtain ⟨_, _, v0, v1, v2, v3⟩ := hq
      have Hi3 := hid hi3
      have HP6 := hid (hP.out.below b6)
      have HB6 := hid (bel_go b6 hB.out)
      clear HA b3 b6 hi3
      go_wp2_with fail
      go_roundw
      case rel => exact ⟨k + 1, by omega, by go_num, hid (by rw [Hnext.out]; exact VlCell.put hpt.out Hi3.out), hid (HP6.out.away (by have := hgt.out; omega) _ _), hid (Below.stored HB6.out (by have := hgt.out; omega) _ _)⟩
      case measure => simp [intOf]; omega
    · obtain rfl : k = L := by omega
      have hfin : Hid (vlSum (l.take k) = vlSum l) := hid (by rw [HL.out, List.take_length])
      have hq := hP.out.cells
      obtain ⟨_, _, q0, q1, q2, q3⟩ := hq
      have Hi := hid hi
      clear hh hi
      go_wp2
      exact bodyPost_ret (v := .agg #[.bool td, .slice tp tn tc]) (by simp [results, Tryz.results81, go_sem, q0, q1]) rfl ⟨_, rfl, by rw [← hfin.out]; exact Hi.out.stored hP.out _ _ _ _, Below.stored hB.out (by omega) _ _⟩
end Go.Proofs.YtckkpolikdnilaaGreatDoor
/- value.partsOf: a row of numbers of the call's own, numbers that may share words. -/
namespace Go.Proofs.YtckkpolikdnilaaGreatDoor
open Go.RowKit Big Go.WideMaps

theorem infoNum : (Tryz.prog.info? 44).map (fun i => (i.zero, i.size, i.bytes)) = some (some (.agg #[.bool false, .slice none 0 0]), 2, 32) := by kernel_rfl
/-- the cells of a row of numbers -/
def VlCells (w : World) : List Int → List Value → Prop
  | [], cs => cs = []
  | z :: l, cs => ∃ n s r, cs = .bool n :: s :: r ∧ RawAt w (.agg #[.bool n, s]) z ∧ VlCells w l r
theorem VlCells.below {w w' : World} (hb : Below w.heap.size w w') : ∀ {l : List Int} {cs : List Value}, VlCells w l cs → VlCells w' l cs
  | [], _, h => h
  | _ :: _, _, ⟨n, s, r, e, h, hr⟩ => ⟨n, s, r, e, h.below hb, VlCells.below hb hr⟩
theorem VlCells.snoc {w : World} {n : Bool} {s : Value} {z : Int} (h : RawAt w (.agg #[.bool n, s]) z) : ∀ {l : List Int} {cs : List Value}, VlCells w l cs → VlCells w (l ++ [z]) (cs ++ [.bool n, s])
  | [], _, e => by cases e; exact ⟨n, s, [], rfl, h, rfl⟩
  | _ :: _, _, ⟨n', s', r, e, h', hr⟩ => by subst e; exact ⟨n', s', r ++ [.bool n, s], rfl, h', VlCells.snoc h hr⟩
theorem VlCells.len {w : World} : ∀ {l : List Int} {cs : List Value}, VlCells w l cs → cs.length = l.length * 2
  | [], _, e => by cases e; rfl
  | _ :: l, _, ⟨_, _, r, e, _, hr⟩ => by subst e; have := VlCells.len hr; simp [this]; omega
theorem VlCells.at {w : World} : ∀ {l : List Int} {cs : List Value}, VlCells w l cs → ∀ i (hi : i < l.length), ∃ n s, cs[i * 2]? = some (.bool n) ∧ cs[i * 2 + 1]? = some s ∧ RawAt w (.agg #[.bool n, s]) l[i]
  | _ :: l, _, ⟨n, s, r, e, h, hr⟩, 0, _ => by subst e; exact ⟨n, s, rfl, rfl, h⟩
  | _ :: l, _, ⟨n, s, r, e, h, hr⟩, i + 1, hi => by
    subst e
    obtain ⟨n', s', h1, h2, h3⟩ := VlCells.at hr i (by simpa using hi)
    refine ⟨n', s', ?_, ?_, by simpa using h3⟩
    · rw [show (i + 1) * 2 = i * 2 + 1 + 1 from by omega]; simpa using h1
    · rw [show (i + 1) * 2 + 1 = i * 2 + 1 + 1 + 1 from by omega]; simpa using h2
/-- a row of numbers, its block of the call's own -/
def NumsOwn (B : Nat) (w : World) (v : Value) (l : List Int) : Prop := ∃ cs, w.ownsRow B 44 2 v l.length cs ∧ VlCells w l cs
theorem NumsOwn.in {B : Nat} {w : World} {v : Value} {l : List Int} (h : NumsOwn B w v l) : NumsIn w v l := by
  obtain ⟨cs, h, hc⟩ := h
  rcases h.2 with ⟨rfl, h0⟩ | ⟨g, cap, cur, rfl, hb, hh, k1, k2, k3, k4⟩
  · have : l = [] := List.eq_nil_of_length_eq_zero h0
    subst this
    exact NumsIn.nil w
  · refine ⟨_, cap, rfl, k1, k2, by simp, fun _ => ⟨g, 0, rfl, (Array.getElem?_eq_some_iff.1 hh).1, fun i hi => ?_⟩⟩
    obtain ⟨n, s, e0, e1, hr⟩ := hc.at i hi
    have a0 := h.cellAt (i * 2) (by omega)
    have a1 := h.cellAt (i * 2 + 1) (by omega)
    refine ⟨n, s, ?_, ?_, hr⟩
    · rw [Nat.zero_add, a0, e0]
    · rw [Nat.zero_add, a1, e1]
theorem NumsOwn.below {B : Nat} {w w' : World} {v : Value} {l : List Int} (h : NumsOwn B w v l) (hb : Below w.heap.size w w') : NumsOwn B w' v l := by
  obtain ⟨cs, h, hc⟩ := h
  exact ⟨cs, ownsRow_later h hb, hc.below hb⟩
end Go.Proofs.YtckkpolikdnilaaGreatDoor
/- value.partsOf. -/
namespace Go.Proofs.YtckkpolikdnilaaGreatDoor
open Go.RowKit Big Go.WideMaps

theorem rec5_cell {w : World} {g : Nat} {a b c d e : Value} {t : TypeId} (h : w.heap[g]? = some (.cells #[a, b, c, d, e] t (0, 0))) : w.cell? ⟨g, 1, none⟩ = some b := by
  simp [World.cell?, h]
theorem vlAt_nat (known : List Int) (j : Nat) (h : j < known.length) : vlAt known (j : Nat) = known[j] := by
  unfold vlAt; simp [h]
set_option maxRecDepth 100000 in
set_option maxHeartbeats 3200000 in
theorem partsOf_any (t : Tm) (v vv : Value) (known : List Int) (w : World) (h0 : TmRaw w v t) (h1 : NumsIn w vv known) (ha : ∀ a ∈ t.args, 0 ≤ a ∧ a < known.length) (hn : t.args.length ≤ 1048576) :
    Calls Tryz.prog 28 #[v, vv] w (fun e w' => ∃ v', e = .returned v' ∧ NumsOwn w.heap.size w' v' (vlParts t known) ∧ Below w.heap.size w w') := by
  obtain ⟨i0, hi, hz0, hz1, hz2⟩ := info_parts infoNum
  obtain ⟨pa, ca, bb, pm, nm, cm, rfl, hA, hN⟩ := h0
  obtain ⟨pa', ca', e, j1, j2, -, j4⟩ := hA
  injection e with e1 e2 e3
  subst e1 e3
  clear e2 hN
  have J4 := hid j4
  have H1 := hid h1
  have Ha := hid ha
  obtain ⟨pk, ck, rfl, k1, k2, -, k4⟩ := h1
  have K4 := hid k4
  unfold maxLen at j2 k2
  have b0 := below1 w (.cells #[.int .i64 t.op, .slice pa t.args.length ca, .bool bb, .slice pm nm cm, .int .i64 t.sym] 71)
  have z0 := size_alloc w (.cells #[.int .i64 t.op, .slice pa t.args.length ca, .bool bb, .slice pm nm cm, .int .i64 t.sym] 71)
  have x0 := heap_alloc_new w (.cells #[.int .i64 t.op, .slice pa t.args.length ca, .bool bb, .slice pm nm cm, .int .i64 t.sym] 71)
  have x1 : (w.alloc (.cells #[.int .i64 t.op, .slice pa t.args.length ca, .bool bb, .slice pm nm cm, .int .i64 t.sym] 71)).cell? ⟨w.heap.size, 1, none⟩ = some (.slice pa t.args.length ca) := rec5_cell x0
  unfold vlParts
  generalize hW : w.alloc (.cells #[.int .i64 t.op, .slice pa t.args.length ca, .bool bb, .slice pm nm cm, .int .i64 t.sym] 71) = W at *
  have B0 := hid b0
  clear j4 k4 ha b0 x0
  generalize t.args = al at *
  go_enter Tryz.func28, Tryz.ntmps28
  go_wp2_with (at_make; refine wpList_make_own _ rfl _ _ 32 rfl w.heap.size 44 i0 _ 2 Tryz.underlying32 hi hz0 hz1 .i64 .i64 _ al.length rfl rfl rfl (by rw [hz2]; omega) (by simp [maxLen]; omega) (by omega) ?_; intro w1 ho hg; rw [z0] at ho; have bg : Below W.heap.size W w1 := (Below.refl _ _).grown hg (Nat.le_refl _) (fun _ h => by cases h); have x2 := (bg.cell (p := ⟨w.heap.size, 1, none⟩) (by show w.heap.size < _; omega)).trans x1; have bg := hid (bel_go bg B0.out); clear hg)
  go_loopw [5, 15] (fun o i wr => ∃ (k : Nat) (cs : List Value), k ≤ al.length ∧ i = .int .i64 (k : Nat) ∧ wr.ownsRow w.heap.size 44 2 o k cs ∧ Hid (VlCells w ((al.take k).map (vlAt known)) cs) ∧ Hid (Below w.heap.size w wr)) (fun _ i _ => al.length - (intOf i).toNat)
  case atStart => exact ⟨0, [], Nat.zero_le _, rfl, ho, hid rfl, bg⟩
  case round =>
    obtain ⟨k, cs, hk, rfl, ho, hC, hB⟩ := hrel
    by_cases hlt : k < al.length
    · obtain ⟨ba, oa, rfl, hba, hca⟩ := J4.out (by omega)
      have ka := (hB.out.cell (p := ⟨ba, oa + k, none⟩) hba).trans (hca k hlt)
      obtain ⟨hj0, hj1⟩ := Ha.out al[k] (List.getElem_mem hlt)
      obtain ⟨j, hj⟩ : ∃ j : Nat, al[k] = (j : Nat) := ⟨al[k].toNat, by omega⟩
      have hjk : j < known.length := by omega
      have hjk' : (j : Int) < (known.length : Int) := by omega
      obtain ⟨bk, ok, rfl, hbk, hck⟩ := K4.out (by omega)
      obtain ⟨n, s, c0, c1, hr⟩ := hck j hjk
      obtain ⟨q, d, g, rfl⟩ := hr.shape
      have m0 := (hB.out.cell (p := ⟨bk, ok + j * 2, none⟩) hbk).trans c0
      have m1 := (hB.out.cell (p := ⟨bk, ok + j * 2 + 1, none⟩) hbk).trans c1
      rw [hj] at ka
      have Htk := hid (show (al.take (k+1)).map (vlAt known) = (al.take k).map (vlAt known) ++ [known[j]] from by rw [List.take_succ_eq_append_getElem hlt, List.map_append, List.map_singleton, hj, vlAt_nat known j hjk])
      have Hr := hid hr
      have bn := below1 wr (.cells #[.bool n, .slice q d g] 44)
      have ho4 := ownsRow_later ho bn
      have hz4 := size_alloc wr (.cells #[.bool n, .slice q d g] 44)
      have hnew := heap_alloc_new wr (.cells #[.bool n, .slice q d g] 44)
      have hnews : ∀ j u, ([.bool n, .slice q d g] : List Value)[j]? = some u → (wr.alloc (.cells #[.bool n, .slice q d g] 44)).cell? ((⟨wr.heap.size, 0, none⟩ : Addr).add j) = some u := by
        intro j u hj
        rw [Go.WideShapes.add_plain, Nat.zero_add, cell_of_row _ _ _ _ _ _ hnew]
        simpa using hj
      have hlw := hB.out.size
      have Bn := hid bn
      clear hck hca c0 c1 hr hj0 hj1 hj hba hbk bn ho
      go_wp2_with (at_builtin; refine wpList_append_own _ rfl _ _ 32 rfl w.heap.size 44 i0 _ 2 32 Tryz.underlying32 hi hz0 hz1 hz2 rfl (by decide) _ k _ rfl ho4 ⟨wr.heap.size, 0, none⟩ 1 1 [.bool n, .slice q d g] rfl rfl hnews (by intro u hu; simp at hu; rcases hu with rfl | rfl <;> rfl) (by simp [maxLen]; omega) (by omega) (by omega) ?_; intro v5 w5 ho5 hg5 _)
      go_roundw
      case rel => exact ⟨k + 1, _, by omega, rfl, ho5, hid (by rw [Htk.out]; exact hC.out.snoc Hr.out), hid ((hB.out.trans (Bn.out.mono hlw)).grown hg5 (by omega) (fun g hg => (World.ownsRow.lt ho4 g hg).1))⟩
      case measure => simp [intOf]; omega
    · have hkk : k = al.length := by omega
      subst hkk
      go_wp2_with fail
      go_ret
      exact ⟨_, rfl, ⟨cs, by rw [List.length_map]; exact ho, by have := hC.out; rw [List.take_length] at this; exact this.below hB.out⟩, hB.out⟩
end Go.Proofs.YtckkpolikdnilaaGreatDoor
/- A row of numbers of the call's own with room for all that comes: 'make([]api.Int, 0, L)' and appends within L; no cell of it is a word. -/
namespace Go.Proofs.YtckkpolikdnilaaGreatDoor
open Go.RowKit Big Go.WideMaps

/-- the row lies in block g, holds n numbers' cells cs, has room for L, and no cell of its block is a word -/
def RowQ (w : World) (g n L : Nat) (cs : List Value) : Prop :=
  ∃ cur, w.heap[g]? = some (.cells cur 44 (0, 0)) ∧ cur.size = L * 2 ∧ cur.toList.take (n * 2) = cs ∧ cs.length = n * 2 ∧ cur.all noWord = true ∧ n ≤ L ∧ L ≤ maxLen
theorem RowQ.below {w w' : World} {g n L : Nat} {cs : List Value} (h : RowQ w g n L cs) (hb : Below w.heap.size w w') : RowQ w' g n L cs := by
  obtain ⟨cur, h0, h1⟩ := h
  exact ⟨cur, (hb.block g (Array.getElem?_eq_some_iff.1 h0).1).trans h0, h1⟩
theorem RowQ.lt {w : World} {g n L : Nat} {cs : List Value} (h : RowQ w g n L cs) : g < w.heap.size := by
  obtain ⟨cur, h0, -⟩ := h
  exact (Array.getElem?_eq_some_iff.1 h0).1
/-- no number's words lie in such a block -/
theorem At.offQ {w w' : World} {g n L : Nat} {cs : List Value} {v : Value} {l : List Nat} (h : At w .u64 v l) (hq : RowQ w g n L cs) (hz : w.heap.size ≤ w'.heap.size) (hb : ∀ k, k < w.heap.size → k ≠ g → w'.heap[k]? = w.heap[k]?) : At w' .u64 v l := by
  obtain ⟨cur, hp, -, -, -, hf, -⟩ := hq
  obtain ⟨p, cap, hv, h1, h2, h3, h4⟩ := h
  refine ⟨p, cap, hv, h1, h2, h3, fun hl => ?_⟩
  obtain ⟨b, off, h5, h6, h7⟩ := h4 hl
  have hne : b ≠ g := by
    intro e
    subst e
    have h8 := h7 0 hl
    rw [Nat.add_zero, cell_of_row w b off _ _ (0, 0) hp] at h8
    have h9 := Array.all_eq_true.1 hf off (Array.getElem?_eq_some_iff.1 h8).1
    rw [(Array.getElem?_eq_some_iff.1 h8).2] at h9
    cases h9
  refine ⟨b, off, h5, Nat.lt_of_lt_of_le h6 hz, fun i hi => ?_⟩
  rw [← h7 i hi]
  simp only [World.cell?, hb b h6 hne]
theorem RawAt.offQ {w w' : World} {g n L : Nat} {cs : List Value} {v : Value} {z : Int} (h : RawAt w v z) (hq : RowQ w g n L cs) (hz : w.heap.size ≤ w'.heap.size) (hb : ∀ k, k < w.heap.size → k ≠ g → w'.heap[k]? = w.heap[k]?) : RawAt w' v z := by
  obtain ⟨neg, s, l, hs, ha, r⟩ := h
  exact ⟨neg, s, l, hs, ha.offQ hq hz hb, r⟩
theorem VlCells.offQ {w w' : World} {g n L : Nat} {cs0 : List Value} (hq : RowQ w g n L cs0) (hz : w.heap.size ≤ w'.heap.size) (hb : ∀ k, k < w.heap.size → k ≠ g → w'.heap[k]? = w.heap[k]?) : ∀ {l : List Int} {cs : List Value}, VlCells w l cs → VlCells w' l cs
  | [], _, h => h
  | _ :: _, _, ⟨n, s, r, e, h, hr⟩ => ⟨n, s, r, e, h.offQ hq hz hb, VlCells.offQ hq hz hb hr⟩
/-- 'append(v, x)' of one number where there is room -/
theorem RowQ.push {w : World} {g n L : Nat} {cs : List Value} (h : RowQ w g n L cs) (hn : n < L) (b : Bool) (p : Option Addr) (m c : Nat)
    (a : Addr) (hnews : ∀ j u, ([.bool b, .slice p m c] : List Value)[j]? = some u → w.cell? (a.add j) = some u) :
    ∃ w', (Builtin.append_ #[32, 32] 32 #[.slice (some ⟨g, 0, none⟩) n L, .slice (some a) 1 1]).run Tryz.prog w = .ok (.slice (some ⟨g, 0, none⟩) (n + 1) L) w' ∧
      RowQ w' g (n + 1) L (cs ++ [.bool b, .slice p m c]) ∧ w'.heap.size = w.heap.size ∧ (∀ k, k ≠ g → w'.heap[k]? = w.heap[k]?) ∧ w.grownBy w' (some g) := by
  obtain ⟨i0, hi, hz0, hz1, hz2⟩ := info_parts infoNum
  obtain ⟨cur, h0, h1, h2, h3, h4, h5, h6⟩ := h
  have hfit : n * i0.size + ([Value.bool b, Value.slice p m c] : List Value).length ≤ cur.size := by rw [h1, hz1]; simp; omega
  have hr := run_append_room (P := Tryz.prog) w 32 32 44 i0 Tryz.underlying32 hi g n L cur h0 a 1 1 [.bool b, .slice p m c] (by rw [hz1]; rfl) hnews (by intro u hu; simp at hu; rcases hu with rfl | rfl <;> rfl) (by omega) hfit
  rw [hz1] at hr
  refine ⟨_, hr, ⟨_, setRow_heap w g cur _ _ _ h0, ?_, ?_, ?_, ?_, by omega, h6⟩, by simp [World.setRow], fun k hk => setRow_other w g k _ hk, ⟨rfl, rfl, rfl, by simp [World.setRow], fun k _ hk => setRow_other w g k _ (fun e => hk (by rw [e]))⟩⟩
  · have := hfit; rw [hz1] at this
    simp only [List.size_toArray, List.length_append, List.length_take, List.length_drop, Array.length_toList, List.length_cons, List.length_nil] at this ⊢
    omega
  · rw [h2]
    have e : (n + 1) * 2 = (cs ++ [Value.bool b, Value.slice p m c]).length := by simp [h3]; omega
    rw [e]
    exact List.take_left
  · simp [h3]; omega
  · rw [Array.all_eq_true'] at h4 ⊢
    intro x hx
    simp only [List.mem_toArray, List.mem_append] at hx
    rcases hx with (hx | hx) | hx
    · exact h4 x (by simpa using List.mem_of_mem_take hx)
    · simp at hx; rcases hx with rfl | rfl <;> rfl
    · exact h4 x (by simpa using List.mem_of_mem_drop hx)
end Go.Proofs.YtckkpolikdnilaaGreatDoor
/- value.Eval where it answers with an error. -/
namespace Go.Proofs.YtckkpolikdnilaaGreatDoor
open Go.RowKit Big Go.WideMaps

def RVlErr (c : Int) (w : World) (e : Ending) (w' : World) : Prop := e = .returned (.tuple #[.slice none 0 0, .int .i64 c]) ∧ Below w.heap.size w w'
end Go.Proofs.YtckkpolikdnilaaGreatDoor
/- value.isCondition. -/
namespace Go.Proofs.YtckkpolikdnilaaGreatDoor
open Go.RowKit Big Go.WideMaps

/-- σ tells the sorts of the terms -/
structure VlSorts (syms : List Sy) (terms : List Tm) (σ : Nat → Int) : Prop where
  ite : ∀ k (h : k < terms.length), terms[k].op = 9 → ∃ j : Nat, ∃ h1 : 1 < terms[k].args.length, terms[k].args[1] = (j : Nat) ∧ j < k ∧ σ k = σ j
  num : ∀ k (h : k < terms.length), terms[k].op = 3 ∨ terms[k].op = 12 ∨ terms[k].op = 13 → σ k = 2
  app : ∀ k (h : k < terms.length), terms[k].op = 4 → ∃ j : Nat, ∃ h1 : j < syms.length, terms[k].sym = (j : Nat) ∧ σ k = syms[j].sort
  bool : ∀ k (h : k < terms.length), terms[k].op ≠ 9 → terms[k].op ≠ 3 → terms[k].op ≠ 12 → terms[k].op ≠ 13 → terms[k].op ≠ 4 → σ k = 1
set_option maxRecDepth 100000 in
set_option maxHeartbeats 3200000 in
theorem isCondition_any (vs vt : Value) (syms : List Sy) (terms : List Tm) (σ : Nat → Int) (t : Nat) (w : World) (hs : SyIn w vs syms) (ht : TmsIn w vt terms) (hσ : VlSorts syms terms σ) (htl : t < terms.length) :
    Calls Tryz.prog 43 #[.agg #[vs, vt], .int .i64 (t : Nat)] w (RBool (σ t == 1) w) := by
  obtain ⟨ps, cps, rfl, i1, i2, -, i4⟩ := hs
  obtain ⟨pt, cpt, rfl, j1, j2, -, j4⟩ := ht
  have I4 := hid i4; have J4 := hid j4; have HS := hid hσ
  unfold maxLen at i2 j2
  have b0 := below1 w (.cells #[.slice ps syms.length cps, .slice pt terms.length cpt] 25)
  have n0 := heap_alloc_new w (.cells #[.slice ps syms.length cps, .slice pt terms.length cpt] 25)
  generalize hW : w.alloc (.cells #[.slice ps syms.length cps, .slice pt terms.length cpt] 25) = W at *
  obtain ⟨x0, x1, -, -⟩ := two_cells n0
  obtain ⟨L, hL⟩ : ∃ L, L = terms.length := ⟨_, rfl⟩
  have HL := hid hL
  rw [← hL] at hW x1 htl ⊢
  have B0 := hid b0
  obtain ⟨r, hr⟩ : ∃ r, r = (σ t == 1) := ⟨_, rfl⟩
  rw [← hr]
  have Hr := hid hr
  clear i4 j4 b0 n0 hL hσ i1 j1 hr
  have Htl := hid htl
  go_enter Tryz.func43, Tryz.ntmps43
  go_wp2_with fail
  go_loopw [1] (fun v wr => ∃ k : Nat, v = .int .i64 (k : Nat) ∧ k < L ∧ Hid (σ k = σ t) ∧ wr = W) (fun v _ => (intOf v).toNat)
  case atStart => exact ⟨t, rfl, htl, hid rfl, rfl⟩
  case round =>
    obtain ⟨k, rfl, hk, hE, e⟩ := hrel
    subst e
    clear hW
    have hkt : k < terms.length := by rw [← HL.out]; exact hk
    have hki : (k : Int) < (L : Int) := by omega
    obtain ⟨b, o, rfl, hb, hc⟩ := J4.out (by omega)
    obtain ⟨c0, c1, c2, c3, c4, k0, k1, k2, k3, k4, hr⟩ := hc k hkt
    obtain ⟨pa, ca, bb, pn, nn, cn, e, hA, -⟩ := id hr
    injection e with e
    injection e with e
    injection e with f0 e
    injection e with f1 e
    injection e with f2 e
    injection e with f3 e
    injection e with f4 e
    subst f0 f1 f2 f3 f4
    clear e hr hc
    have k0 := (B0.out.cell (p := ⟨b, o + k * 5, none⟩) hb).trans k0
    have k1 := (B0.out.cell (p := ⟨b, o + k * 5 + 1, none⟩) hb).trans k1
    have k4 := (B0.out.cell (p := ⟨b, o + k * 5 + 4, none⟩) hb).trans k4
    have h9 := hid (HS.out.ite k hkt); have h3 := hid (HS.out.num k hkt); have h4 := hid (HS.out.app k hkt); have h1 := hid (HS.out.bool k hkt)
    clear k2 k3 hb
    generalize terms[k] = tm at *
    obtain ⟨op, al, nu, sy⟩ := tm
    dsimp only at *
    by_cases e9 : op = 9
    · subst e9
      obtain ⟨j, hj1, hj2, hj3, hj4⟩ := h9.out rfl
      obtain ⟨pa', ca', e, -, -, -, j5⟩ := hA
      injection e with e1 e2 e3
      subst e1 e3
      obtain ⟨ba, oa, rfl, hba, hca⟩ := j5 (by omega)
      have m1 := (B0.out.cell (p := ⟨ba, oa + 1, none⟩) hba).trans (hca 1 hj1)
      rw [hj2] at m1
      have hl1 : (1 : Int) < (al.length : Int) := by omega
      have hE2 : Hid (σ j = σ t) := hid (hj4.symm.trans hE.out)
      clear j5 hca hba h9 h3 h4 h1 hj2 hj4
      go_wp2_with fail
      go_roundw
      case rel => exact ⟨j, rfl, by omega, hE2, by trivial⟩
      case measure => simp [intOf]; omega
    · have t9 : (op == 9) = false := by simpa using e9
      by_cases e3 : op = 3 ∨ op = 12 ∨ op = 13
      · have hres : r = false := by rw [Hr.out, ← hE.out, h3.out e3]; rfl
        subst hres
        rcases e3 with rfl | rfl | rfl
        all_goals (clear h9 h3 h4 h1; go_wp2_with fail; go_ret; exact ⟨rfl, B0.out⟩)
      · have n3 : (op == 3) = false := by simp; omega
        have n12 : (op == 12) = false := by simp; omega
        have n13 : (op == 13) = false := by simp; omega
        by_cases e4 : op = 4
        · subst e4
          obtain ⟨j, hj1, hj2, hj3⟩ := h4.out rfl
          obtain ⟨bs, os, rfl, hbs, hcs⟩ := I4.out (by omega)
          obtain ⟨-, -, m2⟩ := hcs j hj1
          have m2 := (B0.out.cell (p := ⟨bs, os + j * 3 + 2, none⟩) hbs).trans m2
          rw [hj2] at k4
          have hji : (j : Int) < (syms.length : Int) := by omega
          have hres : r = (syms[j].sort == 1) := by rw [Hr.out, ← hE.out, hj3]
          clear h9 h3 h4 h1 hcs I4 HS hj3 hj2 hA Hr
          generalize syms[j].sort = so at *
          subst hres
          go_wp2_with fail
          go_quiet (fail)
          go_wp2
          go_ret
          exact ⟨rfl, below_drewN B0.out _⟩
        · have n4 : (op == 4) = false := by simpa using e4
          have hres : r = true := by rw [Hr.out, ← hE.out, h1.out e9 (by omega) (by omega) (by omega) e4]; rfl
          subst hres
          clear h9 h3 h4 h1
          go_wp2_with fail
          go_ret
          exact ⟨rfl, B0.out⟩
end Go.Proofs.YtckkpolikdnilaaGreatDoor
/- value.meaning's maker. -/
namespace Go.Proofs.YtckkpolikdnilaaGreatDoor
open Go.RowKit Big Go.WideMaps

set_option maxRecDepth 100000 in
set_option maxHeartbeats 3200000 in
theorem maker_1 (g : Nat) (w : World) (syms : List Sy) (ts : List Tb5) (t : Tm) (l : List Int) (h : MeanAt w g syms ts t l) (ho : t.op = 1) :
    Calls Tryz.prog 51 #[.pointer (some ⟨g, 0, none⟩)] w (fun e w' => e = .returned (.func (.func 73) #[.pointer (some ⟨g, 0, none⟩)] #[]) ∧ Below w.heap.size w w') := by
  obtain ⟨vs, vt, va, nn, ns, vp, h0, -, -, -, -⟩ := h
  obtain ⟨-, -, x2, -, -, -, -⟩ := rec8_cells h0
  rw [ho] at x2
  clear h0 ho
  go_enter Tryz.func51, Tryz.ntmps51
  go_wp2
  go_ret
  exact ⟨rfl, Below.refl _ _⟩
set_option maxRecDepth 100000 in
set_option maxHeartbeats 3200000 in
theorem maker_2 (g : Nat) (w : World) (syms : List Sy) (ts : List Tb5) (t : Tm) (l : List Int) (h : MeanAt w g syms ts t l) (ho : t.op = 2) :
    Calls Tryz.prog 51 #[.pointer (some ⟨g, 0, none⟩)] w (fun e w' => e = .returned (.func (.func 74) #[.pointer (some ⟨g, 0, none⟩)] #[]) ∧ Below w.heap.size w w') := by
  obtain ⟨vs, vt, va, nn, ns, vp, h0, -, -, -, -⟩ := h
  obtain ⟨-, -, x2, -, -, -, -⟩ := rec8_cells h0
  rw [ho] at x2
  clear h0 ho
  go_enter Tryz.func51, Tryz.ntmps51
  go_wp2
  go_ret
  exact ⟨rfl, Below.refl _ _⟩
set_option maxRecDepth 100000 in
set_option maxHeartbeats 3200000 in
theorem maker_3 (g : Nat) (w : World) (syms : List Sy) (ts : List Tb5) (t : Tm) (l : List Int) (h : MeanAt w g syms ts t l) (ho : t.op = 3) :
    Calls Tryz.prog 51 #[.pointer (some ⟨g, 0, none⟩)] w (fun e w' => e = .returned (.func (.func 75) #[.pointer (some ⟨g, 0, none⟩)] #[]) ∧ Below w.heap.size w w') := by
  obtain ⟨vs, vt, va, nn, ns, vp, h0, -, -, -, -⟩ := h
  obtain ⟨-, -, x2, -, -, -, -⟩ := rec8_cells h0
  rw [ho] at x2
  clear h0 ho
  go_enter Tryz.func51, Tryz.ntmps51
  go_wp2
  go_ret
  exact ⟨rfl, Below.refl _ _⟩
set_option maxRecDepth 100000 in
set_option maxHeartbeats 3200000 in
theorem maker_4 (g : Nat) (w : World) (syms : List Sy) (ts : List Tb5) (t : Tm) (l : List Int) (h : MeanAt w g syms ts t l) (ho : t.op = 4) :
    Calls Tryz.prog 51 #[.pointer (some ⟨g, 0, none⟩)] w (fun e w' => e = .returned (.func (.func 76) #[.pointer (some ⟨g, 0, none⟩)] #[]) ∧ Below w.heap.size w w') := by
  obtain ⟨vs, vt, va, nn, ns, vp, h0, -, -, -, -⟩ := h
  obtain ⟨-, -, x2, -, -, -, -⟩ := rec8_cells h0
  rw [ho] at x2
  clear h0 ho
  go_enter Tryz.func51, Tryz.ntmps51
  go_wp2
  go_ret
  exact ⟨rfl, Below.refl _ _⟩
set_option maxRecDepth 100000 in
set_option maxHeartbeats 3200000 in
theorem maker_5 (g : Nat) (w : World) (syms : List Sy) (ts : List Tb5) (t : Tm) (l : List Int) (h : MeanAt w g syms ts t l) (ho : t.op = 5) :
    Calls Tryz.prog 51 #[.pointer (some ⟨g, 0, none⟩)] w (fun e w' => e = .returned (.func (.func 77) #[.pointer (some ⟨g, 0, none⟩)] #[]) ∧ Below w.heap.size w w') := by
  obtain ⟨vs, vt, va, nn, ns, vp, h0, -, -, -, -⟩ := h
  obtain ⟨-, -, x2, -, -, -, -⟩ := rec8_cells h0
  rw [ho] at x2
  clear h0 ho
  go_enter Tryz.func51, Tryz.ntmps51
  go_wp2
  go_ret
  exact ⟨rfl, Below.refl _ _⟩
set_option maxRecDepth 100000 in
set_option maxHeartbeats 3200000 in
theorem maker_6 (g : Nat) (w : World) (syms : List Sy) (ts : List Tb5) (t : Tm) (l : List Int) (h : MeanAt w g syms ts t l) (ho : t.op = 6) :
    Calls Tryz.prog 51 #[.pointer (some ⟨g, 0, none⟩)] w (fun e w' => e = .returned (.func (.func 73) #[.pointer (some ⟨g, 0, none⟩)] #[]) ∧ Below w.heap.size w w') := by
  obtain ⟨vs, vt, va, nn, ns, vp, h0, -, -, -, -⟩ := h
  obtain ⟨-, -, x2, -, -, -, -⟩ := rec8_cells h0
  rw [ho] at x2
  clear h0 ho
  go_enter Tryz.func51, Tryz.ntmps51
  go_wp2
  go_ret
  exact ⟨rfl, Below.refl _ _⟩
set_option maxRecDepth 100000 in
set_option maxHeartbeats 3200000 in
theorem maker_7 (g : Nat) (w : World) (syms : List Sy) (ts : List Tb5) (t : Tm) (l : List Int) (h : MeanAt w g syms ts t l) (ho : t.op = 7) :
    Calls Tryz.prog 51 #[.pointer (some ⟨g, 0, none⟩)] w (fun e w' => e = .returned (.func (.func 74) #[.pointer (some ⟨g, 0, none⟩)] #[]) ∧ Below w.heap.size w w') := by
  obtain ⟨vs, vt, va, nn, ns, vp, h0, -, -, -, -⟩ := h
  obtain ⟨-, -, x2, -, -, -, -⟩ := rec8_cells h0
  rw [ho] at x2
  clear h0 ho
  go_enter Tryz.func51, Tryz.ntmps51
  go_wp2
  go_ret
  exact ⟨rfl, Below.refl _ _⟩
set_option maxRecDepth 100000 in
set_option maxHeartbeats 3200000 in
theorem maker_8 (g : Nat) (w : World) (syms : List Sy) (ts : List Tb5) (t : Tm) (l : List Int) (h : MeanAt w g syms ts t l) (ho : t.op = 8) :
    Calls Tryz.prog 51 #[.pointer (some ⟨g, 0, none⟩)] w (fun e w' => e = .returned (.func (.func 78) #[.pointer (some ⟨g, 0, none⟩)] #[]) ∧ Below w.heap.size w w') := by
  obtain ⟨vs, vt, va, nn, ns, vp, h0, -, -, -, -⟩ := h
  obtain ⟨-, -, x2, -, -, -, -⟩ := rec8_cells h0
  rw [ho] at x2
  clear h0 ho
  go_enter Tryz.func51, Tryz.ntmps51
  go_wp2
  go_ret
  exact ⟨rfl, Below.refl _ _⟩
set_option maxRecDepth 100000 in
set_option maxHeartbeats 3200000 in
theorem maker_9 (g : Nat) (w : World) (syms : List Sy) (ts : List Tb5) (t : Tm) (l : List Int) (h : MeanAt w g syms ts t l) (ho : t.op = 9) :
    Calls Tryz.prog 51 #[.pointer (some ⟨g, 0, none⟩)] w (fun e w' => e = .returned (.func (.func 79) #[.pointer (some ⟨g, 0, none⟩)] #[]) ∧ Below w.heap.size w w') := by
  obtain ⟨vs, vt, va, nn, ns, vp, h0, -, -, -, -⟩ := h
  obtain ⟨-, -, x2, -, -, -, -⟩ := rec8_cells h0
  rw [ho] at x2
  clear h0 ho
  go_enter Tryz.func51, Tryz.ntmps51
  go_wp2
  go_ret
  exact ⟨rfl, Below.refl _ _⟩
set_option maxRecDepth 100000 in
set_option maxHeartbeats 3200000 in
theorem maker_10 (g : Nat) (w : World) (syms : List Sy) (ts : List Tb5) (t : Tm) (l : List Int) (h : MeanAt w g syms ts t l) (ho : t.op = 10) :
    Calls Tryz.prog 51 #[.pointer (some ⟨g, 0, none⟩)] w (fun e w' => e = .returned (.func (.func 78) #[.pointer (some ⟨g, 0, none⟩)] #[]) ∧ Below w.heap.size w w') := by
  obtain ⟨vs, vt, va, nn, ns, vp, h0, -, -, -, -⟩ := h
  obtain ⟨-, -, x2, -, -, -, -⟩ := rec8_cells h0
  rw [ho] at x2
  clear h0 ho
  go_enter Tryz.func51, Tryz.ntmps51
  go_wp2
  go_ret
  exact ⟨rfl, Below.refl _ _⟩
set_option maxRecDepth 100000 in
set_option maxHeartbeats 3200000 in
theorem maker_11 (g : Nat) (w : World) (syms : List Sy) (ts : List Tb5) (t : Tm) (l : List Int) (h : MeanAt w g syms ts t l) (ho : t.op = 11) :
    Calls Tryz.prog 51 #[.pointer (some ⟨g, 0, none⟩)] w (fun e w' => e = .returned (.func (.func 80) #[.pointer (some ⟨g, 0, none⟩)] #[]) ∧ Below w.heap.size w w') := by
  obtain ⟨vs, vt, va, nn, ns, vp, h0, -, -, -, -⟩ := h
  obtain ⟨-, -, x2, -, -, -, -⟩ := rec8_cells h0
  rw [ho] at x2
  clear h0 ho
  go_enter Tryz.func51, Tryz.ntmps51
  go_wp2
  go_ret
  exact ⟨rfl, Below.refl _ _⟩
set_option maxRecDepth 100000 in
set_option maxHeartbeats 3200000 in
theorem maker_12 (g : Nat) (w : World) (syms : List Sy) (ts : List Tb5) (t : Tm) (l : List Int) (h : MeanAt w g syms ts t l) (ho : t.op = 12) :
    Calls Tryz.prog 51 #[.pointer (some ⟨g, 0, none⟩)] w (fun e w' => e = .returned (.func (.func 81) #[.pointer (some ⟨g, 0, none⟩)] #[]) ∧ Below w.heap.size w w') := by
  obtain ⟨vs, vt, va, nn, ns, vp, h0, -, -, -, -⟩ := h
  obtain ⟨-, -, x2, -, -, -, -⟩ := rec8_cells h0
  rw [ho] at x2
  clear h0 ho
  go_enter Tryz.func51, Tryz.ntmps51
  go_wp2
  go_ret
  exact ⟨rfl, Below.refl _ _⟩
set_option maxRecDepth 100000 in
set_option maxHeartbeats 3200000 in
theorem maker_13 (g : Nat) (w : World) (syms : List Sy) (ts : List Tb5) (t : Tm) (l : List Int) (h : MeanAt w g syms ts t l) (ho : t.op = 13) :
    Calls Tryz.prog 51 #[.pointer (some ⟨g, 0, none⟩)] w (fun e w' => e = .returned (.func (.func 82) #[.pointer (some ⟨g, 0, none⟩)] #[]) ∧ Below w.heap.size w w') := by
  obtain ⟨vs, vt, va, nn, ns, vp, h0, -, -, -, -⟩ := h
  obtain ⟨-, -, x2, -, -, -, -⟩ := rec8_cells h0
  rw [ho] at x2
  clear h0 ho
  go_enter Tryz.func51, Tryz.ntmps51
  go_wp2
  go_ret
  exact ⟨rfl, Below.refl _ _⟩
end Go.Proofs.YtckkpolikdnilaaGreatDoor
/- The methods of value.meaning that draw an order. -/
namespace Go.Proofs.YtckkpolikdnilaaGreatDoor
open Go.RowKit Big Go.WideMaps

theorem ord_le (a b : Int) : decide (ord a b ≤ 0) = decide (a ≤ b) := by
  unfold ord
  by_cases h : a < b
  · simp [h]; omega
  · by_cases e : a = b
    · simp [e]
    · simp [h]; omega
set_option maxRecDepth 100000 in
set_option maxHeartbeats 3200000 in
theorem mequal_any (g : Nat) (w : World) (syms : List Sy) (ts : List Tb5) (t : Tm) (l : List Int) (h : MeanAt w g syms ts t l) (hl : 2 ≤ l.length) :
    Calls Tryz.prog 78 #[.pointer (some ⟨g, 0, none⟩)] w (RInt (vlTruth (decide (vlAt l 0 = vlAt l 1))) w) := by
  have b0 := below1 w (.cells #[.bool false, .slice none 0 0] 44)
  have hp : Pair (w.alloc (.cells #[.bool false, .slice none 0 0] 44)) w.heap.size 44 := Pair.new ..
  generalize hW : w.alloc (.cells #[.bool false, .slice none 0 0] 44) = W at *
  obtain ⟨vs, vt, va, nn, ns, vp, h0, h1, h2, h3, h4⟩ := h
  have G : g < w.heap.size := (Array.getElem?_eq_some_iff.1 h0).1
  obtain ⟨x0, x1, x2, x4, x5, x6, x7⟩ := rec8_cells ((b0.block g G).trans h0)
  clear h0
  obtain ⟨m0, o0, c0, n0, q0, d0, g0, e0, M0, y0, z0, r0⟩ := h4.at 0 (by omega)
  obtain ⟨m1, o1, c1, n1, q1, d1, g1, e1, M1, y1, z1, r1⟩ := h4.at 1 (by omega)
  rw [e0] at x7
  have M := hid M0
  clear M0
  clear M1
  rw [e0] at e1
  injection e1 with ea1
  injection ea1 with ea1
  injection ea1 with eb1 ec1
  subst eb1 ec1
  have M := M.out
  have y0 := (b0.cell (p := ⟨m0, o0 + 0 * 2, none⟩) M).trans y0
  have z0 := (b0.cell (p := ⟨m0, o0 + 0 * 2 + 1, none⟩) M).trans z0
  have r0 := r0.below b0
  have y1 := (b0.cell (p := ⟨m0, o0 + 1 * 2, none⟩) M).trans y1
  have z1 := (b0.cell (p := ⟨m0, o0 + 1 * 2 + 1, none⟩) M).trans z1
  have r1 := r1.below b0
  have hl0 : (0 : Int) < (l.length : Int) := by omega
  have hl1 : (1 : Int) < (l.length : Int) := by omega
  have hln : 0 < l.length := by omega
  have hv : vlAt l 0 = l[0] ∧ vlAt l 1 = l[1] := by
    refine ⟨?_, ?_⟩ <;> unfold vlAt
    · simp [show (0 : Int).toNat = 0 from rfl, List.getElem?_eq_getElem (show 0 < l.length by omega)]
    · simp [show (1 : Int).toNat = 1 from rfl, List.getElem?_eq_getElem (show 1 < l.length by omega)]
  obtain ⟨hv0, hv1⟩ := hv
  rw [hv0, hv1]
  clear hv0 hv1
  have Hc0 := hid (fun w' (hb : Below W.heap.size W w') => same_any5 _ _ _ _ w' (r0.below hb) (r1.below hb))
  have y0 : W.cell? ⟨m0, o0, none⟩ = some (.bool n0) := y0
  have z0 : W.cell? ⟨m0, o0 + 1, none⟩ = some (.slice q0 d0 g0) := (congrArg (fun k => W.cell? ⟨m0, k, none⟩) (by omega)).trans z0
  have y1 : W.cell? ⟨m0, o0 + 2, none⟩ = some (.bool n1) := y1
  have z1 : W.cell? ⟨m0, o0 + 3, none⟩ = some (.slice q1 d1 g1) := z1
  clear h1 h2 h3 h4 r0 r1 e0
  generalize decide (l[0] = l[1]) = r at *
  have hz : W.heap.size = w.heap.size + 1 := by rw [← hW, size_alloc]
  go_enter Tryz.func78, Tryz.ntmps78
  go_wp2_with fail
  go_region_held3 (fun w' => w'.cell? ⟨g, 7, none⟩ = some (.slice (some ⟨m0, o0, none⟩) l.length c0) ∧ w'.cell? ⟨m0, o0, none⟩ = some (.bool n0) ∧ w'.cell? ⟨m0, o0 + 1, none⟩ = some (.slice q0 d0 g0) ∧ w'.cell? ⟨m0, o0 + 2, none⟩ = some (.bool n1) ∧ w'.cell? ⟨m0, o0 + 3, none⟩ = some (.slice q1 d1 g1) ∧ Pair w' w.heap.size 44)
    (first | (go_split_ands; (try dsimp only); (repeat' apply And.intro) <;> first | assumption | exact Pair.drew ‹_› | exact Pair.below ‹_› hb9 | exact Pair.below ‹_› hb8 | exact Pair.below ‹_› hb7 | exact Pair.below ‹_› hb6 | exact Pair.below ‹_› hb5 | exact Pair.below ‹_› hb4 | exact Pair.below ‹_› hb3 | exact Pair.below ‹_› hb2 | exact Pair.below ‹_› hb1 | exact (hb9.cell (by first | omega | (simp; omega) | (simp; done))).trans ‹_› | exact (hb8.cell (by first | omega | (simp; omega) | (simp; done))).trans ‹_› | exact (hb7.cell (by first | omega | (simp; omega) | (simp; done))).trans ‹_› | exact (hb6.cell (by first | omega | (simp; omega) | (simp; done))).trans ‹_› | exact (hb5.cell (by first | omega | (simp; omega) | (simp; done))).trans ‹_› | exact (hb4.cell (by first | omega | (simp; omega) | (simp; done))).trans ‹_› | exact (hb3.cell (by first | omega | (simp; omega) | (simp; done))).trans ‹_› | exact (hb2.cell (by first | omega | (simp; omega) | (simp; done))).trans ‹_› | exact (hb1.cell (by first | omega | (simp; omega) | (simp; done))).trans ‹_› | exact Pair.set1 (Pair.set0 ‹_› _) _ _ _ | exact (cell_stored _ (by first | (dsimp only; omega) | (simp; done) | (simp; omega)) _ _).trans ‹_› | exact Pair.drew (Pair.below ‹_› (below1 _ _)) | exact Pair.below ‹_› (below1 _ _) | exact Pair.far ‹_› (by omega) hb1 | exact Pair.new .. | exact Pair.new1 .. | exact Pair.new2 .. | (go_keep; done)) | (go_keep; done))
    (first
      | (go_at_call 55; refine (Hc0.out _ ?_).mono ?_; (repeat (first | exact Below.refl _ _ | apply Below.drew)); rintro e w1 ⟨rfl, hb1⟩; have hz1 : W.heap.size ≤ w1.heap.size := (by have := hb1.size; simp at this; omega))
      | (go_at_call 35; refine (truth_any _ _).mono ?_; rintro e w2 ⟨v2, rfl, hi2, hb2⟩; obtain ⟨p2, n2, c2, rfl, hi2⟩ := hi2.shape; have hpr := Pair.below (by go_split_ands; assumption) hb2; obtain ⟨_, _, q0, q1, q2, q3⟩ := hpr.cells))
  go_wp2
  exact bodyPost_ret (v := .agg #[.bool (decide (vlTruth r < 0)), .slice p2 n2 c2]) (by simp [results, Tryz.results78, go_sem, q0, q1]) rfl ⟨_, rfl, hi2.stored hpr _ _ _ _, Below.stored (b0.drew.trans ((hb1.mono (B' := w.heap.size) (by first | omega | (simp; omega))).trans (hb2.mono (B' := w.heap.size) (by first | omega | (simp; omega))))) (by omega) _ _⟩
set_option maxRecDepth 100000 in
set_option maxHeartbeats 3200000 in
theorem matMost_any (g : Nat) (w : World) (syms : List Sy) (ts : List Tb5) (t : Tm) (l : List Int) (h : MeanAt w g syms ts t l) (hl : 2 ≤ l.length) :
    Calls Tryz.prog 80 #[.pointer (some ⟨g, 0, none⟩)] w (RInt (vlTruth (decide (vlAt l 0 ≤ vlAt l 1))) w) := by
  have b0 := below1 w (.cells #[.bool false, .slice none 0 0] 44)
  have hp : Pair (w.alloc (.cells #[.bool false, .slice none 0 0] 44)) w.heap.size 44 := Pair.new ..
  generalize hW : w.alloc (.cells #[.bool false, .slice none 0 0] 44) = W at *
  obtain ⟨vs, vt, va, nn, ns, vp, h0, h1, h2, h3, h4⟩ := h
  have G : g < w.heap.size := (Array.getElem?_eq_some_iff.1 h0).1
  obtain ⟨x0, x1, x2, x4, x5, x6, x7⟩ := rec8_cells ((b0.block g G).trans h0)
  clear h0
  obtain ⟨m0, o0, c0, n0, q0, d0, g0, e0, M0, y0, z0, r0⟩ := h4.at 0 (by omega)
  obtain ⟨m1, o1, c1, n1, q1, d1, g1, e1, M1, y1, z1, r1⟩ := h4.at 1 (by omega)
  rw [e0] at x7
  have M := hid M0
  clear M0
  clear M1
  rw [e0] at e1
  injection e1 with ea1
  injection ea1 with ea1
  injection ea1 with eb1 ec1
  subst eb1 ec1
  have M := M.out
  have y0 := (b0.cell (p := ⟨m0, o0 + 0 * 2, none⟩) M).trans y0
  have z0 := (b0.cell (p := ⟨m0, o0 + 0 * 2 + 1, none⟩) M).trans z0
  have r0 := r0.below b0
  have y1 := (b0.cell (p := ⟨m0, o0 + 1 * 2, none⟩) M).trans y1
  have z1 := (b0.cell (p := ⟨m0, o0 + 1 * 2 + 1, none⟩) M).trans z1
  have r1 := r1.below b0
  have hl0 : (0 : Int) < (l.length : Int) := by omega
  have hl1 : (1 : Int) < (l.length : Int) := by omega
  have hln : 0 < l.length := by omega
  have hv : vlAt l 0 = l[0] ∧ vlAt l 1 = l[1] := by
    refine ⟨?_, ?_⟩ <;> unfold vlAt
    · simp [show (0 : Int).toNat = 0 from rfl, List.getElem?_eq_getElem (show 0 < l.length by omega)]
    · simp [show (1 : Int).toNat = 1 from rfl, List.getElem?_eq_getElem (show 1 < l.length by omega)]
  obtain ⟨hv0, hv1⟩ := hv
  rw [hv0, hv1]
  clear hv0 hv1
  rw [← ord_le]
  have Hc0 := hid (fun w' (hb : Below W.heap.size W w') => Cmp_any _ _ _ _ w' (r0.below hb) (r1.below hb))
  have y0 : W.cell? ⟨m0, o0, none⟩ = some (.bool n0) := y0
  have z0 : W.cell? ⟨m0, o0 + 1, none⟩ = some (.slice q0 d0 g0) := (congrArg (fun k => W.cell? ⟨m0, k, none⟩) (by omega)).trans z0
  have y1 : W.cell? ⟨m0, o0 + 2, none⟩ = some (.bool n1) := y1
  have z1 : W.cell? ⟨m0, o0 + 3, none⟩ = some (.slice q1 d1 g1) := z1
  clear h1 h2 h3 h4 r0 r1 e0
  generalize ord l[0] l[1] = r at *
  have hz : W.heap.size = w.heap.size + 1 := by rw [← hW, size_alloc]
  go_enter Tryz.func80, Tryz.ntmps80
  go_wp2_with fail
  go_region_held3 (fun w' => w'.cell? ⟨g, 7, none⟩ = some (.slice (some ⟨m0, o0, none⟩) l.length c0) ∧ w'.cell? ⟨m0, o0, none⟩ = some (.bool n0) ∧ w'.cell? ⟨m0, o0 + 1, none⟩ = some (.slice q0 d0 g0) ∧ w'.cell? ⟨m0, o0 + 2, none⟩ = some (.bool n1) ∧ w'.cell? ⟨m0, o0 + 3, none⟩ = some (.slice q1 d1 g1) ∧ Pair w' w.heap.size 44)
    (first | (go_split_ands; (try dsimp only); (repeat' apply And.intro) <;> first | assumption | exact Pair.drew ‹_› | exact Pair.below ‹_› hb9 | exact Pair.below ‹_› hb8 | exact Pair.below ‹_› hb7 | exact Pair.below ‹_› hb6 | exact Pair.below ‹_› hb5 | exact Pair.below ‹_› hb4 | exact Pair.below ‹_› hb3 | exact Pair.below ‹_› hb2 | exact Pair.below ‹_› hb1 | exact (hb9.cell (by first | omega | (simp; omega) | (simp; done))).trans ‹_› | exact (hb8.cell (by first | omega | (simp; omega) | (simp; done))).trans ‹_› | exact (hb7.cell (by first | omega | (simp; omega) | (simp; done))).trans ‹_› | exact (hb6.cell (by first | omega | (simp; omega) | (simp; done))).trans ‹_› | exact (hb5.cell (by first | omega | (simp; omega) | (simp; done))).trans ‹_› | exact (hb4.cell (by first | omega | (simp; omega) | (simp; done))).trans ‹_› | exact (hb3.cell (by first | omega | (simp; omega) | (simp; done))).trans ‹_› | exact (hb2.cell (by first | omega | (simp; omega) | (simp; done))).trans ‹_› | exact (hb1.cell (by first | omega | (simp; omega) | (simp; done))).trans ‹_› | exact Pair.set1 (Pair.set0 ‹_› _) _ _ _ | exact (cell_stored _ (by first | (dsimp only; omega) | (simp; done) | (simp; omega)) _ _).trans ‹_› | exact Pair.drew (Pair.below ‹_› (below1 _ _)) | exact Pair.below ‹_› (below1 _ _) | exact Pair.far ‹_› (by omega) hb1 | exact Pair.new .. | exact Pair.new1 .. | exact Pair.new2 .. | (go_keep; done)) | (go_keep; done))
    (first
      | (go_at_call 86; refine (Hc0.out _ ?_).mono ?_; (repeat (first | exact Below.refl _ _ | apply Below.drew)); rintro e w1 ⟨rfl, hb1⟩; have hz1 : W.heap.size ≤ w1.heap.size := (by have := hb1.size; simp at this; omega))
      | (go_at_call 35; refine (truth_any _ _).mono ?_; rintro e w2 ⟨v2, rfl, hi2, hb2⟩; obtain ⟨p2, n2, c2, rfl, hi2⟩ := hi2.shape; have hpr := Pair.below (by go_split_ands; assumption) hb2; obtain ⟨_, _, q0, q1, q2, q3⟩ := hpr.cells))
  go_wp2
  exact bodyPost_ret (v := .agg #[.bool (decide (vlTruth (decide (r ≤ 0)) < 0)), .slice p2 n2 c2]) (by simp [results, Tryz.results80, go_sem, q0, q1]) rfl ⟨_, rfl, hi2.stored hpr _ _ _ _, Below.stored (b0.drew.trans ((hb1.mono (B' := w.heap.size) (by first | omega | (simp; omega))).trans (hb2.mono (B' := w.heap.size) (by first | omega | (simp; omega))))) (by omega) _ _⟩
end Go.Proofs.YtckkpolikdnilaaGreatDoor
/- whole.trimHalves: what is left is the digits without the noughts at the end. -/
namespace Go.Proofs.YtckkpolikdnilaaGreatDoor
open Go.RowKit Big

set_option maxHeartbeats 400000 in
theorem htrim_val (v : Value) (l : List Nat) (w : World) (h : At w .u32 v l) :
    Calls Tryz.prog 146 #[v] w (fun e w' => e = .returned (cutTo v (strip l).length) ∧ w' = w) := by
  obtain ⟨p, cap, rfl, h1, h2, h3, h4⟩ := h
  unfold maxLen at h2
  go_enter Tryz.func146, Tryz.ntmps146
  go_wp2
  go_loop [0] (fun s => ∃ k : Nat, k ≤ l.length ∧ s = .slice p k cap ∧ strip (l.take k) = strip l) (fun s => lenOf s)
  case atStart => exact ⟨l.length, Nat.le_refl _, rfl, by rw [List.take_length]⟩
  case round =>
    obtain ⟨k, hk, rfl, hs⟩ := hrel
    have Hs := hid hs; clear hs
    by_cases hk0 : 0 < k
    · obtain ⟨b, off, rfl, hb, hc⟩ := h4 (by omega)
      have hck : w.cell? ⟨b, off + (k - 1), none⟩ = some (.int .u32 (l[k-1]'(by omega) : Nat)) := hc (k - 1) (by omega)
      clear hc h4
      go_wp2
      · go_round
        case rel =>
          have hz : ((l[k-1]'(by omega) : Nat) == 0) = true := by simpa using ‹((l[k-1]'(by omega) : Nat) == (0 : Int)) = true›
          refine ⟨k - 1, by omega, rfl, ?_⟩
          rw [← Hs.out, ← strip_take (k := k - 1) (by omega) (by simpa using hz), Nat.sub_add_cancel hk0]
        case measure => simp [lenOf]; omega
      · have hz : ¬ (l[k-1]'(by omega) : Nat) = 0 := by
          have := ‹((l[k-1]'(by omega) : Nat) == (0 : Int)) = false›
          simpa using this
        have hs := strip_take_ne (l := l) (k := k - 1) (by omega) hz
        rw [Nat.sub_add_cancel hk0, Hs.out] at hs
        go_ret
        exact ⟨by rw [hs, List.length_take, Nat.min_eq_left hk]; rfl, rfl⟩
    · obtain rfl : k = 0 := by omega
      have hs : Hid (strip l = []) := by rw [← Hs.out]; rfl
      go_wp2
      go_ret
      exact ⟨by rw [hs.out]; rfl, rfl⟩
end Go.Proofs.YtckkpolikdnilaaGreatDoor
/- whole.split: words as halves of words. -/
namespace Go.Proofs.YtckkpolikdnilaaGreatDoor
open Go.RowKit Big

theorem At.twoI (w : World) (k : IntKind) (e e' : Int) (x y : Nat) (t : TypeId) (h : e = (x : Int)) (h' : e' = (y : Int)) : At (w.alloc (.cells #[.int k e, .int k e'] t)) k (.slice (some ⟨w.heap.size, 0, none⟩) 2 2) [x, y] := by
  subst h; subst h'
  refine ⟨_, 2, rfl, by simp, by simp [maxLen], fun h => (by cases h), fun _ => ⟨_, _, rfl, by simp, fun i hi => ?_⟩⟩
  have hh := heap_alloc_new w (.cells #[.int k (x : Nat), .int k (y : Nat)] t)
  rcases (by simp at hi; omega : i = 0 ∨ i = 1) with rfl | rfl
  · exact (two_cells hh).1
  · exact (two_cells hh).2.1

theorem split_step {L l : List Nat} {k x : Nat} {hk : k < l.length} (hL : L.length = 2 * k) (hx : x = l[k]) (hv : val H L = val W (l.take k)) :
    val H (L ++ [x % 4294967296, x / 4294967296]) = val W (l.take (k + 1)) := by
  rw [val_append, val_take_succ W l k hk, hv, hL, ← hx, show H ^ (2 * k) = W ^ k by rw [Nat.pow_mul]; rfl]
  have e : val H [x % 4294967296, x / 4294967296] = x := by simp only [val, H]; omega
  rw [e]

set_option maxRecDepth 100000 in
set_option maxHeartbeats 1600000 in
theorem split_any (v : Value) (l : List Nat) (w : World) (h : At w .u64 v l) (hs : Small W l) (hlen : l.length ≤ 1099511627776) :
    Calls Tryz.prog 137 #[v] w (ROwn 176 .u32 (dig H (val W l)) w) := by
  obtain ⟨p, cap, rfl, a1, a2, a3, a4⟩ := h
  unfold maxLen at a2
  go_enter Tryz.func137, Tryz.ntmps137
  go_wp2_with (first
    | (at_make; refine wpList_make_at rfl _ _ 163 rfl elemHalves w.heap.size _ _ _ (2 * l.length) rfl rfl (by first | rfl | omega | (simp; done)) (by omega) (by simp [maxLen]; omega) (Nat.le_refl _) ?_; intro vo w1 ho hb1 hs1 hvo; clear hvo))
  go_loopw [3, 12] (fun o i wr => ∃ (k : Nat) (L : List Nat), k ≤ l.length ∧ i = .int .i64 (k : Nat) ∧ Own wr w.heap.size 176 .u32 o L ∧ Hid (L.length = 2 * k) ∧ Small H L ∧
      Hid (val H L = val W (l.take k)) ∧ Below w.heap.size w wr) (fun _ i _ => l.length - (intOf i).toNat)
  case atStart => exact ⟨0, [], Nat.zero_le _, rfl, ho, rfl, small_nil _, rfl, hb1⟩
  case round =>
    obtain ⟨k, L, hk, rfl, hown, hLk, hsl, hv, hbel⟩ := hrel
    by_cases hkl : k < l.length
    · obtain ⟨b, off, rfl, hbb, hcell⟩ := a4 (by omega)
      have e0 : wr.cell? ⟨b, off + k, none⟩ = some (.int .u64 (l[k] : Nat)) := (hbel.cell (p := ⟨b, off + k, none⟩) hbb).trans (hcell k hkl)
      have x0 := small_get hs k hkl
      obtain ⟨x, hx⟩ : ∃ x, x = l[k] := ⟨_, rfl⟩
      rw [← hx] at e0 x0
      have Hx := hid hx; clear hx hcell a4
      unfold W at x0
      go_wp2_with (at_builtin; refine wpList_append_at rfl _ _ 163 rfl elemHalves w.heap.size _ L rfl (hown.alloc _) _ [x % 4294967296, x / 4294967296] rfl (At.twoI _ _ _ _ _ _ _ (by first | rfl | omega) (by first | rfl | omega)) (by rw [hLk.out]; simp [maxLen]; omega) (by rw [hLk.out]; simp; omega) (by have := hbel.size; simp; omega) ?_; intro v2 w2 ho2 hb2 hs2)
      go_roundw
      case rel => exact ⟨k + 1, L ++ [x % 4294967296, x / 4294967296], by omega, by go_num, ho2, by have := hLk.out; unfold Hid; simp; omega,
        small_append hsl (small_cons (Nat.mod_lt _ (by decide)) (small_cons (by unfold H; omega) (small_nil _))), split_step hLk.out Hx.out hv.out, (hbel.trans ((below1 _ _).mono hbel.size)).trans hb2⟩
      case measure => (simp [intOf] <;> omega)
    · obtain rfl : k = l.length := by omega
      have hv' : Hid (strip L = dig H (val W l)) := by
        have := hv.out
        rw [List.take_length] at this
        unfold Hid
        rw [← this, strip_dig H2 hsl]
      have hst := strip_length L
      clear a4
      have ho' := hown
      obtain ⟨po, co, rfl, -⟩ := id hown.at
      go_wp2_with (go_at_call 146; refine (htrim_val _ L _ hown.at).mono ?_; rintro e w' ⟨rfl, rfl⟩; simp only [cutTo])
      go_ret
      exact ⟨_, rfl, by rw [← hv'.out]; have := ho'.take (strip L).length hst; rwa [← strip_is_take] at this, hbel⟩
end Go.Proofs.YtckkpolikdnilaaGreatDoor
/- whole.divideShort: a quotient by one half, in place. -/
namespace Go.Proofs.YtckkpolikdnilaaGreatDoor
open Go.RowKit Big

theorem Own.shape {w : World} {base : Nat} {e : TypeId} {k : IntKind} {v : Value} {l : List Nat} (h : Own w base e k v l) (hl : 0 < l.length) :
    ∃ g cap, v = .slice (some ⟨g, 0, none⟩) l.length cap ∧ base ≤ g ∧ g < w.heap.size ∧ l.length ≤ cap ∧ cap ≤ maxLen := by
  rcases h.2 with ⟨_, h0⟩ | ⟨g, cap, cur, hv, h1, h2, h3, h4, _⟩
  · omega
  · exact ⟨g, cap, hv, h1, (Array.getElem?_eq_some_iff.1 h2).1, h3, h4⟩
theorem Own.cell {w : World} {base : Nat} {e : TypeId} {k : IntKind} {g n cap : Nat} {l : List Nat} (h : Own w base e k (.slice (some ⟨g, 0, none⟩) n cap) l) (j : Nat) (hj : j < l.length) :
    w.cell? ⟨g, j, none⟩ = some (.int k (l[j] : Nat)) ∧ w.frozen? ⟨g, j, none⟩ = false := by
  have hn : n = l.length := by
    rcases h.2 with ⟨h1, _⟩ | ⟨g, cap, cur, hv, _⟩
    · cases h1
    · cases hv; rfl
  subst hn
  refine ⟨?_, World.ownsRow.frozenAt h j⟩
  rw [World.ownsRow.cellAt h j (by omega)]
  simp [ints, hj]
/-- a store into an owned row -/
theorem Own.set {w : World} {base : Nat} {e : TypeId} {k : IntKind} {g n cap : Nat} {l : List Nat} (h : Own w base e k (.slice (some ⟨g, 0, none⟩) n cap) l) (j x : Nat) :
    Own (w.setCell ⟨g, j, none⟩ (.int k (x : Nat))) base e k (.slice (some ⟨g, 0, none⟩) n cap) (l.set j x) ∧ w.grownBy (w.setCell ⟨g, j, none⟩ (.int k (x : Nat))) (some g) := by
  have hn : n = l.length := by
    rcases h.2 with ⟨h1, _⟩ | ⟨g, cap, cur, hv, _⟩
    · cases h1
    · cases hv; rfl
  subst hn
  have hs := World.ownsRow.stored h j (.int k (x : Nat))
  refine ⟨?_, hs.2⟩
  unfold Own
  rw [List.length_set]
  have e1 : ints k (l.set j x) = (ints k l).set j (.int k (x : Nat)) := by simp [ints, List.map_set]
  rw [e1]; exact hs.1

theorem wrap_nat (n : Nat) (h : n < W) : IntKind.u64.wrap (n : Int) = (n : Int) := by
  unfold W at h
  simp only [IntKind.wrap, IntKind.bits, IntKind.signed]
  simp
  omega
end Go.Proofs.YtckkpolikdnilaaGreatDoor
/- whole.join: halves of words as words. -/
namespace Go.Proofs.YtckkpolikdnilaaGreatDoor
open Go.RowKit Big

theorem half_or (a b : Nat) (ha : a < 4294967296) (hb : b < 4294967296) : bits BinOp.or IntKind.u64 (b : Int) ((a : Int) * 4294967296) = ((a * 4294967296 + b : Nat) : Int) := by
  have h := u64_or_nat b (a * 4294967296) (by omega) (by omega)
  rw [Int.natCast_mul] at h
  rw [show ((a : Int) * 4294967296) = (a : Int) * ((4294967296 : Nat) : Int) by rfl, h]
  have e := Nat.two_pow_add_eq_or_of_lt (i := 32) (b := b) (by simpa using hb) a
  rw [show (2 : Nat) ^ 32 = 4294967296 by rfl, Nat.mul_comm] at e
  rw [e, Nat.or_comm]

theorem join_step {L l : List Nat} {j x y : Nat} (hL : L.length = j) (hx : x = l[2 * j]?.getD 0) (hy : y = l[2 * j + 1]?.getD 0) (hv : val W L = val H (l.take (2 * j))) :
    val W (L ++ [y * 4294967296 + x]) = val H (l.take (2 * j + 2)) := by
  rw [show 2 * j + 2 = 2 * j + 1 + 1 by rfl, val_take_getD, val_take_getD, val_snoc, hv, hL, ← hx, ← hy, Nat.pow_succ, show H ^ (2 * j) = W ^ j by rw [Nat.pow_mul]; rfl]
  have : W ^ j * (y * 4294967296 + x) = W ^ j * x + W ^ j * H * y := by unfold H; grind
  rw [this]; omega

set_option maxRecDepth 100000 in
set_option maxHeartbeats 1600000 in
theorem join_any (v : Value) (n : Nat) (w : World) (h : At w .u32 v (dig H n)) (hlen : sz H n ≤ 4398046511104) :
    Calls Tryz.prog 135 #[v] w (ROwn 94 .u64 (dig W n) w) := by
  have hs := small_dig H2 n
  have hvn := val_dig H2 n
  have hl : (dig H n).length = sz H n := rfl
  have hp := fun h0 => pow_sz_le H2 (n := n) h0
  have hz : n = 0 → (dig H n).length = 0 := fun e => by rw [e]; rfl
  generalize sz H n = N at *
  generalize dig H n = l at *
  have Hvn := hid hvn; have Hp := hid hp; have Hz := hid hz
  clear hvn hp hz
  obtain ⟨p, cap, rfl, a1, a2, a3, a4⟩ := h
  unfold maxLen at a2
  go_enter Tryz.func135, Tryz.ntmps135
  go_wp2_with (first
    | (at_make; refine wpList_make_at rfl _ _ 42 rfl elemNat w.heap.size _ _ _ ((l.length + 1) / 2) rfl rfl (by first | rfl | omega | (simp; done)) (by omega) (by simp [maxLen]; omega) (Nat.le_refl _) ?_; intro vo w1 ho hb1 hs1 hvo; clear hvo))
  go_loopw [3, 4] (fun o i wr => ∃ (j k : Nat) (L : List Nat), Hid (k = 2 * j) ∧ k ≤ l.length + 1 ∧ i = .int .i64 (k : Nat) ∧ Own wr w.heap.size 94 .u64 o L ∧ Hid (L.length = j) ∧ j ≤ k ∧ Small W L ∧
      Hid (val W L = val H (l.take k)) ∧ Below w.heap.size w wr) (fun _ i _ => l.length + 2 - (intOf i).toNat)
  case atStart => exact ⟨0, 0, [], rfl, by omega, rfl, ho, rfl, by omega, small_nil _, rfl, hb1⟩
  case round =>
    obtain ⟨j, k, L, hkj, hk, rfl, hown, hLj, hjk, hsl, hv, hbel⟩ := hrel
    by_cases hkl : k < l.length
    · obtain ⟨b, off, rfl, hbb, hcell⟩ := a4 (by omega)
      have e0 : wr.cell? ⟨b, off + k, none⟩ = some (.int .u32 (l[k] : Nat)) := (hbel.cell (p := ⟨b, off + k, none⟩) hbb).trans (hcell k hkl)
      have x0 := small_get hs k hkl
      obtain ⟨x, hx⟩ : ∃ x, x = l[k] := ⟨_, rfl⟩
      rw [← hx] at e0 x0
      have Hx : Hid (x = l[2 * j]?.getD 0) := by unfold Hid; rw [← hkj.out]; simp [hkl, hx]
      clear hx
      unfold H at x0
      by_cases hk1 : k + 1 < l.length
      · have e1 : wr.cell? ⟨b, off + (k + 1), none⟩ = some (.int .u32 (l[k + 1] : Nat)) := (hbel.cell (p := ⟨b, off + (k + 1), none⟩) hbb).trans (hcell (k + 1) hk1)
        have y0 := small_get hs (k + 1) hk1
        obtain ⟨y, hy⟩ : ∃ y, y = l[k + 1] := ⟨_, rfl⟩
        rw [← hy] at e1 y0
        have Hy : Hid (y = l[2 * j + 1]?.getD 0) := by unfold Hid; rw [← hkj.out]; simp [hk1, hy]
        clear hy hcell a4
        unfold H at y0
        have hor := half_or y x y0 x0
        go_wp2_with (at_builtin; refine wpList_append_at rfl _ _ 42 rfl elemNat w.heap.size _ L rfl (hown.alloc _) _ [y * 4294967296 + x] rfl (At.oneI _ _ _ _ _ (by first | exact hor | (rw [hor]; done) | omega)) (by rw [hLj.out]; simp [maxLen]; omega) (by rw [hLj.out]; simp; omega) (by have := hbel.size; simp; omega) ?_; intro v2 w2 ho2 hb2 hs2)
        go_roundw
        case rel => exact ⟨j + 1, k + 2, L ++ [y * 4294967296 + x], by have := hkj.out; unfold Hid; omega, by omega, by go_num, ho2, by have := hLj.out; unfold Hid; simp; omega, by omega, small_snoc hsl (by unfold W; omega),
          by have := join_step hLj.out Hx.out Hy.out (by rw [← hkj.out]; exact hv.out); rw [← hkj.out] at this; exact this, (hbel.trans ((below1 _ _).mono hbel.size)).trans hb2⟩
        case measure => (simp [intOf] <;> omega)
      · have Hy : Hid (0 = l[2 * j + 1]?.getD 0) := by unfold Hid; rw [← hkj.out, List.getElem?_eq_none (by omega)]; rfl
        clear hcell a4
        go_wp2_with (at_builtin; refine wpList_append_at rfl _ _ 42 rfl elemNat w.heap.size _ L rfl (hown.alloc _) _ [0 * 4294967296 + x] rfl (At.oneI _ _ _ _ _ (by omega)) (by rw [hLj.out]; simp [maxLen]; omega) (by rw [hLj.out]; simp; omega) (by have := hbel.size; simp; omega) ?_; intro v2 w2 ho2 hb2 hs2)
        go_roundw
        case rel => exact ⟨j + 1, k + 2, L ++ [0 * 4294967296 + x], by have := hkj.out; unfold Hid; omega, by omega, by go_num, ho2, by have := hLj.out; unfold Hid; simp; omega, by omega, small_snoc hsl (by unfold W; omega),
          by have := join_step hLj.out Hx.out Hy.out (by rw [← hkj.out]; exact hv.out); rw [← hkj.out] at this; exact this, (hbel.trans ((below1 _ _).mono hbel.size)).trans hb2⟩
        case measure => (simp [intOf] <;> omega)
    · have hv' : Hid (L = dig W n) := by
        have e := hv.out
        rw [val_take_ge _ _ _ (by omega), Hvn.out] at e
        unfold Hid
        refine canon_val W2 hsl e ?_
        by_cases hj0 : j = 0
        · left; exact List.eq_nil_of_length_eq_zero (by rw [hLj.out, hj0])
        · right
          have hpos : 0 < n := by
            rcases Nat.eq_zero_or_pos n with h0 | h0
            · exfalso
              have := hkj.out
              have := Hz.out h0
              omega
            · exact h0
          have hp := Hp.out hpos
          rw [hLj.out]
          refine Nat.le_trans ?_ hp
          rw [show W ^ (j - 1) = H ^ (2 * (j - 1)) by rw [Nat.pow_mul]; rfl]
          exact Nat.pow_le_pow_right (by decide) (by have := hkj.out; omega)
      clear a4 hkj hv Hp Hvn
      go_wp2
      go_ret
      exact ⟨_, rfl, by rw [← hv'.out]; exact hown, hbel⟩
end Go.Proofs.YtckkpolikdnilaaGreatDoor
/- whole.timesPlus: halves so many times as great, and more, in place. -/
namespace Go.Proofs.YtckkpolikdnilaaGreatDoor
open Go.RowKit Big

end Go.Proofs.YtckkpolikdnilaaGreatDoor
/- whole.timesHalves: products of halves of words. -/
namespace Go.Proofs.YtckkpolikdnilaaGreatDoor
open Go.RowKit Big

theorem val_set (B : Nat) : ∀ (l : List Nat) (k x : Nat) (h : k < l.length), val B (l.set k x) + B ^ k * l[k] = val B l + B ^ k * x
  | [], k, x, h => absurd h (by simp)
  | y :: l, 0, x, _ => by simp [val]; omega
  | y :: l, k + 1, x, h => by
    have ih := val_set B l k x (by simpa using h)
    simp only [List.set_cons_succ, val, List.getElem_cons_succ, Nat.pow_succ]
    have : B * (val B (l.set k x) + B ^ k * l[k]'(by simpa using h)) = B * (val B l + B ^ k * x) := by rw [ih]
    grind
theorem small_set {B : Nat} {l : List Nat} (h : Small B l) (k : Nat) {x : Nat} (hx : x < B) : Small B (l.set k x) := by
  intro y hy
  rcases List.mem_or_eq_of_mem_set hy with h1 | h1
  · exact h y h1
  · rw [h1]; exact hx
/-- one step of a row: the product's digit, what lies there, and the carry -/
theorem times_step {O : List Nat} {k x y c P Va Vb HI HJ : Nat} (hk : k < O.length) (hP : P = x * y + O[k] + c) (hHk : H ^ k = HI * HJ)
    (hv : val H O + c * H ^ k = Va + HI * (x * Vb)) : val H (O.set k (P % 4294967296)) + P / 4294967296 * H ^ (k + 1) = Va + HI * (x * (Vb + HJ * y)) := by
  have h1 := val_set H O k (P % 4294967296) hk
  have e2 : P % 4294967296 + H * (P / 4294967296) = x * y + O[k] + c := by rw [← hP]; unfold H; omega
  rw [Nat.pow_succ]
  generalize val H (O.set k (P % 4294967296)) = V' at *
  generalize O[k] = o at *
  generalize P % 4294967296 = r at *
  generalize P / 4294967296 = q at *
  have e3 : H ^ k * (r + H * q) = H ^ k * (x * y + o + c) := by rw [e2]
  have e4 : V' + H ^ k * o + q * (H ^ k * H) = Va + HI * (x * Vb) + H ^ k * (x * y) + H ^ k * o := by grind
  rw [hHk] at e4 ⊢
  grind
theorem mulsum_lt {x y o c : Nat} (hx : x < 4294967296) (hy : y < 4294967296) (ho : o < 4294967296) (hc : c < 4294967296) :
    x * y ≤ 18446744065119617025 ∧ x * y + o + c < 18446744073709551616 ∧ (x * y + o + c) / 4294967296 < 4294967296 := by
  have h : x * y ≤ 4294967295 * 4294967295 := Nat.mul_le_mul (by omega) (by omega)
  omega
end Go.Proofs.YtckkpolikdnilaaGreatDoor
