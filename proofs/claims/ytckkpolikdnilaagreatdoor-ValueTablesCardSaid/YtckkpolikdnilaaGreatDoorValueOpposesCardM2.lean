/- Texts put together: PlSmall, PlCopies, PlPool, RefTrim, Digits, From, RefWhole, RefPlus, RefLess, RefCompare, RefNum, RefAdd, RefSub, RefOf, Inv, Facts, Lens, Step, PlText, PlPure, Write, PlMake, PlDecl. -/
import Derived.Test.YtckkpolikdnilaaGreatDoorValueOpposesCardM1
import Derived.BigQuiet
import Derived.Deep.QuietTactic
import Derived.WalkKit
import Derived.Deep.RegionHeld3
import Derived.Maps.AppendAt
import Derived.Deep.DeepCutAuto
/- elenchusref04.IsSym; pool.ownSym. -/
namespace Go.Proofs.YtckkpolikdnilaaGreatDoor
open Go.RowKit Big Go.WideMaps

set_option maxRecDepth 100000 in
set_option maxHeartbeats 3200000 in
theorem ownSym_any (s : Sy) (w : World) (hs : s.name.length ≤ maxLen) (hcl : ∀ (w' : World), Calls Tryz.prog 112 #[.string ⟨s.name.toArray⟩] w' fun e w'' => e = .returned (.string ⟨s.name.toArray⟩) ∧ Below w'.heap.size w' w'') :
    Calls Tryz.prog 97 #[s.val] w fun e w' => e = .returned s.val ∧ Below w.heap.size w w' := by
  obtain ⟨nm, ar, so⟩ := s
  unfold Sy.val
  dsimp only at *
  have Hcl := hid hcl
  have b1 := below1 w (.cells #[.string ⟨nm.toArray⟩, .int .i64 ar, .int .i64 so] 39)
  have b2 := below1 (w.alloc (.cells #[.string ⟨nm.toArray⟩, .int .i64 ar, .int .i64 so] 39)) (.cells #[.string ⟨#[]⟩, .int .i64 0, .int .i64 0] 39)
  have hbx := (b2.block w.heap.size (by simp)).trans (heap_alloc_new w (.cells #[.string ⟨nm.toArray⟩, .int .i64 ar, .int .i64 so] 39))
  have hrs := heap_alloc_new (w.alloc (.cells #[.string ⟨nm.toArray⟩, .int .i64 ar, .int .i64 so] 39)) (.cells #[.string ⟨#[]⟩, .int .i64 0, .int .i64 0] 39)
  have hs1 := size_alloc w (.cells #[.string ⟨nm.toArray⟩, .int .i64 ar, .int .i64 so] 39)
  have hs2 := size_alloc (w.alloc (.cells #[.string ⟨nm.toArray⟩, .int .i64 ar, .int .i64 so] 39)) (.cells #[.string ⟨#[]⟩, .int .i64 0, .int .i64 0] 39)
  rw [hs1] at hrs hs2
  have bw := bel_go b2 b1
  clear hcl
  go_enter Tryz.func97, Tryz.ntmps97
  go_wp2_with fail
  refine (Hcl.out _).mono ?_
  rintro e w3 ⟨rfl, b3⟩
  have hbx3 := (b3.block w.heap.size (by omega)).trans hbx
  have hrs3 := (b3.block (w.heap.size + 1) (by omega)).trans hrs
  have bw3 := bw.trans (b3.mono (B' := w.heap.size) (by omega))
  have hr4 := heap_setCell_same _ (w.heap.size + 1) 2 _ _ (.int .i64 so) (heap_setCell_same _ (w.heap.size + 1) 1 _ _ (.int .i64 ar) (heap_setCell_same _ (w.heap.size + 1) 0 _ _ (.string ⟨nm.toArray⟩) ((Below.heap_setCell w3 ⟨w.heap.size, 0, none⟩ (.string ⟨nm.toArray⟩) (w.heap.size + 1) (by simp)).trans hrs3)))
  simp at hr4
  have B6 := (((bw3.setCell (p := ⟨w.heap.size, 0, none⟩) (Nat.le_refl _) (.string ⟨nm.toArray⟩)).setCell (p := ⟨w.heap.size + 1, 0, none⟩) (Nat.le_succ _) (.string ⟨nm.toArray⟩)).setCell (p := ⟨w.heap.size + 1, 1, none⟩) (Nat.le_succ _) (.int .i64 ar)).setCell (p := ⟨w.heap.size + 1, 2, none⟩) (Nat.le_succ _) (.int .i64 so)
  have Hr := hid hr4; have HB := hid B6
  have y0 := cell_of_row w3 w.heap.size 0 _ _ _ hbx3
  have y1 := cell_of_row w3 w.heap.size 1 _ _ _ hbx3
  have y2 := cell_of_row w3 w.heap.size 2 _ _ _ hbx3
  have z0 := cell_of_row w3 (w.heap.size + 1) 0 _ _ _ hrs3
  have z1 := cell_of_row w3 (w.heap.size + 1) 1 _ _ _ hrs3
  have z2 := cell_of_row w3 (w.heap.size + 1) 2 _ _ _ hrs3
  simp at y0 y1 y2 z0 z1 z2
  have f0 := frozen_of_row w3 w.heap.size 0 _ _ hbx3
  have g0 := frozen_of_row w3 (w.heap.size + 1) 0 _ _ hrs3
  have g1 := frozen_of_row w3 (w.heap.size + 1) 1 _ _ hrs3
  have g2 := frozen_of_row w3 (w.heap.size + 1) 2 _ _ hrs3
  clear hr4 B6 hbx3 hrs3 bw3 b3 b1 b2 hbx hrs
  go_wp2
  have r0 := cell_of_row _ (w.heap.size + 1) 0 _ _ _ Hr.out
  have r1 := cell_of_row _ (w.heap.size + 1) 1 _ _ _ Hr.out
  have r2 := cell_of_row _ (w.heap.size + 1) 2 _ _ _ Hr.out
  simp at r0 r1 r2
  exact bodyPost_ret (v := .agg #[.string ⟨nm.toArray⟩, .int .i64 ar, .int .i64 so]) (by simp [results, Tryz.results97, go_sem, r0, r1, r2]) rfl ⟨rfl, HB.out⟩
set_option maxRecDepth 100000 in
set_option maxHeartbeats 1600000 in
theorem Clone_any (l : List UInt8) (hl : l.length ≤ 281474976710656) (w : World) : Calls Tryz.prog 112 #[.string ⟨l.toArray⟩] w fun e w' => e = .returned (.string ⟨l.toArray⟩) ∧ Below w.heap.size w w' := by
  have hc := fun w => Tryz.stringslite_Clone ⟨l.toArray⟩ w (by simpa [ByteArray.size] using hl)
  have Hc := hid hc
  clear hc
  go_enter Tryz.func112, Tryz.ntmps112
  go_wp2_with fail
  refine (Hc.out _).mono ?_
  rintro e w1 ⟨rfl, b1⟩
  go_wp2
  go_ret
  exact ⟨rfl, b1⟩
end Go.Proofs.YtckkpolikdnilaaGreatDoor
/- pool.copied of symbols. -/
namespace Go.Proofs.YtckkpolikdnilaaGreatDoor
open Go.RowKit Big Go.WideMaps

theorem infoSym : (Tryz.prog.info? 39).map (fun i => (i.zero, i.size, i.bytes)) = some (some (.agg #[.string ⟨#[]⟩, .int .i64 0, .int .i64 0]), 3, 32) := by kernel_rfl
def syCells (l : List Sy) : List Value := l.flatMap Sy.cells
end Go.Proofs.YtckkpolikdnilaaGreatDoor
/- A pool in memory, whole: its rows, its maps, the blocks that are its own. -/
namespace Go.Proofs.YtckkpolikdnilaaGreatDoor
open Go.RowKit Big Go.WideMaps

/-- a term in a pool's row -/
def TmIn (w : World) (S : Nat → Prop) (vo : Value) (t : Tm) (c : List Value) : Prop :=
  ∃ va vn, c = [.int .i64 t.op, va, .bool (decide (t.num < 0)), vn, .int .i64 t.sym] ∧ w.ownsRow 0 3 1 va t.args.length (zints t.args) ∧ Own w 0 94 .u64 vn (dig W t.num.natAbs) ∧
    InS S va ∧ InS S vn ∧ (∀ k, va.ownBlock = some k → vo.ownBlock ≠ some k)
def TmRows (w : World) (S : Nat → Prop) (vo : Value) : List Tm → List Value → Prop
  | [], cs => cs = []
  | t :: l, cs => ∃ c r, cs = c ++ r ∧ TmIn w S vo t c ∧ TmRows w S vo l r
theorem TmIn.len {w : World} {S : Nat → Prop} {vo : Value} {t : Tm} {c : List Value} (h : TmIn w S vo t c) : c.length = 5 := by
  obtain ⟨va, vn, rfl, _⟩ := h; rfl
theorem TmRows.snoc {w : World} {S : Nat → Prop} {vo : Value} {t : Tm} {c : List Value} : ∀ {l : List Tm} {cs : List Value}, TmRows w S vo l cs → TmIn w S vo t c → TmRows w S vo (l ++ [t]) (cs ++ c)
  | [], _, h, ht => by
    subst h
    exact ⟨c, [], by simp, ht, rfl⟩
  | x :: l, _, ⟨c', r, rfl, hx, hr⟩, ht => ⟨c', r ++ c, by simp, hx, hr.snoc ht⟩
theorem TmRows.at {w : World} {S : Nat → Prop} {vo : Value} : ∀ {l : List Tm} {cs : List Value}, TmRows w S vo l cs → ∀ i (h : i < l.length), ∃ c, TmIn w S vo l[i] c ∧ ∀ j, j < 5 → cs[i * 5 + j]? = c[j]?
  | x :: l, _, ⟨c', r, rfl, hx, hr⟩, 0, _ => ⟨c', hx, fun j hj => by
      rw [Nat.zero_mul, Nat.zero_add, List.getElem?_append_left (by rw [hx.len]; exact hj)]⟩
  | x :: l, _, ⟨c', r, rfl, hx, hr⟩, i + 1, h => by
    obtain ⟨c, hc, hj⟩ := TmRows.at hr i (by simpa using h)
    refine ⟨c, hc, fun j hj' => ?_⟩
    rw [← hj j hj', List.getElem?_append_right (by rw [hx.len]; omega), hx.len]
    congr 1
    omega
theorem TmRows.len {w : World} {S : Nat → Prop} {vo : Value} : ∀ {l : List Tm} {cs : List Value}, TmRows w S vo l cs → cs.length = l.length * 5
  | [], _, h => by subst h; rfl
  | x :: l, _, ⟨c', r, rfl, hx, hr⟩ => by rw [List.length_append, hx.len, hr.len]; simp; omega
/-- what a term's reading hangs on: the blocks of S but the sorts' -/
theorem TmIn.stays {w w' : World} {S S' : Nat → Prop} {vo vo' : Value} {t : Tm} {c : List Value} (h : TmIn w S vo t c) (hS : ∀ k, S k → S' k)
    (hb : ∀ k, S k → (∃ cc, w.heap[k]? = some (.cells cc 94 (0, 0))) ∨ ((∃ cc, w.heap[k]? = some (.cells cc 3 (0, 0))) ∧ vo.ownBlock ≠ some k) → w'.heap[k]? = w.heap[k]?)
    (hv : vo'.ownBlock = vo.ownBlock ∨ ∀ k, vo'.ownBlock = some k → w.heap.size ≤ k) : TmIn w' S' vo' t c := by
  obtain ⟨va, vn, rfl, h1, h2, h3, h4, h5⟩ := h
  refine ⟨va, vn, rfl, row_stays h1 fun k hk => hb k (h3 k hk) (.inr ⟨row_tag h1 k hk, h5 k hk⟩), row_stays h2 fun k hk => hb k (h4 k hk) (.inl (row_tag h2 k hk)), h3.mono hS, h4.mono hS, fun k hk => ?_⟩
  rcases hv with e | hv
  · rw [e]; exact h5 k hk
  · intro e
    have := hv k e
    have := (World.ownsRow.lt h1 k hk).2
    omega
theorem TmRows.stays {w w' : World} {S S' : Nat → Prop} {vo vo' : Value} (hS : ∀ k, S k → S' k)
    (hb : ∀ k, S k → (∃ cc, w.heap[k]? = some (.cells cc 94 (0, 0))) ∨ ((∃ cc, w.heap[k]? = some (.cells cc 3 (0, 0))) ∧ vo.ownBlock ≠ some k) → w'.heap[k]? = w.heap[k]?)
    (hv : vo'.ownBlock = vo.ownBlock ∨ ∀ k, vo'.ownBlock = some k → w.heap.size ≤ k) : ∀ {l : List Tm} {cs : List Value}, TmRows w S vo l cs → TmRows w' S' vo' l cs
  | [], _, h => h
  | _ :: _, _, ⟨c', r, e, hx, hr⟩ => ⟨c', r, e, hx.stays hS hb hv, hr.stays hS hb hv⟩

/-- a pool's rows, in plain words -/
structure PoOk (p : Po) : Prop where
  syms : p.syms.length ≤ 256
  terms : p.terms.length ≤ 4096
  sorts : p.sorts.length = p.terms.length
  names : (p.syms.map Sy.name).Nodup
  namesz : ∀ s ∈ p.syms, s.name.length ≤ 281474976710656
  nodup : p.terms.Nodup
  small : ∀ t ∈ p.terms, t.args.length ≤ 1099511627776 ∧ sz W t.num.natAbs ≤ 1099511627776
/-- the map of a list of texts, in a block of S -/
def MpIn (w : World) (S : Nat → Prop) (m : Option Nat) (l : List (List UInt8)) : Prop := MpAt 0 w m l ∧ ∀ b, m = some b → S b
theorem MpIn.stays {w w' : World} {S S' : Nat → Prop} {m : Option Nat} {l : List (List UInt8)} (h : MpIn w S m l) (hS : ∀ k, S k → S' k) (hb : ∀ b, m = some b → w'.heap[b]? = w.heap[b]?) : MpIn w' S' m l := by
  refine ⟨?_, fun b e => hS b (h.2 b e)⟩
  rcases h.1 with h1 | ⟨b, h1, h2, es, clock, hk, r⟩
  · exact .inl h1
  · exact .inr ⟨b, h1, h2, es, clock, (hb b h1).trans hk, r⟩
theorem MpIn.tag {w : World} {S : Nat → Prop} {m : Option Nat} {l : List (List UInt8)} (h : MpIn w S m l) : ∀ b, m = some b → ∃ es clock, w.heap[b]? = some (.map es clock) := by
  intro b e
  rcases h.1 with ⟨h1, _⟩ | ⟨b', h1, h2, es, clock, hk, r⟩
  · rw [h1] at e; cases e
  · rw [h1] at e; cases e; exact ⟨es, clock, hk⟩
def plTexts (p : Po) : List (List UInt8) := p.terms.map plText
def plNames (p : Po) : List (List UInt8) := p.syms.map Sy.name
/-- the pool in block g, all of it in blocks of S; nx, tx: what stands in its maps -/
structure PoParts (w : World) (S : Nat → Prop) (g : Nat) (p : Po) (nx tx : List (List UInt8)) (vs vt vo : Value) (mn mk : Option Nat) (cs : List Value) : Prop where
  own : S g
  cell : w.heap[g]? = some (.cells #[vs, vt, vo, .map mn, .map mk] 119 (0, 0))
  syms : w.ownsRow 0 39 3 vs p.syms.length (syCells p.syms)
  symsIn : InS S vs
  terms : w.ownsRow 0 71 5 vt p.terms.length cs
  termsIn : InS S vt
  sorts : w.ownsRow 0 3 1 vo p.sorts.length (zints p.sorts)
  sortsIn : InS S vo
  rows : TmRows w S vo p.terms cs
  names : MpIn w S mn nx
  texts : MpIn w S mk tx
  apart : ∀ b, mn = some b → mk ≠ some b
def PoAt (w : World) (S : Nat → Prop) (g : Nat) (p : Po) : Prop := (∃ vs vt vo mn mk cs, PoParts w S g p (plNames p) (plTexts p) vs vt vo mn mk cs) ∧ PoOk p ∧ ∀ k, S k → k < w.heap.size
theorem tag_ne {w : World} {k g : Nat} {c c' : Array Value} {t t' : TypeId} (h : w.heap[k]? = some (.cells c t (0, 0))) (h' : w.heap[g]? = some (.cells c' t' (0, 0))) (hne : t ≠ t') : k ≠ g := by
  rintro rfl
  rw [h] at h'
  injection h' with h'
  injection h' with _ h2
  exact hne h2
theorem map_ne {w : World} {k g : Nat} {c : Array Value} {t : TypeId} {es : _} {cl : Nat} (h : w.heap[k]? = some (.map es cl)) (h' : w.heap[g]? = some (.cells c t (0, 0))) : k ≠ g := by
  rintro rfl
  rw [h] at h'
  injection h' with h'
  cases h'
theorem row_ne {w : World} {b : Nat} {e : TypeId} {s : Nat} {v : Value} {n g : Nat} {xs : List Value} {c : Array Value} {t : TypeId} (h : w.ownsRow b e s v n xs) (h' : w.heap[g]? = some (.cells c t (0, 0))) (hne : e ≠ t) : ∀ k, v.ownBlock = some k → k ≠ g := fun k hk => by
  obtain ⟨c', hc⟩ := row_tag h k hk
  exact tag_ne hc h' hne
variable {w w0 w' : World} {S S' : Nat → Prop} {g : Nat} {p : Po} {nx tx : List (List UInt8)} {vs vt vo : Value} {mn mk : Option Nat} {cs : List Value}
theorem PoParts.lt (H : PoParts w S g p nx tx vs vt vo mn mk cs) : g < w.heap.size := (Array.getElem?_eq_some_iff.1 H.cell).1
/-- the pool stays where its blocks do -/
theorem PoParts.stays (H : PoParts w S g p nx tx vs vt vo mn mk cs) (hS : ∀ k, S k → S' k) (hb : ∀ k, S k → k < w.heap.size → w'.heap[k]? = w.heap[k]?) : PoParts w' S' g p nx tx vs vt vo mn mk cs := by
  have hb' : ∀ k o, S k → w.heap[k]? = some o → w'.heap[k]? = w.heap[k]? := fun k o hs ho => hb k hs (Array.getElem?_eq_some_iff.1 ho).1
  refine ⟨hS g H.own, (hb' g _ H.own H.cell).trans H.cell, row_stays H.syms fun k hk => hb k (H.symsIn k hk) (World.ownsRow.lt H.syms k hk).2, H.symsIn.mono hS, row_stays H.terms fun k hk => hb k (H.termsIn k hk) (World.ownsRow.lt H.terms k hk).2, H.termsIn.mono hS,
    row_stays H.sorts fun k hk => hb k (H.sortsIn k hk) (World.ownsRow.lt H.sorts k hk).2, H.sortsIn.mono hS, H.rows.stays hS (fun k hs hc => ?_) (.inl rfl),
    H.names.stays hS fun b e => ?_, H.texts.stays hS fun b e => ?_, H.apart⟩
  · rcases hc with ⟨cc, hc⟩ | ⟨⟨cc, hc⟩, _⟩ <;> exact hb' k _ hs hc
  · obtain ⟨es, c, ht⟩ := H.names.tag b e
    exact hb' b _ (H.names.2 b e) ht
  · obtain ⟨es, c, ht⟩ := H.texts.tag b e
    exact hb' b _ (H.texts.2 b e) ht
/-- only blocks that there are count -/
theorem PoParts.bound (H : PoParts w S g p nx tx vs vt vo mn mk cs) : PoParts w (fun k => S k ∧ k < w.heap.size) g p nx tx vs vt vo mn mk cs := by
  have hin : ∀ {b e s v n} {xs : List Value}, w.ownsRow b e s v n xs → InS S v → InS (fun k => S k ∧ k < w.heap.size) v := fun h hi k hk => ⟨hi k hk, (World.ownsRow.lt h k hk).2⟩
  have hrow : ∀ {l : List Tm} {cs : List Value}, TmRows w S vo l cs → TmRows w (fun k => S k ∧ k < w.heap.size) vo l cs := by
    intro l
    induction l with
    | nil => exact fun h => h
    | cons t l ih =>
      rintro cs ⟨c, r, e, ⟨va, vn, e2, h1, h2, h3, h4, h5⟩, hr⟩
      exact ⟨c, r, e, ⟨va, vn, e2, h1, h2, hin h1 h3, hin h2 h4, h5⟩, ih hr⟩
  have hm : ∀ {m l}, MpIn w S m l → MpIn w (fun k => S k ∧ k < w.heap.size) m l := fun h => ⟨h.1, fun b e => ⟨h.2 b e, by obtain ⟨es, c, ht⟩ := h.tag b e; exact (Array.getElem?_eq_some_iff.1 ht).1⟩⟩
  exact ⟨⟨H.own, H.lt⟩, H.cell, H.syms, hin H.syms H.symsIn, H.terms, hin H.terms H.termsIn, H.sorts, hin H.sorts H.sortsIn, hrow H.rows, hm H.names, hm H.texts, H.apart⟩
theorem PoAt.stays (h : PoAt w S g p) (hb : ∀ k, S k → w'.heap[k]? = w.heap[k]?) (hz : w.heap.size ≤ w'.heap.size) : PoAt w' S g p := by
  obtain ⟨⟨vs, vt, vo, mn, mk, cs, H⟩, hok, hS⟩ := h
  exact ⟨⟨vs, vt, vo, mn, mk, cs, H.stays (fun _ h => h) fun k hs _ => hb k hs⟩, hok, fun k hk => Nat.lt_of_lt_of_le (hS k hk) hz⟩
theorem PoAt.below (h : PoAt w S g p) (hb : Below w.heap.size w w') : PoAt w' S g p := h.stays (fun k hs => hb.block k (h.2.2 k hs)) hb.size
theorem PoAt.apart {T : Nat → Prop} (h : PoAt w S g p) (hb : Apart T w w') (hn : ∀ k, S k → ¬ T k) : PoAt w' S g p := h.stays (fun k hs => hb.block k (h.2.2 k hs) (hn k hs)) hb.size
/-- what a call may make its own -/
def Wide (S : Nat → Prop) (n : Nat) (k : Nat) : Prop := S k ∨ n ≤ k

/-! ### the five rows and maps, each with one more -/
theorem PoParts.sort (H : PoParts w0 S g p nx tx vs vt vo mn mk cs) (x : Int) {v' : Value} (hA : Apart (fun k => vo.ownBlock = some k) w0 w) (hrow : w.ownsRow 0 3 1 v' (p.sorts.length + 1) (zints p.sorts ++ [.int .i64 x]))
    (hv : v'.ownBlock = vo.ownBlock ∨ ∀ k, v'.ownBlock = some k → w0.heap.size ≤ k) (hW : ∀ k, w0.heap.size ≤ k → S k) : PoParts (w.setCell ⟨g, 2, none⟩ v') S g ⟨p.syms, p.terms, p.sorts ++ [x]⟩ nx tx vs vt v' mn mk cs := by
  have hgo : ∀ k, vo.ownBlock = some k → k ≠ g := row_ne H.sorts H.cell (by decide)
  have hg : w.heap[g]? = w0.heap[g]? := hA.block g H.lt fun e => hgo g e rfl
  have E : ∀ k, k < w0.heap.size → k ≠ g → vo.ownBlock ≠ some k → (w.setCell ⟨g, 2, none⟩ v').heap[k]? = w0.heap[k]? := fun k hk hne ho => (Below.heap_setCell _ _ _ _ hne).trans (hA.block k hk ho)
  have tg := fun k (c : Array Value) t (h : w0.heap[k]? = some (Obj.cells c t (0, 0))) (hne : t ≠ 119) => tag_ne h H.cell hne
  refine ⟨H.own, ?_, row_stays H.syms fun k hk => E k (World.ownsRow.lt H.syms k hk).2 (row_ne H.syms H.cell (by decide) k hk) (row_apart_type H.syms H.sorts (by decide) k hk), H.symsIn,
    row_stays H.terms fun k hk => E k (World.ownsRow.lt H.terms k hk).2 (row_ne H.terms H.cell (by decide) k hk) (row_apart_type H.terms H.sorts (by decide) k hk), H.termsIn, ?_, ?_, ?_, ?_, ?_, H.apart⟩
  · have := heap_setCell_same w g 2 _ _ v' (hg.trans H.cell)
    simpa using this
  · have h1 : (p.sorts ++ [x]).length = p.sorts.length + 1 := by simp
    have h2 : zints (p.sorts ++ [x]) = zints p.sorts ++ [.int .i64 x] := by simp [zints]
    show (w.setCell ⟨g, 2, none⟩ v').ownsRow 0 3 1 v' (p.sorts ++ [x]).length (zints (p.sorts ++ [x]))
    rw [h1, h2]
    refine row_stays hrow fun k hk => Below.heap_setCell _ _ _ _ ?_
    rcases hv with e | h
    · exact hgo k (by rw [← e]; exact hk)
    · have := h k hk
      have := H.lt
      show k ≠ g
      omega
  · intro k hk
    rcases hv with e | h
    · exact H.sortsIn k (by rw [← e]; exact hk)
    · exact hW k (h k hk)
  · refine H.rows.stays (fun _ h => h) (fun k hs hc => ?_) hv
    rcases hc with ⟨cc, hc⟩ | ⟨⟨cc, hc⟩, ho⟩
    · refine E k (Array.getElem?_eq_some_iff.1 hc).1 (tg k _ _ hc (by decide)) fun ho => ?_
      obtain ⟨c', hc'⟩ := row_tag H.sorts k ho
      exact tag_ne hc hc' (by decide) rfl
    · exact E k (Array.getElem?_eq_some_iff.1 hc).1 (tg k _ _ hc (by decide)) ho
  · refine H.names.stays (fun _ h => h) fun b e => ?_
    obtain ⟨es, c, ht⟩ := H.names.tag b e
    refine E b (Array.getElem?_eq_some_iff.1 ht).1 (map_ne ht H.cell) fun ho => ?_
    obtain ⟨c', hc'⟩ := row_tag H.sorts b ho
    exact map_ne ht hc' rfl
  · refine H.texts.stays (fun _ h => h) fun b e => ?_
    obtain ⟨es, c, ht⟩ := H.texts.tag b e
    refine E b (Array.getElem?_eq_some_iff.1 ht).1 (map_ne ht H.cell) fun ho => ?_
    obtain ⟨c', hc'⟩ := row_tag H.sorts b ho
    exact map_ne ht hc' rfl
theorem PoParts.term (H : PoParts w0 S g p nx tx vs vt vo mn mk cs) (t : Tm) {c : List Value} (ht : TmIn w0 S vo t c) {v' : Value} (hA : Apart (fun k => vt.ownBlock = some k) w0 w) (hrow : w.ownsRow 0 71 5 v' (p.terms.length + 1) (cs ++ c))
    (hv : v'.ownBlock = vt.ownBlock ∨ ∀ k, v'.ownBlock = some k → w0.heap.size ≤ k) (hW : ∀ k, w0.heap.size ≤ k → S k) : PoParts (w.setCell ⟨g, 1, none⟩ v') S g ⟨p.syms, p.terms ++ [t], p.sorts⟩ nx tx vs v' vo mn mk (cs ++ c) := by
  have hgo : ∀ k, vt.ownBlock = some k → k ≠ g := row_ne H.terms H.cell (by decide)
  have hg : w.heap[g]? = w0.heap[g]? := hA.block g H.lt fun e => hgo g e rfl
  have E : ∀ k, k < w0.heap.size → k ≠ g → vt.ownBlock ≠ some k → (w.setCell ⟨g, 1, none⟩ v').heap[k]? = w0.heap[k]? := fun k hk hne ho => (Below.heap_setCell _ _ _ _ hne).trans (hA.block k hk ho)
  have tg := fun k (c : Array Value) t (h : w0.heap[k]? = some (Obj.cells c t (0, 0))) (hne : t ≠ 119) => tag_ne h H.cell hne
  have tv : ∀ k c t', w0.heap[k]? = some (.cells c t' (0, 0)) → t' ≠ 71 → vt.ownBlock ≠ some k := fun k c t' hc hne ho => by
    obtain ⟨c', hc'⟩ := row_tag H.terms k ho
    exact tag_ne hc hc' hne rfl
  have hrs : ∀ k, S k → (∃ cc, w0.heap[k]? = some (.cells cc 94 (0, 0))) ∨ ((∃ cc, w0.heap[k]? = some (.cells cc 3 (0, 0))) ∧ vo.ownBlock ≠ some k) → (w.setCell ⟨g, 1, none⟩ v').heap[k]? = w0.heap[k]? := fun k hs hc => by
    rcases hc with ⟨cc, hc⟩ | ⟨⟨cc, hc⟩, ho⟩
    · exact E k (Array.getElem?_eq_some_iff.1 hc).1 (tg k _ _ hc (by decide)) (tv k _ _ hc (by decide))
    · exact E k (Array.getElem?_eq_some_iff.1 hc).1 (tg k _ _ hc (by decide)) (tv k _ _ hc (by decide))
  refine ⟨H.own, ?_, row_stays H.syms fun k hk => E k (World.ownsRow.lt H.syms k hk).2 (row_ne H.syms H.cell (by decide) k hk) (row_apart_type H.syms H.terms (by decide) k hk), H.symsIn, ?_, ?_,
    row_stays H.sorts fun k hk => E k (World.ownsRow.lt H.sorts k hk).2 (row_ne H.sorts H.cell (by decide) k hk) (row_apart_type H.sorts H.terms (by decide) k hk), H.sortsIn, ?_, ?_, ?_, H.apart⟩
  · have := heap_setCell_same w g 1 _ _ v' (hg.trans H.cell)
    simpa using this
  · have h1 : (p.terms ++ [t]).length = p.terms.length + 1 := by simp
    show (w.setCell ⟨g, 1, none⟩ v').ownsRow 0 71 5 v' (p.terms ++ [t]).length (cs ++ c)
    rw [h1]
    refine row_stays hrow fun k hk => Below.heap_setCell _ _ _ _ ?_
    rcases hv with e | h
    · exact hgo k (by rw [← e]; exact hk)
    · have := h k hk
      have := H.lt
      show k ≠ g
      omega
  · intro k hk
    rcases hv with e | h
    · exact H.termsIn k (by rw [← e]; exact hk)
    · exact hW k (h k hk)
  · exact (H.rows.stays (fun _ h => h) hrs (.inl rfl)).snoc (ht.stays (fun _ h => h) hrs (.inl rfl))
  · refine H.names.stays (fun _ h => h) fun b e => ?_
    obtain ⟨es, c, ht⟩ := H.names.tag b e
    refine E b (Array.getElem?_eq_some_iff.1 ht).1 (map_ne ht H.cell) fun ho => ?_
    obtain ⟨c', hc'⟩ := row_tag H.terms b ho
    exact map_ne ht hc' rfl
  · refine H.texts.stays (fun _ h => h) fun b e => ?_
    obtain ⟨es, c, ht⟩ := H.texts.tag b e
    refine E b (Array.getElem?_eq_some_iff.1 ht).1 (map_ne ht H.cell) fun ho => ?_
    obtain ⟨c', hc'⟩ := row_tag H.terms b ho
    exact map_ne ht hc' rfl
theorem PoParts.sym (H : PoParts w0 S g p nx tx vs vt vo mn mk cs) (s : Sy) {v' : Value} (hA : Apart (fun k => vs.ownBlock = some k) w0 w) (hrow : w.ownsRow 0 39 3 v' (p.syms.length + 1) (syCells p.syms ++ s.cells))
    (hv : v'.ownBlock = vs.ownBlock ∨ ∀ k, v'.ownBlock = some k → w0.heap.size ≤ k) (hW : ∀ k, w0.heap.size ≤ k → S k) : PoParts (w.setCell ⟨g, 0, none⟩ v') S g ⟨p.syms ++ [s], p.terms, p.sorts⟩ nx tx v' vt vo mn mk cs := by
  have hgo : ∀ k, vs.ownBlock = some k → k ≠ g := row_ne H.syms H.cell (by decide)
  have hg : w.heap[g]? = w0.heap[g]? := hA.block g H.lt fun e => hgo g e rfl
  have E : ∀ k, k < w0.heap.size → k ≠ g → vs.ownBlock ≠ some k → (w.setCell ⟨g, 0, none⟩ v').heap[k]? = w0.heap[k]? := fun k hk hne ho => (Below.heap_setCell _ _ _ _ hne).trans (hA.block k hk ho)
  have tg := fun k (c : Array Value) t (h : w0.heap[k]? = some (Obj.cells c t (0, 0))) (hne : t ≠ 119) => tag_ne h H.cell hne
  have tv : ∀ k c t', w0.heap[k]? = some (.cells c t' (0, 0)) → t' ≠ 39 → vs.ownBlock ≠ some k := fun k c t' hc hne ho => by
    obtain ⟨c', hc'⟩ := row_tag H.syms k ho
    exact tag_ne hc hc' hne rfl
  refine ⟨H.own, ?_, ?_, ?_, row_stays H.terms fun k hk => E k (World.ownsRow.lt H.terms k hk).2 (row_ne H.terms H.cell (by decide) k hk) (row_apart_type H.terms H.syms (by decide) k hk), H.termsIn,
    row_stays H.sorts fun k hk => E k (World.ownsRow.lt H.sorts k hk).2 (row_ne H.sorts H.cell (by decide) k hk) (row_apart_type H.sorts H.syms (by decide) k hk), H.sortsIn, ?_, ?_, ?_, H.apart⟩
  · have := heap_setCell_same w g 0 _ _ v' (hg.trans H.cell)
    simpa using this
  · have h1 : (p.syms ++ [s]).length = p.syms.length + 1 := by simp
    have h2 : syCells (p.syms ++ [s]) = syCells p.syms ++ s.cells := by simp [syCells]
    show (w.setCell ⟨g, 0, none⟩ v').ownsRow 0 39 3 v' (p.syms ++ [s]).length (syCells (p.syms ++ [s]))
    rw [h1, h2]
    refine row_stays hrow fun k hk => Below.heap_setCell _ _ _ _ ?_
    rcases hv with e | h
    · exact hgo k (by rw [← e]; exact hk)
    · have := h k hk
      have := H.lt
      show k ≠ g
      omega
  · intro k hk
    rcases hv with e | h
    · exact H.symsIn k (by rw [← e]; exact hk)
    · exact hW k (h k hk)
  · refine H.rows.stays (fun _ h => h) (fun k hs hc => ?_) (.inl rfl)
    rcases hc with ⟨cc, hc⟩ | ⟨⟨cc, hc⟩, ho⟩
    · exact E k (Array.getElem?_eq_some_iff.1 hc).1 (tg k _ _ hc (by decide)) (tv k _ _ hc (by decide))
    · exact E k (Array.getElem?_eq_some_iff.1 hc).1 (tg k _ _ hc (by decide)) (tv k _ _ hc (by decide))
  · refine H.names.stays (fun _ h => h) fun b e => ?_
    obtain ⟨es, c, ht⟩ := H.names.tag b e
    refine E b (Array.getElem?_eq_some_iff.1 ht).1 (map_ne ht H.cell) fun ho => ?_
    obtain ⟨c', hc'⟩ := row_tag H.syms b ho
    exact map_ne ht hc' rfl
  · refine H.texts.stays (fun _ h => h) fun b e => ?_
    obtain ⟨es, c, ht⟩ := H.texts.tag b e
    refine E b (Array.getElem?_eq_some_iff.1 ht).1 (map_ne ht H.cell) fun ho => ?_
    obtain ⟨c', hc'⟩ := row_tag H.syms b ho
    exact map_ne ht hc' rfl
theorem PoParts.text (H : PoParts w0 S g p nx tx vs vt vo mn mk cs) {tx' : List (List UInt8)} {m' : Option Nat} (hA : Apart (fun k => mk = some k) w0 w) (hm : MpAt 0 w m' tx') (hv : m' = mk ∨ ∀ b, m' = some b → w0.heap.size ≤ b) (hW : ∀ k, w0.heap.size ≤ k → S k) :
    PoParts (w.setCell ⟨g, 4, none⟩ (.map m')) S g p nx tx' vs vt vo mn m' cs := by
  have tv : ∀ k c t', w0.heap[k]? = some (.cells c t' (0, 0)) → mk ≠ some k := fun k c t' hc ho => by
    obtain ⟨es, cl, ht⟩ := H.texts.tag k ho
    exact map_ne ht hc rfl
  have hg : w.heap[g]? = w0.heap[g]? := hA.block g H.lt (tv g _ _ H.cell)
  have E : ∀ k, k < w0.heap.size → k ≠ g → mk ≠ some k → (w.setCell ⟨g, 4, none⟩ (.map m')).heap[k]? = w0.heap[k]? := fun k hk hne ho => (Below.heap_setCell _ _ _ _ hne).trans (hA.block k hk ho)
  have tg := fun k (c : Array Value) t (h : w0.heap[k]? = some (Obj.cells c t (0, 0))) (hne : t ≠ 119) => tag_ne h H.cell hne
  have R : ∀ {b e s v n} {xs : List Value}, w0.ownsRow b e s v n xs → e ≠ 119 → (w.setCell ⟨g, 4, none⟩ (.map m')).ownsRow b e s v n xs := fun h hne => row_stays h fun k hk => by
    obtain ⟨c, hc⟩ := row_tag h k hk
    exact E k (World.ownsRow.lt h k hk).2 (tg k _ _ hc hne) (tv k _ _ hc)
  refine ⟨H.own, ?_, R H.syms (by decide), H.symsIn, R H.terms (by decide), H.termsIn, R H.sorts (by decide), H.sortsIn, ?_, ?_, ⟨?_, ?_⟩, ?_⟩
  · have := heap_setCell_same w g 4 _ _ (.map m') (hg.trans H.cell)
    simpa using this
  · refine H.rows.stays (fun _ h => h) (fun k hs hc => ?_) (.inl rfl)
    rcases hc with ⟨cc, hc⟩ | ⟨⟨cc, hc⟩, ho⟩
    · exact E k (Array.getElem?_eq_some_iff.1 hc).1 (tg k _ _ hc (by decide)) (tv k _ _ hc)
    · exact E k (Array.getElem?_eq_some_iff.1 hc).1 (tg k _ _ hc (by decide)) (tv k _ _ hc)
  · refine H.names.stays (fun _ h => h) fun b e => ?_
    obtain ⟨es, c, ht⟩ := H.names.tag b e
    exact E b (Array.getElem?_eq_some_iff.1 ht).1 (map_ne ht H.cell) (H.apart b e)
  · rcases hm with h1 | ⟨b, h1, h2, es, clock, hk, r⟩
    · exact .inl h1
    · refine .inr ⟨b, h1, h2, es, clock, ?_, r⟩
      rw [Below.heap_setCell _ _ _ _ (map_ne hk (hg.trans H.cell))]
      exact hk
  · intro b e
    rcases hv with h | h
    · exact H.texts.2 b (by rw [← h]; exact e)
    · exact hW b (h b e)
  · intro b e e'
    rcases hv with h | h
    · exact H.apart b e (by rw [← h]; exact e')
    · have := h b e'
      obtain ⟨es, c, ht⟩ := H.names.tag b e
      have := (Array.getElem?_eq_some_iff.1 ht).1
      omega
theorem PoParts.name (H : PoParts w0 S g p nx tx vs vt vo mn mk cs) {nx' : List (List UInt8)} {m' : Option Nat} (hA : Apart (fun k => mn = some k) w0 w) (hm : MpAt 0 w m' nx') (hv : m' = mn ∨ ∀ b, m' = some b → w0.heap.size ≤ b) (hW : ∀ k, w0.heap.size ≤ k → S k) :
    PoParts (w.setCell ⟨g, 3, none⟩ (.map m')) S g p nx' tx vs vt vo m' mk cs := by
  have tv : ∀ k c t', w0.heap[k]? = some (.cells c t' (0, 0)) → mn ≠ some k := fun k c t' hc ho => by
    obtain ⟨es, cl, ht⟩ := H.names.tag k ho
    exact map_ne ht hc rfl
  have hg : w.heap[g]? = w0.heap[g]? := hA.block g H.lt (tv g _ _ H.cell)
  have E : ∀ k, k < w0.heap.size → k ≠ g → mn ≠ some k → (w.setCell ⟨g, 3, none⟩ (.map m')).heap[k]? = w0.heap[k]? := fun k hk hne ho => (Below.heap_setCell _ _ _ _ hne).trans (hA.block k hk ho)
  have tg := fun k (c : Array Value) t (h : w0.heap[k]? = some (Obj.cells c t (0, 0))) (hne : t ≠ 119) => tag_ne h H.cell hne
  have R : ∀ {b e s v n} {xs : List Value}, w0.ownsRow b e s v n xs → e ≠ 119 → (w.setCell ⟨g, 3, none⟩ (.map m')).ownsRow b e s v n xs := fun h hne => row_stays h fun k hk => by
    obtain ⟨c, hc⟩ := row_tag h k hk
    exact E k (World.ownsRow.lt h k hk).2 (tg k _ _ hc hne) (tv k _ _ hc)
  refine ⟨H.own, ?_, R H.syms (by decide), H.symsIn, R H.terms (by decide), H.termsIn, R H.sorts (by decide), H.sortsIn, ?_, ⟨?_, ?_⟩, ?_, ?_⟩
  · have := heap_setCell_same w g 3 _ _ (.map m') (hg.trans H.cell)
    simpa using this
  · refine H.rows.stays (fun _ h => h) (fun k hs hc => ?_) (.inl rfl)
    rcases hc with ⟨cc, hc⟩ | ⟨⟨cc, hc⟩, ho⟩
    · exact E k (Array.getElem?_eq_some_iff.1 hc).1 (tg k _ _ hc (by decide)) (tv k _ _ hc)
    · exact E k (Array.getElem?_eq_some_iff.1 hc).1 (tg k _ _ hc (by decide)) (tv k _ _ hc)
  · rcases hm with h1 | ⟨b, h1, h2, es, clock, hk, r⟩
    · exact .inl h1
    · refine .inr ⟨b, h1, h2, es, clock, ?_, r⟩
      rw [Below.heap_setCell _ _ _ _ (map_ne hk (hg.trans H.cell))]
      exact hk
  · intro b e
    rcases hv with h | h
    · exact H.names.2 b (by rw [← h]; exact e)
    · exact hW b (h b e)
  · refine H.texts.stays (fun _ h => h) fun b e => ?_
    obtain ⟨es, c, ht⟩ := H.texts.tag b e
    exact E b (Array.getElem?_eq_some_iff.1 ht).1 (map_ne ht H.cell) (fun e' => H.apart b e' e)
  · intro b e e'
    rcases hv with h | h
    · exact H.apart b (by rw [← h]; exact e) e'
    · have := h b e
      obtain ⟨es, c, ht⟩ := H.texts.tag b e'
      have := (Array.getElem?_eq_some_iff.1 ht).1
      omega
/-- a row of structs reads as what is handed in -/
theorem row_handed {w : World} {e : TypeId} {size : Nat} {v : Value} {n : Nat} {xs : List Value} (h : w.ownsRow 0 e size v n xs) : ∃ p cap, v = .slice p n cap ∧ n ≤ cap ∧ cap ≤ maxLen ∧ (p = none → cap = 0) ∧
    (0 < n → ∃ b, p = some ⟨b, 0, none⟩ ∧ b < w.heap.size ∧ ∀ j u, xs[j]? = some u → w.cell? ⟨b, j, none⟩ = some u) := by
  rcases h.2 with ⟨rfl, rfl⟩ | ⟨g, cap, cur, rfl, _, hg, h1, h2, _⟩
  · exact ⟨none, 0, rfl, Nat.le_refl _, by simp [maxLen], fun _ => rfl, fun h => absurd h (by simp)⟩
  · refine ⟨_, cap, rfl, h1, h2, (fun e => by cases e), fun _ => ⟨g, rfl, (Array.getElem?_eq_some_iff.1 hg).1, fun j u hj => ?_⟩⟩
    have := World.ownsRow.cells h (g := g) rfl j u hj
    rwa [Go.WideShapes.add_plain, Nat.zero_add] at this
theorem syCells_at : ∀ (l : List Sy) (i : Nat) (h : i < l.length), (syCells l)[i * 3]? = some (.string ⟨l[i].name.toArray⟩) ∧ (syCells l)[i * 3 + 1]? = some (.int .i64 l[i].arity) ∧ (syCells l)[i * 3 + 2]? = some (.int .i64 l[i].sort)
  | s :: l, 0, _ => ⟨rfl, rfl, rfl⟩
  | s :: l, i + 1, h => by
    have := syCells_at l i (by simpa using h)
    have e : ∀ j, (syCells (s :: l))[(i + 1) * 3 + j]? = (syCells l)[i * 3 + j]? := fun j => by
      show (Sy.cells s ++ syCells l)[_]? = _
      rw [List.getElem?_append_right (by simp [Sy.cells]; omega)]
      congr 1
      simp [Sy.cells]
      omega
    exact ⟨(e 0).trans this.1, (e 1).trans this.2.1, (e 2).trans this.2.2⟩
theorem SyAt.own {w : World} {v : Value} {l : List Sy} (h : w.ownsRow 0 39 3 v l.length (syCells l)) : SyAt w v l := by
  obtain ⟨p, cap, rfl, h1, h2, h3, h4⟩ := row_handed h
  refine ⟨p, cap, rfl, h1, h2, h3, fun hl => ?_⟩
  obtain ⟨b, hp, hb, hc⟩ := h4 hl
  refine ⟨b, hp, hb, fun i hi => ?_⟩
  have := syCells_at l i hi
  exact ⟨hc _ _ this.1, hc _ _ this.2.1, hc _ _ this.2.2⟩
theorem PoParts.rd (H : PoParts w S g p nx tx vs vt vo mn mk cs) (h1 : p.terms.length ≤ 4096) (h2 : p.syms.length ≤ 256) (h3 : p.sorts.length = p.terms.length) : PoRd w g p := by
  have h3' := SyAt.own H.syms
  have h7' := IAt.own H.sorts
  have H2 := H.cell
  obtain ⟨ps, cps, rfl⟩ := ownsRow_shape H.syms
  obtain ⟨pt, cpt, rfl⟩ := ownsRow_shape H.terms
  obtain ⟨po, cpo, rfl⟩ := ownsRow_shape H.sorts
  exact ⟨ps, cps, pt, cpt, po, cpo, mn, mk, H2, h3', h7', h1, h2, h3⟩
theorem PoAt.rd (h : PoAt w S g p) : PoRd w g p := by
  obtain ⟨⟨vs, vt, vo, mn, mk, cs, H⟩, hok, -⟩ := h
  exact H.rd hok.terms hok.syms hok.sorts
/-- a term of the pool's row reads as what is handed in -/
theorem TmIn.raw {w : World} {S : Nat → Prop} {vo : Value} {t : Tm} {c : List Value} (h : TmIn w S vo t c) (hs : sz W t.num.natAbs ≤ 1099511627776) : TmRaw w (.agg c.toArray) t := by
  obtain ⟨va, vn, rfl, h1, h2, _⟩ := h
  have h1' := IAt.own h1
  have h2' := h2.at
  obtain ⟨pa, ca, rfl⟩ := ownsRow_shape h1
  obtain ⟨pn, cn, rfl, r⟩ := h2'
  refine ⟨pa, ca, _, pn, _, cn, rfl, h1', ?_⟩
  exact ⟨_, _, _, rfl, ⟨pn, cn, rfl, r⟩, small_dig W2 _, hs, by unfold sg; rw [val_dig W2]; split <;> rename_i hh <;> simp at hh <;> omega⟩
end Go.Proofs.YtckkpolikdnilaaGreatDoor
/- elenchusref01.trim: what is left is the digits without the noughts at the end. -/
namespace Go.Proofs.YtckkpolikdnilaaGreatDoor
open Go.RowKit Big

set_option maxHeartbeats 400000 in
theorem rtrim_val (v : Value) (l : List Nat) (w : World) (h : At w .i64 v l) :
    Calls Tryz.prog 89 #[v] w (fun e w' => e = .returned (cutTo v (strip l).length) ∧ w' = w) := by
  obtain ⟨p, cap, rfl, h1, h2, h3, h4⟩ := h
  unfold maxLen at h2
  go_enter Tryz.func89, Tryz.ntmps89
  go_wp2
  go_loop [0] (fun s => ∃ k : Nat, k ≤ l.length ∧ s = .slice p k cap ∧ strip (l.take k) = strip l) (fun s => lenOf s)
  case atStart => exact ⟨l.length, Nat.le_refl _, rfl, by rw [List.take_length]⟩
  case round =>
    obtain ⟨k, hk, rfl, hs⟩ := hrel
    have Hs := hid hs; clear hs
    by_cases hk0 : 0 < k
    · obtain ⟨b, off, rfl, hb, hc⟩ := h4 (by omega)
      have hck : w.cell? ⟨b, off + (k - 1), none⟩ = some (.int .i64 (l[k-1]'(by omega) : Nat)) := hc (k - 1) (by omega)
      clear hc h4
      go_wp2
      · go_round
        case rel =>
          have hz : ((l[k-1]'(by omega) : Nat) == 0) = true := by simpa using ‹((l[k-1]'(by omega) : Nat) == (0 : Int)) = true›
          refine ⟨k - 1, by omega, rfl, ?_⟩
          rw [← Hs.out, ← strip_take (k := k - 1) (by omega) (by simpa using hz), Nat.sub_add_cancel hk0]
        case measure => simp [lenOf]; omega
      · have hz : ¬ (l[k-1]'(by omega) : Nat) = 0 := by
          have := ‹((l[k-1]'(by omega) : Nat) == (0 : Int)) = false›
          simpa using this
        have hs := strip_take_ne (l := l) (k := k - 1) (by omega) hz
        rw [Nat.sub_add_cancel hk0, Hs.out] at hs
        go_ret
        exact ⟨by rw [hs, List.length_take, Nat.min_eq_left hk]; rfl, rfl⟩
    · obtain rfl : k = 0 := by omega
      have hs : Hid (strip l = []) := by rw [← Hs.out]; rfl
      go_wp2
      go_ret
      exact ⟨by rw [hs.out]; rfl, rfl⟩
theorem rtrim_any (v : Value) (l : List Nat) (w : World) (h : At w .i64 v l) : Calls Tryz.prog 89 #[v] w (RSame .i64 (strip l) w) :=
  (rtrim_val v l w h).mono fun _ _ ⟨he, hw⟩ => ⟨_, he, by subst hw; exact h.strip, hw.symm⟩
end Go.Proofs.YtckkpolikdnilaaGreatDoor
/- elenchusref01.at, Digits. -/
namespace Go.Proofs.YtckkpolikdnilaaGreatDoor
open Go.RowKit Big

set_option maxHeartbeats 400000 in
theorem at_any (v : Value) (l : List Nat) (i : Nat) (w : World) (h : At w .i64 v l) :
    Calls Tryz.prog 110 #[v, .int .i64 (i : Nat)] w fun e w' => e = .returned (.int .i64 (l[i]?.getD 0 : Nat)) ∧ w' = w := by
  obtain ⟨p, cap, rfl, h1, h2, h3, h4⟩ := h
  unfold maxLen at h2
  by_cases hi : i < l.length
  · obtain ⟨b, off, rfl, hb, hc⟩ := h4 (by omega)
    have hck := hc i hi
    have he : Hid (l[i]?.getD 0 = l[i]) := by unfold Hid; simp [hi]
    generalize l[i] = x at *
    clear hc h4
    go_enter Tryz.func110, Tryz.ntmps110
    go_wp2
    go_ret
    exact ⟨by rw [he.out]; rfl, rfl⟩
  · have he : Hid (l[i]?.getD 0 = 0) := by unfold Hid; simp [Nat.le_of_not_lt hi]
    clear h4
    go_enter Tryz.func110, Tryz.ntmps110
    go_wp2
    go_ret
    exact ⟨by rw [he.out]; rfl, rfl⟩

theorem digit_step0 {M : List Nat} {k x V : Nat} (h : M.length = 4 * k + 0) (hv : val D M = V + D ^ (4 * k) * (x % D ^ 0)) : val D (M ++ [x % 65536]) = V + D ^ (4 * k) * (x % D ^ 1) := by
  rw [val_snoc, hv, h, Nat.pow_add]
  have e : x % D ^ 1 = x % D ^ 0 + D ^ 0 * (x % 65536) := by unfold D; omega
  rw [e]; grind
theorem digit_step1 {M : List Nat} {k x V : Nat} (h : M.length = 4 * k + 1) (hv : val D M = V + D ^ (4 * k) * (x % D ^ 1)) : val D (M ++ [x / 65536 % 65536]) = V + D ^ (4 * k) * (x % D ^ 2) := by
  rw [val_snoc, hv, h, Nat.pow_add]
  have e : x % D ^ 2 = x % D ^ 1 + D ^ 1 * (x / 65536 % 65536) := by unfold D; omega
  rw [e]; grind
theorem digit_step2 {M : List Nat} {k x V : Nat} (h : M.length = 4 * k + 2) (hv : val D M = V + D ^ (4 * k) * (x % D ^ 2)) : val D (M ++ [x / 4294967296 % 65536]) = V + D ^ (4 * k) * (x % D ^ 3) := by
  rw [val_snoc, hv, h, Nat.pow_add]
  have e : x % D ^ 3 = x % D ^ 2 + D ^ 2 * (x / 4294967296 % 65536) := by unfold D; omega
  rw [e]; grind
theorem digit_step3 {M : List Nat} {k x V : Nat} (h : M.length = 4 * k + 3) (hv : val D M = V + D ^ (4 * k) * (x % D ^ 3)) : val D (M ++ [x / 281474976710656 % 65536]) = V + D ^ (4 * k) * (x % D ^ 4) := by
  rw [val_snoc, hv, h, Nat.pow_add]
  have e : x % D ^ 4 = x % D ^ 3 + D ^ 3 * (x / 281474976710656 % 65536) := by unfold D; omega
  rw [e]; grind

set_option maxRecDepth 100000 in
set_option maxHeartbeats 1600000 in
theorem Digits_any (v : Value) (l : List Nat) (w : World) (h : At w .u64 v l) (hs : Small W l) (hlen : l.length ≤ 2199023255552) :
    Calls Tryz.prog 61 #[v] w (RAt .i64 (dig D (val W l)) w) := by
  obtain ⟨p, cap, rfl, a1, a2, a3, a4⟩ := h
  unfold maxLen at a2
  go_enter Tryz.func61, Tryz.ntmps61
  go_wp2_with fail
  go_loopw [3, 9] (fun o i wr => ∃ (k : Nat) (L : List Nat), k ≤ l.length ∧ i = .int .i64 (k : Nat) ∧ Own wr w.heap.size 3 .i64 o L ∧ Hid (L.length = 4 * k) ∧ Small D L ∧
      Hid (val D L = val W (l.take k)) ∧ Below w.heap.size w wr) (fun _ i _ => l.length - (intOf i).toNat)
  case atStart => exact ⟨0, [], Nat.zero_le _, rfl, Own.nil _ _ _ _, rfl, small_nil _, rfl, Below.refl _ _⟩
  case round =>
    obtain ⟨k, L, hk, rfl, hown, hLk, hsl, hv, hbel⟩ := hrel
    by_cases hkl : k < l.length
    · obtain ⟨b, off, rfl, hbb, hcell⟩ := a4 (by omega)
      have e0 : wr.cell? ⟨b, off + k, none⟩ = some (.int .u64 (l[k] : Nat)) := (hbel.cell (p := ⟨b, off + k, none⟩) hbb).trans (hcell k hkl)
      have x0 := small_get hs k hkl
      obtain ⟨x, hx⟩ : ∃ x, x = l[k] := ⟨_, rfl⟩
      rw [← hx] at e0 x0
      have Hx := hid hx; clear hx hcell a4
      unfold W at x0
      go_wp2_with fail
      go_loopw [3, 6] (fun o i wq => ∃ (j : Nat) (M : List Nat), j ≤ 4 ∧ i = .int .i64 (j : Nat) ∧ Own wq w.heap.size 3 .i64 o M ∧ Hid (M.length = 4 * k + j) ∧ Small D M ∧
        Hid (val D M = val W (l.take k) + D ^ (4 * k) * (x % D ^ j)) ∧ Below w.heap.size w wq) (fun _ i _ => 4 - (intOf i).toNat)
      case atStart => exact ⟨0, L, Nat.zero_le _, rfl, hown, by unfold Hid at hLk ⊢; omega, hsl, by unfold Hid at hv ⊢; simp [hv, Nat.mod_one], hbel⟩
      case round =>
        obtain ⟨j, M, hj, rfl, hown', hMk, hsM, hvM, hbel'⟩ := hrel
        by_cases hj4 : j < 4
        · rcases (by omega : j = 0 ∨ j = 1 ∨ j = 2 ∨ j = 3) with rfl | rfl | rfl | rfl
          · go_wp2_with (at_builtin; refine wpList_append_at rfl _ _ 69 rfl elemInts w.heap.size _ M rfl (hown'.alloc _) _ [x % 65536] rfl (At.oneI _ _ _ _ _ (by omega)) (by rw [hMk.out]; simp [maxLen]; omega) (by rw [hMk.out]; simp; omega) (by have := hbel'.size; simp; omega) ?_; intro v2 w2 ho2 hb2 hs2)
            go_roundw
            case rel => exact ⟨1, M ++ [x % 65536], by omega, by go_num, ho2, by have := hMk.out; unfold Hid; simp; omega, small_snoc hsM (Nat.mod_lt _ (by decide)),
                digit_step0 hMk.out hvM.out, (hbel'.trans ((below1 _ _).mono hbel'.size)).trans hb2⟩
            case measure => simp [intOf]
          · go_wp2_with (at_builtin; refine wpList_append_at rfl _ _ 69 rfl elemInts w.heap.size _ M rfl (hown'.alloc _) _ [x / 65536 % 65536] rfl (At.oneI _ _ _ _ _ (by omega)) (by rw [hMk.out]; simp [maxLen]; omega) (by rw [hMk.out]; simp; omega) (by have := hbel'.size; simp; omega) ?_; intro v2 w2 ho2 hb2 hs2)
            go_roundw
            case rel => exact ⟨2, M ++ [x / 65536 % 65536], by omega, by go_num, ho2, by have := hMk.out; unfold Hid; simp; omega, small_snoc hsM (Nat.mod_lt _ (by decide)),
                digit_step1 hMk.out hvM.out, (hbel'.trans ((below1 _ _).mono hbel'.size)).trans hb2⟩
            case measure => simp [intOf]
          · go_wp2_with (at_builtin; refine wpList_append_at rfl _ _ 69 rfl elemInts w.heap.size _ M rfl (hown'.alloc _) _ [x / 4294967296 % 65536] rfl (At.oneI _ _ _ _ _ (by omega)) (by rw [hMk.out]; simp [maxLen]; omega) (by rw [hMk.out]; simp; omega) (by have := hbel'.size; simp; omega) ?_; intro v2 w2 ho2 hb2 hs2)
            go_roundw
            case rel => exact ⟨3, M ++ [x / 4294967296 % 65536], by omega, by go_num, ho2, by have := hMk.out; unfold Hid; simp; omega, small_snoc hsM (Nat.mod_lt _ (by decide)),
                digit_step2 hMk.out hvM.out, (hbel'.trans ((below1 _ _).mono hbel'.size)).trans hb2⟩
            case measure => simp [intOf]
          · go_wp2_with (at_builtin; refine wpList_append_at rfl _ _ 69 rfl elemInts w.heap.size _ M rfl (hown'.alloc _) _ [x / 281474976710656 % 65536] rfl (At.oneI _ _ _ _ _ (by omega)) (by rw [hMk.out]; simp [maxLen]; omega) (by rw [hMk.out]; simp; omega) (by have := hbel'.size; simp; omega) ?_; intro v2 w2 ho2 hb2 hs2)
            go_roundw
            case rel => exact ⟨4, M ++ [x / 281474976710656 % 65536], by omega, by go_num, ho2, by have := hMk.out; unfold Hid; simp; omega, small_snoc hsM (Nat.mod_lt _ (by decide)),
                digit_step3 hMk.out hvM.out, (hbel'.trans ((below1 _ _).mono hbel'.size)).trans hb2⟩
            case measure => simp [intOf]
        · obtain rfl : j = 4 := by omega
          have hv4 : Hid (val D M = val W (l.take (k + 1))) := by
            unfold Hid
            rw [hvM.out, val_take_succ W l k hkl, show D ^ (4 * k) = W ^ k by rw [Nat.pow_mul]; rfl, Nat.mod_eq_of_lt (show x < D ^ 4 from x0), Hx.out]
          go_wp2_with fail
          go_roundw
          case rel => exact ⟨k + 1, M, by omega, by go_num, hown', by have := hMk.out; unfold Hid; omega, hsM, hv4, hbel'⟩
          case measure => simp [intOf]; omega
    · obtain rfl : k = l.length := by omega
      have hv' : Hid (strip L = dig D (val W l)) := by
        have := hv.out
        rw [List.take_length] at this
        unfold Hid
        rw [← this, strip_dig D2 hsl]
      clear a4
      go_wp2_with (go_at_call 89; refine (rtrim_any _ L _ hown.at).mono ?_; rintro e w' ⟨v', rfl, hv'', rfl⟩)
      go_ret
      exact ⟨_, rfl, by rw [← hv'.out]; exact hv'', hbel⟩
end Go.Proofs.YtckkpolikdnilaaGreatDoor
/- elenchusref01.From: digits of sixteen bits as words. -/
namespace Go.Proofs.YtckkpolikdnilaaGreatDoor
open Go.RowKit Big

theorem take_next (l : List Nat) (i : Nat) : val D (l.take (i + 4)) = val D (l.take i) + D ^ i * (l[i]?.getD 0 + 65536 * (l[i + 1]?.getD 0 + 65536 * (l[i + 2]?.getD 0 + 65536 * l[i + 3]?.getD 0))) := by
  rw [show i + 4 = i + 3 + 1 by rfl, val_take_getD, show i + 3 = i + 2 + 1 by rfl, val_take_getD, show i + 2 = i + 1 + 1 by rfl, val_take_getD, val_take_getD]
  have h1 : D ^ (i + 1) = D ^ i * 65536 := Nat.pow_succ ..
  have h2 : D ^ (i + 1 + 1) = D ^ i * 65536 * 65536 := by rw [Nat.pow_succ, h1]; rfl
  have h3 : D ^ (i + 1 + 1 + 1) = D ^ i * 65536 * 65536 * 65536 := by rw [Nat.pow_succ, h2]; rfl
  rw [h1, h2, h3]
  grind
theorem from_step {L l : List Nat} {i j x0 x1 x2 x3 : Nat} (hi : i = 4 * j) (hL : L.length = j) (hv : val W L = val D (l.take i))
    (h0 : x0 = l[i]?.getD 0) (h1 : x1 = l[i + 1]?.getD 0) (h2 : x2 = l[i + 2]?.getD 0) (h3 : x3 = l[i + 3]?.getD 0) : val W (L ++ [((x3 * 65536 + x2) * 65536 + x1) * 65536 + x0]) = val D (l.take (i + 4)) := by
  rw [take_next, val_snoc, hv, hL, h0, h1, h2, h3, hi, show D ^ (4 * j) = W ^ j by rw [Nat.pow_mul]; rfl]
  grind

theorem num_eq {k : IntKind} {a b : Int} (h : a = b) : Value.int k a = Value.int k b := by rw [h]

/-- what has been put together of four digits -/
def acc (x0 x1 x2 x3 : Nat) : Nat → Nat
  | 0 => ((x3 * 65536 + x2) * 65536 + x1) * 65536 + x0
  | 1 => (x3 * 65536 + x2) * 65536 + x1
  | 2 => x3 * 65536 + x2
  | 3 => x3
  | _ => 0

set_option maxRecDepth 100000 in
set_option maxHeartbeats 3200000 in
theorem From_any (v : Value) (l : List Nat) (w : World) (h : At w .i64 v l) (hs : Small D l) (hlen : l.length ≤ 8796093022208) :
    Calls Tryz.prog 60 #[v] w (RAt .u64 (dig W (val D l)) w) := by
  have hv0 : val D (strip l) = val D l := by rw [strip_dig D2 hs, val_dig D2]
  have hs' : Small D (strip l) := by rw [strip_dig D2 hs]; exact small_dig D2 _
  have hl' : (strip l).length ≤ 8796093022208 := Nat.le_trans (strip_length l) hlen
  have hlast : strip l = dig D (val D l) := strip_dig D2 hs
  have G := hid (rtrim_any v l w h)
  rw [← hv0] at hlast ⊢
  clear h hlen hs hv0
  generalize strip l = l' at *
  have Hl := hid hlast; clear hlast
  go_enter Tryz.func60, Tryz.ntmps60
  go_wp2_with fail
  refine G.out.mono ?_
  rintro e w' ⟨v', rfl, ⟨p, cap, rfl, a1, a2, a3, a4⟩, rfl⟩
  unfold maxLen at a2
  go_wp2_with fail
  go_loopw [3, 4] (fun o s wr => ∃ (i j : Nat) (L : List Nat), i ≤ l'.length + 3 ∧ Hid (i = 4 * j) ∧ s = .int .i64 (i : Nat) ∧ Own wr w.heap.size 94 .u64 o L ∧ Hid (L.length = j) ∧ j ≤ i ∧ Small W L ∧
      Hid (val W L = val D (l'.take i)) ∧ Below w.heap.size w wr) (fun _ s _ => l'.length + 4 - (intOf s).toNat)
  case atStart => exact ⟨0, 0, [], by omega, rfl, rfl, Own.nil _ _ _ _, rfl, by omega, small_nil _, rfl, Below.refl _ _⟩
  case round =>
    obtain ⟨i, j, L, hi, hij, rfl, hown, hLj, hji, hsl, hv, hbel⟩ := hrel
    by_cases hil : i < l'.length
    · obtain ⟨b, off, rfl, hbb, hcell⟩ := a4 (by omega)
      obtain ⟨x0, hx0⟩ : ∃ x, x = l'[i]?.getD 0 := ⟨_, rfl⟩
      obtain ⟨x1, hx1⟩ : ∃ x, x = l'[i + 1]?.getD 0 := ⟨_, rfl⟩
      obtain ⟨x2, hx2⟩ : ∃ x, x = l'[i + 2]?.getD 0 := ⟨_, rfl⟩
      obtain ⟨x3, hx3⟩ : ∃ x, x = l'[i + 3]?.getD 0 := ⟨_, rfl⟩
      have y0 : x0 < 65536 := by rw [hx0]; exact small_getD hs' (by decide) _
      have y1 : x1 < 65536 := by rw [hx1]; exact small_getD hs' (by decide) _
      have y2 : x2 < 65536 := by rw [hx2]; exact small_getD hs' (by decide) _
      have y3 : x3 < 65536 := by rw [hx3]; exact small_getD hs' (by decide) _
      have cell : ∀ m, i + m < l'.length → wr.cell? ⟨b, off + (i + m), none⟩ = some (.int .i64 (l'[i + m]?.getD 0 : Nat)) := fun m hm => by
        rw [(hbel.cell (p := ⟨b, off + (i + m), none⟩) hbb).trans (hcell (i + m) hm)]; simp [hm]
      have zero : ∀ m, ¬ i + m < l'.length → l'[i + m]?.getD 0 = 0 := fun m hm => by rw [List.getElem?_eq_none (by omega)]; rfl
      have Cell := hid cell
      have Zero := hid zero
      have Hx0 := hid hx0; have Hx1 := hid hx1; have Hx2 := hid hx2; have Hx3 := hid hx3
      clear cell zero hx0 hx1 hx2 hx3 hcell a4
      go_wp2_with fail
      obtain ⟨wo, rfl⟩ : ∃ wo : World, wo = wr := ⟨_, rfl⟩
      go_loopw [5, 6] (fun a s wq => ∃ m : Nat, m ≤ 4 ∧ s = .int .i64 ((m : Int) - 1) ∧ a = .int .u64 (acc x0 x1 x2 x3 m : Nat) ∧ wq = wo) (fun _ s _ => (intOf s + 1).toNat)
      case atStart => exact ⟨4, by omega, rfl, rfl, rfl⟩
      case round =>
        obtain ⟨m, hm, rfl, rfl, rfl⟩ := hrel
        by_cases hm0 : 0 < m
        · rcases (by omega : m = 4 ∨ m = 3 ∨ m = 2 ∨ m = 1) with rfl | rfl | rfl | rfl
          · by_cases hin : i + 3 < l'.length
            · skip
              have c := Cell.out 3 hin
              rw [← Hx3.out] at c
              simp only [acc]
              go_wp2
              go_roundw
              case rel => exact ⟨3, by omega, rfl, num_eq (by first | rfl | omega | (simp only; omega)), by trivial⟩
              case measure => simp [intOf]
            · skip
              have hz : x3 = 0 := by rw [Hx3.out]; exact Zero.out 3 hin
              have Hz := hid hz
              clear hz
              simp only [acc]
              go_wp2
              go_roundw
              case rel => exact ⟨3, by omega, rfl, num_eq (by have := Hz.out; first | omega | (simp only; omega)), by trivial⟩
              case measure => simp [intOf]
          · by_cases hin : i + 2 < l'.length
            · skip
              have c := Cell.out 2 hin
              rw [← Hx2.out] at c
              simp only [acc]
              go_wp2
              go_roundw
              case rel => exact ⟨2, by omega, rfl, num_eq (by first | rfl | omega | (simp only; omega)), by trivial⟩
              case measure => simp [intOf]
            · skip
              have hz : x2 = 0 := by rw [Hx2.out]; exact Zero.out 2 hin
              have Hz := hid hz
              clear hz
              simp only [acc]
              go_wp2
              go_roundw
              case rel => exact ⟨2, by omega, rfl, num_eq (by have := Hz.out; first | omega | (simp only; omega)), by trivial⟩
              case measure => simp [intOf]
          · by_cases hin : i + 1 < l'.length
            · skip
              have c := Cell.out 1 hin
              rw [← Hx1.out] at c
              simp only [acc]
              go_wp2
              go_roundw
              case rel => exact ⟨1, by omega, rfl, num_eq (by first | rfl | omega | (simp only; omega)), by trivial⟩
              case measure => simp [intOf]
            · skip
              have hz : x1 = 0 := by rw [Hx1.out]; exact Zero.out 1 hin
              have Hz := hid hz
              clear hz
              simp only [acc]
              go_wp2
              go_roundw
              case rel => exact ⟨1, by omega, rfl, num_eq (by have := Hz.out; first | omega | (simp only; omega)), by trivial⟩
              case measure => simp [intOf]
          · by_cases hin : i + 0 < l'.length
            · skip
              have c := Cell.out 0 hin
              simp only [Nat.add_zero] at c
              rw [← Hx0.out] at c
              simp only [acc]
              go_wp2
              go_roundw
              case rel => exact ⟨0, by omega, rfl, num_eq (by first | rfl | omega | (simp only; omega)), by trivial⟩
              case measure => simp [intOf]
            · exact absurd hil (by simpa using hin)
        · obtain rfl : m = 0 := by omega
          simp only [acc]
          go_wp2_with (at_builtin; refine wpList_append_at rfl _ _ 42 rfl elemNat w.heap.size _ L rfl (hown.alloc _) _ [((x3 * 65536 + x2) * 65536 + x1) * 65536 + x0] rfl (At.oneI _ _ _ _ _ (by omega)) (by rw [hLj.out]; simp [maxLen]; omega) (by rw [hLj.out]; simp; omega) (by have := hbel.size; simp; omega) ?_; intro v2 w2 ho2 hb2 hs2)
          go_roundw
          case rel => exact ⟨i + 4, j + 1, L ++ [((x3 * 65536 + x2) * 65536 + x1) * 65536 + x0], by omega, by have := hij.out; unfold Hid; omega, by go_num, ho2, by have := hLj.out; unfold Hid; simp; omega, by omega,
            small_snoc hsl (by unfold W; omega), from_step hij.out hLj.out hv.out Hx0.out Hx1.out Hx2.out Hx3.out, (hbel.trans ((below1 _ _).mono hbel.size)).trans hb2⟩
          case measure => simp [intOf]; omega
    · have hv' : Hid (L = dig W (val D l')) := by
        have e := hv.out
        rw [val_take_ge _ _ _ (by omega)] at e
        unfold Hid
        rw [← e]
        refine canon W2 hsl ?_
        by_cases hj0 : j = 0
        · left; exact List.eq_nil_of_length_eq_zero (by rw [hLj.out, hj0])
        · right
          have hne : l' ≠ [] := by
            intro h0; have := hij.out; rw [h0] at hi; simp at hi; omega
          have hlen : l'.length = sz D (val D l') := by unfold sz; rw [← Hl.out]
          have hpos : 0 < val D l' := Nat.pos_of_ne_zero fun e0 => by
            have := Hl.out; rw [e0] at this; exact hne this
          have hp := pow_sz_le D2 hpos
          rw [← hlen] at hp
          rw [e, hLj.out]
          refine Nat.le_trans ?_ hp
          rw [show W ^ (j - 1) = D ^ (4 * (j - 1)) by rw [Nat.pow_mul]; rfl]
          exact Nat.pow_le_pow_right (by decide) (by have := hij.out; omega)
      clear a4 hij hv Hl
      go_wp2
      go_ret
      exact ⟨_, rfl, by rw [← hv'.out]; exact hown.at, hbel⟩
end Go.Proofs.YtckkpolikdnilaaGreatDoor
/- elenchusref01.Whole, Neg. -/
namespace Go.Proofs.YtckkpolikdnilaaGreatDoor
open Go.RowKit Big

theorem sz4 (n : Nat) : sz D n ≤ 4 * sz W n := by
  refine sz_le_of_lt D2 ?_
  have := lt_pow_sz W2 n
  rwa [Nat.pow_mul, show D ^ 4 = W by rfl]

theorem IntAt.whole {w : World} {neg : Bool} {n : Nat} {p : Option Addr} {len c : Nat} (h : At w .u64 (.slice p len c) (dig W n)) :
    IntAt w (.agg #[.bool (neg && decide (0 < len)), .slice p len c]) (sg neg n) := by
  have hl : len = sz W n := by
    obtain ⟨p', c', hv, r⟩ := h
    cases hv; rfl
  refine ⟨_, ?_, by rw [sg_natAbs]; exact h⟩
  by_cases h0 : n = 0
  · subst h0
    rw [sg_zero]
    have : len = 0 := by rw [hl]; rfl
    subst this
    simp
  · rw [sg_neg neg n h0]
    have : 0 < len := by rw [hl]; exact Nat.pos_of_ne_zero fun e => h0 ((sz_eq_zero W2).1 e)
    simp [this]

set_option maxHeartbeats 800000 in
theorem Whole_any (neg : Bool) (v : Value) (l : List Nat) (w : World) (h : At w .u64 v l) (hs : Small W l) (hlen : l.length ≤ 2199023255552) :
    Calls Tryz.prog 40 #[.bool neg, v] w (RInt (sg neg (val W l)) w) := by
  have hd : ∀ o, Calls Tryz.prog 61 #[v] (w.alloc o) (RAt .i64 (dig D (val W l)) (w.alloc o)) := fun o => Digits_any v l _ (h.alloc o) hs hlen
  have hsz : (dig D (val W l)).length ≤ 8796093022208 := by
    have h1 := sz4 (val W l)
    have h2 := sz_val W2 hs
    show sz D (val W l) ≤ _
    omega
  have Hd := hid hd
  have Hsz := hid hsz
  clear hd hsz
  generalize val W l = n at *
  go_enter Tryz.func40, Tryz.ntmps40
  go_wp2_with fail
  refine (Hd.out _).mono ?_
  rintro e w1 ⟨v1, rfl, h1, hb1⟩
  go_wp2_with fail
  refine (From_any v1 _ w1 h1 (small_dig D2 n) Hsz.out).mono ?_
  rintro e w2 ⟨v2, rfl, h2, hb2⟩
  rw [val_dig D2] at h2
  have hpr : Pair w2 w.heap.size 44 := Pair.below (Pair.below (Pair.new ..) hb1) hb2
  obtain ⟨_, _, q0, q1, q2, q3⟩ := hpr.cells
  have z1 : w.heap.size + 1 ≤ w1.heap.size := by have := hb1.size; simp at this; omega
  have bw : Below w.heap.size w w2 := ((below1 _ _).trans (hb1.mono (B' := w.heap.size) (by simp))).trans (hb2.mono (B' := w.heap.size) (by omega))
  obtain ⟨p, c, rfl, -⟩ := id h2
  have hI := IntAt.whole (neg := neg) h2
  have HI := hid hI
  clear hb1 hb2 h1 h2 hI
  generalize (dig W n).length = len at *
  cases neg
  · go_wp2
    exact bodyPost_ret (v := .agg #[.bool false, .slice p len c]) (by simp [results, Tryz.results40, go_sem, q0, q1]) rfl
      ⟨_, rfl, (show IntAt w2 _ _ from HI.out).stored hpr _ _ _ _, Below.stored bw (by omega) _ _⟩
  · by_cases h0 : 0 < len
    · have hx : Hid (decide (0 < len) = true) := by unfold Hid; simpa using h0
      go_wp2
      exact bodyPost_ret (v := .agg #[.bool true, .slice p len c]) (by simp [results, Tryz.results40, go_sem, q0, q1]) rfl
        ⟨_, rfl, (by have := HI.out; rw [hx.out] at this; exact this.stored hpr _ _ _ _), Below.stored bw (by omega) _ _⟩
    · have hx : Hid (decide (0 < len) = false) := by unfold Hid; simpa using h0
      go_wp2
      exact bodyPost_ret (v := .agg #[.bool false, .slice p len c]) (by simp [results, Tryz.results40, go_sem, q0, q1]) rfl
        ⟨_, rfl, (by have := HI.out; rw [hx.out] at this; exact this.stored hpr _ _ _ _), Below.stored bw (by omega) _ _⟩
end Go.Proofs.YtckkpolikdnilaaGreatDoor
/- elenchusref01.plus: sums of digits. -/
namespace Go.Proofs.YtckkpolikdnilaaGreatDoor
open Go.RowKit Big

theorem rplus_step {L l0 l1 : List Nat} {k x y c : Nat} (hl : L.length = k) (hx : x = l0[k]?.getD 0) (hy : y = l1[k]?.getD 0)
    (hv : val D L + c * D ^ k = val D (l0.take k) + val D (l1.take k)) : val D (L ++ [(c + x + y) % 65536]) + (c + x + y) / 65536 * D ^ (k + 1) = val D (l0.take (k + 1)) + val D (l1.take (k + 1)) := by
  rw [val_snoc, val_take_getD, val_take_getD, hl, ← hx, ← hy, Nat.pow_succ]
  exact add_step (by unfold D; omega : x + y + c = (c + x + y) % 65536 + D * ((c + x + y) / 65536)) hv

set_option maxRecDepth 100000 in
set_option maxHeartbeats 1600000 in
theorem rplus_any (v0 v1 : Value) (l0 l1 : List Nat) (w : World) (h0 : At w .i64 v0 l0) (h1 : At w .i64 v1 l1) (s0 : Small D l0) (s1 : Small D l1)
    (hl0 : l0.length ≤ 4398046511104) (hl1 : l1.length ≤ 4398046511104) : Calls Tryz.prog 90 #[v0, v1] w (RAt .i64 (dig D (val D l0 + val D l1)) w) := by
  have g0 : ∀ (k : Nat) W, Below w.heap.size w W → Calls Tryz.prog 110 #[v0, .int .i64 (k : Nat)] W fun e w' => e = .returned (.int .i64 (l0[k]?.getD 0 : Nat)) ∧ w' = W := fun k W hb => at_any v0 l0 k W (h0.below hb)
  have g1 : ∀ (k : Nat) W, Below w.heap.size w W → Calls Tryz.prog 110 #[v1, .int .i64 (k : Nat)] W fun e w' => e = .returned (.int .i64 (l1[k]?.getD 0 : Nat)) ∧ w' = W := fun k W hb => at_any v1 l1 k W (h1.below hb)
  have G0 := hid g0; have G1 := hid g1
  clear g0 g1
  obtain ⟨p0, c0, rfl, a1, a2, a3, -⟩ := h0
  obtain ⟨p1, c1, rfl, b1, b2, b3, -⟩ := h1
  unfold maxLen at a2 b2
  go_enter Tryz.func90, Tryz.ntmps90
  go_wp2_with fail
  go_loopw [5, 6, 7] (fun o c i wr => ∃ (k : Nat) (L : List Nat) (c' : Nat), (k ≤ l0.length ∨ k ≤ l1.length ∨ k ≤ l0.length + 1 ∧ k ≤ l1.length + 1 + l0.length ∧ c' = 0 ∨ (k = l1.length + 1 ∧ c' = 0)) ∧ i = .int .i64 (k : Nat) ∧ c = .int .i64 (c' : Nat) ∧ c' ≤ 1 ∧
      Own wr w.heap.size 3 .i64 o L ∧ Hid (L.length = k) ∧ Small D L ∧ Hid (val D L + c' * D ^ k = val D (l0.take k) + val D (l1.take k)) ∧ Below w.heap.size w wr) (fun _ _ i _ => l0.length + l1.length + 2 - (intOf i).toNat)
  case atStart => exact ⟨0, [], 0, Or.inl (Nat.zero_le _), rfl, rfl, by omega, Own.nil _ _ _ _, rfl, small_nil _, by simp [Hid, val], Below.refl _ _⟩
  case round =>
    obtain ⟨k, L, c', hk, rfl, rfl, hc', hown, hLk, hsl, hv, hbel⟩ := hrel
    obtain ⟨x, hx⟩ : ∃ x, x = l0[k]?.getD 0 := ⟨_, rfl⟩
    obtain ⟨y, hy⟩ : ∃ y, y = l1[k]?.getD 0 := ⟨_, rfl⟩
    have x0 : x < 65536 := by rw [hx]; exact small_getD s0 (by decide) k
    have y0 : y < 65536 := by rw [hy]; exact small_getD s1 (by decide) k
    have t0 := G0.out k wr hbel
    have t1 := G1.out k wr hbel
    rw [← hx] at t0
    rw [← hy] at t1
    have hx0 : l0.length ≤ k → x = 0 := fun h => by rw [hx, List.getElem?_eq_none h]; rfl
    have hy0 : l1.length ≤ k → y = 0 := fun h => by rw [hy, List.getElem?_eq_none h]; rfl
    have T0 := hid t0; have T1 := hid t1
    have Hx := hid hx; have Hy := hid hy
    clear t0 t1 hx hy
    have hk2 : k ≤ l0.length + l1.length + 1 := by omega
    by_cases hgo : k < l0.length ∨ k < l1.length ∨ 0 < c'
    · have hn : (k + 1 ≤ l0.length ∨ k + 1 ≤ l1.length ∨ k + 1 ≤ l0.length + 1 ∧ k + 1 ≤ l1.length + 1 + l0.length ∧ (c' + x + y) / 65536 = 0 ∨ (k + 1 = l1.length + 1 ∧ (c' + x + y) / 65536 = 0)) := by omega
      have Hn := hid hn
      clear hn hk hx0 hy0
      rcases (by omega : k < l0.length ∨ (¬ k < l0.length ∧ k < l1.length) ∨ (¬ k < l0.length ∧ ¬ k < l1.length ∧ 0 < c')) with h | ⟨h, h'⟩ | ⟨h, h', h''⟩
      all_goals
        go_wp2_with fail
        refine T0.out.mono ?_
        rintro e w' ⟨rfl, rfl⟩
        go_wp2_with fail
        refine T1.out.mono ?_
        rintro e w' ⟨rfl, rfl⟩
        go_wp2_with (at_builtin; refine wpList_append_at rfl _ _ 69 rfl elemInts w.heap.size _ L rfl (hown.alloc _) _ [(c' + x + y) % 65536] rfl (At.oneI _ _ _ _ _ (by omega)) (by rw [hLk.out]; simp [maxLen]; omega) (by rw [hLk.out]; simp; omega) (by have := hbel.size; simp; omega) ?_; intro v2 w2 ho2 hb2 hs2)
        go_roundw
        case rel => exact ⟨k + 1, L ++ [(c' + x + y) % 65536], (c' + x + y) / 65536, Hn.out, by go_num, by go_num, by omega, ho2, by have := hLk.out; unfold Hid; simp; omega, small_snoc hsl (Nat.mod_lt _ (by decide)),
          rplus_step hLk.out Hx.out Hy.out hv.out, (hbel.trans ((below1 _ _).mono hbel.size)).trans hb2⟩
        case measure => simp [intOf]; omega
    · have hc0 : c' = 0 := by omega
      subst hc0
      have h : ¬ k < l0.length := by omega
      have h' : ¬ k < l1.length := by omega
      have hv' : Hid (strip L = dig D (val D l0 + val D l1)) := by
        have := hv.out
        rw [val_take_ge _ _ _ (by omega), val_take_ge _ _ _ (by omega), Nat.zero_mul, Nat.add_zero] at this
        unfold Hid
        rw [← this, strip_dig D2 hsl]
      clear hgo hk hx0 hy0
      go_wp2_with (go_at_call 89; refine (rtrim_any _ L _ hown.at).mono ?_; rintro e w' ⟨v', rfl, hv'', rfl⟩)
      go_ret
      exact ⟨_, rfl, by rw [← hv'.out]; exact hv'', hbel⟩
end Go.Proofs.YtckkpolikdnilaaGreatDoor
/- elenchusref01.less: differences of digits. -/
namespace Go.Proofs.YtckkpolikdnilaaGreatDoor
open Go.RowKit Big

theorem rless_step {L l0 l1 : List Nat} {k x y c s c2 : Nat} {hk : k < l0.length} (hl : L.length = k) (hx : x = l0[k]) (hy : y = l1[k]?.getD 0) (hs : x + D * c2 = s + y + c)
    (hv : val D L + val D (l1.take k) = val D (l0.take k) + c * D ^ k) : val D (L ++ [s]) + val D (l1.take (k + 1)) = val D (l0.take (k + 1)) + c2 * D ^ (k + 1) := by
  rw [val_snoc, val_take_succ D l0 k hk, val_take_getD, hl, ← hx, ← hy, Nat.pow_succ]
  exact sub_step hs hv

set_option maxRecDepth 100000 in
set_option maxHeartbeats 1600000 in
theorem rless_own (v0 v1 : Value) (l0 l1 : List Nat) (w : World) (h0 : At w .i64 v0 l0) (h1 : At w .i64 v1 l1) (s0 : Small D l0) (s1 : Small D l1)
    (hl0 : l0.length ≤ 4398046511104) (hll : l1.length ≤ l0.length) (hvv : val D l1 ≤ val D l0) : Calls Tryz.prog 92 #[v0, v1] w (ROwn 3 .i64 (dig D (val D l0 - val D l1)) w) := by
  have g1 : ∀ (k : Nat) W, Below w.heap.size w W → ∀ n, Calls Tryz.prog 110 #[v1, .int .i64 (k : Nat)] (W.drewN n) fun e w' => e = .returned (.int .i64 (l1[k]?.getD 0 : Nat)) ∧ w' = W.drewN n := fun k W hb n => at_any v1 l1 k _ ((h1.below hb).drewN n)
  have G1 := hid g1
  clear g1
  have Hvv := hid hvv; clear hvv
  obtain ⟨r, hr⟩ : ∃ r, r = dig D (val D l0 - val D l1) := ⟨_, rfl⟩
  rw [← hr]
  have Hr := hid hr; clear hr
  obtain ⟨p0, c0, rfl, a1, a2, a3, a4⟩ := h0
  obtain ⟨p1, c1, rfl, b1, b2, b3, -⟩ := h1
  unfold maxLen at a2 b2
  go_enter Tryz.func92, Tryz.ntmps92
  go_wp2_with fail
  go_loopw [5, 6, 7] (fun o c i wr => ∃ (k : Nat) (L : List Nat) (c' : Nat), k ≤ l0.length ∧ i = .int .i64 (k : Nat) ∧ c = .int .i64 (c' : Nat) ∧ c' ≤ 1 ∧
      Own wr w.heap.size 3 .i64 o L ∧ Hid (L.length = k) ∧ Small D L ∧ Hid (val D L + val D (l1.take k) = val D (l0.take k) + c' * D ^ k) ∧ Below w.heap.size w wr) (fun _ _ i _ => l0.length - (intOf i).toNat)
  case atStart => exact ⟨0, [], 0, Nat.zero_le _, rfl, rfl, by omega, Own.nil _ _ _ _, rfl, small_nil _, by simp [Hid, val], Below.refl _ _⟩
  case round =>
    obtain ⟨k, L, c', hk, rfl, rfl, hc', hown, hLk, hsl, hv, hbel⟩ := hrel
    by_cases hkl : k < l0.length
    · obtain ⟨b, off, rfl, hbb, hcell⟩ := a4 (by omega)
      have e0 : wr.cell? ⟨b, off + k, none⟩ = some (.int .i64 (l0[k] : Nat)) := (hbel.cell (p := ⟨b, off + k, none⟩) hbb).trans (hcell k hkl)
      have x0 := small_get s0 k hkl
      obtain ⟨x, hx⟩ : ∃ x, x = l0[k] := ⟨_, rfl⟩
      rw [← hx] at e0 x0
      obtain ⟨y, hy⟩ : ∃ y, y = l1[k]?.getD 0 := ⟨_, rfl⟩
      have y0 : y < 65536 := by rw [hy]; exact small_getD s1 (by decide) k
      have t1 := G1.out k wr hbel
      rw [← hy] at t1
      have T1 := hid t1
      have Hx := hid hx; have Hy := hid hy
      clear t1 hx hy hcell a4
      unfold D at x0
      have i0 : (0 : Int) ≤ (k : Int) := by omega
      have i1 : (k : Int) < (l0.length : Int) := by omega
      by_cases hneg : x < y + c'
      · go_wp2_with fail
        go_quiet ((go_at_call 110; exact Calls.quiet_of_same (T1.out _)))
        go_wp2_with (at_builtin; refine wpList_append_at rfl _ _ 69 rfl elemInts w.heap.size _ L rfl ((hown.kept (below_drewN (Below.refl _ _) _)).alloc _) _ [x + 65536 - y - c'] rfl (At.oneI _ _ _ _ _ (by omega)) (by rw [hLk.out]; simp [maxLen]; omega) (by rw [hLk.out]; simp; omega) (by have := hbel.size; simp; omega) ?_; intro v2 w2 ho2 hb2 hs2)
        go_roundw
        case rel => exact ⟨k + 1, L ++ [x + 65536 - y - c'], 1, by omega, by go_num, rfl, by omega, ho2, by have := hLk.out; unfold Hid; simp; omega, small_snoc hsl (show _ < 65536 by omega),
          rless_step hLk.out Hx.out Hy.out (show _ + 65536 * _ = _ by omega) hv.out, ((below_drewN hbel _).trans ((below1 _ _).mono (by have := hbel.size; simp; omega))).trans hb2⟩
        case measure => simp [intOf]; omega
      · go_wp2_with fail
        go_quiet ((go_at_call 110; exact Calls.quiet_of_same (T1.out _)))
        go_wp2_with (at_builtin; refine wpList_append_at rfl _ _ 69 rfl elemInts w.heap.size _ L rfl ((hown.kept (below_drewN (Below.refl _ _) _)).alloc _) _ [x - y - c'] rfl (At.oneI _ _ _ _ _ (by omega)) (by rw [hLk.out]; simp [maxLen]; omega) (by rw [hLk.out]; simp; omega) (by have := hbel.size; simp; omega) ?_; intro v2 w2 ho2 hb2 hs2)
        go_roundw
        case rel => exact ⟨k + 1, L ++ [x - y - c'], 0, by omega, by go_num, rfl, by omega, ho2, by have := hLk.out; unfold Hid; simp; omega, small_snoc hsl (show _ < 65536 by omega),
          rless_step hLk.out Hx.out Hy.out (show _ + 65536 * _ = _ by omega) hv.out, ((below_drewN hbel _).trans ((below1 _ _).mono (by have := hbel.size; simp; omega))).trans hb2⟩
        case measure => simp [intOf]; omega
    · obtain rfl : k = l0.length := by omega
      have hv' : val D L + val D l1 = val D l0 + c' * D ^ l0.length := by
        have := hv.out
        rwa [List.take_length, val_take_ge D l1 _ (by omega)] at this
      have hlt := val_lt (by decide : 0 < D) hsl
      have e : strip L = r := by
        rw [strip_dig D2 hsl, Hr.out]
        have := Hvv.out
        rw [hLk.out] at hlt
        have : c' = 0 := by
          rcases (by omega : c' = 0 ∨ c' = 1) with h | h
          · exact h
          · subst h; omega
        subst this
        congr 1; omega
      have He := hid e; clear hv hv' e hlt a4
      have hst := strip_length L
      have ho' := hown
      obtain ⟨po, co, rfl, -⟩ := id hown.at
      go_wp2_with (go_at_call 89; refine (rtrim_val _ L _ hown.at).mono ?_; rintro e w' ⟨rfl, rfl⟩; simp only [cutTo])
      go_ret
      exact ⟨_, rfl, by rw [← He.out]; have := ho'.take (strip L).length hst; rwa [← strip_is_take] at this, hbel⟩
theorem rless_any (v0 v1 : Value) (l0 l1 : List Nat) (w : World) (h0 : At w .i64 v0 l0) (h1 : At w .i64 v1 l1) (s0 : Small D l0) (s1 : Small D l1)
    (hl0 : l0.length ≤ 4398046511104) (hll : l1.length ≤ l0.length) (hvv : val D l1 ≤ val D l0) : Calls Tryz.prog 92 #[v0, v1] w (RAt .i64 (dig D (val D l0 - val D l1)) w) :=
  (rless_own v0 v1 l0 l1 w h0 h1 s0 s1 hl0 hll hvv).mono fun _ _ ⟨v, he, ho, hb⟩ => ⟨v, he, ho.at, hb⟩
end Go.Proofs.YtckkpolikdnilaaGreatDoor
/- elenchusref01.compare, order: the order of sizes. -/
namespace Go.Proofs.YtckkpolikdnilaaGreatDoor
open Go.RowKit Big

theorem ord_partD {l0 l1 : List Nat} {n m : Nat} (s0 : Small D l0) (s1 : Small D l1) (h0 : val D l0 = n) (h1 : val D l1 = m) {k : Nat} (hk0 : k < l0.length) (hk1 : k < l1.length)
    (hd : l0.drop (k + 1) = l1.drop (k + 1)) : (l0[k] < l1[k] → ord n m = -1) ∧ (l1[k] < l0[k] → ord n m = 1) := by
  refine ⟨fun h => ?_, fun h => ?_⟩
  · have := val_lt_of_part s0 hk0 hk1 hd h
    exact ord_lt (by omega)
  · have := val_lt_of_part s1 hk1 hk0 hd.symm h
    exact ord_gt (by omega)

set_option maxRecDepth 100000 in
set_option maxHeartbeats 1600000 in
theorem rcompare_any (v0 v1 : Value) (n m : Nat) (w : World) (h0 : At w .i64 v0 (dig D n)) (h1 : At w .i64 v1 (dig D m)) :
    Calls Tryz.prog 111 #[v0, v1] w (ROrd (ord n m) w) := by
  have s0 := small_dig D2 n
  have s1 := small_dig D2 m
  have k1 : (dig D n).length < (dig D m).length → n < m := lt_of_sz_lt D2
  have k2 : (dig D m).length < (dig D n).length → m < n := lt_of_sz_lt D2
  have hv0 := val_dig D2 n
  have hv1 := val_dig D2 m
  generalize dig D n = l0 at *
  generalize dig D m = l1 at *
  have Hv0 := hid hv0; clear hv0
  have Hv1 := hid hv1; clear hv1
  obtain ⟨p0, c0, rfl, a1, a2, a3, a4⟩ := h0
  obtain ⟨p1, c1, rfl, b1, b2, b3, b4⟩ := h1
  unfold maxLen at a2 b2
  by_cases hl : l0.length = l1.length
  · have Hl := hid hl
    rw [hl] at a1 ⊢; clear hl
    go_enter Tryz.func111, Tryz.ntmps111
    go_wp2_with fail
    go_loopw [5] (fun i wr => ∃ (k : Nat), k ≤ l1.length ∧ i = .int .i64 ((k : Int) - 1) ∧ Hid (l0.drop k = l1.drop k) ∧ Hid (∃ j, wr = w.drewN j)) (fun i _ => (intOf i + 1).toNat)
    case atStart => exact ⟨l1.length, Nat.le_refl _, rfl, by unfold Hid; rw [List.drop_length, ← Hl.out, List.drop_length], 0, rfl⟩
    case round =>
      obtain ⟨k, hk, rfl, hd, Hw⟩ := hrel
      by_cases hk0 : 0 < k
      · obtain ⟨k, rfl⟩ : ∃ k', k = k' + 1 := ⟨k - 1, by omega⟩
        have hkl : k < l0.length := by rw [Hl.out]; omega
        obtain ⟨b, off, rfl, hbb, hc0⟩ := a4 (Nat.lt_of_le_of_lt (Nat.zero_le _) hkl)
        obtain ⟨b', off', rfl, hbb', hc1⟩ := b4 (by omega)
        have e0 : wr.cell? ⟨b, off + k, none⟩ = some (.int .i64 (l0[k] : Nat)) := by obtain ⟨j, rfl⟩ := Hw.out; exact hc0 k hkl
        have e1 : wr.cell? ⟨b', off' + k, none⟩ = some (.int .i64 (l1[k] : Nat)) := by obtain ⟨j, rfl⟩ := Hw.out; exact hc1 k (by omega)
        have ep := ord_partD s0 s1 Hv0.out Hv1.out hkl (show k < l1.length by omega) hd.out
        have es : l0[k] = l1[k] → l0.drop k = l1.drop k := fun h => by
          rw [List.drop_eq_getElem_cons hkl, List.drop_eq_getElem_cons (show k < l1.length by omega), h, hd.out]
        generalize l0[k] = x at *
        generalize l1[k] = y at *
        have Ep : Hid ((x < y → ord n m = -1) ∧ (y < x → ord n m = 1)) := ep
        have Es : Hid (x = y → l0.drop k = l1.drop k) := es
        clear a4 b4 hc0 hc1 ep es hbb hbb' s0 s1 k1 k2
        have hlow : (0 : Int) ≤ (k : Int) + 1 - 1 := by omega
        rcases Nat.lt_trichotomy x y with hxy | hxy | hxy
        · have Hr : Hid (ord n m = -1) := Ep.out.1 hxy
          clear Ep Es
          go_wp2
          go_quiet (fail)
          go_wp2
          go_ret
          exact ⟨by rw [Hr.out]; rfl, drawn_more Hw.out⟩
        · subst hxy
          go_wp2
          go_quiet (fail)
          go_wp2
          go_quiet (fail)
          go_wp2
          go_roundw
          case rel => exact ⟨k, by omega, rfl, Es.out (by trivial), by first | exact drawn_more Hw.out | exact drawn_more (drawn_more Hw.out)⟩
          case measure => simp [intOf]
        · have Hr : Hid (ord n m = 1) := Ep.out.2 hxy
          clear Ep Es
          go_wp2
          go_quiet (fail)
          go_wp2
          go_quiet (fail)
          go_wp2
          go_ret
          exact ⟨by rw [Hr.out]; rfl, drawn_more (drawn_more Hw.out)⟩
      · obtain rfl : k = 0 := by omega
        have hn : ord n m = 0 := by
          have h := hd.out
          rw [List.drop_zero, List.drop_zero] at h
          rw [← Hv0.out, ← Hv1.out, h]; exact ord_eq _
        have Hn := hid hn
        clear hn a4 b4 k1 k2 hd
        go_wp2
        go_ret
        exact ⟨by rw [Hn.out]; rfl, Hw.out⟩
  · have hb : ((l0.length : Int) != (l1.length : Int)) = true := bne_iff_ne.2 (by omega)
    rcases Nat.lt_or_ge l0.length l1.length with h | h
    · have Hn : Hid (ord n m = -1) := ord_lt (by have := k1 h; omega)
      clear a4 b4 k1 k2
      go_enter Tryz.func111, Tryz.ntmps111
      go_wp2
      go_ret
      exact ⟨by rw [Hn.out]; rfl, 0, rfl⟩
    · have h' : ¬ l0.length < l1.length := by omega
      have Hn : Hid (ord n m = 1) := ord_gt (by have := k2 (by omega); omega)
      clear a4 b4 k1 k2
      go_enter Tryz.func111, Tryz.ntmps111
      go_wp2
      go_ret
      exact ⟨by rw [Hn.out]; rfl, 0, rfl⟩

/-- elenchusref01.order -/
theorem order_any (v0 v1 : Value) (l0 l1 : List Nat) (w : World) (h0 : At w .u64 v0 l0) (h1 : At w .u64 v1 l1) (s0 : Small W l0) (s1 : Small W l1) (c0 : l0.length ≤ 1099511627776) (c1 : l1.length ≤ 1099511627776) :
    Calls Tryz.prog 91 #[v0, v1] w (RNum .i64 (ord (val W l0) (val W l1)) w) := by
  have g0 := Digits_any v0 l0 w h0 s0 (by omega)
  have g1 : ∀ W', Below w.heap.size w W' → Calls Tryz.prog 61 #[v1] W' (RAt .i64 (dig D (val W l1)) W') := fun W' hb => Digits_any v1 l1 W' (h1.below hb) s1 (by omega)
  have G0 := hid g0; have G1 := hid g1
  obtain ⟨r, hr⟩ : ∃ r, r = ord (val W l0) (val W l1) := ⟨_, rfl⟩
  rw [← hr]
  have Hr := hid hr
  clear hr g0 g1
  go_enter Tryz.func91, Tryz.ntmps91
  go_wp2_with fail
  refine G0.out.mono ?_
  rintro e w1 ⟨v2, rfl, ha2, hb1⟩
  go_wp2_with fail
  refine (G1.out _ hb1).mono ?_
  rintro e w2 ⟨v3, rfl, ha3, hb2⟩
  have ha2' := ha2.below hb2
  go_wp2_with fail
  refine (rcompare_any v2 v3 _ _ w2 ha2' ha3).mono ?_
  rintro e w3 ⟨rfl, k, rfl⟩
  go_wp2_with fail
  go_ret
  exact ⟨by rw [Hr.out]; rfl, below_drewN (hb1.trans (hb2.mono hb1.size)) _⟩
end Go.Proofs.YtckkpolikdnilaaGreatDoor
/- elenchusref01's digit functions, said of numbers. -/
namespace Go.Proofs.YtckkpolikdnilaaGreatDoor
open Go.RowKit Big
theorem rplusN_any (v0 v1 : Value) (x y : Nat) (w : World) (h0 : At w .i64 v0 (dig D x)) (h1 : At w .i64 v1 (dig D y)) (k0 : sz D x ≤ 4398046511104) (k1 : sz D y ≤ 4398046511104) :
    Calls Tryz.prog 90 #[v0, v1] w (RAt .i64 (dig D (x + y)) w) := by
  have := rplus_any v0 v1 _ _ w h0 h1 (small_dig D2 _) (small_dig D2 _) k0 k1
  rwa [val_dig D2, val_dig D2] at this
theorem rlessN_any (v0 v1 : Value) (x y : Nat) (w : World) (h0 : At w .i64 v0 (dig D x)) (h1 : At w .i64 v1 (dig D y)) (k0 : sz D x ≤ 4398046511104) (hyx : y ≤ x) :
    Calls Tryz.prog 92 #[v0, v1] w (RAt .i64 (dig D (x - y)) w) := by
  have := rless_any v0 v1 _ _ w h0 h1 (small_dig D2 _) (small_dig D2 _) k0 (sz_mono D2 hyx) (by rw [val_dig D2, val_dig D2]; exact hyx)
  rwa [val_dig D2, val_dig D2] at this
theorem FromN_any (v : Value) (x : Nat) (w : World) (h : At w .i64 v (dig D x)) (k : sz D x ≤ 8796093022208) :
    Calls Tryz.prog 60 #[v] w (RAt .u64 (dig W x) w) := by
  have := From_any v _ w h (small_dig D2 _) k
  rwa [val_dig D2] at this
theorem WholeN_any (neg : Bool) (v : Value) (x : Nat) (w : World) (h : At w .u64 v (dig W x)) (k : sz W x ≤ 2199023255552) :
    Calls Tryz.prog 40 #[.bool neg, v] w (RInt (sg neg x) w) := by
  have := Whole_any neg v _ w h (small_dig W2 _) k
  rwa [val_dig W2] at this
end Go.Proofs.YtckkpolikdnilaaGreatDoor
/- elenchusref01.Neg, Add. -/
namespace Go.Proofs.YtckkpolikdnilaaGreatDoor
open Go.RowKit Big

set_option maxRecDepth 100000 in
set_option maxHeartbeats 3200000 in
theorem RAdd_any (v0 v1 : Value) (a b : Int) (w : World) (h0 : RawAt w v0 a) (h1 : RawAt w v1 b) : Calls Tryz.prog 63 #[v0, v1] w (RInt (a + b) w) := by
  obtain ⟨n0, s0, l0, rfl, a0, b0, c0, rfl⟩ := h0
  obtain ⟨n1, s1, l1, rfl, a1, b1, c1, rfl⟩ := h1
  have g0 : ∀ W', Below w.heap.size w W' → Calls Tryz.prog 61 #[s0] W' (RAt .i64 (dig D (val W l0)) W') := fun W' hb => Digits_any s0 l0 W' (a0.below hb) b0 (by omega)
  have g1 : ∀ W', Below w.heap.size w W' → Calls Tryz.prog 61 #[s1] W' (RAt .i64 (dig D (val W l1)) W') := fun W' hb => Digits_any s1 l1 W' (a1.below hb) b1 (by omega)
  have go : ∀ W', Below w.heap.size w W' → Calls Tryz.prog 91 #[s0, s1] W' (RNum .i64 (ord (val W l0) (val W l1)) W') := fun W' hb => order_any s0 s1 l0 l1 W' (a0.below hb) (a1.below hb) b0 b1 c0 c1
  have m0 : sz W (val W l0) ≤ 1099511627776 := Nat.le_trans (sz_val W2 b0) c0
  have m1 : sz W (val W l1) ≤ 1099511627776 := Nat.le_trans (sz_val W2 b1) c1
  have G0 := hid g0; have G1 := hid g1; have GO := hid go
  obtain ⟨r, hr⟩ : ∃ r, r = sg n0 (val W l0) + sg n1 (val W l1) := ⟨_, rfl⟩
  rw [← hr]
  have Hr := hid hr
  clear hr g0 g1 go a0 a1 b0 b1 c0 c1
  generalize val W l0 = x at *
  generalize val W l1 = y at *
  have k0 : sz D x ≤ 4398046511104 := Nat.le_trans (sz4 x) (by omega)
  have k1 : sz D y ≤ 4398046511104 := Nat.le_trans (sz4 y) (by omega)
  by_cases hn : n0 = n1
  · subst hn
    have Hs : Hid (sg n0 (x + y) = r) := by unfold Hid; rw [sg_add_same, Hr.out]
    have mw : sz W (x + y) ≤ 2199023255552 := Nat.le_trans (sz_add W2 m0 m1) (by omega)
    have ks : sz D (x + y) ≤ 8796093022208 := Nat.le_trans (sz4 _) (by omega)
    go_enter Tryz.func63, Tryz.ntmps63
    go_wp2_with fail
    generalize hW : World.alloc (World.alloc (World.alloc w _) _) _ = W3
    have bw : Below w.heap.size w W3 := by rw [← hW]; exact ((below1 _ _).alloc (by simp) _).alloc (by simp; omega) _
    have hp : Pair W3 (w.heap.size + 1 + 1) 44 := by rw [← hW]; exact Pair.new2 ..
    obtain ⟨c00, c01, c10, c11, -⟩ : Two W3 w.heap.size (.bool n0) s0 (.bool n0) s1 := by rw [← hW]; exact (Two.new w _ _ _ _ _).below (below1 _ _)
    have z3 : w.heap.size + 3 ≤ W3.heap.size := by rw [← hW]; simp
    have bw' := hid bw
    clear hW bw
    go_region_held3 (fun w' => w'.cell? ⟨w.heap.size, 0, none⟩ = some (.bool n0) ∧ w'.cell? ⟨w.heap.size, 1, none⟩ = some s0 ∧ w'.cell? ⟨w.heap.size + 1, 0, none⟩ = some (.bool n0) ∧ w'.cell? ⟨w.heap.size + 1, 1, none⟩ = some s1 ∧ Pair w' (w.heap.size + 1 + 1) 44)
      (first | (go_split_ands; (try dsimp only); (repeat' apply And.intro) <;> first | assumption | exact Pair.drew ‹_› | exact Pair.below ‹_› hb9 | exact Pair.below ‹_› hb8 | exact Pair.below ‹_› hb7 | exact Pair.below ‹_› hb6 | exact Pair.below ‹_› hb5 | exact Pair.below ‹_› hb4 | exact Pair.below ‹_› hb3 | exact Pair.below ‹_› hb2 | exact Pair.below ‹_› hb1 | exact (hb9.cell (by first | omega | (simp; omega) | (simp; done))).trans ‹_› | exact (hb8.cell (by first | omega | (simp; omega) | (simp; done))).trans ‹_› | exact (hb7.cell (by first | omega | (simp; omega) | (simp; done))).trans ‹_› | exact (hb6.cell (by first | omega | (simp; omega) | (simp; done))).trans ‹_› | exact (hb5.cell (by first | omega | (simp; omega) | (simp; done))).trans ‹_› | exact (hb4.cell (by first | omega | (simp; omega) | (simp; done))).trans ‹_› | exact (hb3.cell (by first | omega | (simp; omega) | (simp; done))).trans ‹_› | exact (hb2.cell (by first | omega | (simp; omega) | (simp; done))).trans ‹_› | exact (hb1.cell (by first | omega | (simp; omega) | (simp; done))).trans ‹_› | exact Pair.set1 (Pair.set0 ‹_› _) _ _ _ | exact (cell_stored _ (by first | (dsimp only; omega) | (simp; done) | (simp; omega)) _ _).trans ‹_› | exact Pair.drew (Pair.below ‹_› (below1 _ _)) | exact Pair.below ‹_› (below1 _ _) | exact Pair.far ‹_› (by omega) hb1 | exact Pair.new .. | exact Pair.new1 .. | exact Pair.new2 .. | (go_keep; done)) | (go_keep; done))
      (first
        | (go_at_call_of 61 (s0); refine (G0.out _ bw'.out.drew).mono ?_; rintro e w1 ⟨v1, rfl, d1, hb1⟩; have hz1 : w.heap.size + 3 ≤ w1.heap.size := (by have := hb1.size; simp at this; omega))
        | (go_at_call_of 61 (s1); refine (G1.out _ (bw'.out.drew.trans (hb1.mono (B' := w.heap.size) (by simp; omega)))).mono ?_; rintro e w2 ⟨v2, rfl, d2, hb2⟩; have d1' := d1.below hb2; have hz2 := hb2.size)
        | (go_at_call 90; refine (rplusN_any v1 v2 x y _ d1' d2 k0 k1).mono ?_; rintro e w3 ⟨v3, rfl, d3, hb3⟩; have hz3 := hb3.size)
        | (go_at_call 60; refine (FromN_any v3 _ _ d3 ks).mono ?_; rintro e w4 ⟨v4, rfl, d4, hb4⟩; have hz4 := hb4.size)
        | (go_at_call 40; refine (WholeN_any n0 v4 _ _ d4 mw).mono ?_; rintro e w5 ⟨v5, rfl, hi5, hb5⟩; obtain ⟨p5, n5, c5, rfl, hi5⟩ := hi5.shape; have hpr := Pair.below (by go_split_ands; assumption) hb5; obtain ⟨_, _, q0, q1, q2, q3⟩ := hpr.cells))
    go_wp2
    exact bodyPost_ret (v := .agg #[.bool (decide (sg n0 (x + y) < 0)), .slice p5 n5 c5]) (by simp [results, Tryz.results63, go_sem, q0, q1]) rfl
      ⟨_, rfl, by rw [← Hs.out]; exact hi5.stored hpr _ _ _ _, Below.stored (((((bw'.out.drew.trans (hb1.mono (B' := w.heap.size) (by simp; omega))).trans (hb2.mono (B' := w.heap.size) (by omega))).trans (hb3.mono (B' := w.heap.size) (by omega))).trans (hb4.mono (B' := w.heap.size) (by omega))).trans (hb5.mono (B' := w.heap.size) (by omega))) (by omega) _ _⟩
  · have hb : (n0 == n1) = false := beq_eq_false_iff_ne.2 hn
    go_enter Tryz.func63, Tryz.ntmps63
    go_wp2_with fail
    generalize hW : World.alloc (World.alloc (World.alloc w _) _) _ = W3
    have bw : Below w.heap.size w W3 := by rw [← hW]; exact ((below1 _ _).alloc (by simp) _).alloc (by simp; omega) _
    have hp : Pair W3 (w.heap.size + 1 + 1) 44 := by rw [← hW]; exact Pair.new2 ..
    obtain ⟨c00, c01, c10, c11, -⟩ : Two W3 w.heap.size (.bool n0) s0 (.bool n1) s1 := by rw [← hW]; exact (Two.new w _ _ _ _ _).below (below1 _ _)
    have z3 : w.heap.size + 3 ≤ W3.heap.size := by rw [← hW]; simp
    have bw' := hid bw
    clear hW bw
    by_cases hxy : x < y
    · have Hs : Hid (sg n1 (y - x) = r) := by unfold Hid; rw [sg_add_lt hn hxy, Hr.out]
      have mw : sz W (y - x) ≤ 2199023255552 := Nat.le_trans (sz_mono W2 (by omega)) (Nat.le_trans m1 (by omega))
      have ks : sz D (y - x) ≤ 8796093022208 := Nat.le_trans (sz4 _) (by omega)
      have hc := GO.out W3 bw'.out
      rw [ord_lt (by omega)] at hc
      have Hc := hid hc
      clear hc
      refine Hc.out.mono ?_
      rintro e W4 ⟨rfl, hb0⟩
      have hz0 := hb0.size
      have e00 := (hb0.cell (p := ⟨w.heap.size, 0, none⟩) (by show w.heap.size < _; omega)).trans c00
      have e01 := (hb0.cell (p := ⟨w.heap.size, 1, none⟩) (by show w.heap.size < _; omega)).trans c01
      have e10 := (hb0.cell (p := ⟨w.heap.size + 1, 0, none⟩) (by show w.heap.size + 1 < _; omega)).trans c10
      have e11 := (hb0.cell (p := ⟨w.heap.size + 1, 1, none⟩) (by show w.heap.size + 1 < _; omega)).trans c11
      have hp4 := hp.below hb0
      have bw4 := hid (bw'.out.trans (hb0.mono (B' := w.heap.size) (by omega)))
      clear c00 c01 c10 c11 hp hb0
      go_wp2_with fail
      go_region_held3 (fun w' => w'.cell? ⟨w.heap.size, 0, none⟩ = some (.bool n0) ∧ w'.cell? ⟨w.heap.size, 1, none⟩ = some s0 ∧ w'.cell? ⟨w.heap.size + 1, 0, none⟩ = some (.bool n1) ∧ w'.cell? ⟨w.heap.size + 1, 1, none⟩ = some s1 ∧ Pair w' (w.heap.size + 1 + 1) 44)
        (first | (go_split_ands; (try dsimp only); (repeat' apply And.intro) <;> first | assumption | exact Pair.drew ‹_› | exact Pair.below ‹_› hb9 | exact Pair.below ‹_› hb8 | exact Pair.below ‹_› hb7 | exact Pair.below ‹_› hb6 | exact Pair.below ‹_› hb5 | exact Pair.below ‹_› hb4 | exact Pair.below ‹_› hb3 | exact Pair.below ‹_› hb2 | exact Pair.below ‹_› hb1 | exact (hb9.cell (by first | omega | (simp; omega) | (simp; done))).trans ‹_› | exact (hb8.cell (by first | omega | (simp; omega) | (simp; done))).trans ‹_› | exact (hb7.cell (by first | omega | (simp; omega) | (simp; done))).trans ‹_› | exact (hb6.cell (by first | omega | (simp; omega) | (simp; done))).trans ‹_› | exact (hb5.cell (by first | omega | (simp; omega) | (simp; done))).trans ‹_› | exact (hb4.cell (by first | omega | (simp; omega) | (simp; done))).trans ‹_› | exact (hb3.cell (by first | omega | (simp; omega) | (simp; done))).trans ‹_› | exact (hb2.cell (by first | omega | (simp; omega) | (simp; done))).trans ‹_› | exact (hb1.cell (by first | omega | (simp; omega) | (simp; done))).trans ‹_› | exact Pair.set1 (Pair.set0 ‹_› _) _ _ _ | exact (cell_stored _ (by first | (dsimp only; omega) | (simp; done) | (simp; omega)) _ _).trans ‹_› | exact Pair.drew (Pair.below ‹_› (below1 _ _)) | exact Pair.below ‹_› (below1 _ _) | exact Pair.far ‹_› (by omega) hb1 | exact Pair.new .. | exact Pair.new1 .. | exact Pair.new2 .. | (go_keep; done)) | (go_keep; done))
        (first
          | (go_at_call_of 61 (s1); refine (G1.out _ bw4.out.drew).mono ?_; rintro e w1 ⟨v1, rfl, d1, hb1⟩; have hz1 : w.heap.size + 3 ≤ w1.heap.size := (by have := hb1.size; simp at this; omega))
          | (go_at_call_of 61 (s0); refine (G0.out _ (bw4.out.drew.trans (hb1.mono (B' := w.heap.size) (by simp; omega)))).mono ?_; rintro e w2 ⟨v2, rfl, d2, hb2⟩; have d1' := d1.below hb2; have hz2 := hb2.size)
          | (go_at_call 92; refine (rlessN_any v1 v2 y x _ d1' d2 k1 (by omega)).mono ?_; rintro e w3 ⟨v3, rfl, d3, hb3⟩; have hz3 := hb3.size)
          | (go_at_call 60; refine (FromN_any v3 _ _ d3 ks).mono ?_; rintro e w4 ⟨v4, rfl, d4, hb4⟩; have hz4 := hb4.size)
          | (go_at_call 40; refine (WholeN_any n1 v4 _ _ d4 mw).mono ?_; rintro e w5 ⟨v5, rfl, hi5, hb5⟩; obtain ⟨p5, n5, c5, rfl, hi5⟩ := hi5.shape; have hpr := Pair.below (by go_split_ands; assumption) hb5; obtain ⟨_, _, q0, q1, q2, q3⟩ := hpr.cells))
      go_wp2
      exact bodyPost_ret (v := .agg #[.bool (decide (sg n1 (y - x) < 0)), .slice p5 n5 c5]) (by simp [results, Tryz.results63, go_sem, q0, q1]) rfl
        ⟨_, rfl, by rw [← Hs.out]; exact hi5.stored hpr _ _ _ _, Below.stored (((((bw4.out.drew.trans (hb1.mono (B' := w.heap.size) (by simp; omega))).trans (hb2.mono (B' := w.heap.size) (by omega))).trans (hb3.mono (B' := w.heap.size) (by omega))).trans (hb4.mono (B' := w.heap.size) (by omega))).trans (hb5.mono (B' := w.heap.size) (by omega))) (by omega) _ _⟩
    · have Hs : Hid (sg n0 (x - y) = r) := by unfold Hid; rw [sg_add_ge hn hxy, Hr.out]
      have mw : sz W (x - y) ≤ 2199023255552 := Nat.le_trans (sz_mono W2 (by omega)) (Nat.le_trans m0 (by omega))
      have ks : sz D (x - y) ≤ 8796093022208 := Nat.le_trans (sz4 _) (by omega)
      have hc := GO.out W3 bw'.out
      obtain ⟨o, ho, hneg⟩ : ∃ o, o = ord (x : Int) y ∧ 0 ≤ o := ⟨_, rfl, by unfold ord; (repeat' split) <;> omega⟩
      rw [← ho] at hc
      have Hc := hid hc
      clear hc ho
      refine Hc.out.mono ?_
      rintro e W4 ⟨rfl, hb0⟩
      have hz0 := hb0.size
      have e00 := (hb0.cell (p := ⟨w.heap.size, 0, none⟩) (by show w.heap.size < _; omega)).trans c00
      have e01 := (hb0.cell (p := ⟨w.heap.size, 1, none⟩) (by show w.heap.size < _; omega)).trans c01
      have e10 := (hb0.cell (p := ⟨w.heap.size + 1, 0, none⟩) (by show w.heap.size + 1 < _; omega)).trans c10
      have e11 := (hb0.cell (p := ⟨w.heap.size + 1, 1, none⟩) (by show w.heap.size + 1 < _; omega)).trans c11
      have hp4 := hp.below hb0
      have bw4 := hid (bw'.out.trans (hb0.mono (B' := w.heap.size) (by omega)))
      clear c00 c01 c10 c11 hp hb0
      go_wp2_with fail
      go_region_held3 (fun w' => w'.cell? ⟨w.heap.size, 0, none⟩ = some (.bool n0) ∧ w'.cell? ⟨w.heap.size, 1, none⟩ = some s0 ∧ w'.cell? ⟨w.heap.size + 1, 0, none⟩ = some (.bool n1) ∧ w'.cell? ⟨w.heap.size + 1, 1, none⟩ = some s1 ∧ Pair w' (w.heap.size + 1 + 1) 44)
        (first | (go_split_ands; (try dsimp only); (repeat' apply And.intro) <;> first | assumption | exact Pair.drew ‹_› | exact Pair.below ‹_› hb9 | exact Pair.below ‹_› hb8 | exact Pair.below ‹_› hb7 | exact Pair.below ‹_› hb6 | exact Pair.below ‹_› hb5 | exact Pair.below ‹_› hb4 | exact Pair.below ‹_› hb3 | exact Pair.below ‹_› hb2 | exact Pair.below ‹_› hb1 | exact (hb9.cell (by first | omega | (simp; omega) | (simp; done))).trans ‹_› | exact (hb8.cell (by first | omega | (simp; omega) | (simp; done))).trans ‹_› | exact (hb7.cell (by first | omega | (simp; omega) | (simp; done))).trans ‹_› | exact (hb6.cell (by first | omega | (simp; omega) | (simp; done))).trans ‹_› | exact (hb5.cell (by first | omega | (simp; omega) | (simp; done))).trans ‹_› | exact (hb4.cell (by first | omega | (simp; omega) | (simp; done))).trans ‹_› | exact (hb3.cell (by first | omega | (simp; omega) | (simp; done))).trans ‹_› | exact (hb2.cell (by first | omega | (simp; omega) | (simp; done))).trans ‹_› | exact (hb1.cell (by first | omega | (simp; omega) | (simp; done))).trans ‹_› | exact Pair.set1 (Pair.set0 ‹_› _) _ _ _ | exact (cell_stored _ (by first | (dsimp only; omega) | (simp; done) | (simp; omega)) _ _).trans ‹_› | exact Pair.drew (Pair.below ‹_› (below1 _ _)) | exact Pair.below ‹_› (below1 _ _) | exact Pair.far ‹_› (by omega) hb1 | exact Pair.new .. | exact Pair.new1 .. | exact Pair.new2 .. | (go_keep; done)) | (go_keep; done))
        (first
          | (go_at_call_of 61 (s0); refine (G0.out _ bw4.out.drew).mono ?_; rintro e w1 ⟨v1, rfl, d1, hb1⟩; have hz1 : w.heap.size + 3 ≤ w1.heap.size := (by have := hb1.size; simp at this; omega))
          | (go_at_call_of 61 (s1); refine (G1.out _ (bw4.out.drew.trans (hb1.mono (B' := w.heap.size) (by simp; omega)))).mono ?_; rintro e w2 ⟨v2, rfl, d2, hb2⟩; have d1' := d1.below hb2; have hz2 := hb2.size)
          | (go_at_call 92; refine (rlessN_any v1 v2 x y _ d1' d2 k0 (by omega)).mono ?_; rintro e w3 ⟨v3, rfl, d3, hb3⟩; have hz3 := hb3.size)
          | (go_at_call 60; refine (FromN_any v3 _ _ d3 ks).mono ?_; rintro e w4 ⟨v4, rfl, d4, hb4⟩; have hz4 := hb4.size)
          | (go_at_call 40; refine (WholeN_any n0 v4 _ _ d4 mw).mono ?_; rintro e w5 ⟨v5, rfl, hi5, hb5⟩; obtain ⟨p5, n5, c5, rfl, hi5⟩ := hi5.shape; have hpr := Pair.below (by go_split_ands; assumption) hb5; obtain ⟨_, _, q0, q1, q2, q3⟩ := hpr.cells))
      go_wp2
      exact bodyPost_ret (v := .agg #[.bool (decide (sg n0 (x - y) < 0)), .slice p5 n5 c5]) (by simp [results, Tryz.results63, go_sem, q0, q1]) rfl
        ⟨_, rfl, by rw [← Hs.out]; exact hi5.stored hpr _ _ _ _, Below.stored (((((bw4.out.drew.trans (hb1.mono (B' := w.heap.size) (by simp; omega))).trans (hb2.mono (B' := w.heap.size) (by omega))).trans (hb3.mono (B' := w.heap.size) (by omega))).trans (hb4.mono (B' := w.heap.size) (by omega))).trans (hb5.mono (B' := w.heap.size) (by omega))) (by omega) _ _⟩
end Go.Proofs.YtckkpolikdnilaaGreatDoor
/- elenchusref01.Neg, Sub, Sign, Cmp, Of. -/
namespace Go.Proofs.YtckkpolikdnilaaGreatDoor
open Go.RowKit Big

theorem IntAt.raw {w : World} {v : Value} {z : Int} (h : IntAt w v z) (hs : sz W z.natAbs ≤ 1099511627776) : RawAt w v z := by
  obtain ⟨s, rfl, ha⟩ := h
  refine ⟨_, s, _, rfl, ha, small_dig W2 _, hs, ?_⟩
  rw [val_dig W2]
  unfold sg
  by_cases hz : z < 0 <;> simp [hz] <;> omega
theorem RawAt.sz {w : World} {v : Value} {z : Int} (h : RawAt w v z) : Big.sz W z.natAbs ≤ 1099511627776 := by
  obtain ⟨neg, s, l, rfl, ha, hs, hl, rfl⟩ := h
  rw [sg_natAbs]
  exact Nat.le_trans (sz_val W2 hs) hl

set_option maxHeartbeats 800000 in
theorem RNeg_any (v : Value) (z : Int) (w : World) (h : RawAt w v z) : Calls Tryz.prog 64 #[v] w (RInt (-z) w) := by
  obtain ⟨neg, s, l, rfl, ha, hs, hl, rfl⟩ := h
  have g : ∀ o o', Calls Tryz.prog 40 #[.bool (!neg), s] ((w.alloc o).alloc o') (RInt (-sg neg (val W l)) ((w.alloc o).alloc o')) := fun o o' => by
    have := Whole_any (!neg) s l _ ((ha.alloc o).alloc o') hs (by omega)
    rwa [show sg (!neg) (val W l) = -sg neg (val W l) by unfold sg; cases neg <;> simp] at this
  have G := hid g
  generalize -sg neg (val W l) = r at *
  clear g ha hs hl
  go_enter Tryz.func64, Tryz.ntmps64
  go_wp2_with fail
  refine (G.out _ _).mono ?_
  rintro e w2 ⟨v2, rfl, hi2, hb2⟩
  obtain ⟨p2, n2, c2, rfl, hi2⟩ := hi2.shape
  have hpr : Pair w2 (w.heap.size + 1) 44 := Pair.below (Pair.new1 ..) hb2
  obtain ⟨_, _, q0, q1, q2, q3⟩ := hpr.cells
  have bw : Below w.heap.size w w2 := ((below1 _ _).alloc (by simp) _).trans (hb2.mono (B' := w.heap.size) (by simp; omega))
  have Hi := hid hi2
  clear hb2 hi2
  go_wp2
  exact bodyPost_ret (v := .agg #[.bool (decide (r < 0)), .slice p2 n2 c2]) (by simp [results, Tryz.results64, go_sem, q0, q1]) rfl
    ⟨_, rfl, Hi.out.stored hpr _ _ _ _, Below.stored bw (by omega) _ _⟩

set_option maxHeartbeats 1600000 in
set_option maxRecDepth 100000 in
theorem RSub_any (v0 v1 : Value) (a b : Int) (w : World) (h0 : RawAt w v0 a) (h1 : RawAt w v1 b) : Calls Tryz.prog 44 #[v0, v1] w (RInt (a - b) w) := by
  have g1 : ∀ W', Below w.heap.size w W' → Calls Tryz.prog 64 #[v1] W' (RInt (-b) W') := fun W' hb => RNeg_any v1 b W' (h1.below hb)
  have g2 : ∀ W' v, Below w.heap.size w W' → IntAt W' v (-b) → Calls Tryz.prog 63 #[v0, v] W' (RInt (a - b) W') := fun W' v hb hv => by
    have := RAdd_any v0 v a (-b) W' (h0.below hb) (hv.raw (by rw [Int.natAbs_neg]; exact h1.sz))
    rwa [show a + -b = a - b by omega] at this
  have G1 := hid g1; have G2 := hid g2
  obtain ⟨n0, s0, l0, rfl, a0, -⟩ := id h0
  obtain ⟨n1, s1, l1, rfl, a1, -⟩ := id h1
  obtain ⟨p0, c0, rfl, -⟩ := a0
  obtain ⟨p1, c1, rfl, -⟩ := a1
  generalize a - b = r at *
  clear g1 g2 h0 h1
  generalize -b = nb at *
  go_enter Tryz.func44, Tryz.ntmps44
  go_wp2_with fail
  generalize hW : World.alloc (World.alloc (World.alloc w _) _) _ = W3
  have bw : Below w.heap.size w W3 := by rw [← hW]; exact ((below1 _ _).alloc (by simp) _).alloc (by simp; omega) _
  have hp : Pair W3 (w.heap.size + 1 + 1) 44 := by rw [← hW]; exact Pair.new2 ..
  obtain ⟨c00, c01, c10, c11, -⟩ : Two W3 w.heap.size (.bool n0) (.slice p0 l0.length c0) (.bool n1) (.slice p1 l1.length c1) := by rw [← hW]; exact (Two.new w _ _ _ _ _).below (below1 _ _)
  have z3 : w.heap.size + 3 ≤ W3.heap.size := by rw [← hW]; simp
  have bw' := hid bw
  clear hW bw
  go_region_held3 (fun w' => w'.cell? ⟨w.heap.size, 0, none⟩ = some (.bool n0) ∧ w'.cell? ⟨w.heap.size, 1, none⟩ = some (.slice p0 l0.length c0) ∧ w'.cell? ⟨w.heap.size + 1, 0, none⟩ = some (.bool n1) ∧ w'.cell? ⟨w.heap.size + 1, 1, none⟩ = some (.slice p1 l1.length c1) ∧ Pair w' (w.heap.size + 1 + 1) 44)
    (first | (go_split_ands; (try dsimp only); (repeat' apply And.intro) <;> first | assumption | exact Pair.drew ‹_› | exact Pair.below ‹_› hb9 | exact Pair.below ‹_› hb8 | exact Pair.below ‹_› hb7 | exact Pair.below ‹_› hb6 | exact Pair.below ‹_› hb5 | exact Pair.below ‹_› hb4 | exact Pair.below ‹_› hb3 | exact Pair.below ‹_› hb2 | exact Pair.below ‹_› hb1 | exact (hb9.cell (by first | omega | (simp; omega) | (simp; done))).trans ‹_› | exact (hb8.cell (by first | omega | (simp; omega) | (simp; done))).trans ‹_› | exact (hb7.cell (by first | omega | (simp; omega) | (simp; done))).trans ‹_› | exact (hb6.cell (by first | omega | (simp; omega) | (simp; done))).trans ‹_› | exact (hb5.cell (by first | omega | (simp; omega) | (simp; done))).trans ‹_› | exact (hb4.cell (by first | omega | (simp; omega) | (simp; done))).trans ‹_› | exact (hb3.cell (by first | omega | (simp; omega) | (simp; done))).trans ‹_› | exact (hb2.cell (by first | omega | (simp; omega) | (simp; done))).trans ‹_› | exact (hb1.cell (by first | omega | (simp; omega) | (simp; done))).trans ‹_› | exact Pair.set1 (Pair.set0 ‹_› _) _ _ _ | exact (cell_stored _ (by first | (dsimp only; omega) | (simp; done) | (simp; omega)) _ _).trans ‹_› | exact Pair.drew (Pair.below ‹_› (below1 _ _)) | exact Pair.below ‹_› (below1 _ _) | exact Pair.far ‹_› (by omega) hb1 | exact Pair.new .. | exact Pair.new1 .. | exact Pair.new2 .. | (go_keep; done)) | (go_keep; done))
    (first
      | (go_at_call 64; refine (G1.out _ bw'.out.drew).mono ?_; rintro e w1 ⟨v1, rfl, hi1, hb1⟩; have hz1 : w.heap.size + 3 ≤ w1.heap.size := (by have := hb1.size; simp at this; omega); obtain ⟨p3, n3, c3, rfl, hi1⟩ := hi1.shape)
      | (go_at_call 63; refine (G2.out _ _ (bw'.out.drew.trans (hb1.mono (B' := w.heap.size) (by simp; omega))) hi1).mono ?_; rintro e w2 ⟨v2, rfl, hi2, hb2⟩; obtain ⟨p2, n2, c2, rfl, hi2⟩ := hi2.shape; have hpr := Pair.below (by go_split_ands; assumption) hb2; obtain ⟨_, _, q0, q1, q2, q3⟩ := hpr.cells))
  go_wp2
  exact bodyPost_ret (v := .agg #[.bool (decide (r < 0)), .slice p2 n2 c2]) (by simp [results, Tryz.results44, go_sem, q0, q1]) rfl
    ⟨_, rfl, hi2.stored hpr _ _ _ _, Below.stored ((bw'.out.drew.trans (hb1.mono (B' := w.heap.size) (by simp; omega))).trans (hb2.mono (B' := w.heap.size) (by omega))) (by omega) _ _⟩
end Go.Proofs.YtckkpolikdnilaaGreatDoor
/- elenchusref01.Sign, Cmp, Of. -/
namespace Go.Proofs.YtckkpolikdnilaaGreatDoor
open Go.RowKit Big

set_option maxHeartbeats 800000 in
theorem RSign_any (v : Value) (z : Int) (w : World) (h : RawAt w v z) : Calls Tryz.prog 26 #[v] w (RNum .i64 z.sign w) := by
  obtain ⟨neg, s, l, rfl, ha, hs, hl, hz⟩ := h
  have g : ∀ o, Calls Tryz.prog 40 #[.bool neg, s] (w.alloc o) (RInt z (w.alloc o)) := fun o => by
    rw [hz]; exact Whole_any neg s l _ (ha.alloc o) hs (by omega)
  have G := hid g
  clear g hs hl hz
  obtain ⟨p, c, rfl, -⟩ := ha
  go_enter Tryz.func26, Tryz.ntmps26
  go_wp2_with fail
  refine (G.out _).mono ?_
  rintro e w2 ⟨v2, rfl, ⟨s2, rfl, hi2⟩, hb2⟩
  have hlen := sz_eq_zero (n := z.natAbs) W2
  unfold sz at hlen
  obtain ⟨p2, c2, rfl, -⟩ := hi2
  have hpr : Pair w2 w.heap.size 44 := Pair.below (Pair.new ..) hb2
  obtain ⟨_, _, q0, q1, q2, q3⟩ := hpr.cells
  have bw : Below w.heap.size w w2 := (below1 _ _).trans (hb2.mono (B' := w.heap.size) (by simp))
  clear hb2 hpr
  rcases Int.lt_trichotomy z 0 with hz | hz | hz
  · have hs : Hid (z.sign = -1) := Int.sign_eq_neg_one_of_neg hz
    clear hlen
    go_wp2
    go_ret
    exact ⟨by rw [hs.out]; rfl, Below.stored bw (by omega) _ _⟩
  · subst hz
    have hs : Hid ((0 : Int).sign = 0) := rfl
    have h0 : (dig W (0 : Int).natAbs).length = 0 := rfl
    rw [h0]
    clear hlen h0
    go_wp2
    go_ret
    exact ⟨by rw [hs.out]; rfl, Below.stored bw (by omega) _ _⟩
  · have hs : Hid (z.sign = 1) := Int.sign_eq_one_of_pos hz
    have hneg : ¬ z < 0 := by omega
    obtain ⟨n, hn⟩ : ∃ n, n = (dig W z.natAbs).length := ⟨_, rfl⟩
    rw [← hn] at hlen ⊢
    have hn0 : ((n : Int) == 0) = false := beq_eq_false_iff_ne.2 (by omega)
    clear hlen hn
    go_wp2
    go_ret
    exact ⟨by rw [hs.out]; rfl, Below.stored bw (by omega) _ _⟩

theorem ord_sub (a b : Int) : (a - b).sign = ord a b := by
  rcases Int.lt_trichotomy a b with h | h | h
  · rw [ord_lt h, Int.sign_eq_neg_one_of_neg (by omega)]
  · subst h; rw [ord_eq]; simp
  · rw [ord_gt h, Int.sign_eq_one_of_pos (by omega)]

theorem sz_sub (a b : Int) (ha : sz W a.natAbs ≤ 549755813888) (hb : sz W b.natAbs ≤ 549755813888) : sz W (a - b).natAbs ≤ 1099511627776 :=
  Nat.le_trans (sz_mono W2 (by omega : (a - b).natAbs ≤ a.natAbs + b.natAbs)) (Nat.le_trans (sz_add W2 ha hb) (by omega))

set_option maxHeartbeats 800000 in
theorem RCmp_any (v0 v1 : Value) (a b : Int) (w : World) (h0 : RawAt w v0 a) (h1 : RawAt w v1 b) (ha : sz W a.natAbs ≤ 549755813888) (hb : sz W b.natAbs ≤ 549755813888) :
    Calls Tryz.prog 38 #[v0, v1] w (RNum .i64 (ord a b) w) := by
  have hsz := sz_sub a b ha hb
  have g1 : ∀ W', Below w.heap.size w W' → Calls Tryz.prog 44 #[v0, v1] W' (RInt (a - b) W') := fun W' hb => RSub_any v0 v1 a b W' (h0.below hb) (h1.below hb)
  have g2 : ∀ W' v, IntAt W' v (a - b) → Calls Tryz.prog 26 #[v] W' (RNum .i64 (ord a b) W') := fun W' v hv => by
    have := RSign_any v _ W' (hv.raw hsz)
    rwa [ord_sub] at this
  have G1 := hid g1; have G2 := hid g2
  obtain ⟨n0, s0, l0, rfl, a0, -⟩ := id h0
  obtain ⟨n1, s1, l1, rfl, a1, -⟩ := id h1
  clear g1 g2 hsz h0 h1 a0 a1
  generalize a - b = d at *
  generalize ord a b = r at *
  go_enter Tryz.func38, Tryz.ntmps38
  go_wp2_with fail
  refine (G1.out _ ((below1 _ _).alloc (by simp) _)).mono ?_
  rintro e w1 ⟨v1, rfl, hi1, hb1⟩
  go_wp2_with fail
  refine (G2.out _ _ hi1).mono ?_
  rintro e w2 ⟨rfl, hb2⟩
  go_wp2_with fail
  go_ret
  exact ⟨rfl, (((below1 _ _).alloc (by simp) _).trans (hb1.mono (B' := w.heap.size) (by simp; omega))).trans (hb2.mono (B' := w.heap.size) (by have := hb1.size; simp at this; omega))⟩
theorem small_one {x : Nat} (h : x < W) : Small W [x] := small_cons h (small_nil W)

theorem At.one1 (w : World) (o : Obj) (k : IntKind) (x : Nat) (t : TypeId) : At ((w.alloc o).alloc (.cells #[.int k (x : Nat)] t)) k (.slice (some ⟨w.heap.size + 1, 0, none⟩) 1 1) [x] := by
  have := At.one (w.alloc o) k x t
  rwa [size_alloc] at this
theorem sz_word {n : Nat} (h : n < W) : sz W n ≤ 1 := sz_le_of_lt W2 (by rwa [Nat.pow_one])

set_option maxHeartbeats 1600000 in
theorem ROf_any (z : Int) (w : World) (h0 : -9223372036854775808 ≤ z) (h1 : z ≤ 9223372036854775807) : Calls Tryz.prog 22 #[.int .i64 z] w (RInt z w) := by
  by_cases hz : z < 0
  · obtain ⟨n, hn⟩ : ∃ n : Nat, z = -(n : Int) - 1 := ⟨(-z - 1).toNat, by omega⟩
    have hnW : n < W := by unfold W; omega
    have hn' : n ≤ 9223372036854775807 := by omega
    subst hn
    clear h0 h1
    have hsz : sz W (sg true n).natAbs ≤ 1099511627776 := by rw [sg_natAbs]; exact Nat.le_trans (sz_word hnW) (by omega)
    have hsz1 : sz W (sg false 1).natAbs ≤ 1099511627776 := by rw [sg_natAbs]; exact Nat.le_trans (sz_word (by decide)) (by omega)
    have g1 : ∀ o o', Calls Tryz.prog 40 #[.bool true, .slice (some ⟨w.heap.size + 1, 0, none⟩) 1 1] ((w.alloc o).alloc (.cells #[.int .u64 (n : Nat)] o')) (RInt (sg true n) ((w.alloc o).alloc (.cells #[.int .u64 (n : Nat)] o'))) := fun o o' => by
      have := Whole_any true _ [n] _ (At.one1 w o .u64 n o') (small_one hnW) (by simp)
      rwa [show val W [n] = n by simp [val]] at this
    have g2 : ∀ W' o', Calls Tryz.prog 40 #[.bool false, .slice (some ⟨World.heap W' |>.size, 0, none⟩) 1 1] (W'.alloc (.cells #[.int .u64 1] o')) (RInt (sg false 1) (W'.alloc (.cells #[.int .u64 1] o'))) := fun W' o' => by
      have := Whole_any false _ [1] _ (At.oneI W' .u64 1 1 o' rfl) (small_one (by decide)) (by simp)
      rwa [show val W [1] = 1 by simp [val]] at this
    have g3 : ∀ W' v v', IntAt W' v (sg true n) → IntAt W' v' (sg false 1) → Calls Tryz.prog 44 #[v, v'] W' (RInt (-(n : Int) - 1) W') := fun W' v v' h h' => by
      have := RSub_any v v' _ _ W' (h.raw hsz) (h'.raw hsz1)
      rwa [show sg true n - sg false 1 = -(n : Int) - 1 by simp [sg]] at this
    have G1 := hid g1; have G2 := hid g2; have G3 := hid g3
    clear g1 g2 g3 hsz hsz1
    obtain ⟨r, hr⟩ : ∃ r, r = -(n : Int) - 1 := ⟨_, rfl⟩
    have G3' : Hid (∀ W' v v', IntAt W' v (sg true n) → IntAt W' v' (sg false 1) → Calls Tryz.prog 44 #[v, v'] W' (RInt r W')) := by rw [hr]; exact G3
    have G4 : Hid (∀ e w', RInt r w e w' → RInt (-(n : Int) - 1) w e w') := by rw [hr]; exact fun _ _ h => h
    refine Calls.mono ?_ G4.out
    clear hr G3
    generalize sg true n = a at *
    generalize sg false 1 = b at *
    go_enter Tryz.func22, Tryz.ntmps22
    go_wp2_with fail
    refine (G1.out _ _).mono ?_
    rintro e w1 ⟨v1, rfl, hi1, hb1⟩
    go_wp2_with fail
    refine (G2.out _ _).mono ?_
    rintro e w2 ⟨v2, rfl, hi2, hb2⟩
    have hi1' := hi1.below ((below1 _ _).trans (hb2.mono (B' := w1.heap.size) (by simp)))
    go_wp2_with fail
    refine (G3'.out _ _ _ hi1' hi2).mono ?_
    rintro e w3 ⟨v3, rfl, hi3, hb3⟩
    obtain ⟨p3, n3, c3, rfl, hi3⟩ := hi3.shape
    have z1 : w.heap.size + 2 ≤ w1.heap.size := by have := hb1.size; simp at this; omega
    have z2 : w.heap.size + 3 ≤ w2.heap.size := by have := hb2.size; simp at this; omega
    have b12 : Below w1.heap.size w1 w2 := (below1 _ _).trans (hb2.mono (B' := w1.heap.size) (by simp))
    have hpr : Pair w3 w.heap.size 44 := Pair.below (Pair.below (Pair.below (Pair.below (Pair.new ..) (below1 _ _)) hb1) b12) hb3
    obtain ⟨_, _, q0, q1, q2, q3⟩ := hpr.cells
    have bw : Below w.heap.size w w3 := ((((below1 _ _).alloc (by simp) _).trans (hb1.mono (B' := w.heap.size) (by simp; omega))).trans (b12.mono (B' := w.heap.size) (by omega))).trans (hb3.mono (B' := w.heap.size) (by omega))
    have Hi := hid hi3
    clear hb1 hb2 hb3 b12 hi1 hi1' hi2 hi3
    go_wp2
    exact bodyPost_ret (v := .agg #[.bool (decide (r < 0)), .slice p3 n3 c3]) (by simp [results, Tryz.results22, go_sem, q0, q1]) rfl
      ⟨_, rfl, Hi.out.stored hpr _ _ _ _, Below.stored bw (by omega) _ _⟩
  · obtain ⟨n, hn⟩ : ∃ n : Nat, z = (n : Int) := ⟨z.natAbs, by omega⟩
    subst hn
    have hnW : n < W := by unfold W; omega
    have g1 : ∀ o o', Calls Tryz.prog 40 #[.bool false, .slice (some ⟨w.heap.size + 1, 0, none⟩) 1 1] ((w.alloc o).alloc (.cells #[.int .u64 (n : Nat)] o')) (RInt (n : Int) ((w.alloc o).alloc (.cells #[.int .u64 (n : Nat)] o'))) := fun o o' => by
      have := Whole_any false _ [n] _ (At.one1 w o .u64 n o') (small_one hnW) (by simp)
      rwa [show sg false (val W [n]) = (n : Int) by simp [val, sg]] at this
    have G1 := hid g1
    clear g1
    go_enter Tryz.func22, Tryz.ntmps22
    go_wp2_with fail
    refine (G1.out _ _).mono ?_
    rintro e w1 ⟨v1, rfl, hi1, hb1⟩
    obtain ⟨p3, n3, c3, rfl, hi1⟩ := hi1.shape
    have z1 : w.heap.size + 2 ≤ w1.heap.size := by have := hb1.size; simp at this; omega
    have hpr : Pair w1 w.heap.size 44 := Pair.below (Pair.below (Pair.new ..) (below1 _ _)) hb1
    obtain ⟨_, _, q0, q1, q2, q3⟩ := hpr.cells
    have bw : Below w.heap.size w w1 := ((below1 _ _).alloc (by simp) _).trans (hb1.mono (B' := w.heap.size) (by simp; omega))
    have Hi := hid hi1
    clear hb1 hi1
    go_wp2
    exact bodyPost_ret (v := .agg #[.bool (decide ((n : Int) < 0)), .slice p3 n3 c3]) (by simp [results, Tryz.results22, go_sem, q0, q1]) rfl
      ⟨_, rfl, Hi.out.stored hpr _ _ _ _, Below.stored bw (by omega) _ _⟩
end Go.Proofs.YtckkpolikdnilaaGreatDoor
/- A region that draws its order, walked operation by operation under an invariant that speaks of what has come up: no branching over the orders. -/
namespace Go.Proofs.YtckkpolikdnilaaGreatDoor

theorem count_false_set (l : List Bool) (i : Nat) (h : i < l.length) (hf : l[i] = false) : (l.set i true).count false + 1 = l.count false := by
  induction l generalizing i with
  | nil => simp at h
  | cons b l ih =>
    cases i with
    | zero => simp at hf; subst hf; simp
    | succ i =>
      have := ih i (by simpa using h) (by simpa using hf)
      cases b <;> simp [List.set_cons_succ] <;> omega

/-- edges lead to lower numbers -/
def edgesDown (md : Region.Mode) (ops : Array Oper) : Bool := (List.range ops.size).all fun i => (ops[i]?).all fun o => o.after.all fun e => !Region.binds md e || decide (e.on < i)

theorem all_listed {md : Region.Mode} {ops : Array Oper} (hd : edgesDown md ops = true) {listed : Array Bool} (hs : listed.size = ops.size) (hr : Region.ready md ops listed = []) : ∀ i, i < ops.size → listed.getD i true = true := by
  intro i
  induction i using Nat.strongRecOn with
  | _ i ih =>
    intro hi
    cases hun : listed.getD i true with
    | true => rfl
    | false =>
    have : i ∈ Region.ready md ops listed := mem_ready.2 ⟨hun, ops[i], by simp [hi], fun e he hb => by
      have h1 := List.all_eq_true.1 hd i (by simpa using hi)
      have h2 : ops[i]? = some ops[i] := by simp [hi]
      rw [h2] at h1
      simp only [Option.all_some, Array.all_eq_true_iff_forall_mem] at h1
      have hlt : e.on < i := by simpa [hb] using h1 e he
      have h4 := ih e.on hlt (by omega)
      have h5 : e.on < listed.size := by omega
      simpa [Array.getD, h5] using h4⟩
    rw [hr] at this; cases this

theorem wpAny_inv {P : Program} {ops : Array Oper} {Q : Exit → Act → World → Prop} {md : Region.Mode} (I : Array Bool → Act → World → Prop) (hd : edgesDown md ops = true)
    (hstep : ∀ listed a w, listed.size = ops.size → I listed a w → ∀ i, i ∈ Region.ready md ops listed → wpOp P ops Q i (fun a' w' => I (listed.setIfInBounds i true) a' w') a w)
    (hend : ∀ listed a w, listed.size = ops.size → I listed a w → (∀ i, i < ops.size → listed.getD i true = true) → Q .normal a w) :
    ∀ (fuel : Nat) (listed : Array Bool) (a : Act) (w : World), listed.size = ops.size → listed.toList.count false ≤ fuel → I listed a w → wpAny P md ops Q fuel listed a w := by
  intro fuel
  induction fuel with
  | zero =>
    intro listed a w hs hc hI
    have hr : Region.ready md ops listed = [] := by
      cases hr : Region.ready md ops listed with
      | nil => rfl
      | cons i is =>
        have hm : i ∈ Region.ready md ops listed := by rw [hr]; simp
        obtain ⟨hun, o, ho, -⟩ := mem_ready.1 hm
        have hi : i < listed.size := by rw [hs]; exact (Array.getElem?_eq_some_iff.1 ho).1
        have hmem : false ∈ listed.toList := by
          have : listed[i] = false := by simpa [Array.getD, hi] using hun
          rw [← this]; simp
        have := List.count_pos_iff.2 hmem
        omega
    exact ⟨hr, hend _ _ _ hs hI (all_listed hd hs hr)⟩
  | succ fuel ih =>
    intro listed a w hs hc hI
    refine ⟨fun hr => hend _ _ _ hs hI (all_listed hd hs hr), fun i hi => ?_⟩
    obtain ⟨hun, o, ho, -⟩ := mem_ready.1 hi
    have hil : i < listed.size := by rw [hs]; exact (Array.getElem?_eq_some_iff.1 ho).1
    have hf : listed.toList[i] = false := by simpa [Array.getD, hil] using hun
    have hcount := count_false_set listed.toList i (by simpa using hil) hf
    refine wpOp_mono (fun a' w' h => ih _ a' w' (by simpa using hs) ?_ h) (hstep listed a w hs hI i hi)
    simp only [Array.toList_setIfInBounds]
    omega

/-- The invariant rule at a region: it holds at the beginning with nothing listed. -/
theorem wp_region_inv {P : Program} {ops : Array Oper} {Q : Exit → Act → World → Prop} {id : Nat} {a : Act} {w : World} (I : Array Bool → Act → World → Prop) (hm : P.follows .mixedOrders = true) (hd : edgesDown .any ops = true)
    (h0 : I (Array.replicate ops.size false) a w.drew)
    (hstep : ∀ i o, ops[i]? = some o → ∀ listed a w, listed.size = ops.size → I listed a w → listed.getD i true = false → (∀ e ∈ o.after, Region.binds .any e = true → listed.getD e.on false = true) →
      ∀ K : Act → World → Prop, Shut (∀ a w, I (listed.setIfInBounds i true) a w → K a w) → if Region.wanted o (yielded ops a.tmps) = true then Oper.wp P o a w K Q else K (a.put o.dst undef) w)
    (hend : ∀ listed a w, listed.size = ops.size → I listed a w → (∀ i, i < ops.size → listed.getD i true = true) → Q .normal a w) : (Code.region id ops true).wp P Q a w := by
  refine wp_region_any hm (wpAny_inv I hd ?_ hend ops.size _ a w.drew (by simp) (by simp) h0)
  intro listed a w hs hI i hi
  obtain ⟨hun, o, ho, hall⟩ := mem_ready.1 hi
  exact wpOp_step ho (fun K hK => hstep i o ho listed a w hs hI hun hall K hK)

/-- six slots set -/
def put6 (a : Act) (d1 d2 d3 d4 d5 d6 : Tmp) (v1 v2 v3 v4 v5 v6 : Value) : Act := (((((a.put (some d1) v1).put (some d2) v2).put (some d3) v3).put (some d4) v4).put (some d5) v5).put (some d6) v6
/-- the rule with six slots that vary -/
theorem wp_region_inv6 {P : Program} {ops : Array Oper} {Q : Exit → Act → World → Prop} {id : Nat} {a0 : Act} {w : World} (d1 d2 d3 d4 d5 d6 : Tmp) (v1 v2 v3 v4 v5 v6 : Value)
    (J : Array Bool → Value → Value → Value → Value → Value → Value → World → Prop) (hm : P.follows .mixedOrders = true) (hd : edgesDown .any ops = true)
    (he : a0 = put6 a0 d1 d2 d3 d4 d5 d6 v1 v2 v3 v4 v5 v6) (h0 : J (Array.replicate ops.size false) v1 v2 v3 v4 v5 v6 w.drew)
    (hstep : ∀ i o, ops[i]? = some o → ∀ listed s1 s2 s3 s4 s5 s6 w, listed.size = ops.size → J listed s1 s2 s3 s4 s5 s6 w → listed.getD i false = false → (∀ e ∈ o.after, Region.binds .any e = true → listed.getD e.on false = true) →
      ∀ K : Act → World → Prop, Shut (∀ t1 t2 t3 t4 t5 t6 w, J (listed.setIfInBounds i true) t1 t2 t3 t4 t5 t6 w → K (put6 a0 d1 d2 d3 d4 d5 d6 t1 t2 t3 t4 t5 t6) w) →
      if Region.wanted o (yielded ops (put6 a0 d1 d2 d3 d4 d5 d6 s1 s2 s3 s4 s5 s6).tmps) = true then Oper.wp P o (put6 a0 d1 d2 d3 d4 d5 d6 s1 s2 s3 s4 s5 s6) w K Q else K ((put6 a0 d1 d2 d3 d4 d5 d6 s1 s2 s3 s4 s5 s6).put o.dst undef) w)
    (hend : ∀ listed s1 s2 s3 s4 s5 s6 w, listed.size = ops.size → J listed s1 s2 s3 s4 s5 s6 w → (∀ i, i < ops.size → listed.getD i true = true) → Q .normal (put6 a0 d1 d2 d3 d4 d5 d6 s1 s2 s3 s4 s5 s6) w) : (Code.region id ops true).wp P Q a0 w := by
  refine wp_region_inv (fun L a w => ∃ s1 s2 s3 s4 s5 s6, a = put6 a0 d1 d2 d3 d4 d5 d6 s1 s2 s3 s4 s5 s6 ∧ J L s1 s2 s3 s4 s5 s6 w) hm hd ⟨_, _, _, _, _, _, he, h0⟩ ?_ ?_
  · rintro i o ho L a w hs ⟨s1, s2, s3, s4, s5, s6, rfl, hJ⟩ hun hall K hK
    refine hstep i o ho L s1 s2 s3 s4 s5 s6 w hs hJ ?_ hall K (fun t1 t2 t3 t4 t5 t6 w h => hK.out _ _ ⟨_, _, _, _, _, _, rfl, h⟩)
    by_cases hi : i < L.size
    · simpa [Array.getD, hi] using hun
    · simp [Array.getD, hi]
  · rintro L a w hs ⟨s1, s2, s3, s4, s5, s6, rfl, hJ⟩ hall
    exact hend L s1 s2 s3 s4 s5 s6 w hs hJ hall

end Go.Proofs.YtckkpolikdnilaaGreatDoor
/- A region that draws its order: each operation is shown once to give its own fact, which lasts; the stores come last, one by one. -/
namespace Go.Proofs.YtckkpolikdnilaaGreatDoor
open Go.RowKit

/-- a fact of a slot's value that lasts while memory grows -/
structure SFact where
  P : Value → World → Prop
  st : ∀ v w w', P v w → Below w.heap.size w w' → P v w'
def putAll (a : Act) : List Tmp → List Value → Act
  | d :: ds, v :: vs => putAll (a.put (some d) v) ds vs
  | _, _ => a
/-- i waits for j, by at most so many steps -/
def reach (md : Region.Mode) (ops : Array Oper) : Nat → Nat → Nat → Bool
  | 0, _, _ => false
  | f + 1, i, j => (ops[i]?).any fun o => (o.after.any fun e => Region.binds md e && e.on == j) || (o.after.any fun e => Region.binds md e && reach md ops f e.on j)
def storesWait (md : Region.Mode) (ops : Array Oper) (n : Nat) : Bool := (List.range ops.size).all fun i => decide (i < n) || (List.range n).all fun j => reach md ops 6 i j
def Closed (md : Region.Mode) (ops : Array Oper) (L : Array Bool) : Prop := ∀ j o, ops[j]? = some o → L.getD j false = true → ∀ e ∈ o.after, Region.binds md e = true → L.getD e.on false = true
theorem reach_listed {md : Region.Mode} {ops : Array Oper} {L : Array Bool} (hc : Closed md ops L) : ∀ (f i : Nat) (o : Oper) (j : Nat), ops[i]? = some o → (∀ e ∈ o.after, Region.binds md e = true → L.getD e.on false = true) → reach md ops f i j = true → L.getD j false = true
  | 0, _, _, _, _, _, h => by cases h
  | f + 1, i, o, j, ho, hall, h => by
    simp only [reach, ho, Option.any_some, Bool.or_eq_true] at h
    rcases h with h | h
    · obtain ⟨e, he, hb⟩ := Array.any_eq_true'.1 h
      simp only [Bool.and_eq_true, beq_iff_eq] at hb
      rw [← hb.2]; exact hall e he hb.1
    · obtain ⟨e, he, hb⟩ := Array.any_eq_true'.1 h
      simp only [Bool.and_eq_true] at hb
      have hl := hall e he hb.1
      cases hoe : ops[e.on]? with
      | none =>
        exfalso
        have h2 := hb.2
        cases f with
        | zero => cases h2
        | succ f => simp [reach, hoe] at h2
      | some o' => exact reach_listed hc f e.on o' j hoe (hc e.on o' hoe hl) hb.2
theorem getD_put {a : Act} {ds : List Tmp} {vs : List Value} {d : Tmp} {v : Value} (hd : d ∉ ds) : putAll (a.put (some d) v) ds vs = (putAll a ds vs).put (some d) v := by
  induction ds generalizing a vs with
  | nil => rfl
  | cons d' ds ih =>
    cases vs with
    | nil => rfl
    | cons v' vs =>
      simp only [putAll]
      have hne : d' ≠ d := fun e => hd (by simp [e])
      rw [Act.put_comm a v v' (x := some d) (y := some d') (by intro x hx hy; cases hx; cases hy; exact hne rfl)]
      exact ih (fun h => hd (by simp [h]))
theorem putAll_set {a : Act} {ds : List Tmp} {vs : List Value} {i : Nat} {d : Tmp} {v : Value} (hn : ds.Nodup) (hi : ds[i]? = some d) (hl : vs.length = ds.length) : (putAll a ds vs).put (some d) v = putAll a ds (vs.set i v) := by
  induction ds generalizing a vs i with
  | nil => simp at hi
  | cons d' ds ih =>
    cases vs with
    | nil => simp at hl
    | cons v' vs =>
      rw [List.nodup_cons] at hn
      cases i with
      | zero =>
        simp at hi; subst hi
        simp only [putAll, List.set_cons_zero]
        rw [← getD_put hn.1]
        congr 1
        unfold Act.put
        simp [Array.setIfInBounds_setIfInBounds]
      | succ i =>
        simp only [putAll, List.set_cons_succ]
        exact ih hn.2 (by simpa using hi) (by simpa using hl)

def dstsAre (ops : Array Oper) (n : Nat) (ds : List Tmp) : Bool := (List.range n).all fun i => (ops[i]?).all fun o => o.dst == ds[i]?
theorem getD_set_list {l : List Value} {i j : Nat} {v : Value} (h : i ≠ j) : (l.set i v).getD j undef = l.getD j undef := by
  simp [List.getD, List.getElem?_set_ne h]
theorem getD_set_list_self {l : List Value} {i : Nat} {v : Value} (h : i < l.length) : (l.set i v).getD i undef = v := by
  simp [List.getD, h]

theorem wpAny_facts {P : Program} {ops : Array Oper} {Q : Exit → Act → World → Prop} {a0 : Act} {w0 : World} (n s : Nat) (hsize : ops.size = n + s) (ds : List Tmp) (f : Nat → SFact) (al : List Nat)
    (hd : edgesDown .any ops = true) (hsw : storesWait .any ops n = true) (hdn : ds.Nodup) (hlen : ds.length = n) (hds : dstsAre ops n ds = true)
    (hal : ∀ i ∈ al, ∀ v w, (f i).P v w → ∃ g, v = .pointer (some ⟨g, 0, none⟩) ∧ g < w.heap.size)
    (hstep : ∀ i o, i < n → ops[i]? = some o → ∀ vs w, vs.length = n → Below w0.heap.size w0 w → (∀ e ∈ o.after, Region.binds .any e = true → (f e.on).P (vs.getD e.on undef) w) →
      ∀ K : Act → World → Prop, Shut (∀ v w', (f i).P v w' → Below w.heap.size w w' → (i ∈ al → v = .pointer (some ⟨w.heap.size, 0, none⟩)) → K ((putAll a0 ds vs).put o.dst v) w') →
        if Region.wanted o (yielded ops (putAll a0 ds vs).tmps) = true then Oper.wp P o (putAll a0 ds vs) w K Q else K ((putAll a0 ds vs).put o.dst undef) w)
    (hend : ∀ vs w, vs.length = n → Below w0.heap.size w0 w → (∀ i, i < n → (f i).P (vs.getD i undef) w) → (∀ i ∈ al, ∀ j ∈ al, i ≠ j → vs.getD i undef ≠ vs.getD j undef) →
      wpAny P .any ops Q s ((List.replicate n true ++ List.replicate s false).toArray) (putAll a0 ds vs) w) :
    ∀ (c : Nat) (L : Array Bool) (vs : List Value) (w : World), (L.toList.take n).count false = c → L.size = n + s → (∀ j, n ≤ j → j < n + s → L.getD j true = false) → Closed .any ops L → vs.length = n → Below w0.heap.size w0 w →
      (∀ i, i < n → L.getD i false = true → (f i).P (vs.getD i undef) w) → (∀ i ∈ al, ∀ j ∈ al, i < n → j < n → i ≠ j → L.getD i false = true → L.getD j false = true → vs.getD i undef ≠ vs.getD j undef) →
      (∀ i ∈ al, i < n) → wpAny P .any ops Q (c + s) L (putAll a0 ds vs) w := by
  intro c
  induction c with
  | zero =>
    intro L vs w hc hs hst hcl hvl hb hf hdist haln
    have hall : ∀ i, i < n → L.getD i false = true := fun i hi => by
      have hil : i < L.size := by omega
      cases hb : L[i] with
      | true => simp [Array.getD, hil, hb]
      | false =>
        exfalso
        have hmem : false ∈ L.toList.take n := by
          rw [List.mem_take_iff_getElem]
          exact ⟨i, by simp; omega, by simpa using hb⟩
        have := List.count_pos_iff.2 hmem
        omega
    have hL : L = (List.replicate n true ++ List.replicate s false).toArray := by
      apply Array.ext
      · simp [hs]
      · intro i hi hi2
        by_cases h : i < n
        · have := hall i h
          simp only [Array.getD, hi] at this
          simp [h]
          simpa using this
        · have := hst i (by omega) (by omega)
          simp only [Array.getD, hi] at this
          simp [List.getElem_append, h]
          simpa using this
    rw [Nat.zero_add, hL]
    exact hend vs w hvl hb (fun i hi => hf i hi (hall i hi)) (fun i hi j hj hne => hdist i hi j hj (haln i hi) (haln j hj) hne (hall i (haln i hi)) (hall j (haln j hj)))
  | succ c ih =>
    intro L vs w hc hs hst hcl hvl hb hf hdist haln
    have hnot : ¬ ∀ i, i < n → L.getD i false = true := fun hall => by
      have : (L.toList.take n).count false = 0 := by
        rw [List.count_eq_zero]
        intro hmem
        rw [List.mem_take_iff_getElem] at hmem
        obtain ⟨i, hi, hif⟩ := hmem
        have hi' : i < L.size := by simp at hi; omega
        have := hall i (by simp at hi; omega)
        have h2 : L.getD i false = L[i] := by simp [Array.getD, hi']
        rw [h2] at this
        rw [Array.getElem_toList] at hif
        rw [hif] at this
        cases this
      omega
    rw [show c + 1 + s = (c + s) + 1 by omega]
    refine ⟨fun hr => ?_, fun i hi => ?_⟩
    · exfalso
      apply hnot
      intro i hi
      have := all_listed hd (by rw [hs, hsize]) hr i (by omega)
      have hil : i < L.size := by omega
      simpa [Array.getD, hil] using this
    · obtain ⟨hun, o, ho, hall⟩ := mem_ready.1 hi
      have hio : i < ops.size := (Array.getElem?_eq_some_iff.1 ho).1
      have hil : i < L.size := by omega
      have hin : i < n := by
        rcases Nat.lt_or_ge i n with h | h
        · exact h
        · exfalso
          apply hnot
          intro j hj
          have h1 := List.all_eq_true.1 hsw i (by simpa using hio)
          simp only [Bool.or_eq_true, decide_eq_true_eq] at h1
          rcases h1 with h1 | h1
          · omega
          · exact reach_listed hcl 6 i o j ho hall (List.all_eq_true.1 h1 j (by simpa using hj))
      have hdst : o.dst = ds[i]? := by
        have h1 := List.all_eq_true.1 hds i (by simpa using hin)
        rw [ho] at h1
        simpa using h1
      have hdi : ds[i]? = some (ds[i]'(by omega)) := by simp
      refine wpOp_step ho (fun K hK => hstep i o hin ho vs w hvl hb (fun e he hbd => ?_) K (fun v w' hv hb' hp => ?_))
      · have hl := hall e he hbd
        have hlt : e.on < n := by
          rcases Nat.lt_or_ge e.on n with h | h
          · exact h
          · exfalso
            rcases Nat.lt_or_ge e.on (n + s) with h2 | h2
            · have := hst e.on h h2
              have hl2 : e.on < L.size := by omega
              simp only [Array.getD, hl2] at this hl
              simp at this hl
              rw [this] at hl; cases hl
            · have : ¬ e.on < L.size := by omega
              simp [Array.getD, this] at hl
        exact hf e.on hlt hl
      · apply hK
        rw [hdst, hdi, putAll_set hdn hdi (by omega)]
        have hset : ∀ j, i ≠ j → (L.setIfInBounds i true).getD j false = L.getD j false := fun j h => getD_set_ne false h
        refine ih (L.setIfInBounds i true) (vs.set i v) w' ?_ (by simpa using hs) ?_ ?_ (by simpa using hvl) (hb.trans (hb'.mono hb.size)) ?_ ?_ haln
        · have hf' : (L.toList.take n)[i]'(by simp; omega) = false := by
            simp only [List.getElem_take]
            simpa [Array.getD, hil] using hun
          have := count_false_set (L.toList.take n) i (by simp; omega) hf'
          rw [Array.toList_setIfInBounds, ← List.take_set] at *
          omega
        · intro j hj hj2
          rw [getD_set_ne true (by omega)]
          exact hst j hj hj2
        · intro j o' hjo hjl e he hbd
          by_cases hji : i = j
          · subst hji
            rw [ho] at hjo
            cases hjo
            exact getD_set_true (hall e he hbd)
          · rw [hset j hji] at hjl
            exact getD_set_true (hcl j o' hjo hjl e he hbd)
        · intro j hj hjl
          by_cases hji : i = j
          · subst hji
            rw [getD_set_list_self (by omega)]
            exact hv
          · rw [hset j hji] at hjl
            rw [getD_set_list hji]
            exact (f j).st _ _ _ (hf j hj hjl) hb'
        · intro j hj k hk hjn hkn hjk hjl hkl
          have old : ∀ x, x ∈ al → x < n → i ≠ x → (L.setIfInBounds i true).getD x false = true → vs.getD x undef ≠ .pointer (some ⟨w.heap.size, 0, none⟩) := fun x hx hxn hix hxl => by
            rw [hset x hix] at hxl
            obtain ⟨g, hg, hgl⟩ := hal x hx _ _ (hf x hxn hxl)
            rw [hg]
            intro e
            injection e with e
            injection e with e
            injection e with e
            omega
          by_cases hji : i = j
          · subst hji
            rw [getD_set_list_self (by omega), getD_set_list hjk, hp hj]
            exact (old k hk hkn hjk hkl).symm
          · by_cases hki : i = k
            · subst hki
              rw [getD_set_list_self (by omega), getD_set_list hji, hp hk]
              exact old j hj hjn hji hjl
            · rw [getD_set_list hji, getD_set_list hki]
              rw [hset j hji] at hjl
              rw [hset k hki] at hkl
              exact hdist j hj k hk hjn hkn hjk hjl hkl

theorem wp_region_facts {P : Program} {ops : Array Oper} {Q : Exit → Act → World → Prop} {id : Nat} {a0 : Act} {w0 : World} (n s : Nat) (ds : List Tmp) (vs0 : List Value) (f : Nat → SFact) (al : List Nat) (hm : P.follows .mixedOrders = true)
    (hsize : ops.size = n + s) (hd : edgesDown .any ops = true) (hsw : storesWait .any ops n = true) (hdn : ds.Nodup) (hlen : ds.length = n) (hds : dstsAre ops n ds = true) (hv0 : vs0.length = n) (haln : ∀ i ∈ al, i < n)
    (he : a0 = putAll a0 ds vs0) (hal : ∀ i ∈ al, ∀ v w, (f i).P v w → ∃ g, v = .pointer (some ⟨g, 0, none⟩) ∧ g < w.heap.size)
    (hstep : ∀ i o, i < n → ops[i]? = some o → ∀ vs w, vs.length = n → Below w0.heap.size w0 w → (∀ e ∈ o.after, Region.binds .any e = true → (f e.on).P (vs.getD e.on undef) w) →
      ∀ K : Act → World → Prop, Shut (∀ v w', (f i).P v w' → Below w.heap.size w w' → (i ∈ al → v = .pointer (some ⟨w.heap.size, 0, none⟩)) → K ((putAll a0 ds vs).put o.dst v) w') →
        if Region.wanted o (yielded ops (putAll a0 ds vs).tmps) = true then Oper.wp P o (putAll a0 ds vs) w K Q else K ((putAll a0 ds vs).put o.dst undef) w)
    (hend : ∀ vs w, vs.length = n → Below w0.heap.size w0 w → (∀ i, i < n → (f i).P (vs.getD i undef) w) → (∀ i ∈ al, ∀ j ∈ al, i ≠ j → vs.getD i undef ≠ vs.getD j undef) →
      wpAny P .any ops Q s ((List.replicate n true ++ List.replicate s false).toArray) (putAll a0 ds vs) w) : (Code.region id ops true).wp P Q a0 w0 := by
  refine wp_region_any hm ?_
  have := wpAny_facts (a0 := a0) (w0 := w0) n s hsize ds f al hd hsw hdn hlen hds hal hstep hend n (Array.replicate ops.size false) vs0 w0.drew
    (by rw [hsize]; simp [List.take_replicate, Nat.min_eq_left (Nat.le_add_right n s)]) (by simp [hsize]) (by intro j hj hj2; simp [Array.getD, hsize, hj2]) (by intro j o _ h; simp [Array.getD] at h) hv0 ((Below.refl _ _).drew)
    (by intro i _ h; simp [Array.getD] at h) (by intro i _ j _ _ _ _ h; simp [Array.getD] at h) haln
  rw [← he, ← hsize] at this
  exact this
theorem wpAny_one {P : Program} {ops : Array Oper} {Q : Exit → Act → World → Prop} {md : Region.Mode} {i fuel : Nat} {o : Oper} {listed : Array Bool} {a : Act} {w : World} (hr : Region.ready md ops listed = [i]) (ho : ops[i]? = some o)
    (h : ∀ K : Act → World → Prop, Shut (∀ a w, wpAny P md ops Q fuel (listed.setIfInBounds i true) a w → K a w) → if Region.wanted o (yielded ops a.tmps) = true then Oper.wp P o a w K Q else K (a.put o.dst undef) w) : wpAny P md ops Q (fuel + 1) listed a w := by
  refine ⟨fun h0 => (by rw [hr] at h0; cases h0), ?_⟩
  rw [hr]
  intro j hj
  obtain rfl : j = i := by simpa using hj
  exact wpOp_step ho (fun K hK => h K hK)
end Go.Proofs.YtckkpolikdnilaaGreatDoor
/- Lists of so many values. -/
namespace Go.Proofs.YtckkpolikdnilaaGreatDoor

theorem vlen7 {vs : List Value} (h : vs.length = 7) : ∃ v0 v1 v2 v3 v4 v5 v6, vs = [v0, v1, v2, v3, v4, v5, v6] := by
  match vs, h with
  | [v0, v1, v2, v3, v4, v5, v6], _ => exact ⟨v0, v1, v2, v3, v4, v5, v6, rfl⟩
theorem vlen8 {vs : List Value} (h : vs.length = 8) : ∃ v0 v1 v2 v3 v4 v5 v6 v7, vs = [v0, v1, v2, v3, v4, v5, v6, v7] := by
  match vs, h with
  | [v0, v1, v2, v3, v4, v5, v6, v7], _ => exact ⟨v0, v1, v2, v3, v4, v5, v6, v7, rfl⟩
theorem vlen9 {vs : List Value} (h : vs.length = 9) : ∃ v0 v1 v2 v3 v4 v5 v6 v7 v8, vs = [v0, v1, v2, v3, v4, v5, v6, v7, v8] := by
  match vs, h with
  | [v0, v1, v2, v3, v4, v5, v6, v7, v8], _ => exact ⟨v0, v1, v2, v3, v4, v5, v6, v7, v8, rfl⟩
theorem vlen10 {vs : List Value} (h : vs.length = 10) : ∃ v0 v1 v2 v3 v4 v5 v6 v7 v8 v9, vs = [v0, v1, v2, v3, v4, v5, v6, v7, v8, v9] := by
  match vs, h with
  | [v0, v1, v2, v3, v4, v5, v6, v7, v8, v9], _ => exact ⟨v0, v1, v2, v3, v4, v5, v6, v7, v8, v9, rfl⟩
theorem vlen11 {vs : List Value} (h : vs.length = 11) : ∃ v0 v1 v2 v3 v4 v5 v6 v7 v8 v9 v10, vs = [v0, v1, v2, v3, v4, v5, v6, v7, v8, v9, v10] := by
  match vs, h with
  | [v0, v1, v2, v3, v4, v5, v6, v7, v8, v9, v10], _ => exact ⟨v0, v1, v2, v3, v4, v5, v6, v7, v8, v9, v10, rfl⟩
theorem vlen12 {vs : List Value} (h : vs.length = 12) : ∃ v0 v1 v2 v3 v4 v5 v6 v7 v8 v9 v10 v11, vs = [v0, v1, v2, v3, v4, v5, v6, v7, v8, v9, v10, v11] := by
  match vs, h with
  | [v0, v1, v2, v3, v4, v5, v6, v7, v8, v9, v10, v11], _ => exact ⟨v0, v1, v2, v3, v4, v5, v6, v7, v8, v9, v10, v11, rfl⟩
theorem vlen13 {vs : List Value} (h : vs.length = 13) : ∃ v0 v1 v2 v3 v4 v5 v6 v7 v8 v9 v10 v11 v12, vs = [v0, v1, v2, v3, v4, v5, v6, v7, v8, v9, v10, v11, v12] := by
  match vs, h with
  | [v0, v1, v2, v3, v4, v5, v6, v7, v8, v9, v10, v11, v12], _ => exact ⟨v0, v1, v2, v3, v4, v5, v6, v7, v8, v9, v10, v11, v12, rfl⟩
theorem vlen14 {vs : List Value} (h : vs.length = 14) : ∃ v0 v1 v2 v3 v4 v5 v6 v7 v8 v9 v10 v11 v12 v13, vs = [v0, v1, v2, v3, v4, v5, v6, v7, v8, v9, v10, v11, v12, v13] := by
  match vs, h with
  | [v0, v1, v2, v3, v4, v5, v6, v7, v8, v9, v10, v11, v12, v13], _ => exact ⟨v0, v1, v2, v3, v4, v5, v6, v7, v8, v9, v10, v11, v12, v13, rfl⟩
end Go.Proofs.YtckkpolikdnilaaGreatDoor
/- Steps of a drawn region: an append to a row of the call's own, or to one that was there. -/
namespace Go.Proofs.YtckkpolikdnilaaGreatDoor
open Go.RowKit Big

/-- 'append(v, x...)', v a row of the call's own, as one step of a region -/
theorem step_append {P : Program} {w : World} {o : Oper} {a : Act} {K : Act → World → Prop} {Q : Exit → Act → World → Prop} (s x : Operand) (t : TypeId)
    (ho : o.op = .call { callee := .builtin .append, args := #[s, x], argTypes := #[t, t] })
    (base : Nat) (e : TypeId) (i : TypeInfo) (z : Value) (size bytes : Nat) (ht : P.underlying t = some (.slice e)) (hi : P.info? e = some i) (hz : i.zero = some z)
    (hsize : i.size = size) (hby : i.bytes = bytes) (hzs : z.cells.size = size) (hsz : 0 < size)
    (v : Value) (n : Nat) (xs : List Value) (hs : a.eval s = v) (hown : w.ownsRow base e size v n xs)
    (ad : Addr) (m c : Nat) (news : List Value) (hx : a.eval x = .slice (some ad) m c) (hl : news.length = m * size) (hnews : ∀ j u, news[j]? = some u → w.cell? (ad.add j) = some u) (h1 : ∀ u ∈ news, u.oneCell' = true)
    (h63 : n + m ≤ maxLen) (hbytes : (n + m) * bytes ≤ 140737488355328) (hbase : base ≤ w.heap.size)
    (h : ∀ v' w', w'.ownsRow base e size v' (n + m) (xs ++ news) → w.grownBy w' v.ownBlock → (v'.ownBlock = v.ownBlock ∨ v'.ownBlock = some w.heap.size) → K (a.put o.dst v') w') :
    Oper.wp P o a w K Q := by
  obtain ⟨v', w', hr, h2, h3, -, h4⟩ := run_append_own_at (P := P) w base t o.type e i z size bytes ht hi hz hsize hby hzs hsz v n xs hown ad m c news hl hnews h1 h63 hbytes hbase
  unfold Oper.wp
  simp [execOp, ho, resolve, invoke, builtin, hs, hx, hr, Result.andThen]
  exact h v' w' h2 h3 h4

theorem step_append_none {P : Program} {w : World} {o : Oper} {a : Act} {K : Act → World → Prop} {Q : Exit → Act → World → Prop} (s x : Operand) (t : TypeId)
    (ho : o.op = .call { callee := .builtin .append, args := #[s, x], argTypes := #[t, t] })
    (base : Nat) (e : TypeId) (i : TypeInfo) (size : Nat) (ht : P.underlying t = some (.slice e)) (hi : P.info? e = some i)
    (v : Value) (n : Nat) (xs : List Value) (hs : a.eval s = v) (hown : w.ownsRow base e size v n xs) (hx : a.eval x = .slice none 0 0)
    (h : K (a.put o.dst v) w) : Oper.wp P o a w K Q := by
  have hrun := run_append_owned_none (P := P) (w := w) base t o.type e i size ht hi v n xs hown
  unfold Oper.wp
  simp [execOp, ho, resolve, invoke, builtin, hs, hx, hrun, Result.andThen]
  exact h
end Go.Proofs.YtckkpolikdnilaaGreatDoor
/- pool.textOf: the text of a term's fields. -/
namespace Go.Proofs.YtckkpolikdnilaaGreatDoor
open Go.RowKit Big Go.WideMaps

def eqP (v0 : Value) : SFact := ⟨fun v _ => v = v0, fun _ _ _ h _ => h⟩
/-- a row of these ints in a block of its own -/
def rowP (B : Nat) (l : List Int) : SFact := ⟨fun v w => ∃ g, v = .slice (some ⟨g, 0, none⟩) l.length l.length ∧ w.heap[g]? = some (.cells (zints l).toArray 3 (0, 0)) ∧ B ≤ g,
  fun _ _ _ ⟨g, h1, h2, h3⟩ hb => ⟨g, h1, (hb.block g (lt_of_block h2)).trans h2, h3⟩⟩
theorem row_made {w : World} {B g : Nat} {l : List Int} (hg : w.heap[g]? = some (.cells (zints l).toArray 3 (0, 0))) (hB : B ≤ g) (hl : l.length ≤ maxLen := by simp [maxLen]) : w.ownsRow B 3 1 (.slice (some ⟨g, 0, none⟩) l.length l.length) l.length (zints l) :=
  ⟨by simp [zints], .inr ⟨g, _, _, rfl, hB, hg, Nat.le_refl _, hl, by simp [zints], by rw [List.take_of_length_le (by simp [zints])]⟩⟩
theorem step_append_zints {P : Program} {w : World} {o : Oper} {a : Act} {K : Act → World → Prop} {Q : Exit → Act → World → Prop} (s x : Operand) (t : TypeId)
    (ho : o.op = .call { callee := .builtin .append, args := #[s, x], argTypes := #[t, t] }) {e : TypeId} {size : Nat} (E : Elem P t e .i64 size) (base : Nat) (v : Value) (l : List Int) (hs : a.eval s = v) (hown : w.ownsRow base e 1 v l.length (zints l))
    (vx : Value) (m : List Int) (hx : a.eval x = vx) (hat : IAt w vx m) (hlen : l.length + m.length ≤ maxLen) (hbytes : (l.length + m.length) * size ≤ 140737488355328) (hbase : base ≤ w.heap.size)
    (h : ∀ v' w', w'.ownsRow base e 1 v' (l ++ m).length (zints (l ++ m)) → Below base w w' → w.heap.size ≤ w'.heap.size → K (a.put o.dst v') w') : Oper.wp P o a w K Q := by
  obtain ⟨i, hi, hz, hsz, hby⟩ := E.row
  obtain ⟨p, cap, rfl, h1, h2, h3, h4⟩ := hat
  cases p with
  | none =>
    obtain rfl := h3 rfl
    obtain rfl : m = [] := List.eq_nil_of_length_eq_zero (by omega)
    exact step_append_none s x t ho base e i 1 E.und hi v l.length (zints l) hs hown hx (h _ _ (by rw [List.append_nil]; exact hown) (Below.refl _ _) (Nat.le_refl _))
  | some ad =>
    refine step_append s x t ho base e i (.int .i64 0) 1 size E.und hi hz hsz hby rfl (by decide) v l.length (zints l) hs hown ad m.length cap (zints m) hx (by simp [zints_length]) ?_ ?_ hlen hbytes hbase ?_
    · intro j u hj
      by_cases hjm : j < m.length
      · obtain ⟨b, off, he, hb, hc⟩ := h4 (by omega)
        cases he
        rw [Go.WideShapes.add_plain, hc j hjm]
        simpa [zints, hjm] using hj
      · rw [List.getElem?_eq_none (by rw [zints_length]; omega)] at hj; cases hj
    · intro u hu
      obtain ⟨n, _, rfl⟩ := List.mem_map.1 hu
      rfl
    · intro v' w' h5 h6 _
      refine h v' w' ?_ ((Below.refl _ _).grown h6 hbase (fun g hg => (World.ownsRow.lt hown g hg).1)) h6.size
      rw [List.length_append, show zints (l ++ m) = zints l ++ zints m by simp [zints]]; exact h5
theorem byte_new (w : World) (c : Nat) (t : TypeId) : ∀ j u, ([.int .u8 c] : List Value)[j]? = some u → (w.alloc (.cells #[.int .u8 c] t)).cell? ((⟨w.heap.size, 0, none⟩ : Addr).add j) = some u := by
  intro j u hj
  rw [Go.WideShapes.add_plain, cell_of_row _ w.heap.size _ _ t (0, 0) (heap_alloc_new w _), Nat.zero_add]
  simpa using hj
theorem elemBytes : Elem Tryz.prog 50 5 .u8 1 := ⟨Tryz.underlying50, info_parts (by kernel_rfl)⟩
def Tb (B : Nat) (w : World) : Prop := Lib.TabBelow Tryz.prog B w "internal/strconv.uint64pow10" .u64 Lib.pow10Tab
theorem tab_later {w w' : World} (h : Tb w.heap.size w) (hb : Below w.heap.size w w') : Tb w'.heap.size w' := fun w2 h2 => h w2 (hb.trans (h2.mono hb.size))
theorem spaced_append (a b : List (List UInt8)) : spaced (a ++ b) = spaced a ++ spaced b := by simp [spaced]
theorem row_form {w : World} {B : Nat} {e : TypeId} {size : Nat} {v : Value} {n : Nat} {xs : List Value} (h : w.ownsRow B e size v n xs) (hn : 0 < n) : ∃ g cap, v = .slice (some ⟨g, 0, none⟩) n cap ∧ n ≤ cap ∧ g < w.heap.size := by
  rcases h.2 with ⟨rfl, h0⟩ | ⟨g, cap, cur, rfl, hb, hg, k1, k2, k3, k4⟩
  · omega
  · exact ⟨g, cap, rfl, k1, (Array.getElem?_eq_some_iff.1 hg).1⟩
theorem nd_le : ∀ (k u : Nat), u < 10 ^ (k + 1) → Lib.nDigits u ≤ k + 1
  | 0, u, h => by rw [Lib.nDigits_small (by simpa using h)]; exact Nat.le_refl _
  | k + 1, u, h => by
    by_cases hu : u < 10
    · rw [Lib.nDigits_small hu]; omega
    · rw [Lib.nDigits_big hu]
      have := nd_le k (u / 10) (by rw [Nat.pow_succ] at h; omega)
      omega
theorem dec_len (x : Nat) (h : x < W) : (Lib.decDigits x).length ≤ 20 := by
  rw [Lib.decDigits_length]
  exact nd_le 19 x (Nat.lt_of_lt_of_le h (by decide))
theorem itoa_len (x : Int) (h0 : -9223372036854775808 ≤ x) (h1 : x ≤ 9223372036854775807) : (Lib.itoa x).length ≤ 20 := by
  have key : ∀ u : Nat, u ≤ 9223372036854775808 → (Lib.decDigits u).length ≤ 19 := fun u hu => by
    rw [Lib.decDigits_length]
    exact nd_le 18 u (Nat.lt_of_le_of_lt hu (by decide))
  unfold Lib.itoa
  split
  · rw [List.length_cons]
    have := key x.natAbs (by omega)
    omega
  · exact Nat.le_trans (key x.toNat (by omega)) (by omega)

set_option maxRecDepth 100000 in
set_option maxHeartbeats 6400000 in
theorem textOf_any (B : Nat) (t : Tm) (v : Value) (w : World) (ht : TmTold B w v t) (hla : t.args.length ≤ 1099511627776) (hsz : sz W t.num.natAbs ≤ 1099511627776) (htab : Tb w.heap.size w)
    (hrng : ∀ x ∈ plFields t, -9223372036854775808 ≤ x ∧ x ≤ 9223372036854775807) :
    Calls Tryz.prog 101 #[v] w fun e w' => e = .returned (.string ⟨(plText t).toArray⟩) ∧ Below w.heap.size w w' := by
  obtain ⟨pa, ca, pm, nm, cm, rfl, hl, hm⟩ := ht
  have hat := hm.at
  obtain ⟨_, _, e, i1, i2, i3, i4⟩ := hat
  cases e
  have hraw : RawAt w (.agg #[.bool (decide (t.num < 0)), .slice pm (sz W t.num.natAbs) cm]) t.num := IntAt.raw ⟨_, rfl, hm.at⟩ hsz
  have Hraw := hid hraw
  have Hargs := hid (IAt.own hl)
  have Hwords := hid i4
  have HDDs := hid (fun x (hx : x ∈ dig W t.num.natAbs) => small_dig W2 t.num.natAbs x hx)
  have Htab := hid htab
  have Hrng := hid hrng
  have b0 := below1 w (.cells #[.int .i64 t.op, .slice pa t.args.length ca, .bool (decide (t.num < 0)), .slice pm (sz W t.num.natAbs) cm, .int .i64 t.sym] 71)
  have hbx := heap_alloc_new w (.cells #[.int .i64 t.op, .slice pa t.args.length ca, .bool (decide (t.num < 0)), .slice pm (sz W t.num.natAbs) cm, .int .i64 t.sym] 71)
  have hs1 := size_alloc w (.cells #[.int .i64 t.op, .slice pa t.args.length ca, .bool (decide (t.num < 0)), .slice pm (sz W t.num.natAbs) cm, .int .i64 t.sym] 71)
  unfold maxLen at i2
  clear hl hm hraw i3 i4 htab hrng
  have hszl : (dig W t.num.natAbs).length = sz W t.num.natAbs := rfl
  go_enter Tryz.func101, Tryz.ntmps101
  go_upto_region 1 with fail
  generalize hW : (w.alloc (.cells #[.int .i64 t.op, .slice pa t.args.length ca, .bool (decide (t.num < 0)), .slice pm (sz W t.num.natAbs) cm, .int .i64 t.sym] 71)) = W1 at *
  clear hW
  have HS : Hid (∀ w', Below W1.heap.size W1 w' → w'.cell? ⟨w.heap.size, 0, none⟩ = some (.int .i64 t.op) ∧ w'.cell? ⟨w.heap.size, 1, none⟩ = some (.slice pa t.args.length ca) ∧ w'.cell? ⟨w.heap.size, 2, none⟩ = some (.bool (decide (t.num < 0))) ∧ w'.cell? ⟨w.heap.size, 3, none⟩ = some (.slice pm (sz W t.num.natAbs) cm) ∧ w'.cell? ⟨w.heap.size, 4, none⟩ = some (.int .i64 t.sym)) := fun w' hb => five_cells ((hb.block w.heap.size (by omega)).trans hbx)
  clear hszl
  obtain ⟨iu, hiu, hiz0, hiz1, hiz2⟩ := elemBytes.row
  refine wp_region_facts (w0 := W1) 14 2 [9, 10, 11, 12, 13, 14, 15, 16, 17, 18, 19, 20, 21, 22] [undef, undef, undef, undef, undef, undef, undef, undef, undef, undef, undef, undef, undef, undef]
    (fun i => match i with | 0 => eqP (.pointer (some ⟨w.heap.size, 0, none⟩)) | 1 => eqP (.int .i64 t.op) | 2 => eqP (.pointer (some ⟨w.heap.size, 4, none⟩)) | 3 => eqP (.int .i64 t.sym) | 4 => eqP (.pointer (some ⟨w.heap.size, 2, none⟩)) | 5 => eqP (.agg #[.bool (decide (t.num < 0)), .slice pm (sz W t.num.natAbs) cm]) | 6 => eqP (.int .i64 t.num.sign) | 7 => eqP (.pointer (some ⟨w.heap.size, 2, none⟩)) | 8 => eqP (.pointer (some ⟨w.heap.size, 3, none⟩)) | 9 => eqP (.slice pm (sz W t.num.natAbs) cm) | 10 => eqP (.int .i64 (sz W t.num.natAbs : Nat)) | 11 => rowP W1.heap.size [t.op, t.sym, t.num.sign, (sz W t.num.natAbs : Nat)] | 12 => eqP (.pointer (some ⟨w.heap.size, 1, none⟩)) | _ => eqP (.slice pa t.args.length ca)) [] (by kernel_rfl) (by kernel_rfl) (by kernel_rfl) (by kernel_rfl) (by decide) rfl (by kernel_rfl) rfl (by simp) ?he1 ?_ ?_ ?_
  case he1 => simp only [putAll, Act.put, List.setIfInBounds_toArray, List.set_cons_zero, List.set_cons_succ]
  · intro i hi; simp at hi
  · intro i o hi ho vs wx hvl hb hdep K hK
    have hvs := vlen14 hvl
    obtain ⟨s9, s10, s11, s12, s13, s14, s15, s16, s17, s18, s19, s20, s21, s22, rfl⟩ := hvs
    clear hvl
    have hk := HS.out wx hb
    go_split_ands
    rcases i with _ | _ | _ | _ | _ | _ | _ | _ | _ | _ | _ | _ | _ | _ | i
    all_goals (simp only [List.getElem?_toArray, List.getElem?_cons_zero, List.getElem?_cons_succ, Option.some.injEq] at ho)
    all_goals try (subst ho)
    all_goals try simp only [putAll, Act.put, List.setIfInBounds_toArray, List.set_cons_zero, List.set_cons_succ]
    · go_simp
      have hK' := hK.out
      simp only [putAll, Act.put, List.setIfInBounds_toArray, List.set_cons_zero, List.set_cons_succ] at hK'
      exact hK' _ _ rfl (Below.refl _ _) (by simp)
    · have e0 : s9 = _ := hdep ⟨0, .data⟩ (by simp) rfl
      subst e0
      go_simp
      have hK' := hK.out
      simp only [putAll, Act.put, List.setIfInBounds_toArray, List.set_cons_zero, List.set_cons_succ] at hK'
      exact hK' _ _ rfl (Below.refl _ _) (by simp)
    · go_simp
      have hK' := hK.out
      simp only [putAll, Act.put, List.setIfInBounds_toArray, List.set_cons_zero, List.set_cons_succ] at hK'
      exact hK' _ _ rfl (Below.refl _ _) (by simp)
    · have e2 : s11 = _ := hdep ⟨2, .data⟩ (by simp) rfl
      subst e2
      go_simp
      have hK' := hK.out
      simp only [putAll, Act.put, List.setIfInBounds_toArray, List.set_cons_zero, List.set_cons_succ] at hK'
      exact hK' _ _ rfl (Below.refl _ _) (by simp)
    · go_simp
      have hK' := hK.out
      simp only [putAll, Act.put, List.setIfInBounds_toArray, List.set_cons_zero, List.set_cons_succ] at hK'
      exact hK' _ _ rfl (Below.refl _ _) (by simp)
    · have e4 : s13 = _ := hdep ⟨4, .data⟩ (by simp) rfl
      subst e4
      go_simp
      have hK' := hK.out
      simp only [putAll, Act.put, List.setIfInBounds_toArray, List.set_cons_zero, List.set_cons_succ] at hK'
      exact hK' _ _ rfl (Below.refl _ _) (by simp)
    · have e5 : s14 = _ := hdep ⟨5, .data⟩ (by simp) rfl
      subst e5
      go_simp
      refine (Sign_any _ t.num _ (Hraw.out.below (bel_go hb b0))).mono ?_
      rintro e wy ⟨rfl, hby⟩
      go_wp2_with fail
      have hK' := hK.out
      simp only [putAll, Act.put, List.setIfInBounds_toArray, List.set_cons_zero, List.set_cons_succ] at hK'
      exact hK' _ _ rfl hby (by simp)
    · go_simp
      have hK' := hK.out
      simp only [putAll, Act.put, List.setIfInBounds_toArray, List.set_cons_zero, List.set_cons_succ] at hK'
      exact hK' _ _ rfl (Below.refl _ _) (by simp)
    · have e7 : s16 = _ := hdep ⟨7, .data⟩ (by simp) rfl
      subst e7
      go_simp
      have hK' := hK.out
      simp only [putAll, Act.put, List.setIfInBounds_toArray, List.set_cons_zero, List.set_cons_succ] at hK'
      exact hK' _ _ rfl (Below.refl _ _) (by simp)
    · have e8 : s17 = _ := hdep ⟨8, .data⟩ (by simp) rfl
      subst e8
      go_simp
      have hK' := hK.out
      simp only [putAll, Act.put, List.setIfInBounds_toArray, List.set_cons_zero, List.set_cons_succ] at hK'
      exact hK' _ _ rfl (Below.refl _ _) (by simp)
    · have e9 : s18 = _ := hdep ⟨9, .data⟩ (by simp) rfl
      subst e9
      go_simp
      have hK' := hK.out
      simp only [putAll, Act.put, List.setIfInBounds_toArray, List.set_cons_zero, List.set_cons_succ] at hK'
      exact hK' _ _ rfl (Below.refl _ _) (by simp)
    · have e1 : s10 = _ := hdep ⟨1, .data⟩ (by simp) rfl
      subst e1
      have e3 : s12 = _ := hdep ⟨3, .data⟩ (by simp) rfl
      subst e3
      have e6 : s15 = _ := hdep ⟨6, .data⟩ (by simp) rfl
      subst e6
      have e10 : s19 = _ := hdep ⟨10, .data⟩ (by simp) rfl
      subst e10
      go_simp
      have hK' := hK.out
      simp only [putAll, Act.put, List.setIfInBounds_toArray, List.set_cons_zero, List.set_cons_succ] at hK'
      exact hK' _ _ ⟨_, rfl, heap_alloc_new _ _, hb.size⟩ (below1 _ _) (by simp)
    · go_simp
      have hK' := hK.out
      simp only [putAll, Act.put, List.setIfInBounds_toArray, List.set_cons_zero, List.set_cons_succ] at hK'
      exact hK' _ _ rfl (Below.refl _ _) (by simp)
    · have e12 : s21 = _ := hdep ⟨12, .data⟩ (by simp) rfl
      subst e12
      go_simp
      have hK' := hK.out
      simp only [putAll, Act.put, List.setIfInBounds_toArray, List.set_cons_zero, List.set_cons_succ] at hK'
      exact hK' _ _ rfl (Below.refl _ _) (by simp)
    · omega
  · intro vs wx hvl hb hf hdist
    have hvs := vlen14 hvl
    obtain ⟨s9, s10, s11, s12, s13, s14, s15, s16, s17, s18, s19, s20, s21, s22, rfl⟩ := hvs
    have f11 : (rowP W1.heap.size [t.op, t.sym, t.num.sign, (sz W t.num.natAbs : Nat)]).P s20 wx := hf 11 (by decide)
    have f13 : s22 = .slice pa t.args.length ca := hf 13 (by decide)
    obtain ⟨g, rfl, hg, hgB⟩ := f11
    subst f13
    clear hf hdist hvl
    have hown := row_made hg hgB
    have hlx := Hargs.out.below (bel_go hb b0)
    have hsz := hb.size
    refine wpAny_one (i := 14) (by kernel_rfl) rfl ?_
    intro K hK
    simp only [putAll, Act.put, List.setIfInBounds_toArray, List.set_cons_zero, List.set_cons_succ]
    have hK' := hK.out
    rw [if_pos (by rfl)]
    refine step_append_zints (.tmp 20) (.tmp 22) 69 ?ho elemInts W1.heap.size _ [t.op, t.sym, t.num.sign, (sz W t.num.natAbs : Nat)] ?hs hown _ t.args ?hx hlx ?c3 ?c4 hsz ?_
    case ho => rfl
    case hs => rfl
    case hx => rfl
    case c3 => simp [maxLen]; omega
    case c4 => simp; omega
    intro v2 w2 hown2 hb2 hz2
    apply hK'
    clear hK hK' hlx hown hg hgB
    have hfl : ([t.op, t.sym, t.num.sign, ((sz W t.num.natAbs : Nat) : Int)] ++ t.args) = plFields t := rfl
    rw [hfl] at hown2
    have hlf : (plFields t).length ≤ 1099511627780 := by simp [plFields]; omega
    have Htok := hid (show spaced ((plFields t).map Lib.itoa ++ (dig W t.num.natAbs).map Lib.decDigits) = plText t from rfl)
    have Hrng := Hrng.out
    generalize hL : plFields t = FL at hown2 hlf Htok Hrng
    have Hrng := hid Hrng
    clear hL hfl
    obtain ⟨p2, c2, rfl⟩ := ownsRow_shape hown2
    simp only [Act.put, List.setIfInBounds_toArray]
    refine wpAny_one (i := 15) (by kernel_rfl) rfl ?_
    intro K hK
    have hK' := hK.out
    go_simp
    apply hK'
    clear hK hK'
    refine wpAny_done (by kernel_rfl) ?_ _
    try simp only [Act.put, List.setIfInBounds_toArray, List.set_cons_zero, List.set_cons_succ]
    have hbw2 : Below w.heap.size w w2 := bel_go (hb.trans hb2) b0
    have HB2 := hid hbw2
    have box := five_cells ((hb2.block w.heap.size (by omega)).trans ((hb.block w.heap.size (by omega)).trans hbx))
    obtain ⟨-, -, x2, x3, -⟩ := box
    have hz02 : w.heap.size < w2.heap.size := by omega
    have Hown2 := hid hown2
    have hat2 := IAt.own hown2
    obtain ⟨_, _, e2, j1, j2, j3, j4⟩ := hat2
    cases e2
    have Hj := hid j4
    unfold maxLen at j2
    have Htab2 := hid (tab_later Htab.out hbw2)
    have Hx := hid (And.intro x2 x3)
    clear hbw2 hown2 j4 j3 Hraw hb hb2 hbx b0 hz2 hsz x2 x3
    go_wp2_with fail
    go_loopw [26, 4] (fun i o wr => ∃ k : Nat, k ≤ FL.length ∧ i = .int .i64 (k : Nat) ∧ Hid (wr.ownsRow w2.heap.size 5 1 o (spaced ((FL.take k).map Lib.itoa)).length (Lib.byteCells (spaced ((FL.take k).map Lib.itoa)))) ∧ Hid ((spaced ((FL.take k).map Lib.itoa)).length ≤ 21 * k) ∧ Hid (Below w2.heap.size w2 wr)) (fun i _ _ => FL.length - (intOf i).toNat)
    case atStart => exact ⟨0, Nat.zero_le _, rfl, hid (World.ownsRow_nil _ _ _ _), hid (by simp [spaced]), hid (Below.refl _ _)⟩
    case round =>
      obtain ⟨k, hk, rfl, Ho, Hle, Hb⟩ := hrel
      by_cases hlt : k < FL.length
      · have hlt' : (k : Int) < (FL.length : Nat) := by omega
        obtain ⟨bb, off, rfl, o1, o2⟩ := Hj.out (by omega)
        have m1 := (Hb.out.cell (p := ⟨bb, off + k, none⟩) o1).trans (o2 k hlt)
        have hrng := Hrng.out FL[k] (List.getElem_mem hlt)
        have htk : spaced ((FL.take (k + 1)).map Lib.itoa) = spaced ((FL.take k).map Lib.itoa) ++ 32 :: Lib.itoa FL[k] := by
          rw [List.take_succ_eq_append_getElem hlt, List.map_append, spaced_append]; simp [spaced]
        have hil := itoa_len FL[k] hrng.1 hrng.2
        generalize FL[k] = x at *
        generalize spaced ((FL.take k).map Lib.itoa) = X at *
        generalize hY0 : spaced ((FL.take (k + 1)).map Lib.itoa) = Y at *
        have HY0 := hid hY0
        clear hY0
        have Htk := hid htk
        have hx20 := Hle.out
        have Hil := hid hil
        have Hrx := hid hrng
        clear htk o2 hil Hj hrng
        have hHb := Hb.out.size
        have ho3 := Ho.out.alloc (.cells #[.int .u8 32] 5)
        have hn3 := byte_new wr 32 5
        have hz3 := size_alloc wr (.cells #[.int .u8 32] 5)
        have b3 := below1 wr (.cells #[.int .u8 32] 5)
        go_wp2_with (at_builtin; refine wpList_append_own _ rfl _ _ 50 rfl w2.heap.size 5 iu _ 1 1 Tryz.underlying50 hiu hiz0 hiz1 hiz2 rfl (by decide) _ X.length _ rfl ho3 ⟨wr.heap.size, 0, none⟩ 1 1 [.int .u8 32] rfl rfl hn3 (by intro u hu; simp at hu; subst hu; rfl) (by simp [maxLen]; omega) (by omega) (by omega) ?_; intro v5 w5 ho5 hg5 _)
        have hb5 : Below w2.heap.size w2 w5 := (Hb.out.trans (b3.mono hHb)).grown hg5 (by omega) (fun g hg => (World.ownsRow.lt ho3 g hg).1)
        have hz5 := hg5.size
        have ht5 : Lib.TabBelow Tryz.prog w2.heap.size w5 "internal/strconv.uint64pow10" .u64 Lib.pow10Tab := Lib.TabBelow.on Htab2.out hb5
        have Hb5 := hid hb5
        have Hc := hid (AppendInt_any w2.heap.size (X.length + 1) x Hrx.out.1 Hrx.out.2 v5 _ w5 ho5 (by omega) (by omega) ht5)
        clear ho3 hn3 b3 hg5 hb5 ht5 ho5
        go_wp2_with fail
        refine Hc.out.mono ?_
        rintro e w6 ⟨v6, rfl, ho6, hb6⟩
        have hY : Y.length = X.length + 1 + (Lib.itoa x).length := by rw [Htk.out]; simp; omega
        have hYc : Lib.byteCells Y = Lib.byteCells X ++ [.int .u8 32] ++ Lib.byteCells (Lib.itoa x) := by rw [Htk.out, Lib.byteCells_append]; simp [Lib.byteCells]
        rw [← hY, ← hYc] at ho6
        have Ho6 := hid ho6
        have Hb6 := hid (Hb5.out.trans hb6)
        have Hle6 : Hid (Y.length ≤ 21 * (k + 1)) := hid (by rw [hY]; have := Hil.out; omega)
        clear ho6 hb6 hY hYc Hc Hil hx20
        go_wp2_with fail
        go_roundw
        case rel => exact ⟨k + 1, by omega, rfl, by rw [HY0.out]; exact Ho6, by rw [HY0.out]; exact Hle6, Hb6⟩
        case measure => simp [intOf]; omega
      · have hkk : k = FL.length := by omega
        subst hkk
        have hq := Ho.out
        have hq2 := Hle.out
        rw [List.take_length] at hq hq2
        have Ho1 := hid hq; have Hle1 := hid hq2
        have Hb1 := Hb
        have hz1 := Hb.out.size
        have xx2 := (Hb1.out.cell (p := ⟨w.heap.size, 2, none⟩) hz02).trans Hx.out.1
        have xx3 := (Hb1.out.cell (p := ⟨w.heap.size, 3, none⟩) hz02).trans Hx.out.2
        clear Ho Hle Hb hq hq2 Hj Hx
        generalize hX0 : spaced (FL.map Lib.itoa) = X0 at *
        have HX0 := hid hX0
        clear hX0
        have HDD := HDDs.out
        have Hw0 := Hwords.out
        have hszD : (dig W t.num.natAbs).length = sz W t.num.natAbs := rfl
        generalize hDD : dig W t.num.natAbs = DD at Htok HDD Hw0 hszD
        have HDD := hid HDD; have Hwords := hid Hw0
        rw [← hszD] at xx3
        have hDle : DD.length ≤ 1099511627776 := by omega
        clear hDD HDDs Hw0 hszD
        go_wp2_with fail
        go_loopw [40, 4] (fun i o wr => ∃ k : Nat, k ≤ DD.length ∧ i = .int .i64 (k : Nat) ∧ Hid (wr.ownsRow w2.heap.size 5 1 o (X0 ++ spaced ((DD.take k).map Lib.decDigits)).length (Lib.byteCells (X0 ++ spaced ((DD.take k).map Lib.decDigits)))) ∧ Hid ((X0 ++ spaced ((DD.take k).map Lib.decDigits)).length ≤ 21 * FL.length + 21 * k) ∧ Hid (Below w2.heap.size w2 wr)) (fun i _ _ => DD.length - (intOf i).toNat)
        case atStart => exact ⟨0, Nat.zero_le _, rfl, by simpa [spaced] using Ho1, hid (by simpa [spaced] using Hle1.out), Hb1⟩
        case round =>
          obtain ⟨k, hk, rfl, Ho, Hle, Hb⟩ := hrel
          by_cases hlt : k < DD.length
          · have hlt' : (k : Int) < (DD.length : Nat) := by omega
            obtain ⟨bb, off, rfl, o1, o2⟩ := Hwords.out (by omega)
            have hbw : Below w.heap.size w wr := bel_go Hb.out HB2.out
            have m1 := (hbw.cell (p := ⟨bb, off + k, none⟩) o1).trans (o2 k hlt)
            have hdk : DD[k] < W := HDD.out _ (List.getElem_mem hlt)
            have htk : X0 ++ spaced ((DD.take (k + 1)).map Lib.decDigits) = (X0 ++ spaced ((DD.take k).map Lib.decDigits)) ++ 32 :: Lib.decDigits DD[k] := by
              rw [List.take_succ_eq_append_getElem hlt, List.map_append, spaced_append]; simp [spaced]
            have hil := dec_len DD[k] hdk
            generalize DD[k] = x at *
            generalize hZ0 : X0 ++ spaced ((DD.take k).map Lib.decDigits) = X at *
            generalize hY0 : X0 ++ spaced ((DD.take (k + 1)).map Lib.decDigits) = Y at *
            have HY0 := hid hY0
            have Htk := hid htk
            have hx20 := Hle.out
            have Hil := hid hil
            have Hrx := hid hdk
            clear htk o2 hil hY0 hZ0 hdk Hwords
            have hHb := Hb.out.size
            have ho3 := Ho.out.alloc (.cells #[.int .u8 32] 5)
            have hn3 := byte_new wr 32 5
            have hz3 := size_alloc wr (.cells #[.int .u8 32] 5)
            have b3 := below1 wr (.cells #[.int .u8 32] 5)
            go_wp2_with (at_builtin; refine wpList_append_own _ rfl _ _ 50 rfl w2.heap.size 5 iu _ 1 1 Tryz.underlying50 hiu hiz0 hiz1 hiz2 rfl (by decide) _ X.length _ rfl ho3 ⟨wr.heap.size, 0, none⟩ 1 1 [.int .u8 32] rfl rfl hn3 (by intro u hu; simp at hu; subst hu; rfl) (by simp [maxLen]; omega) (by omega) (by omega) ?_; intro v5 w5 ho5 hg5 _)
            have hb5 : Below w2.heap.size w2 w5 := (Hb.out.trans (b3.mono hHb)).grown hg5 (by omega) (fun g hg => (World.ownsRow.lt ho3 g hg).1)
            have hz5 := hg5.size
            have ht5 : Lib.TabBelow Tryz.prog w2.heap.size w5 "internal/strconv.uint64pow10" .u64 Lib.pow10Tab := Lib.TabBelow.on Htab2.out hb5
            have Hb5 := hid hb5
            have Hc := hid (AppendUint_any w2.heap.size (X.length + 1) x Hrx.out v5 _ w5 ho5 (by omega) (by omega) (Lib.TabBelow.here ht5))
            clear ho3 hn3 b3 hg5 hb5 ht5 ho5
            go_wp2_with fail
            refine Hc.out.mono ?_
            rintro e w6 ⟨v6, rfl, ho6, hb6⟩
            have hY : Y.length = X.length + 1 + (Lib.decDigits x).length := by rw [Htk.out]; simp; omega
            have hYc : Lib.byteCells Y = Lib.byteCells X ++ [.int .u8 32] ++ Lib.byteCells (Lib.decDigits x) := by rw [Htk.out, Lib.byteCells_append]; simp [Lib.byteCells]
            rw [← hY, ← hYc] at ho6
            have Ho6 := hid ho6
            have Hb6 := hid (Hb5.out.trans hb6)
            have Hle6 : Hid (Y.length ≤ 21 * FL.length + 21 * (k + 1)) := hid (by rw [hY]; have := Hil.out; omega)
            clear ho6 hb6 hY hYc Hc Hil hx20
            go_wp2_with fail
            go_roundw
            case rel => exact ⟨k + 1, by omega, rfl, by rw [HY0.out]; exact Ho6, by rw [HY0.out]; exact Hle6, Hb6⟩
            case measure => simp [intOf]; omega
          · have hkk : k = DD.length := by omega
            subst hkk
            have hq := Ho.out
            have hq2 := Hle.out
            rw [List.take_length] at hq hq2
            have hfin : X0 ++ spaced (DD.map Lib.decDigits) = plText t := by rw [← HX0.out, ← spaced_append]; exact Htok.out
            rw [hfin] at hq hq2
            have hpos : 0 < (plText t).length := by simp [plText, plTokens, plFields, spaced]
            have hbw : Below w.heap.size w wr := bel_go Hb.out HB2.out
            generalize hTX : plText t = TX at *
            have HTX := hid hTX
            clear hTX
            obtain ⟨gb, cb, rfl, -, -⟩ := row_form hq hpos
            have hconv := run_convert_bytes_back (P := Tryz.prog) wr 50 9 5 ⟨gb, 0, none⟩ cb TX Tryz.underlying50 Tryz.underlying5 Tryz.underlying9 (fun j hj => by
              have := World.ownsRow.cells hq (g := gb) rfl j (.int .u8 (TX[j].toNat : Int)) (by simp [Lib.byteCells, hj])
              exact this)
            have Hbw := hid hbw
            clear Ho Hle Hb hq hq2 hfin hbw
            go_wp2_with fail
            go_ret
            exact ⟨by rw [HTX.out]; rfl, Hbw.out⟩
end Go.Proofs.YtckkpolikdnilaaGreatDoor
/- A pool's rows in plain words: what Make and Declare leave is a pool's again. -/
namespace Go.Proofs.YtckkpolikdnilaaGreatDoor
open Go.RowKit Big Go.WideMaps

theorem findIdx_some {α : Type} [DecidableEq α] (l : List α) (t : α) (k : Nat) (h : l.findIdx? (fun x => decide (x = t)) = some k) : ∃ h : k < l.length, l[k] = t := by
  obtain ⟨hk, hh, _⟩ := List.findIdx?_eq_some_iff_getElem.1 h
  exact ⟨hk, by simpa using hh⟩
theorem plFind_some {p : Po} {t : Tm} {k : Nat} (h : plFind p.terms t = some k) : ∃ h : k < p.terms.length, p.terms[k] = t := findIdx_some _ _ _ h
theorem plFind_none {p : Po} {t : Tm} (h : plFind p.terms t = none) : t ∉ p.terms := by
  unfold plFind at h
  rw [List.findIdx?_eq_none_iff] at h
  intro hm
  have := h t hm
  simp at this
theorem texts_contains (p : Po) (t : Tm) : (plTexts p).contains (plText t) = (plFind p.terms t).isSome := by
  cases hf : plFind p.terms t with
  | none =>
    have := plFind_none hf
    simp only [Option.isSome_none]
    rw [Bool.eq_false_iff]
    intro hc
    rw [List.contains_iff_mem] at hc
    obtain ⟨x, hx, e⟩ := List.mem_map.1 hc
    rw [plText_inj _ _ e] at hx
    exact this hx
  | some k =>
    obtain ⟨hk, e⟩ := plFind_some hf
    simp only [Option.isSome_some]
    rw [List.contains_iff_mem]
    exact List.mem_map.2 ⟨t, by rw [← e]; exact List.getElem_mem hk, rfl⟩
theorem texts_nodup {p : Po} (h : PoOk p) : (plTexts p).Nodup := by
  unfold plTexts
  rw [List.nodup_iff_pairwise_ne, List.pairwise_map]
  exact (List.nodup_iff_pairwise_ne.1 h.nodup).imp fun hne e => hne (plText_inj _ _ e)
theorem plWrong_zero {p : Po} {t : Tm} (h : plWrong p t = 0) : plBadForm t = false ∧ plNoSym p t = false ∧ plNoPart p t = false ∧ plBadCount p t = false ∧ plBadSort p t = false := by
  unfold plWrong at h
  cases h1 : plBadForm t
  · cases h2 : plNoSym p t
    · cases h3 : plNoPart p t
      · cases h4 : plBadCount p t
        · cases h5 : plBadSort p t
          · exact ⟨rfl, rfl, rfl, rfl, rfl⟩
          · simp [h1, h2, h3, h4, h5] at h
        · simp [h1, h2, h3, h4] at h
      · simp [h1, h2, h3] at h
    · simp [h1, h2] at h
  · simp [h1] at h
theorem plRule_op {op : Int} (h : (plRule op).isNone = false) : 1 ≤ op ∧ op ≤ 13 := by
  unfold plRule at h
  repeat' split at h
  all_goals first | omega | (simp at h)
theorem fields_range {p : Po} {t : Tm} (hok : PoOk p) (h : plWrong p t = 0) (hs : sz W t.num.natAbs ≤ 1099511627776) : ∀ x ∈ plFields t, -9223372036854775808 ≤ x ∧ x ≤ 9223372036854775807 := by
  obtain ⟨h1, h2, h3, -, -⟩ := plWrong_zero h
  have hop : 1 ≤ t.op ∧ t.op ≤ 13 := by
    unfold plBadForm at h1
    simp only [Bool.or_eq_false_iff] at h1
    exact plRule_op h1.1.1
  have hsym : 0 ≤ t.sym ∧ t.sym ≤ 256 := by
    by_cases h4 : t.op = 4
    · unfold plNoSym at h2
      simp [h4] at h2
      have := hok.syms
      omega
    · unfold plBadForm at h1
      simp only [Bool.or_eq_false_iff] at h1
      have h5 := h1.2
      have h6 : (plRu t.op).sym = false := by
        unfold plRu plRule
        repeat' split
        all_goals first | rfl | omega
      rw [h6] at h5
      simp at h5
      omega
  intro x hx
  simp only [plFields, List.cons_append, List.nil_append, List.mem_cons] at hx
  rcases hx with rfl | rfl | rfl | rfl | hx
  · omega
  · omega
  · rcases Int.lt_trichotomy t.num 0 with h | h | h
    · rw [Int.sign_eq_neg_one_of_neg h]; omega
    · rw [h]; decide
    · rw [Int.sign_eq_one_of_pos h]; omega
  · omega
  · have hn : plNoTerm p x = false := by
      cases hb : plNoTerm p x with
      | false => rfl
      | true =>
        have : plNoPart p t = true := List.any_eq_true.2 ⟨x, hx, hb⟩
        rw [h3] at this; cases this
    unfold plNoTerm at hn
    simp at hn
    have := hok.terms
    omega
theorem spaced_len : ∀ (l : List (List UInt8)), (∀ x ∈ l, x.length ≤ 20) → (spaced l).length ≤ 21 * l.length
  | [], _ => by simp [spaced]
  | x :: l, h => by
    have h1 := h x (by simp)
    have h2 := spaced_len l fun y hy => h y (List.mem_cons_of_mem _ hy)
    simp only [spaced, List.flatMap_cons, List.length_append, List.length_cons] at *
    omega
theorem plText_len (t : Tm) (ha : t.args.length ≤ 1099511627776) (hs : sz W t.num.natAbs ≤ 1099511627776) (hr : ∀ x ∈ plFields t, -9223372036854775808 ≤ x ∧ x ≤ 9223372036854775807) : (plText t).length ≤ 46179488366676 := by
  have h1 := spaced_len (plTokens t) fun x hx => by
    rcases List.mem_append.1 hx with hx | hx
    · obtain ⟨y, hy, rfl⟩ := List.mem_map.1 hx
      exact itoa_len y (hr y hy).1 (hr y hy).2
    · obtain ⟨y, hy, rfl⟩ := List.mem_map.1 hx
      exact dec_len y (small_dig W2 _ y hy)
  have h2 : (plTokens t).length = 4 + t.args.length + sz W t.num.natAbs := by
    unfold plTokens plFields sz
    simp
    omega
  unfold plText
  omega
theorem PoOk.make {p : Po} {t : Tm} (h : PoOk p) (hn : plFind p.terms t = none) (hl : p.terms.length < 4096) (ha : t.args.length ≤ 1099511627776) (hs : sz W t.num.natAbs ≤ 1099511627776) :
    PoOk ⟨p.syms, p.terms ++ [t], p.sorts ++ [plSort p t]⟩ := by
  refine ⟨h.syms, by simp; omega, by simp [h.sorts], h.names, h.namesz, ?_, ?_⟩
  · show (p.terms ++ [t]).Nodup
    rw [List.nodup_append]
    refine ⟨h.nodup, by simp, fun a hx b hb => ?_⟩
    simp at hb
    subst hb
    rintro rfl
    exact plFind_none hn hx
  · intro x hx
    rcases List.mem_append.1 hx with hx | hx
    · exact h.small x hx
    · simp at hx; subst hx; exact ⟨ha, hs⟩
theorem PoOk.declare {p : Po} {s : Sy} (h : PoOk p) (hn : p.syms.any (fun x => x.name == s.name) = false) (hl : p.syms.length < 256) (hs : s.name.length ≤ 281474976710656) :
    PoOk ⟨p.syms ++ [s], p.terms, p.sorts⟩ := by
  refine ⟨by simp; omega, h.terms, h.sorts, ?_, ?_, h.nodup, h.small⟩
  · show ((p.syms ++ [s]).map Sy.name).Nodup
    rw [List.map_append, List.nodup_append]
    refine ⟨h.names, by simp, fun a ha b hb => ?_⟩
    simp at hb
    subst hb
    rintro rfl
    obtain ⟨x, hx, e⟩ := List.mem_map.1 ha
    rw [List.any_eq_false] at hn
    exact hn x hx (by simp [e])
  · intro x hx
    rcases List.mem_append.1 hx with hx | hx
    · exact h.namesz x hx
    · simp at hx; subst hx; exact hs
theorem names_contains (p : Po) (s : Sy) : (plNames p).contains s.name = p.syms.any (fun x => x.name == s.name) := by
  unfold plNames
  rw [Bool.eq_iff_iff, List.contains_iff_mem, List.any_eq_true]
  simp [List.mem_map]
theorem plTexts_snoc (p : Po) (t : Tm) (so : List Int) : plTexts ⟨p.syms, p.terms ++ [t], so⟩ = plTexts p ++ [plText t] := by simp [plTexts]
theorem plNames_snoc (p : Po) (s : Sy) : plNames ⟨p.syms ++ [s], p.terms, p.sorts⟩ = plNames p ++ [s.name] := by simp [plNames]
theorem plMake_bad {p : Po} {t : Tm} (h : plWrong p t ≠ 0) : plMake p t = (p, 0, plWrong p t) := by unfold plMake; rw [if_pos h]
theorem plMake_there {p : Po} {t : Tm} {k : Nat} (h : plWrong p t = 0) (hf : plFind p.terms t = some k) : plMake p t = (p, ((k : Nat) : Int), 0) := by unfold plMake; rw [if_neg (by simp [h])]; simp [hf]
theorem plMake_full {p : Po} {t : Tm} (h : plWrong p t = 0) (hf : plFind p.terms t = none) (hl : p.terms.length = 4096) : plMake p t = (p, 0, 11) := by unfold plMake; rw [if_neg (by simp [h])]; simp [hf, hl]
theorem plMake_new {p : Po} {t : Tm} (h : plWrong p t = 0) (hf : plFind p.terms t = none) (hl : p.terms.length ≠ 4096) : plMake p t = (⟨p.syms, p.terms ++ [t], p.sorts ++ [plSort p t]⟩, ((p.terms.length : Nat) : Int), 0) := by
  unfold plMake; rw [if_neg (by simp [h])]; simp [hf, hl]
end Go.Proofs.YtckkpolikdnilaaGreatDoor
/- A region that draws its order, with one operation (an append to a row that was there) that writes into blocks of S: each operation is shown once to give its own fact, which lasts. -/
namespace Go.Proofs.YtckkpolikdnilaaGreatDoor
open Go.RowKit

/-- a fact of a slot's value that lasts while memory outside S stays -/
structure WFact (S : Nat → Prop) where
  P : Value → World → Prop
  st : ∀ v w w', P v w → Apart S w w' → P v w'
def wEq {S : Nat → Prop} (v0 : Value) : WFact S := ⟨fun v _ => v = v0, fun _ _ _ h _ => h⟩
def wAny {S : Nat → Prop} : WFact S := ⟨fun _ _ => True, fun _ _ _ h _ => h⟩
theorem wpAny_write {P : Program} {ops : Array Oper} {Q : Exit → Act → World → Prop} {a0 : Act} {w0 : World} (n s : Nat) (hsize : ops.size = n + s) (ds : List Tmp) {S : Nat → Prop} (f : Nat → WFact S) (a : Nat) (J : Value → World → Prop) (hJ : ∀ v w w', J v w → Below w.heap.size w w' → J v w')
    (hd : edgesDown .any ops = true) (hsw : storesWait .any ops n = true) (hdn : ds.Nodup) (hlen : ds.length = n) (hds : dstsAre ops n ds = true) (han : a < n)
    (hstep : ∀ i o, i < n → ops[i]? = some o → ∀ vs w, vs.length = n → Apart S w0 w → (i = a ∨ reach .any ops 8 a i = true → Below w0.heap.size w0 w) → (∀ e ∈ o.after, Region.binds .any e = true → (f e.on).P (vs.getD e.on undef) w) →
      ∀ K : Act → World → Prop, Shut (∀ v w', (f i).P v w' → (i ≠ a → Below w.heap.size w w') → (i = a → Apart S w w' ∧ J v w') → K ((putAll a0 ds vs).put o.dst v) w') →
        if Region.wanted o (yielded ops (putAll a0 ds vs).tmps) = true then Oper.wp P o (putAll a0 ds vs) w K Q else K ((putAll a0 ds vs).put o.dst undef) w)
    (hend : ∀ vs w, vs.length = n → Apart S w0 w → (∀ i, i < n → (f i).P (vs.getD i undef) w) → J (vs.getD a undef) w →
      wpAny P .any ops Q s ((List.replicate n true ++ List.replicate s false).toArray) (putAll a0 ds vs) w) :
    ∀ (c : Nat) (L : Array Bool) (vs : List Value) (w : World), (L.toList.take n).count false = c → L.size = n + s → (∀ j, n ≤ j → j < n + s → L.getD j true = false) → Closed .any ops L → vs.length = n → Apart S w0 w →
      (∀ i, i < n → L.getD i false = true → (f i).P (vs.getD i undef) w) → (L.getD a false = false → Below w0.heap.size w0 w) → (L.getD a false = true → J (vs.getD a undef) w) → wpAny P .any ops Q (c + s) L (putAll a0 ds vs) w := by
  intro c
  induction c with
  | zero =>
    intro L vs w hc hs hst hcl hvl hb hf hj0 hj1
    have hall : ∀ i, i < n → L.getD i false = true := fun i hi => by
      have hil : i < L.size := by omega
      cases hb : L[i] with
      | true => simp [Array.getD, hil, hb]
      | false =>
        exfalso
        have hmem : false ∈ L.toList.take n := by
          rw [List.mem_take_iff_getElem]
          exact ⟨i, by simp; omega, by simpa using hb⟩
        have := List.count_pos_iff.2 hmem
        omega
    have hL : L = (List.replicate n true ++ List.replicate s false).toArray := by
      apply Array.ext
      · simp [hs]
      · intro i hi hi2
        by_cases h : i < n
        · have := hall i h
          simp only [Array.getD, hi] at this
          simp [h]
          simpa using this
        · have := hst i (by omega) (by omega)
          simp only [Array.getD, hi] at this
          simp [List.getElem_append, h]
          simpa using this
    rw [Nat.zero_add, hL]
    exact hend vs w hvl hb (fun i hi => hf i hi (hall i hi)) (hj1 (hall a han))
  | succ c ih =>
    intro L vs w hc hs hst hcl hvl hb hf hj0 hj1
    have hnot : ¬ ∀ i, i < n → L.getD i false = true := fun hall => by
      have : (L.toList.take n).count false = 0 := by
        rw [List.count_eq_zero]
        intro hmem
        rw [List.mem_take_iff_getElem] at hmem
        obtain ⟨i, hi, hif⟩ := hmem
        have hi' : i < L.size := by simp at hi; omega
        have := hall i (by simp at hi; omega)
        have h2 : L.getD i false = L[i] := by simp [Array.getD, hi']
        rw [h2] at this
        rw [Array.getElem_toList] at hif
        rw [hif] at this
        cases this
      omega
    rw [show c + 1 + s = (c + s) + 1 by omega]
    refine ⟨fun hr => ?_, fun i hi => ?_⟩
    · exfalso
      apply hnot
      intro i hi
      have := all_listed hd (by rw [hs, hsize]) hr i (by omega)
      have hil : i < L.size := by omega
      simpa [Array.getD, hil] using this
    · obtain ⟨hun, o, ho, hall⟩ := mem_ready.1 hi
      have hio : i < ops.size := (Array.getElem?_eq_some_iff.1 ho).1
      have hil : i < L.size := by omega
      have hin : i < n := by
        rcases Nat.lt_or_ge i n with h | h
        · exact h
        · exfalso
          apply hnot
          intro j hj
          have h1 := List.all_eq_true.1 hsw i (by simpa using hio)
          simp only [Bool.or_eq_true, decide_eq_true_eq] at h1
          rcases h1 with h1 | h1
          · omega
          · exact reach_listed hcl 6 i o j ho hall (List.all_eq_true.1 h1 j (by simpa using hj))
      have hdst : o.dst = ds[i]? := by
        have h1 := List.all_eq_true.1 hds i (by simpa using hin)
        rw [ho] at h1
        simpa using h1
      have hdi : ds[i]? = some (ds[i]'(by omega)) := by simp
      have hia : i = a ∨ reach .any ops 8 a i = true → L.getD a false = false := fun h => by
        rcases h with rfl | h
        · simpa [Array.getD, hil] using hun
        · cases hla : L.getD a false with
          | false => rfl
          | true =>
            exfalso
            have hoa : ops[a]? = some (ops[a]'(by omega)) := by simp
            have := reach_listed hcl 8 a _ i hoa (fun e he hb => hcl a _ hoa hla e he hb) h
            have h2 : L.getD i false = L[i] := by simp [Array.getD, hil]
            rw [h2] at this
            have h3 : L.getD i true = L[i] := by simp [Array.getD, hil]
            rw [h3, this] at hun
            cases hun
      refine wpOp_step ho (fun K hK => hstep i o hin ho vs w hvl hb (fun h => hj0 (hia h)) (fun e he hbd => ?_) K (fun v w' hv hb' hp => ?_))
      · have hl := hall e he hbd
        have hlt : e.on < n := by
          rcases Nat.lt_or_ge e.on n with h | h
          · exact h
          · exfalso
            rcases Nat.lt_or_ge e.on (n + s) with h2 | h2
            · have := hst e.on h h2
              have hl2 : e.on < L.size := by omega
              simp only [Array.getD, hl2] at this hl
              simp at this hl
              rw [this] at hl; cases hl
            · have : ¬ e.on < L.size := by omega
              simp [Array.getD, this] at hl
        exact hf e.on hlt hl
      · apply hK
        rw [hdst, hdi, putAll_set hdn hdi (by omega)]
        have hset : ∀ j, i ≠ j → (L.setIfInBounds i true).getD j false = L.getD j false := fun j h => getD_set_ne false h
        have hap : Apart S w w' := by
          by_cases e : i = a
          · exact (hp e).1
          · exact Apart.of_below (hb' e)
        refine ih (L.setIfInBounds i true) (vs.set i v) w' ?_ (by simpa using hs) ?_ ?_ (by simpa using hvl) (hb.go hap) ?_ ?_ ?_
        · have hf' : (L.toList.take n)[i]'(by simp; omega) = false := by
            simp only [List.getElem_take]
            simpa [Array.getD, hil] using hun
          have := count_false_set (L.toList.take n) i (by simp; omega) hf'
          rw [Array.toList_setIfInBounds, ← List.take_set] at *
          omega
        · intro j hj hj2
          rw [getD_set_ne true (by omega)]
          exact hst j hj hj2
        · intro j o' hjo hjl e he hbd
          by_cases hji : i = j
          · subst hji
            rw [ho] at hjo
            cases hjo
            exact getD_set_true (hall e he hbd)
          · rw [hset j hji] at hjl
            exact getD_set_true (hcl j o' hjo hjl e he hbd)
        · intro j hj hjl
          by_cases hji : i = j
          · subst hji
            rw [getD_set_list_self (by omega)]
            exact hv
          · rw [hset j hji] at hjl
            rw [getD_set_list hji]
            exact (f j).st _ _ _ (hf j hj hjl) hap
        · intro hla
          by_cases hji : i = a
          · subst hji
            exfalso
            have h2 : i < (L.setIfInBounds i true).size := by simpa using hil
            simp [Array.getD, hil] at hla
          · rw [hset a hji] at hla
            have := hb' hji
            exact (hj0 hla).trans (this.mono (hj0 hla).size)
        · intro hla
          by_cases hji : i = a
          · subst hji
            rw [getD_set_list_self (by omega)]
            exact (hp rfl).2
          · rw [hset a hji] at hla
            rw [getD_set_list hji]
            exact hJ _ _ _ (hj1 hla) (hb' hji)

theorem wp_region_write {P : Program} {ops : Array Oper} {Q : Exit → Act → World → Prop} {id : Nat} {a0 : Act} {w0 : World} (n s : Nat) (ds : List Tmp) (vs0 : List Value) {S : Nat → Prop} (f : Nat → WFact S) (a : Nat) (J : Value → World → Prop) (hJ : ∀ v w w', J v w → Below w.heap.size w w' → J v w') (hm : P.follows .mixedOrders = true)
    (hsize : ops.size = n + s) (hd : edgesDown .any ops = true) (hsw : storesWait .any ops n = true) (hdn : ds.Nodup) (hlen : ds.length = n) (hds : dstsAre ops n ds = true) (hv0 : vs0.length = n) (han : a < n)
    (he : a0 = putAll a0 ds vs0)
    (hstep : ∀ i o, i < n → ops[i]? = some o → ∀ vs w, vs.length = n → Apart S w0 w → (i = a ∨ reach .any ops 8 a i = true → Below w0.heap.size w0 w) → (∀ e ∈ o.after, Region.binds .any e = true → (f e.on).P (vs.getD e.on undef) w) →
      ∀ K : Act → World → Prop, Shut (∀ v w', (f i).P v w' → (i ≠ a → Below w.heap.size w w') → (i = a → Apart S w w' ∧ J v w') → K ((putAll a0 ds vs).put o.dst v) w') →
        if Region.wanted o (yielded ops (putAll a0 ds vs).tmps) = true then Oper.wp P o (putAll a0 ds vs) w K Q else K ((putAll a0 ds vs).put o.dst undef) w)
    (hend : ∀ vs w, vs.length = n → Apart S w0 w → (∀ i, i < n → (f i).P (vs.getD i undef) w) → J (vs.getD a undef) w →
      wpAny P .any ops Q s ((List.replicate n true ++ List.replicate s false).toArray) (putAll a0 ds vs) w) : (Code.region id ops true).wp P Q a0 w0 := by
  refine wp_region_any hm ?_
  have := wpAny_write (a0 := a0) (w0 := w0) n s hsize ds f a J hJ hd hsw hdn hlen hds han hstep hend n (Array.replicate ops.size false) vs0 w0.drew
    (by rw [hsize]; simp [List.take_replicate, Nat.min_eq_left (Nat.le_add_right n s)]) (by simp [hsize]) (by intro j hj hj2; simp [Array.getD, hsize, hj2]) (by intro j o _ h; simp [Array.getD] at h) hv0 ((Apart.refl _ _).drew)
    (by intro i _ h; simp [Array.getD] at h) (fun _ => (Below.refl _ _).drew) (by intro h; simp [Array.getD] at h)
  rw [← he, ← hsize] at this
  exact this

end Go.Proofs.YtckkpolikdnilaaGreatDoor
/- (*pool.Pool).Make: the rows then, and the term's number. -/
namespace Go.Proofs.YtckkpolikdnilaaGreatDoor
open Go.RowKit Big Go.WideMaps

/-- a row of one item in a block of its own, that is none of S -/
def wRow {S : Nat → Prop} (c : List Value) (t : TypeId) : WFact S := ⟨fun v w => ∃ gg, v = .slice (some ⟨gg, 0, none⟩) 1 1 ∧ w.heap[gg]? = some (.cells c.toArray t (0, 0)) ∧ ¬ S gg,
  fun _ _ _ ⟨gg, h1, h2, h3⟩ hb => ⟨gg, h1, (hb.block gg (lt_of_block h2) h3).trans h2, h3⟩⟩
theorem cells_at {w : World} {g : Nat} {t : TypeId} {c : List Value} (h : w.heap[g]? = some (.cells c.toArray t (0, 0))) : ∀ j u, c[j]? = some u → w.cell? ((⟨g, 0, none⟩ : Addr).add j) = some u := by
  intro j u hj
  rw [Go.WideShapes.add_plain, cell_of_row w g _ _ t (0, 0) h, Nat.zero_add]
  simpa using hj
/-- a row that an append has answered: in the block of the row that was there, or in a new one -/
def RowJ (e : TypeId) (size n : Nat) (xs : List Value) (vo : Value) (N : Nat) (v : Value) (w : World) : Prop := w.ownsRow 0 e size v n xs ∧ (v.ownBlock = vo.ownBlock ∨ ∀ k, v.ownBlock = some k → N ≤ k)
theorem RowJ.below {e : TypeId} {size n N : Nat} {xs : List Value} {vo v : Value} {w w' : World} (h : RowJ e size n xs vo N v w) (hb : Below w.heap.size w w') : RowJ e size n xs vo N v w' := ⟨ownsRow_later h.1 hb, h.2⟩
theorem infoTerm : (Tryz.prog.info? 71).map (fun i => (i.zero, i.size, i.bytes)) = some (some (.agg #[.int .i64 0, .slice none 0 0, .bool false, .slice none 0 0, .int .i64 0]), 5, 72) := by kernel_rfl
def RMk (S : Nat → Prop) (g : Nat) (r : Po × Int × Int) (w : World) (e : Ending) (w' : World) : Prop := e = .returned (.tuple #[.int .i64 r.2.1, .int .i64 r.2.2]) ∧ ∃ S', PoAt w' S' g r.1 ∧ (∀ k, S' k → S k ∨ w.heap.size ≤ k) ∧ Apart S w w'
theorem five_all {w : World} {g : Nat} {a b c d e : Value} {t : TypeId} (h : w.heap[g]? = some (.cells #[a, b, c, d, e] t (0, 0))) :
    (w.cell? ⟨g, 0, none⟩ = some a ∧ w.cell? ⟨g, 1, none⟩ = some b ∧ w.cell? ⟨g, 2, none⟩ = some c ∧ w.cell? ⟨g, 3, none⟩ = some d ∧ w.cell? ⟨g, 4, none⟩ = some e) ∧ ((∀ j, w.frozen? ⟨g, j, none⟩ = false) ∧ True) :=
  ⟨five_cells h, fun j => frozen_of_row w g j _ _ h, trivial⟩
theorem set5_heap {w : World} {g b : Nat} (hb : b ≠ g) {u0 u1 u2 u3 u4 : Value} : (((((w.setCell ⟨g, 0, none⟩ u0).setCell ⟨g, 1, none⟩ u1).setCell ⟨g, 2, none⟩ u2).setCell ⟨g, 3, none⟩ u3).setCell ⟨g, 4, none⟩ u4).heap[b]? = w.heap[b]? := by
  rw [heap_setCell_other _ ⟨g, 4, none⟩ b _ hb, heap_setCell_other _ ⟨g, 3, none⟩ b _ hb, heap_setCell_other _ ⟨g, 2, none⟩ b _ hb, heap_setCell_other _ ⟨g, 1, none⟩ b _ hb, heap_setCell_other _ ⟨g, 0, none⟩ b _ hb]
theorem set5_same {w : World} {g : Nat} {a b c d e : Value} {t : TypeId} (h : w.heap[g]? = some (.cells #[a, b, c, d, e] t (0, 0))) (u0 u1 u2 u3 u4 : Value) :
    (((((w.setCell ⟨g, 0, none⟩ u0).setCell ⟨g, 1, none⟩ u1).setCell ⟨g, 2, none⟩ u2).setCell ⟨g, 3, none⟩ u3).setCell ⟨g, 4, none⟩ u4).heap[g]? = some (.cells #[u0, u1, u2, u3, u4] t (0, 0)) := by
  have := heap_setCell_same _ g 4 _ _ u4 (heap_setCell_same _ g 3 _ _ u3 (heap_setCell_same _ g 2 _ _ u2 (heap_setCell_same _ g 1 _ _ u1 (heap_setCell_same w g 0 _ _ u0 h))))
  simpa using this
theorem Tb.at {B : Nat} {w w' : World} (h : Tb B w) (hb : Below B w w') (hB : B ≤ w'.heap.size) : Tb w'.heap.size w' := fun w2 h2 => h w2 (hb.trans (h2.mono hB))

set_option maxRecDepth 100000 in
set_option maxHeartbeats 12800000 in
theorem Make_any (B : Nat) (S : Nat → Prop) (g : Nat) (p : Po) (t : Tm) (v : Value) (w : World) (h : PoAt w S g p) (hB : B ≤ w.heap.size) (htab : Tb B w) (ht : TmRaw w v t) (hla : t.args.length ≤ 1099511627776) :
    Calls Tryz.prog 72 #[.pointer (some ⟨g, 0, none⟩), v] w (RMk S g (plMake p t) w) := by
  have Hpt := hid ht
  have Hpo := hid h
  have Htab := hid htab
  have hszt : sz W t.num.natAbs ≤ 1099511627776 := by obtain ⟨pa, ca, b, pm, nm, cm, -, -, hr⟩ := ht; exact hr.sz
  obtain ⟨pa, ca, b, pm, nm, cm, rfl, -, -⟩ := ht
  have bx := heap_alloc_new w (.cells #[.int .i64 t.op, .slice pa t.args.length ca, .bool b, .slice pm nm cm, .int .i64 t.sym] 71)
  have b0 := below1 w (.cells #[.int .i64 t.op, .slice pa t.args.length ca, .bool b, .slice pm nm cm, .int .i64 t.sym] 71)
  have q0 := cell_new5 w (.int .i64 t.op) (.slice pa t.args.length ca) (.bool b) (.slice pm nm cm) (.int .i64 t.sym) 71
  have hs0 := size_alloc w (.cells #[.int .i64 t.op, .slice pa t.args.length ca, .bool b, .slice pm nm cm, .int .i64 t.sym] 71)
  obtain ⟨r, hr⟩ : ∃ r, r = plMake p t := ⟨_, rfl⟩
  rw [← hr]
  have Hr := hid hr
  have hw := fun w' hb => wrong_any g p t _ w' (Hpo.out.rd.below (w' := w') hb) (Hpt.out.below hb)
  generalize her : plWrong p t = er at hw
  have Her := hid her
  have Hw := hid hw
  clear h hr hw her htab
  go_enter Tryz.func72, Tryz.ntmps72
  go_wp2_with fail
  generalize hW : (w.alloc (.cells #[.int .i64 t.op, .slice pa t.args.length ca, .bool b, .slice pm nm cm, .int .i64 t.sym] 71)) = W0 at *
  clear hW
  refine (Hw.out _ b0).mono ?_
  rintro e w1 ⟨rfl, b1⟩
  have bw1 := bel_go b1 b0
  cases hx : (er != 0)
  case true =>
    have Hx := hid hx
    clear q0 bx
    go_wp2
    go_ret2
    have hne : plWrong p t ≠ 0 := by rw [Her.out]; simpa using Hx.out
    exact ⟨by rw [Hr.out, plMake_bad hne, Her.out]; rfl, S, by rw [Hr.out, plMake_bad hne]; exact Hpo.out.below bw1, fun k h => .inl h, Apart.of_below bw1⟩
  case false =>
    have hz : plWrong p t = 0 := by rw [Her.out]; simpa using hx
    have Hz := hid hz
    have bx1 := (b1.block w.heap.size (by omega)).trans bx
    have q1 := five_cells bx1
    have hz1 := b1.size
    have Hown := hid (ownTerm_any t _ w1 (Hpt.out.below bw1) hla)
    clear q0 bx hz Hw
    obtain ⟨x0, x1, x2, x3, x4⟩ := q1
    go_wp2_with fail
    refine Hown.out.mono ?_
    rintro e w2 ⟨v2, rfl, hT, b2⟩
    obtain ⟨pa2, ca2, pm2, nm2, cm2, rfl, ho2, hn2⟩ := hT
    have bx2 := (b2.block w.heap.size (by omega)).trans bx1
    have q2 := five_all bx2
    obtain ⟨⟨x0, x1, x2, x3, x4⟩, fz, -⟩ := q2
    have f0 := fz 0; have f1 := fz 1; have f2 := fz 2; have f3 := fz 3; have f4 := fz 4
    clear fz Hown
    go_upto_region 7 with fail
    clear x0 x1 x2 x3 x4 f0 f1 f2 f3 f4
    have bx3 := set5_same bx2 (.int .i64 t.op) (.slice pa2 t.args.length ca2) (.bool (decide (t.num < 0))) (.slice pm2 nm2 cm2) (.int .i64 t.sym)
    have E3 : ∀ k, k ≠ w.heap.size → (((((w2.setCell ⟨w.heap.size, 0, none⟩ (.int .i64 t.op)).setCell ⟨w.heap.size, 1, none⟩ (.slice pa2 t.args.length ca2)).setCell ⟨w.heap.size, 2, none⟩ (.bool (decide (t.num < 0)))).setCell ⟨w.heap.size, 3, none⟩ (.slice pm2 nm2 cm2)).setCell ⟨w.heap.size, 4, none⟩ (.int .i64 t.sym)).heap[k]? = w2.heap[k]? := fun k hk => set5_heap hk
    have b3 : Below w.heap.size w (((((w2.setCell ⟨w.heap.size, 0, none⟩ (.int .i64 t.op)).setCell ⟨w.heap.size, 1, none⟩ (.slice pa2 t.args.length ca2)).setCell ⟨w.heap.size, 2, none⟩ (.bool (decide (t.num < 0)))).setCell ⟨w.heap.size, 3, none⟩ (.slice pm2 nm2 cm2)).setCell ⟨w.heap.size, 4, none⟩ (.int .i64 t.sym)) := (((((bel_go b2 bw1).setCell (p := ⟨w.heap.size, 0, none⟩) (Nat.le_refl _) _).setCell (p := ⟨w.heap.size, 1, none⟩) (Nat.le_refl _) _).setCell (p := ⟨w.heap.size, 2, none⟩) (Nat.le_refl _) _).setCell (p := ⟨w.heap.size, 3, none⟩) (Nat.le_refl _) _).setCell (p := ⟨w.heap.size, 4, none⟩) (Nat.le_refl _) _
    have hz3 : (((((w2.setCell ⟨w.heap.size, 0, none⟩ (.int .i64 t.op)).setCell ⟨w.heap.size, 1, none⟩ (.slice pa2 t.args.length ca2)).setCell ⟨w.heap.size, 2, none⟩ (.bool (decide (t.num < 0)))).setCell ⟨w.heap.size, 3, none⟩ (.slice pm2 nm2 cm2)).setCell ⟨w.heap.size, 4, none⟩ (.int .i64 t.sym)).heap.size = w2.heap.size := by simp [World.setCell]
    generalize hW3 : (((((w2.setCell ⟨w.heap.size, 0, none⟩ (.int .i64 t.op)).setCell ⟨w.heap.size, 1, none⟩ (.slice pa2 t.args.length ca2)).setCell ⟨w.heap.size, 2, none⟩ (.bool (decide (t.num < 0)))).setCell ⟨w.heap.size, 3, none⟩ (.slice pm2 nm2 cm2)).setCell ⟨w.heap.size, 4, none⟩ (.int .i64 t.sym)) = W3 at *
    have hlow : w.heap.size < w1.heap.size := by omega
    have ho3 : W3.ownsRow w1.heap.size 3 1 (.slice pa2 t.args.length ca2) t.args.length (zints t.args) := row_stays ho2 fun k hk => E3 k (by have := (World.ownsRow.lt ho2 k hk).1; omega)
    have hn3 : Own W3 w1.heap.size 94 .u64 (.slice pm2 nm2 cm2) (dig W t.num.natAbs) := row_stays hn2 fun k hk => E3 k (by have := (World.ownsRow.lt hn2 k hk).1; omega)
    have hT3 : TmTold w1.heap.size W3 (.agg #[.int .i64 t.op, .slice pa2 t.args.length ca2, .bool (decide (t.num < 0)), .slice pm2 nm2 cm2, .int .i64 t.sym]) t := ⟨pa2, ca2, pm2, nm2, cm2, rfl, ho3, hn3⟩
    have htx := textOf_any w1.heap.size t _ W3 hT3 hla hszt (Htab.out.at (b3.mono hB) (Nat.le_trans hB b3.size)) (fields_range Hpo.out.2.1 Hz.out hszt)
    have Htx := hid htx
    have q3 := five_cells bx3
    have Ho3 := hid ho3; have Hn3 := hid hn3
    clear htx hT3 bx2 bx1 ho2 hn2 hW3 E3 ho3 hn3
    obtain ⟨x0, x1, x2, x3, x4⟩ := q3
    go_wp2_with fail
    refine Htx.out.mono ?_
    rintro e w4 ⟨rfl, b4⟩
    clear x0 x1 x2 x3 x4 Htx
    have bw4 := bel_go b4 b3
    have hsb := b2.size
    have bx4 := (b4.block w.heap.size (by omega)).trans bx3
    have Ho4 := hid (ownsRow_later Ho3.out b4); have Hn4 := hid (Hn3.out.kept b4)
    have h4 := Hpo.out.below bw4
    obtain ⟨⟨vs, vt, vo, mn, mk, cs, H4⟩, hok, hSlt⟩ := h4
    have HH4 := hid H4
    have Hok := hid hok
    have HS4 := hid Hpo.out.2.2
    have hTx : (plText t).length ≤ maxLen := by
      have := plText_len t hla hszt (fields_range hok Hz.out hszt)
      unfold maxLen; omega
    have hhas := fun w' hb => has_any 0 mk (plTexts p) (plText t) w' (H4.texts.1.below (w' := w') hb) hTx
    rw [texts_contains] at hhas
    have Hhas := hid hhas
    have q4 := five_cells H4.cell
    have HTx := hid hTx
    have hz4 := b4.size
    clear b4 b3 Ho3 Hn3 bx3 hhas H4 hok hSlt hTx
    obtain ⟨x0, x1, x2, x3, x4⟩ := q4
    cases hf : plFind p.terms t with
    | some k =>
      have Hf := hid hf
      rw [hf] at Hhas
      simp only [Option.isSome_some] at Hhas
      have hkk := plFind_some hf
      obtain ⟨hk, hke⟩ := hkk
      have hkt : k < (plTexts p).length := by simp [plTexts]; exact hk
      have hkx : (plTexts p)[k] = plText t := by simp [plTexts, hke]
      have hlook : (Instr.lookup 117 (.map mk) (.string ⟨(plText t).toArray⟩) false).run Tryz.prog w4 = .ok (.int .i64 (k : Nat)) w4 := by
        rcases HH4.out.texts.1 with ⟨-, h2⟩ | ⟨b', rfl, -, hm⟩
        · rw [h2] at hkt; simp at hkt
        · obtain ⟨c, hrun, hat, -⟩ := hm.lookup_int (Maps.string_keyed Tryz.underlying9) Tryz.underlying117 Tryz.underlying3 (zeroInt _) (key_of (plText t) HTx.out)
          rw [← hkx, mapD_at _ (texts_nodup Hok.out) k hkt] at hat
          injection hat with hat
          injection hat with _ hat
          rw [hat]; exact hrun
      clear hf hkx hkt hke hk
      go_wp2_with (refine (Hhas.out _ (Below.refl _ _)).mono ?_; rintro e w4 ⟨rfl, rfl⟩)
      go_ret2
      exact ⟨by rw [Hr.out, plMake_there Hz.out Hf.out]; rfl, S, by rw [Hr.out, plMake_there Hz.out Hf.out]; exact Hpo.out.below bw4, fun k h => .inl h, Apart.of_below bw4⟩
    | none =>
      have Hf := hid hf
      rw [hf] at Hhas
      simp only [Option.isSome_none] at Hhas
      obtain ⟨pt, cpt, evt⟩ := ownsRow_shape HH4.out.terms
      cases hfull : ((p.terms.length : Int) == 4096)
      case true =>
        have Hfl := hid (show p.terms.length = 4096 by simp at hfull; omega)
        subst evt
        clear hf
        go_wp2_with (refine (Hhas.out _ (Below.refl _ _)).mono ?_; rintro e w4 ⟨rfl, rfl⟩)
        go_ret2
        exact ⟨by rw [Hr.out, plMake_full Hz.out Hf.out Hfl.out]; rfl, S, by rw [Hr.out, plMake_full Hz.out Hf.out Hfl.out]; exact Hpo.out.below bw4, fun k h => .inl h, Apart.of_below bw4⟩
      case false =>
        have hfl : p.terms.length ≠ 4096 := by simp at hfull; omega
        have Hfl := hid hfl
        have Hevt := hid evt
        subst evt
        clear hf hfl
        go_upto_region 13 with (refine (Hhas.out _ (Below.refl _ _)).mono ?_; rintro e w4 ⟨rfl, rfl⟩)
        clear x0 x1 x2 x3 x4 hfull
        have S5 : PoParts w4 (Wide S w.heap.size) g p (plNames p) (plTexts p) vs (.slice pt p.terms.length cpt) vo mn mk cs := HH4.out.stays (fun k h => .inl h) (fun _ _ _ => rfl)
        have HS5 := hid S5
        have Hvlt : Hid (∀ k, vo.ownBlock = some k → k < w4.heap.size) := hid fun k hk => (World.ownsRow.lt S5.sorts k hk).2
        have Hrow := hid S5.sorts
        have hvN : vo.ownBlock ≠ some w.heap.size := fun e => tag_ne bx4 (row_tag S5.sorts _ e).choose_spec (by decide) rfl
        have hvg : vo.ownBlock ≠ some g := fun e => row_ne S5.sorts S5.cell (by decide) g e rfl
        have HS : Hid (∀ w', Apart (fun k => vo.ownBlock = some k) w4 w' → (w'.cell? ⟨g, 0, none⟩ = some vs ∧ w'.cell? ⟨g, 1, none⟩ = some (.slice pt p.terms.length cpt) ∧ w'.cell? ⟨g, 2, none⟩ = some vo ∧ w'.cell? ⟨g, 3, none⟩ = some (.map mn) ∧ w'.cell? ⟨g, 4, none⟩ = some (.map mk)) ∧ ((∀ j, w'.frozen? ⟨g, j, none⟩ = false) ∧ True) ∧
            (w'.cell? ⟨w.heap.size, 0, none⟩ = some (.int .i64 t.op) ∧ w'.cell? ⟨w.heap.size, 1, none⟩ = some (.slice pa2 t.args.length ca2) ∧ w'.cell? ⟨w.heap.size, 2, none⟩ = some (.bool (decide (t.num < 0))) ∧ w'.cell? ⟨w.heap.size, 3, none⟩ = some (.slice pm2 nm2 cm2) ∧ w'.cell? ⟨w.heap.size, 4, none⟩ = some (.int .i64 t.sym))) := fun w' ha => by
          have h1 := five_all ((ha.block g S5.lt hvg).trans S5.cell)
          exact ⟨h1.1, h1.2, five_cells ((ha.block w.heap.size (lt_of_block bx4) hvN).trans bx4)⟩
        have hszn : p.sorts.length ≤ 4096 := by have := Hok.out.sorts; have := Hok.out.terms; omega
        have Hrd := hid (S5.rd Hok.out.terms Hok.out.syms Hok.out.sorts)
        have hraw4 : TmRaw w4 (.agg #[.int .i64 t.op, .slice pa2 t.args.length ca2, .bool (decide (t.num < 0)), .slice pm2 nm2 cm2, .int .i64 t.sym]) t := ⟨pa2, ca2, _, pm2, nm2, cm2, rfl, IAt.own (ownsRow_mono Ho4.out (Nat.zero_le _)), IntAt.raw ⟨_, rfl, Hn4.out.at⟩ hszt⟩
        have Hraw := hid hraw4
        obtain ⟨i0, hii, hiz0, hiz1, hiz2⟩ := elemInts.row
        have hns := (plWrong_zero Hz.out).2.1
        have Hns := hid hns
        have Hite := hid (iteIn_of p t (plWrong_zero Hz.out).2.2.1 (plWrong_zero Hz.out).2.2.2.1)
        have Hb4 := hid bx4; have Hbw4 := hid bw4
        clear S5 hvN hvg hraw4 hns Hhas bx4 bw4
        refine wp_region_write (w0 := w4) 12 1 [44, 45, 46, 47, 48, 49, 50, 51, 52, 53, 54, 55] [undef, undef, undef, undef, undef, undef, undef, undef, undef, undef, undef, undef] (S := (fun k => vo.ownBlock = some k))
          (fun i => match i with | 0 => wEq (.pointer (some ⟨g, 0, none⟩)) | 1 => wEq (.pointer (some ⟨g, 0, none⟩)) | 2 => wEq (.pointer (some ⟨g, 0, none⟩)) | 3 => wEq (.pointer (some ⟨g, 2, none⟩)) | 4 => wEq vo | 5 => wEq (.pointer (some ⟨g, 0, none⟩)) | 6 => wEq (.agg #[.int .i64 t.op, .slice pa2 t.args.length ca2, .bool (decide (t.num < 0)), .slice pm2 nm2 cm2, .int .i64 t.sym]) | 7 => wEq (.int .i64 (plSort p t)) | 8 => wRow [.int .i64 (plSort p t)] 3 | 9 => wAny | 10 => wEq (.pointer (some ⟨g, 0, none⟩)) | _ => wEq (.pointer (some ⟨g, 2, none⟩))) 9 (RowJ 3 1 (p.sorts.length + 1) ((zints p.sorts) ++ [.int .i64 (plSort p t)]) vo w4.heap.size) (fun _ _ _ h hb => h.below hb) (by kernel_rfl) (by kernel_rfl) (by kernel_rfl) (by kernel_rfl) (by decide) rfl (by kernel_rfl) rfl (by decide) ?he1 ?_ ?_
        case he1 => simp only [putAll, Act.put, List.setIfInBounds_toArray, List.set_cons_zero, List.set_cons_succ]
        · intro i o hi ho vs wx hvl hb hB hdep K hK
          have hvs := vlen12 hvl
          obtain ⟨s44, s45, s46, s47, s48, s49, s50, s51, s52, s53, s54, s55, rfl⟩ := hvs
          clear hvl
          have hk := HS.out wx hb
          obtain ⟨⟨q0, q1, q2, q3, q4⟩, -, hbox⟩ := hk
          go_split_ands
          rcases i with _ | _ | _ | _ | _ | _ | _ | _ | _ | _ | _ | _ | i
          all_goals (simp only [List.getElem?_toArray, List.getElem?_cons_zero, List.getElem?_cons_succ, Option.some.injEq] at ho)
          all_goals try (subst ho)
          all_goals try simp only [putAll, Act.put, List.setIfInBounds_toArray, List.set_cons_zero, List.set_cons_succ]
          · go_simp
            have hK' := hK.out
            simp only [putAll, Act.put, List.setIfInBounds_toArray, List.set_cons_zero, List.set_cons_succ] at hK'
            exact hK' _ _ rfl (fun _ => Below.refl _ _) (fun h => absurd h (by decide))
          · go_simp
            have hK' := hK.out
            simp only [putAll, Act.put, List.setIfInBounds_toArray, List.set_cons_zero, List.set_cons_succ] at hK'
            exact hK' _ _ rfl (fun _ => Below.refl _ _) (fun h => absurd h (by decide))
          · have e1 : s45 = _ := hdep ⟨1, .data⟩ (by simp) rfl
            have e1 := e1.symm
            subst e1
            go_simp
            have hK' := hK.out
            simp only [putAll, Act.put, List.setIfInBounds_toArray, List.set_cons_zero, List.set_cons_succ] at hK'
            exact hK' _ _ rfl (fun _ => Below.refl _ _) (fun h => absurd h (by decide))
          · have e2 : s46 = _ := hdep ⟨2, .data⟩ (by simp) rfl
            have e2 := e2.symm
            subst e2
            go_simp
            have hK' := hK.out
            simp only [putAll, Act.put, List.setIfInBounds_toArray, List.set_cons_zero, List.set_cons_succ] at hK'
            exact hK' _ _ rfl (fun _ => Below.refl _ _) (fun h => absurd h (by decide))
          · have e3 : s47 = _ := hdep ⟨3, .data⟩ (by simp) rfl
            have e3 := e3.symm
            subst e3
            go_simp
            have hK' := hK.out
            simp only [putAll, Act.put, List.setIfInBounds_toArray, List.set_cons_zero, List.set_cons_succ] at hK'
            exact hK' _ _ rfl (fun _ => Below.refl _ _) (fun h => absurd h (by decide))
          · go_simp
            have hK' := hK.out
            simp only [putAll, Act.put, List.setIfInBounds_toArray, List.set_cons_zero, List.set_cons_succ] at hK'
            exact hK' _ _ rfl (fun _ => Below.refl _ _) (fun h => absurd h (by decide))
          · go_simp
            have hK' := hK.out
            simp only [putAll, Act.put, List.setIfInBounds_toArray, List.set_cons_zero, List.set_cons_succ] at hK'
            exact hK' _ _ rfl (fun _ => Below.refl _ _) (fun h => absurd h (by decide))
          · have e5 : s49 = _ := hdep ⟨5, .data⟩ (by simp) rfl
            have e5 := e5.symm
            subst e5
            have e6 : s50 = _ := hdep ⟨6, .data⟩ (by simp) rfl
            have e6 := e6.symm
            subst e6
            have hbB := hB (Or.inr (by kernel_rfl))
            go_simp
            refine (sortOf_any g p t _ _ (Hrd.out.below hbB) (Hraw.out.below hbB) Hns.out Hite.out).mono ?_
            rintro e wy ⟨rfl, hby⟩
            go_wp2_with fail
            have hK' := hK.out
            simp only [putAll, Act.put, List.setIfInBounds_toArray, List.set_cons_zero, List.set_cons_succ] at hK'
            exact hK' _ _ rfl (fun _ => hby) (fun h => absurd h (by decide))
          · have e7 : s51 = _ := hdep ⟨7, .data⟩ (by simp) rfl
            have e7 := e7.symm
            subst e7
            go_simp
            have hK' := hK.out
            simp only [putAll, Act.put, List.setIfInBounds_toArray, List.set_cons_zero, List.set_cons_succ] at hK'
            exact hK' _ _ ⟨_, rfl, heap_alloc_new _ _, fun e => by have := Hvlt.out _ e; have := hb.size; omega⟩ (fun _ => below1 _ _) (fun h => absurd h (by decide))
          · have e4 : s48 = _ := hdep ⟨4, .data⟩ (by simp) rfl
            have e4 := e4.symm
            subst e4
            have e8 : (wRow [.int .i64 (plSort p t)] 3).P s52 wx := hdep ⟨8, .data⟩ (by simp) rfl
            have hbB := hB (Or.inl rfl)
            obtain ⟨gg, e8, hg8, -⟩ := e8
            subst e8
            have hrow : wx.ownsRow 0 3 1 vo p.sorts.length (zints p.sorts) := row_stays Hrow.out fun k hk => hbB.block k (Hvlt.out k hk)
            have hK' := hK.out
            simp only [putAll, Act.put, List.setIfInBounds_toArray, List.set_cons_zero, List.set_cons_succ] at hK'
            rw [if_pos (by rfl)]
            refine step_append (.tmp 48) (.tmp 52) 69 ?ho 0 3 i0 (.int .i64 0) 1 8 elemInts.und hii hiz0 hiz1 hiz2 rfl (by decide) vo p.sorts.length (zints p.sorts) ?hs hrow ⟨gg, 0, none⟩ 1 1 [.int .i64 (plSort p t)] ?hx rfl ?c1 ?c2 ?c3 ?c4 (Nat.zero_le _) ?_
            case ho => rfl
            case hs => rfl
            case hx => rfl
            case c1 => exact cells_at hg8
            case c2 => intro u hu; simp at hu; (subst hu; rfl)
            case c3 => simp [maxLen]; omega
            case c4 => omega
            intro v' w' hown' hgrow hat
            refine hK' _ _ trivial (fun h => absurd rfl h) (fun _ => ⟨(Apart.refl _ _).grown hgrow (fun k e => e), hown', ?_⟩)
            rcases hat with hat | hat
            · exact .inl hat
            · exact .inr fun k hk => by rw [hat] at hk; cases hk; exact hbB.size
          · have e0 : s44 = _ := hdep ⟨0, .data⟩ (by simp) rfl
            have e0 := e0.symm
            subst e0
            go_simp
            have hK' := hK.out
            simp only [putAll, Act.put, List.setIfInBounds_toArray, List.set_cons_zero, List.set_cons_succ] at hK'
            exact hK' _ _ rfl (fun _ => Below.refl _ _) (fun h => absurd h (by decide))
          · have e10 : s54 = _ := hdep ⟨10, .data⟩ (by simp) rfl
            have e10 := e10.symm
            subst e10
            go_simp
            have hK' := hK.out
            simp only [putAll, Act.put, List.setIfInBounds_toArray, List.set_cons_zero, List.set_cons_succ] at hK'
            exact hK' _ _ rfl (fun _ => Below.refl _ _) (fun h => absurd h (by decide))
          · omega
        · intro vs wx hvl hb hf hJw
          have hvs := vlen12 hvl
          obtain ⟨s44, s45, s46, s47, s48, s49, s50, s51, s52, s53, s54, s55, rfl⟩ := hvs
          have fp : s55 = .pointer (some ⟨g, 2, none⟩) := hf 11 (by decide)
          subst fp
          have hJw : RowJ 3 1 (p.sorts.length + 1) ((zints p.sorts) ++ [.int .i64 (plSort p t)]) vo w4.heap.size s53 wx := hJw
          obtain ⟨hj1, hj2⟩ := hJw
          obtain ⟨pv, cv, ev⟩ := ownsRow_shape hj1
          subst ev
          clear hf hvl
          have hk := HS.out wx hb
          obtain ⟨⟨q0, q1, q2, q3, q4⟩, ⟨fz, -⟩, -⟩ := hk
          refine wpAny_one (i := 12) (by kernel_rfl) rfl ?_
          intro K hK
          simp only [putAll, Act.put, List.setIfInBounds_toArray, List.set_cons_zero, List.set_cons_succ]
          have hK' := hK.out
          have fzz := fz 2
          go_simp
          apply hK'
          clear hK hK' q0 q1 q2 q3 q4 fz fzz
          refine wpAny_done (by kernel_rfl) ?_ _
          try simp only [putAll, Act.put, List.setIfInBounds_toArray, List.set_cons_zero, List.set_cons_succ]
          have S6 := HS5.out.sort (plSort p t) hb hj1 hj2 (fun k hk => .inr (Nat.le_trans Hbw4.out.size hk))
          have A6 : Apart S w4 (wx.setCell ⟨g, 2, none⟩ (.slice pv (p.sorts.length + 1) cv)) := (hb.mono fun k hk => HH4.out.sortsIn k hk).setCell (p := ⟨g, 2, none⟩) HH4.out.own _
          have E6 : ∀ k, k < w4.heap.size → k ≠ g → vo.ownBlock ≠ some k → (wx.setCell ⟨g, 2, none⟩ (.slice pv (p.sorts.length + 1) cv)).heap[k]? = w4.heap[k]? := fun k h1 h2 h3 => (Below.heap_setCell _ _ _ _ h2).trans (hb.block k h1 h3)
          have hvs : ∀ k, vo.ownBlock = some k → k < w.heap.size := fun k hk => HS4.out k (HH4.out.sortsIn k hk)
          have hgs : g < w.heap.size := HS4.out g HH4.out.own
          have hz4w := Hbw4.out.size
          have eA : ∀ k, (Value.slice pa2 t.args.length ca2).ownBlock = some k → (wx.setCell ⟨g, 2, none⟩ (.slice pv (p.sorts.length + 1) cv)).heap[k]? = w4.heap[k]? := fun k hk => by
            have h1 := World.ownsRow.lt Ho4.out k hk
            exact E6 k h1.2 (by omega) (fun e => by have := hvs k e; omega)
          have eN : ∀ k, (Value.slice pm2 nm2 cm2).ownBlock = some k → (wx.setCell ⟨g, 2, none⟩ (.slice pv (p.sorts.length + 1) cv)).heap[k]? = w4.heap[k]? := fun k hk => by
            have h1 := World.ownsRow.lt Hn4.out k hk
            exact E6 k h1.2 (by omega) (fun e => by have := hvs k e; omega)
          have htm : TmIn (wx.setCell ⟨g, 2, none⟩ (.slice pv (p.sorts.length + 1) cv)) (Wide S w.heap.size) (.slice pv (p.sorts.length + 1) cv) t [.int .i64 t.op, .slice pa2 t.args.length ca2, .bool (decide (t.num < 0)), .slice pm2 nm2 cm2, .int .i64 t.sym] :=
            ⟨_, _, rfl, ownsRow_mono (row_stays Ho4.out eA) (Nat.zero_le _), Own.mono (row_stays Hn4.out eN) (Nat.zero_le _), fun k hk => .inr (by have := (World.ownsRow.lt Ho4.out k hk).1; omega), fun k hk => .inr (by have := (World.ownsRow.lt Hn4.out k hk).1; omega),
             fun k hk e => by
               have h1 := World.ownsRow.lt Ho4.out k hk
               rcases hj2 with h | h
               · rw [h] at e; have := hvs k e; omega
               · have := h k e; omega⟩
          have bx6 : (wx.setCell ⟨g, 2, none⟩ (.slice pv (p.sorts.length + 1) cv)).heap[w.heap.size]? = _ := (E6 w.heap.size (lt_of_block Hb4.out) (by omega) (fun e => by have := hvs _ e; omega)).trans Hb4.out
          generalize hW6 : (wx.setCell ⟨g, 2, none⟩ (.slice pv (p.sorts.length + 1) cv)) = w6 at *
          clear hW6 E6 eA eN hb hj1 hj2 Hvlt Hrow HS Hrd Hraw Hns Hite HS5 Hb4 Ho4 Hn4
          have HS6 := hid S6
          have Htm := hid htm
          have HA6 := hid A6
          have Hvlt : Hid (∀ k, (Value.slice pt p.terms.length cpt).ownBlock = some k → k < w6.heap.size) := hid fun k hk => (World.ownsRow.lt S6.terms k hk).2
          have Hrow := hid S6.terms
          have hvN : (Value.slice pt p.terms.length cpt).ownBlock ≠ some w.heap.size := fun e => by have := HS4.out _ (HH4.out.termsIn _ e); omega
          have hvg : (Value.slice pt p.terms.length cpt).ownBlock ≠ some g := fun e => row_ne S6.terms S6.cell (by decide) g e rfl
          have HS : Hid (∀ w', Apart (fun k => (Value.slice pt p.terms.length cpt).ownBlock = some k) w6 w' → (w'.cell? ⟨g, 0, none⟩ = some vs ∧ w'.cell? ⟨g, 1, none⟩ = some (.slice pt p.terms.length cpt) ∧ w'.cell? ⟨g, 2, none⟩ = some (.slice pv (p.sorts.length + 1) cv) ∧ w'.cell? ⟨g, 3, none⟩ = some (.map mn) ∧ w'.cell? ⟨g, 4, none⟩ = some (.map mk)) ∧ ((∀ j, w'.frozen? ⟨g, j, none⟩ = false) ∧ True) ∧
              (w'.cell? ⟨w.heap.size, 0, none⟩ = some (.int .i64 t.op) ∧ w'.cell? ⟨w.heap.size, 1, none⟩ = some (.slice pa2 t.args.length ca2) ∧ w'.cell? ⟨w.heap.size, 2, none⟩ = some (.bool (decide (t.num < 0))) ∧ w'.cell? ⟨w.heap.size, 3, none⟩ = some (.slice pm2 nm2 cm2) ∧ w'.cell? ⟨w.heap.size, 4, none⟩ = some (.int .i64 t.sym))) := fun w' ha => by
            have h1 := five_all ((ha.block g S6.lt hvg).trans S6.cell)
            exact ⟨h1.1, h1.2, five_cells ((ha.block w.heap.size (lt_of_block bx6) hvN).trans bx6)⟩
          have htn := Hok.out.terms
          obtain ⟨i1, hij, hjz0, hjz1, hjz2⟩ := info_parts infoTerm
          have hz46 := A6.size
          clear S6 htm A6 hvN hvg bx6 hvs
          go_upto_region 14 with fail
          refine wp_region_write (w0 := w6) 10 1 [56, 57, 58, 59, 60, 61, 62, 63, 64, 65] [undef, undef, undef, undef, undef, undef, undef, undef, undef, undef] (S := (fun k => (Value.slice pt p.terms.length cpt).ownBlock = some k))
            (fun i => match i with | 0 => wEq (.pointer (some ⟨g, 0, none⟩)) | 1 => wEq (.pointer (some ⟨g, 0, none⟩)) | 2 => wEq (.pointer (some ⟨g, 0, none⟩)) | 3 => wEq (.pointer (some ⟨g, 1, none⟩)) | 4 => wEq (Value.slice pt p.terms.length cpt) | 5 => wEq (.agg #[.int .i64 t.op, .slice pa2 t.args.length ca2, .bool (decide (t.num < 0)), .slice pm2 nm2 cm2, .int .i64 t.sym]) | 6 => wRow [.int .i64 t.op, .slice pa2 t.args.length ca2, .bool (decide (t.num < 0)), .slice pm2 nm2 cm2, .int .i64 t.sym] 71 | 7 => wAny | 8 => wEq (.pointer (some ⟨g, 0, none⟩)) | _ => wEq (.pointer (some ⟨g, 1, none⟩))) 7 (RowJ 71 5 (p.terms.length + 1) (cs ++ [.int .i64 t.op, .slice pa2 t.args.length ca2, .bool (decide (t.num < 0)), .slice pm2 nm2 cm2, .int .i64 t.sym]) (Value.slice pt p.terms.length cpt) w6.heap.size) (fun _ _ _ h hb => h.below hb) (by kernel_rfl) (by kernel_rfl) (by kernel_rfl) (by kernel_rfl) (by decide) rfl (by kernel_rfl) rfl (by decide) ?he2 ?_ ?_
          case he2 => simp only [putAll, Act.put, List.setIfInBounds_toArray, List.set_cons_zero, List.set_cons_succ]
          · intro i o hi ho vs wx hvl hb hB hdep K hK
            have hvs := vlen10 hvl
            obtain ⟨s56, s57, s58, s59, s60, s61, s62, s63, s64, s65, rfl⟩ := hvs
            clear hvl
            have hk := HS.out wx hb
            obtain ⟨⟨q0, q1, q2, q3, q4⟩, -, hbox⟩ := hk
            go_split_ands
            rcases i with _ | _ | _ | _ | _ | _ | _ | _ | _ | _ | i
            all_goals (simp only [List.getElem?_toArray, List.getElem?_cons_zero, List.getElem?_cons_succ, Option.some.injEq] at ho)
            all_goals try (subst ho)
            all_goals try simp only [putAll, Act.put, List.setIfInBounds_toArray, List.set_cons_zero, List.set_cons_succ]
            · go_simp
              have hK' := hK.out
              simp only [putAll, Act.put, List.setIfInBounds_toArray, List.set_cons_zero, List.set_cons_succ] at hK'
              exact hK' _ _ rfl (fun _ => Below.refl _ _) (fun h => absurd h (by decide))
            · go_simp
              have hK' := hK.out
              simp only [putAll, Act.put, List.setIfInBounds_toArray, List.set_cons_zero, List.set_cons_succ] at hK'
              exact hK' _ _ rfl (fun _ => Below.refl _ _) (fun h => absurd h (by decide))
            · have e1 : s57 = _ := hdep ⟨1, .data⟩ (by simp) rfl
              have e1 := e1.symm
              subst e1
              go_simp
              have hK' := hK.out
              simp only [putAll, Act.put, List.setIfInBounds_toArray, List.set_cons_zero, List.set_cons_succ] at hK'
              exact hK' _ _ rfl (fun _ => Below.refl _ _) (fun h => absurd h (by decide))
            · have e2 : s58 = _ := hdep ⟨2, .data⟩ (by simp) rfl
              have e2 := e2.symm
              subst e2
              go_simp
              have hK' := hK.out
              simp only [putAll, Act.put, List.setIfInBounds_toArray, List.set_cons_zero, List.set_cons_succ] at hK'
              exact hK' _ _ rfl (fun _ => Below.refl _ _) (fun h => absurd h (by decide))
            · have e3 : s59 = _ := hdep ⟨3, .data⟩ (by simp) rfl
              have e3 := e3.symm
              subst e3
              go_simp
              have hK' := hK.out
              simp only [putAll, Act.put, List.setIfInBounds_toArray, List.set_cons_zero, List.set_cons_succ] at hK'
              exact hK' _ _ rfl (fun _ => Below.refl _ _) (fun h => absurd h (by decide))
            · go_simp
              have hK' := hK.out
              simp only [putAll, Act.put, List.setIfInBounds_toArray, List.set_cons_zero, List.set_cons_succ] at hK'
              exact hK' _ _ rfl (fun _ => Below.refl _ _) (fun h => absurd h (by decide))
            · have e5 : s61 = _ := hdep ⟨5, .data⟩ (by simp) rfl
              have e5 := e5.symm
              subst e5
              go_simp
              have hK' := hK.out
              simp only [putAll, Act.put, List.setIfInBounds_toArray, List.set_cons_zero, List.set_cons_succ] at hK'
              exact hK' _ _ ⟨_, rfl, heap_alloc_new _ _, fun e => by have := Hvlt.out _ e; have := hb.size; omega⟩ (fun _ => below1 _ _) (fun h => absurd h (by decide))
            · have e4 : s60 = _ := hdep ⟨4, .data⟩ (by simp) rfl
              have e4 := e4.symm
              subst e4
              have e6 : (wRow [.int .i64 t.op, .slice pa2 t.args.length ca2, .bool (decide (t.num < 0)), .slice pm2 nm2 cm2, .int .i64 t.sym] 71).P s62 wx := hdep ⟨6, .data⟩ (by simp) rfl
              have hbB := hB (Or.inl rfl)
              obtain ⟨gg, e8, hg8, -⟩ := e6
              subst e8
              have hrow : wx.ownsRow 0 71 5 (Value.slice pt p.terms.length cpt) p.terms.length cs := row_stays Hrow.out fun k hk => hbB.block k (Hvlt.out k hk)
              have hK' := hK.out
              simp only [putAll, Act.put, List.setIfInBounds_toArray, List.set_cons_zero, List.set_cons_succ] at hK'
              rw [if_pos (by rfl)]
              refine step_append (.tmp 60) (.tmp 62) 23 ?ho 0 71 i1 (.agg #[.int .i64 0, .slice none 0 0, .bool false, .slice none 0 0, .int .i64 0]) 5 72 Tryz.underlying23 hij hjz0 hjz1 hjz2 rfl (by decide) (Value.slice pt p.terms.length cpt) p.terms.length cs ?hs hrow ⟨gg, 0, none⟩ 1 1 [.int .i64 t.op, .slice pa2 t.args.length ca2, .bool (decide (t.num < 0)), .slice pm2 nm2 cm2, .int .i64 t.sym] ?hx rfl ?c1 ?c2 ?c3 ?c4 (Nat.zero_le _) ?_
              case ho => rfl
              case hs => rfl
              case hx => rfl
              case c1 => exact cells_at hg8
              case c2 => intro u hu; simp at hu; (rcases hu with rfl | rfl | rfl | rfl | rfl <;> rfl)
              case c3 => simp [maxLen]; omega
              case c4 => omega
              intro v' w' hown' hgrow hat
              refine hK' _ _ trivial (fun h => absurd rfl h) (fun _ => ⟨(Apart.refl _ _).grown hgrow (fun k e => e), hown', ?_⟩)
              rcases hat with hat | hat
              · exact .inl hat
              · exact .inr fun k hk => by rw [hat] at hk; cases hk; exact hbB.size
            · have e0 : s56 = _ := hdep ⟨0, .data⟩ (by simp) rfl
              have e0 := e0.symm
              subst e0
              go_simp
              have hK' := hK.out
              simp only [putAll, Act.put, List.setIfInBounds_toArray, List.set_cons_zero, List.set_cons_succ] at hK'
              exact hK' _ _ rfl (fun _ => Below.refl _ _) (fun h => absurd h (by decide))
            · have e8 : s64 = _ := hdep ⟨8, .data⟩ (by simp) rfl
              have e8 := e8.symm
              subst e8
              go_simp
              have hK' := hK.out
              simp only [putAll, Act.put, List.setIfInBounds_toArray, List.set_cons_zero, List.set_cons_succ] at hK'
              exact hK' _ _ rfl (fun _ => Below.refl _ _) (fun h => absurd h (by decide))
            · omega
          · intro vs wx hvl hb hf hJw
            have hvs := vlen10 hvl
            obtain ⟨s56, s57, s58, s59, s60, s61, s62, s63, s64, s65, rfl⟩ := hvs
            have fp : s65 = .pointer (some ⟨g, 1, none⟩) := hf 9 (by decide)
            subst fp
            have hJw : RowJ 71 5 (p.terms.length + 1) (cs ++ [.int .i64 t.op, .slice pa2 t.args.length ca2, .bool (decide (t.num < 0)), .slice pm2 nm2 cm2, .int .i64 t.sym]) (Value.slice pt p.terms.length cpt) w6.heap.size s63 wx := hJw
            obtain ⟨hj1, hj2⟩ := hJw
            obtain ⟨pv2, cv2, ev⟩ := ownsRow_shape hj1
            subst ev
            clear hf hvl
            have hk := HS.out wx hb
            obtain ⟨⟨q0, q1, q2, q3, q4⟩, ⟨fz, -⟩, -⟩ := hk
            refine wpAny_one (i := 10) (by kernel_rfl) rfl ?_
            intro K hK
            simp only [putAll, Act.put, List.setIfInBounds_toArray, List.set_cons_zero, List.set_cons_succ]
            have hK' := hK.out
            have fzz := fz 1
            go_simp
            apply hK'
            clear hK hK' q0 q1 q2 q3 q4 fz fzz
            refine wpAny_done (by kernel_rfl) ?_ _
            try simp only [putAll, Act.put, List.setIfInBounds_toArray, List.set_cons_zero, List.set_cons_succ]
            have S7 := HS6.out.term t Htm.out hb hj1 hj2 (fun k hk => .inr (by omega))
            have A7 : Apart S w4 (wx.setCell ⟨g, 1, none⟩ (.slice pv2 (p.terms.length + 1) cv2)) := HA6.out.go ((hb.mono fun k hk => HH4.out.termsIn k hk).setCell (p := ⟨g, 1, none⟩) HH4.out.own _)
            generalize hW7 : (wx.setCell ⟨g, 1, none⟩ (.slice pv2 (p.terms.length + 1) cv2)) = w7 at *
            have HS7 := hid S7
            have HA7 := hid A7
            have q7 := five_all S7.cell
            obtain ⟨⟨x0, x1, x2, x3, x4⟩, -⟩ := q7
            have hlt7 : (plTexts p).length = p.terms.length := by simp [plTexts]
            have hwith := with_any 0 mk (plTexts p) (plText t) w7 S7.texts.1 HTx.out (by rw [hlt7]; omega) (Nat.zero_le _)
            rw [hlt7] at hwith
            have Hwith := hid hwith
            clear hW7 hb hj1 hj2 Hvlt Hrow HS HS6 Htm HA6 S7 A7 hlt7 hwith
            go_wp2_with fail
            refine Hwith.out.mono ?_
            rintro e w8 ⟨m', rfl, hm8, hg8, hv8⟩
            have hmg : mk ≠ some g := fun e => by obtain ⟨es, cl, ht⟩ := HS7.out.texts.tag g e; exact map_ne ht HS7.out.cell rfl
            have hcell8 := (hg8.block g HS7.out.lt (fun e => hmg e.symm)).trans HS7.out.cell
            have q8 := five_all hcell8
            obtain ⟨⟨y0, y1, y2, y3, y4⟩, fz, -⟩ := q8
            have fz4 := fz 4
            have hA8 : Apart (fun k => mk = some k) w7 w8 := (Apart.refl _ _).grown hg8 (fun k e => e)
            have S9 := hid (HS7.out.text hA8 hm8 hv8 (fun k hk => .inr (by have := HA7.out.size; omega)))
            have A9 : Hid (Apart S w4 (w8.setCell ⟨g, 4, none⟩ (.map m'))) := hid (HA7.out.go ((hA8.mono fun k hk => HH4.out.texts.2 k hk).setCell (p := ⟨g, 4, none⟩) HH4.out.own _))
            clear x0 x1 x2 x3 x4 hm8 hg8 hv8 hcell8 fz hA8 hmg Hwith
            go_wp2
            go_ret2
            have hfin := plMake_new Hz.out Hf.out Hfl.out
            have hlt : p.terms.length < 4096 := by have := Hfl.out; omega
            refine ⟨by rw [Hr.out, hfin]; rfl, fun k => Wide S w.heap.size k ∧ k < (w8.setCell ⟨g, 4, none⟩ (.map m')).heap.size, ?_, ?_, (Apart.of_below Hbw4.out).go A9.out⟩
            · rw [Hr.out, hfin]
              have hb9 := S9.out.bound
              refine ⟨⟨vs, _, _, mn, m', _, by rw [plTexts_snoc]; exact hb9⟩, Hok.out.make Hf.out hlt hla hszt, fun k hk => hk.2⟩
            · intro k hk
              rcases hk.1 with h | h
              · exact .inl h
              · exact .inr h
end Go.Proofs.YtckkpolikdnilaaGreatDoor
/- (*pool.Pool).Declare: the rows then, and the symbol's number. -/
namespace Go.Proofs.YtckkpolikdnilaaGreatDoor
open Go.RowKit Big Go.WideMaps

theorem three_cells {w : World} {g : Nat} {a b c : Value} {t : TypeId} (h : w.heap[g]? = some (.cells #[a, b, c] t (0, 0))) :
    w.cell? ⟨g, 0, none⟩ = some a ∧ w.cell? ⟨g, 1, none⟩ = some b ∧ w.cell? ⟨g, 2, none⟩ = some c := by
  simp [World.cell?, h]
theorem three_all {w : World} {g : Nat} {a b c : Value} {t : TypeId} (h : w.heap[g]? = some (.cells #[a, b, c] t (0, 0))) :
    (w.cell? ⟨g, 0, none⟩ = some a ∧ w.cell? ⟨g, 1, none⟩ = some b ∧ w.cell? ⟨g, 2, none⟩ = some c) ∧ ((∀ j, w.frozen? ⟨g, j, none⟩ = false) ∧ True) :=
  ⟨three_cells h, fun j => frozen_of_row w g j _ _ h, trivial⟩
theorem set3_heap {w : World} {g b : Nat} (hb : b ≠ g) {u0 u1 u2 : Value} : (((w.setCell ⟨g, 0, none⟩ u0).setCell ⟨g, 1, none⟩ u1).setCell ⟨g, 2, none⟩ u2).heap[b]? = w.heap[b]? := by
  rw [heap_setCell_other _ ⟨g, 2, none⟩ b _ hb, heap_setCell_other _ ⟨g, 1, none⟩ b _ hb, heap_setCell_other _ ⟨g, 0, none⟩ b _ hb]
theorem set3_same {w : World} {g : Nat} {a b c : Value} {t : TypeId} (h : w.heap[g]? = some (.cells #[a, b, c] t (0, 0))) (u0 u1 u2 : Value) :
    (((w.setCell ⟨g, 0, none⟩ u0).setCell ⟨g, 1, none⟩ u1).setCell ⟨g, 2, none⟩ u2).heap[g]? = some (.cells #[u0, u1, u2] t (0, 0)) := by
  have := heap_setCell_same _ g 2 _ _ u2 (heap_setCell_same _ g 1 _ _ u1 (heap_setCell_same w g 0 _ _ u0 h))
  simpa using this
/-- a map that a call has answered: the one that was there, or a new one -/
def MapJ (l : List (List UInt8)) (mo : Option Nat) (N : Nat) (v : Value) (w : World) : Prop := ∃ m', v = .map m' ∧ MpAt 0 w m' l ∧ (m' = mo ∨ ∀ b, m' = some b → N ≤ b)
theorem MapJ.below {l : List (List UInt8)} {mo : Option Nat} {N : Nat} {v : Value} {w w' : World} (h : MapJ l mo N v w) (hb : Below w.heap.size w w') : MapJ l mo N v w' := by
  obtain ⟨m', h1, h2, h3⟩ := h
  exact ⟨m', h1, h2.below hb, h3⟩
def eqD (v0 : Value) : SFact := ⟨fun v _ => v = v0, fun _ _ _ h _ => h⟩
theorem plDeclare_form {p : Po} {s : Sy} (h : plBadSym s = true) : plDeclare p s = (p, 0, 6) := by unfold plDeclare; rw [if_pos h]
theorem plDeclare_name {p : Po} {s : Sy} (h : plBadSym s = false) (h1 : p.syms.any (fun x => x.name == s.name) = true) : plDeclare p s = (p, 0, 7) := by unfold plDeclare; rw [if_neg (by simp [h]), if_pos h1]
theorem plDeclare_long {p : Po} {s : Sy} (h : plBadSym s = false) (h1 : p.syms.any (fun x => x.name == s.name) = false) (h2 : p.syms.length = 256) : plDeclare p s = (p, 0, 11) := by unfold plDeclare; rw [if_neg (by simp [h]), if_neg (by rw [h1]; decide), if_pos h2]
theorem plDeclare_new {p : Po} {s : Sy} (h : plBadSym s = false) (h1 : p.syms.any (fun x => x.name == s.name) = false) (h2 : p.syms.length ≠ 256) : plDeclare p s = (⟨p.syms ++ [s], p.terms, p.sorts⟩, ((p.syms.length : Nat) : Int), 0) := by
  unfold plDeclare; rw [if_neg (by simp [h]), if_neg (by rw [h1]; decide), if_neg h2]

set_option maxRecDepth 100000 in
set_option maxHeartbeats 12800000 in
theorem Declare_any (S : Nat → Prop) (g : Nat) (p : Po) (s : Sy) (w : World) (h : PoAt w S g p) (hnl : s.name.length ≤ 281474976710656) :
    Calls Tryz.prog 71 #[.pointer (some ⟨g, 0, none⟩), s.val] w (RMk S g (plDeclare p s) w) := by
  have Hpo := hid h
  obtain ⟨r, hr⟩ : ∃ r, r = plDeclare p s := ⟨_, rfl⟩
  rw [← hr]
  have Hr := hid hr
  have Hbs := hid (isNoSymbol_any s)
  have Hos := hid (fun W => ownSym_any s W (by unfold maxLen; omega) (fun W' => Clone_any s.name hnl W'))
  generalize hbad : plBadSym s = bad at Hbs
  have Hbad := hid hbad
  obtain ⟨sd, hsd⟩ : ∃ sd, s = sd := ⟨_, rfl⟩
  rw [hsd] at Hr Hbad
  have Hsd := hid hsd
  obtain ⟨nm, ar, so⟩ := s
  have hsv : Sy.val ⟨nm, ar, so⟩ = .agg #[.string ⟨nm.toArray⟩, .int .i64 ar, .int .i64 so] := rfl
  rw [hsv] at Hbs Hos ⊢
  dsimp only at hnl
  have bx := heap_alloc_new w (.cells #[.string ⟨nm.toArray⟩, .int .i64 ar, .int .i64 so] 39)
  have b0 := below1 w (.cells #[.string ⟨nm.toArray⟩, .int .i64 ar, .int .i64 so] 39)
  have hs0 := size_alloc w (.cells #[.string ⟨nm.toArray⟩, .int .i64 ar, .int .i64 so] 39)
  clear h hr hsv hbad hsd
  go_enter Tryz.func71, Tryz.ntmps71
  go_wp2_with fail
  generalize hW : (w.alloc (.cells #[.string ⟨nm.toArray⟩, .int .i64 ar, .int .i64 so] 39)) = W0 at *
  clear hW
  refine (Hbs.out _).mono ?_
  rintro e w1 ⟨rfl, b1⟩
  have bw1 := bel_go b1 b0
  cases bad
  case true =>
    go_wp2
    go_ret2
    exact ⟨by rw [Hr.out, plDeclare_form Hbad.out]; rfl, S, by rw [Hr.out, plDeclare_form Hbad.out]; exact Hpo.out.below bw1, fun k h => .inl h, Apart.of_below bw1⟩
  case false =>
    have hnm : sd.name = nm := by rw [← Hsd.out]
    have hz1 := b1.size
    have bx1 := (b1.block w.heap.size (by omega)).trans bx
    have h1 := Hpo.out.below bw1
    obtain ⟨⟨vs, vt, vo, mn, mk, cs, H1⟩, hok, hSlt⟩ := h1
    have hhas := fun w' hb => has_any 0 mn (plNames p) nm w' (H1.names.1.below (w' := w') hb) (by show nm.length ≤ maxLen; unfold maxLen; omega)
    have hcon : (plNames p).contains nm = p.syms.any (fun x => x.name == sd.name) := by rw [← hnm]; exact names_contains p sd
    rw [hcon] at hhas
    have Hhas := hid hhas
    have HH1 := hid H1
    have Hok := hid hok
    have HS4 := hid Hpo.out.2.2
    have HS : Hid (∀ w', Below w1.heap.size w1 w' → w'.cell? ⟨g, 3, none⟩ = some (.map mn) ∧ w'.cell? ⟨w.heap.size, 0, none⟩ = some (.string ⟨nm.toArray⟩)) := hid fun w' hb => ⟨(five_cells ((hb.block g H1.lt).trans H1.cell)).2.2.2.1, (three_cells ((hb.block w.heap.size (by omega)).trans bx1)).1⟩
    generalize hany : p.syms.any (fun x => x.name == sd.name) = any at *
    have Hany := hid hany
    clear hany hcon hhas H1 hok hSlt bx
    go_upto_region 5 with fail
    refine wp_region_facts (w0 := w1) 8 0 [14, 15, 16, 17, 18, 19, 20, 13] [undef, undef, undef, undef, undef, undef, undef, undef]
      (fun i => match i with | 0 => eqD (.pointer (some ⟨g, 0, none⟩)) | 1 => eqD (.pointer (some ⟨g, 0, none⟩)) | 2 => eqD (.pointer (some ⟨g, 3, none⟩)) | 3 => eqD (.map mn) | 4 => eqD (.pointer (some ⟨w.heap.size, 0, none⟩)) | 5 => eqD (.string ⟨nm.toArray⟩) | 6 => eqD (.bool any) | _ => eqD (.bool any)) [] (by kernel_rfl) (by kernel_rfl) (by kernel_rfl) (by kernel_rfl) (by decide) rfl (by kernel_rfl) rfl (by simp) ?he1 ?_ ?_ ?_
    case he1 => simp only [putAll, Act.put, List.setIfInBounds_toArray, List.set_cons_zero, List.set_cons_succ]
    · intro i hi; simp at hi
    · intro i o hi ho vs wx hvl hb hdep K hK
      have hvs := vlen8 hvl
      obtain ⟨s14, s15, s16, s17, s18, s19, s20, s13, rfl⟩ := hvs
      clear hvl
      have hk := HS.out wx hb
      go_split_ands
      rcases i with _ | _ | _ | _ | _ | _ | _ | _ | i
      all_goals (simp only [List.getElem?_toArray, List.getElem?_cons_zero, List.getElem?_cons_succ, Option.some.injEq] at ho)
      all_goals try (subst ho)
      all_goals try simp only [putAll, Act.put, List.setIfInBounds_toArray, List.set_cons_zero, List.set_cons_succ]
      · go_simp
        have hK' := hK.out
        simp only [putAll, Act.put, List.setIfInBounds_toArray, List.set_cons_zero, List.set_cons_succ] at hK'
        exact hK' _ _ rfl (Below.refl _ _) (by simp)
      · have e0 : s14 = _ := hdep ⟨0, .data⟩ (by simp) rfl
        have e0 := e0.symm
        subst e0
        go_simp
        have hK' := hK.out
        simp only [putAll, Act.put, List.setIfInBounds_toArray, List.set_cons_zero, List.set_cons_succ] at hK'
        exact hK' _ _ rfl (Below.refl _ _) (by simp)
      · have e1 : s15 = _ := hdep ⟨1, .data⟩ (by simp) rfl
        have e1 := e1.symm
        subst e1
        go_simp
        have hK' := hK.out
        simp only [putAll, Act.put, List.setIfInBounds_toArray, List.set_cons_zero, List.set_cons_succ] at hK'
        exact hK' _ _ rfl (Below.refl _ _) (by simp)
      · have e2 : s16 = _ := hdep ⟨2, .data⟩ (by simp) rfl
        have e2 := e2.symm
        subst e2
        go_simp
        have hK' := hK.out
        simp only [putAll, Act.put, List.setIfInBounds_toArray, List.set_cons_zero, List.set_cons_succ] at hK'
        exact hK' _ _ rfl (Below.refl _ _) (by simp)
      · go_simp
        have hK' := hK.out
        simp only [putAll, Act.put, List.setIfInBounds_toArray, List.set_cons_zero, List.set_cons_succ] at hK'
        exact hK' _ _ rfl (Below.refl _ _) (by simp)
      · have e4 : s18 = _ := hdep ⟨4, .data⟩ (by simp) rfl
        have e4 := e4.symm
        subst e4
        go_simp
        have hK' := hK.out
        simp only [putAll, Act.put, List.setIfInBounds_toArray, List.set_cons_zero, List.set_cons_succ] at hK'
        exact hK' _ _ rfl (Below.refl _ _) (by simp)
      · have e3 : s17 = _ := hdep ⟨3, .data⟩ (by simp) rfl
        have e3 := e3.symm
        subst e3
        have e5 : s19 = _ := hdep ⟨5, .data⟩ (by simp) rfl
        have e5 := e5.symm
        subst e5
        go_simp
        go_simp
        refine (Hhas.out _ hb).mono ?_
        rintro e wx ⟨rfl, rfl⟩
        go_wp2_with fail
        have hK' := hK.out
        simp only [putAll, Act.put, List.setIfInBounds_toArray, List.set_cons_zero, List.set_cons_succ] at hK'
        exact hK' _ _ rfl (Below.refl _ _) (by simp)
      · have e6 : s20 = _ := hdep ⟨6, .data⟩ (by simp) rfl
        have e6 := e6.symm
        subst e6
        go_simp
        have hK' := hK.out
        simp only [putAll, Act.put, List.setIfInBounds_toArray, List.set_cons_zero, List.set_cons_succ] at hK'
        exact hK' _ _ rfl (Below.refl _ _) (by simp)
      · omega
    · intro vs wx hvl hb hf hdist
      have hvs := vlen8 hvl
      obtain ⟨s14, s15, s16, s17, s18, s19, s20, s13, rfl⟩ := hvs
      have f7 : s13 = .bool any := hf 7 (by decide)
      subst f7
      clear hf hdist hvl
      refine wpAny_done (by kernel_rfl) ?_ _
      simp only [putAll, Act.put, List.setIfInBounds_toArray, List.set_cons_zero, List.set_cons_succ]
      have bw1 := bel_go hb bw1
      have bx1 := (hb.block w.heap.size (by omega)).trans bx1
      have hzx := hb.size
      have S1 := HH1.out.stays (S' := S) (fun _ h => h) (fun k _ hk => hb.block k hk)
      have HH1 := hid S1
      have q1 := five_cells S1.cell
      obtain ⟨x0, x1, x2, x3, x4⟩ := q1
      clear HS Hhas hb b1 S1 Hbs
      cases any
      case true =>
        go_wp2
        go_ret2
        exact ⟨by rw [Hr.out, plDeclare_name Hbad.out Hany.out]; rfl, S, by rw [Hr.out, plDeclare_name Hbad.out Hany.out]; exact Hpo.out.below bw1, fun k h => .inl h, Apart.of_below bw1⟩
      case false =>
      obtain ⟨ps, cps, evs⟩ := ownsRow_shape HH1.out.syms
      subst evs
      cases hfull : ((p.syms.length : Int) == 256)
      case true =>
        have Hfl := hid (show p.syms.length = 256 by simp at hfull; omega)
        go_wp2
        go_ret2
        exact ⟨by rw [Hr.out, plDeclare_long Hbad.out Hany.out Hfl.out]; rfl, S, by rw [Hr.out, plDeclare_long Hbad.out Hany.out Hfl.out]; exact Hpo.out.below bw1, fun k h => .inl h, Apart.of_below bw1⟩
      case false =>
      have Hfl := hid (show p.syms.length ≠ 256 by simp at hfull; omega)
      have c1 := three_cells bx1
      obtain ⟨z0, z1, z2⟩ := c1
      go_upto_region 10 with fail
      clear x0 x1 x2 x3 x4 hfull
      go_wp2_with fail
      refine (Hos.out _).mono ?_
      rintro e w2 ⟨rfl, b2⟩
      have bx2 := (b2.block w.heap.size (by omega)).trans bx1
      have c2 := three_all bx2
      clear z0 z1 z2
      obtain ⟨⟨z0, z1, z2⟩, fz, -⟩ := c2
      have f0 := fz 0; have f1 := fz 1; have f2 := fz 2
      clear fz
      go_upto_region 11 with fail
      clear z0 z1 z2 f0 f1 f2
      have bx3 := set3_same bx2 (.string ⟨nm.toArray⟩) (.int .i64 ar) (.int .i64 so)
      have E3 : ∀ k, k ≠ w.heap.size → (((w2.setCell ⟨w.heap.size, 0, none⟩ (.string ⟨nm.toArray⟩)).setCell ⟨w.heap.size, 1, none⟩ (.int .i64 ar)).setCell ⟨w.heap.size, 2, none⟩ (.int .i64 so)).heap[k]? = w2.heap[k]? := fun k hk => set3_heap hk
      have b3 : Below w.heap.size w (((w2.setCell ⟨w.heap.size, 0, none⟩ (.string ⟨nm.toArray⟩)).setCell ⟨w.heap.size, 1, none⟩ (.int .i64 ar)).setCell ⟨w.heap.size, 2, none⟩ (.int .i64 so)) := (((bel_go b2 bw1).setCell (p := ⟨w.heap.size, 0, none⟩) (Nat.le_refl _) _).setCell (p := ⟨w.heap.size, 1, none⟩) (Nat.le_refl _) _).setCell (p := ⟨w.heap.size, 2, none⟩) (Nat.le_refl _) _
      generalize hW3 : (((w2.setCell ⟨w.heap.size, 0, none⟩ (.string ⟨nm.toArray⟩)).setCell ⟨w.heap.size, 1, none⟩ (.int .i64 ar)).setCell ⟨w.heap.size, 2, none⟩ (.int .i64 so)) = w4 at *
      have S5 : PoParts w4 (Wide S w.heap.size) g p (plNames p) (plTexts p) (Value.slice ps p.syms.length cps) vt vo mn mk cs := HH1.out.stays (fun k h => .inl h) (fun k hk _ => (E3 k (by have := HS4.out k hk; omega)).trans (b2.block k (by have := HS4.out k hk; omega)))
      have HS5 := hid S5
      have Hvlt : Hid (∀ k, (Value.slice ps p.syms.length cps).ownBlock = some k → k < w4.heap.size) := hid fun k hk => (World.ownsRow.lt S5.syms k hk).2
      have Hrow := hid S5.syms
      have hvN : (Value.slice ps p.syms.length cps).ownBlock ≠ some w.heap.size := fun e => by have := HS4.out _ (HH1.out.symsIn _ e); omega
      have hvg : (Value.slice ps p.syms.length cps).ownBlock ≠ some g := fun e => row_ne S5.syms S5.cell (by decide) g e rfl
      have HS : Hid (∀ w', Apart (fun k => (Value.slice ps p.syms.length cps).ownBlock = some k) w4 w' → (w'.cell? ⟨g, 0, none⟩ = some (Value.slice ps p.syms.length cps) ∧ w'.cell? ⟨g, 1, none⟩ = some vt ∧ w'.cell? ⟨g, 2, none⟩ = some vo ∧ w'.cell? ⟨g, 3, none⟩ = some (.map mn) ∧ w'.cell? ⟨g, 4, none⟩ = some (.map mk)) ∧ ((∀ j, w'.frozen? ⟨g, j, none⟩ = false) ∧ True) ∧
          (w'.cell? ⟨w.heap.size, 0, none⟩ = some (.string ⟨nm.toArray⟩) ∧ w'.cell? ⟨w.heap.size, 1, none⟩ = some (.int .i64 ar) ∧ w'.cell? ⟨w.heap.size, 2, none⟩ = some (.int .i64 so))) := fun w' ha => by
        have h1 := five_all ((ha.block g S5.lt hvg).trans S5.cell)
        exact ⟨h1.1, h1.2, three_cells ((ha.block w.heap.size (lt_of_block bx3) hvN).trans bx3)⟩
      have htn := Hok.out.syms
      obtain ⟨i1, hij, hjz0, hjz1, hjz2⟩ := info_parts infoSym
      have Hb4 := hid bx3; have Hbw4 := hid b3
      clear S5 hvN hvg bx3 b3 bx2 bx1 bw1 b2 hW3 E3 Hos
      refine wp_region_write (w0 := w4) 10 1 [35, 36, 37, 38, 39, 40, 41, 42, 43, 44] [undef, undef, undef, undef, undef, undef, undef, undef, undef, undef] (S := (fun k => (Value.slice ps p.syms.length cps).ownBlock = some k))
        (fun i => match i with | 0 => wEq (.pointer (some ⟨g, 0, none⟩)) | 1 => wEq (.pointer (some ⟨g, 0, none⟩)) | 2 => wEq (.pointer (some ⟨g, 0, none⟩)) | 3 => wEq (.pointer (some ⟨g, 0, none⟩)) | 4 => wEq (Value.slice ps p.syms.length cps) | 5 => wEq (.agg #[.string ⟨nm.toArray⟩, .int .i64 ar, .int .i64 so]) | 6 => wRow [.string ⟨nm.toArray⟩, .int .i64 ar, .int .i64 so] 39 | 7 => wAny | 8 => wEq (.pointer (some ⟨g, 0, none⟩)) | _ => wEq (.pointer (some ⟨g, 0, none⟩))) 7 (RowJ 39 3 (p.syms.length + 1) ((syCells p.syms) ++ [.string ⟨nm.toArray⟩, .int .i64 ar, .int .i64 so]) (Value.slice ps p.syms.length cps) w4.heap.size) (fun _ _ _ h hb => h.below hb) (by kernel_rfl) (by kernel_rfl) (by kernel_rfl) (by kernel_rfl) (by decide) rfl (by kernel_rfl) rfl (by decide) ?he2 ?_ ?_
      case he2 => simp only [putAll, Act.put, List.setIfInBounds_toArray, List.set_cons_zero, List.set_cons_succ]
      · intro i o hi ho vs wx hvl hb hB hdep K hK
        have hvs := vlen10 hvl
        obtain ⟨s35, s36, s37, s38, s39, s40, s41, s42, s43, s44, rfl⟩ := hvs
        clear hvl
        have hk := HS.out wx hb
        obtain ⟨⟨q0, q1, q2, q3, q4⟩, -, hbox⟩ := hk
        go_split_ands
        rcases i with _ | _ | _ | _ | _ | _ | _ | _ | _ | _ | i
        all_goals (simp only [List.getElem?_toArray, List.getElem?_cons_zero, List.getElem?_cons_succ, Option.some.injEq] at ho)
        all_goals try (subst ho)
        all_goals try simp only [putAll, Act.put, List.setIfInBounds_toArray, List.set_cons_zero, List.set_cons_succ]
        · go_simp
          have hK' := hK.out
          simp only [putAll, Act.put, List.setIfInBounds_toArray, List.set_cons_zero, List.set_cons_succ] at hK'
          exact hK' _ _ rfl (fun _ => Below.refl _ _) (fun h => absurd h (by decide))
        · go_simp
          have hK' := hK.out
          simp only [putAll, Act.put, List.setIfInBounds_toArray, List.set_cons_zero, List.set_cons_succ] at hK'
          exact hK' _ _ rfl (fun _ => Below.refl _ _) (fun h => absurd h (by decide))
        · have e1 : s36 = _ := hdep ⟨1, .data⟩ (by simp) rfl
          have e1 := e1.symm
          subst e1
          go_simp
          have hK' := hK.out
          simp only [putAll, Act.put, List.setIfInBounds_toArray, List.set_cons_zero, List.set_cons_succ] at hK'
          exact hK' _ _ rfl (fun _ => Below.refl _ _) (fun h => absurd h (by decide))
        · have e2 : s37 = _ := hdep ⟨2, .data⟩ (by simp) rfl
          have e2 := e2.symm
          subst e2
          go_simp
          have hK' := hK.out
          simp only [putAll, Act.put, List.setIfInBounds_toArray, List.set_cons_zero, List.set_cons_succ] at hK'
          exact hK' _ _ rfl (fun _ => Below.refl _ _) (fun h => absurd h (by decide))
        · have e3 : s38 = _ := hdep ⟨3, .data⟩ (by simp) rfl
          have e3 := e3.symm
          subst e3
          go_simp
          have hK' := hK.out
          simp only [putAll, Act.put, List.setIfInBounds_toArray, List.set_cons_zero, List.set_cons_succ] at hK'
          exact hK' _ _ rfl (fun _ => Below.refl _ _) (fun h => absurd h (by decide))
        · go_simp
          have hK' := hK.out
          simp only [putAll, Act.put, List.setIfInBounds_toArray, List.set_cons_zero, List.set_cons_succ] at hK'
          exact hK' _ _ rfl (fun _ => Below.refl _ _) (fun h => absurd h (by decide))
        · have e5 : s40 = _ := hdep ⟨5, .data⟩ (by simp) rfl
          have e5 := e5.symm
          subst e5
          go_simp
          have hK' := hK.out
          simp only [putAll, Act.put, List.setIfInBounds_toArray, List.set_cons_zero, List.set_cons_succ] at hK'
          exact hK' _ _ ⟨_, rfl, heap_alloc_new _ _, fun e => by have := Hvlt.out _ e; have := hb.size; omega⟩ (fun _ => below1 _ _) (fun h => absurd h (by decide))
        · have e4 : s39 = _ := hdep ⟨4, .data⟩ (by simp) rfl
          have e4 := e4.symm
          subst e4
          have e6 : (wRow [.string ⟨nm.toArray⟩, .int .i64 ar, .int .i64 so] 39).P s41 wx := hdep ⟨6, .data⟩ (by simp) rfl
          have hbB := hB (Or.inl rfl)
          obtain ⟨gg, e8, hg8, -⟩ := e6
          subst e8
          have hrow : wx.ownsRow 0 39 3 (Value.slice ps p.syms.length cps) p.syms.length (syCells p.syms) := row_stays Hrow.out fun k hk => hbB.block k (Hvlt.out k hk)
          have hK' := hK.out
          simp only [putAll, Act.put, List.setIfInBounds_toArray, List.set_cons_zero, List.set_cons_succ] at hK'
          rw [if_pos (by rfl)]
          refine step_append (.tmp 39) (.tmp 41) 22 ?ho 0 39 i1 (.agg #[.string ⟨#[]⟩, .int .i64 0, .int .i64 0]) 3 32 Tryz.underlying22 hij hjz0 hjz1 hjz2 rfl (by decide) (Value.slice ps p.syms.length cps) p.syms.length (syCells p.syms) ?hs hrow ⟨gg, 0, none⟩ 1 1 [.string ⟨nm.toArray⟩, .int .i64 ar, .int .i64 so] ?hx rfl ?c1 ?c2 ?c3 ?c4 (Nat.zero_le _) ?_
          case ho => rfl
          case hs => rfl
          case hx => rfl
          case c1 => exact cells_at hg8
          case c2 => intro u hu; simp at hu; (rcases hu with rfl | rfl | rfl <;> rfl)
          case c3 => simp [maxLen]; omega
          case c4 => omega
          intro v' w' hown' hgrow hat
          refine hK' _ _ trivial (fun h => absurd rfl h) (fun _ => ⟨(Apart.refl _ _).grown hgrow (fun k e => e), hown', ?_⟩)
          rcases hat with hat | hat
          · exact .inl hat
          · exact .inr fun k hk => by rw [hat] at hk; cases hk; exact hbB.size
        · have e0 : s35 = _ := hdep ⟨0, .data⟩ (by simp) rfl
          have e0 := e0.symm
          subst e0
          go_simp
          have hK' := hK.out
          simp only [putAll, Act.put, List.setIfInBounds_toArray, List.set_cons_zero, List.set_cons_succ] at hK'
          exact hK' _ _ rfl (fun _ => Below.refl _ _) (fun h => absurd h (by decide))
        · have e8 : s43 = _ := hdep ⟨8, .data⟩ (by simp) rfl
          have e8 := e8.symm
          subst e8
          go_simp
          have hK' := hK.out
          simp only [putAll, Act.put, List.setIfInBounds_toArray, List.set_cons_zero, List.set_cons_succ] at hK'
          exact hK' _ _ rfl (fun _ => Below.refl _ _) (fun h => absurd h (by decide))
        · omega
      · intro vs wx hvl hb hf hJw
        have hvs := vlen10 hvl
        obtain ⟨s35, s36, s37, s38, s39, s40, s41, s42, s43, s44, rfl⟩ := hvs
        have fp : s44 = .pointer (some ⟨g, 0, none⟩) := hf 9 (by decide)
        subst fp
        have hJw : RowJ 39 3 (p.syms.length + 1) ((syCells p.syms) ++ [.string ⟨nm.toArray⟩, .int .i64 ar, .int .i64 so]) (Value.slice ps p.syms.length cps) w4.heap.size s42 wx := hJw
        obtain ⟨hj1, hj2⟩ := hJw
        obtain ⟨pv, cv, ev⟩ := ownsRow_shape hj1
        subst ev
        clear hf hvl
        have hk := HS.out wx hb
        obtain ⟨⟨q0, q1, q2, q3, q4⟩, ⟨fz, -⟩, -⟩ := hk
        refine wpAny_one (i := 10) (by kernel_rfl) rfl ?_
        intro K hK
        simp only [putAll, Act.put, List.setIfInBounds_toArray, List.set_cons_zero, List.set_cons_succ]
        have hK' := hK.out
        have fzz := fz 0
        go_simp
        apply hK'
        clear hK hK' q0 q1 q2 q3 q4 fz fzz
        refine wpAny_done (by kernel_rfl) ?_ _
        try simp only [putAll, Act.put, List.setIfInBounds_toArray, List.set_cons_zero, List.set_cons_succ]
        have S6 := HS5.out.sym ⟨nm, ar, so⟩ hb hj1 hj2 (fun k hk => .inr (by have := Hbw4.out.size; omega))
        have A6 : Apart S w4 (wx.setCell ⟨g, 0, none⟩ (.slice pv (p.syms.length + 1) cv)) := (hb.mono fun k hk => HH1.out.symsIn k hk).setCell (p := ⟨g, 0, none⟩) HH1.out.own _
        have hgs : g < w.heap.size := HS4.out g HH1.out.own
        have hz4w := Hbw4.out.size
        have bx6 : (wx.setCell ⟨g, 0, none⟩ (.slice pv (p.syms.length + 1) cv)).heap[w.heap.size]? = _ := ((Below.heap_setCell wx ⟨g, 0, none⟩ (.slice pv (p.syms.length + 1) cv) w.heap.size (by show w.heap.size ≠ g; omega)).trans (hb.block w.heap.size (lt_of_block Hb4.out) (fun e => by have := HS4.out _ (HH1.out.symsIn _ e); omega))).trans Hb4.out
        generalize hW6 : (wx.setCell ⟨g, 0, none⟩ (.slice pv (p.syms.length + 1) cv)) = w6 at *
        clear hW6 hb hj1 hj2 Hvlt Hrow HS HS5 Hb4
        have HS6 := hid S6
        have HA6 := hid A6
        have hz46 := A6.size
        have hvN : mn ≠ some w.heap.size := fun e => by have := HS4.out _ (HH1.out.names.2 _ e); omega
        have hvg : mn ≠ some g := fun e => by obtain ⟨es, cl, ht⟩ := HH1.out.names.tag g e; exact map_ne ht HH1.out.cell rfl
        have HS : Hid (∀ w', Apart (fun k => mn = some k) w6 w' → (w'.cell? ⟨g, 0, none⟩ = some (.slice pv (p.syms.length + 1) cv) ∧ w'.cell? ⟨g, 1, none⟩ = some vt ∧ w'.cell? ⟨g, 2, none⟩ = some vo ∧ w'.cell? ⟨g, 3, none⟩ = some (.map mn) ∧ w'.cell? ⟨g, 4, none⟩ = some (.map mk)) ∧ ((∀ j, w'.frozen? ⟨g, j, none⟩ = false) ∧ True) ∧
            (w'.cell? ⟨w.heap.size, 0, none⟩ = some (.string ⟨nm.toArray⟩) ∧ w'.cell? ⟨w.heap.size, 1, none⟩ = some (.int .i64 ar) ∧ w'.cell? ⟨w.heap.size, 2, none⟩ = some (.int .i64 so))) := fun w' ha => by
          have h1 := five_all ((ha.block g S6.lt hvg).trans S6.cell)
          exact ⟨h1.1, h1.2, three_cells ((ha.block w.heap.size (lt_of_block bx6) hvN).trans bx6)⟩
        have hnl' : (plNames p).length = p.syms.length := by simp [plNames]
        have hwith := fun w' hb => with_any 0 mn (plNames p) nm w' (S6.names.1.below (w' := w') hb) (by show nm.length ≤ maxLen; unfold maxLen; omega) (by rw [hnl']; omega) (Nat.zero_le _)
        rw [hnl'] at hwith
        have Hwith := hid hwith
        clear S6 A6 hvN hvg bx6 hnl' hwith
        go_upto_region 12 with fail
        refine wp_region_write (w0 := w6) 11 1 [45, 46, 47, 48, 49, 50, 51, 52, 53, 54, 55] [undef, undef, undef, undef, undef, undef, undef, undef, undef, undef, undef] (S := (fun k => mn = some k))
          (fun i => match i with | 0 => wEq (.pointer (some ⟨g, 0, none⟩)) | 1 => wEq (.pointer (some ⟨g, 0, none⟩)) | 2 => wEq (.pointer (some ⟨g, 0, none⟩)) | 3 => wEq (.pointer (some ⟨g, 3, none⟩)) | 4 => wEq (.map mn) | 5 => wEq (.pointer (some ⟨w.heap.size, 0, none⟩)) | 6 => wEq (.string ⟨nm.toArray⟩) | 7 => wEq (.int .i64 (p.syms.length : Nat)) | 8 => wAny | 9 => wEq (.pointer (some ⟨g, 0, none⟩)) | _ => wEq (.pointer (some ⟨g, 3, none⟩))) 8 (MapJ (plNames p ++ [nm]) mn w6.heap.size) (fun _ _ _ h hb => h.below hb) (by kernel_rfl) (by kernel_rfl) (by kernel_rfl) (by kernel_rfl) (by decide) rfl (by kernel_rfl) rfl (by decide) ?he3 ?_ ?_
        case he3 => simp only [putAll, Act.put, List.setIfInBounds_toArray, List.set_cons_zero, List.set_cons_succ]
        · intro i o hi ho vs wx hvl hb hB hdep K hK
          have hvs := vlen11 hvl
          obtain ⟨s45, s46, s47, s48, s49, s50, s51, s52, s53, s54, s55, rfl⟩ := hvs
          clear hvl
          have hk := HS.out wx hb
          obtain ⟨⟨q0, q1, q2, q3, q4⟩, -, hbox⟩ := hk
          go_split_ands
          rcases i with _ | _ | _ | _ | _ | _ | _ | _ | _ | _ | _ | i
          all_goals (simp only [List.getElem?_toArray, List.getElem?_cons_zero, List.getElem?_cons_succ, Option.some.injEq] at ho)
          all_goals try (subst ho)
          all_goals try simp only [putAll, Act.put, List.setIfInBounds_toArray, List.set_cons_zero, List.set_cons_succ]
          · go_simp
            have hK' := hK.out
            simp only [putAll, Act.put, List.setIfInBounds_toArray, List.set_cons_zero, List.set_cons_succ] at hK'
            exact hK' _ _ rfl (fun _ => Below.refl _ _) (fun h => absurd h (by decide))
          · go_simp
            have hK' := hK.out
            simp only [putAll, Act.put, List.setIfInBounds_toArray, List.set_cons_zero, List.set_cons_succ] at hK'
            exact hK' _ _ rfl (fun _ => Below.refl _ _) (fun h => absurd h (by decide))
          · have e1 : s46 = _ := hdep ⟨1, .data⟩ (by simp) rfl
            have e1 := e1.symm
            subst e1
            go_simp
            have hK' := hK.out
            simp only [putAll, Act.put, List.setIfInBounds_toArray, List.set_cons_zero, List.set_cons_succ] at hK'
            exact hK' _ _ rfl (fun _ => Below.refl _ _) (fun h => absurd h (by decide))
          · have e2 : s47 = _ := hdep ⟨2, .data⟩ (by simp) rfl
            have e2 := e2.symm
            subst e2
            go_simp
            have hK' := hK.out
            simp only [putAll, Act.put, List.setIfInBounds_toArray, List.set_cons_zero, List.set_cons_succ] at hK'
            exact hK' _ _ rfl (fun _ => Below.refl _ _) (fun h => absurd h (by decide))
          · have e3 : s48 = _ := hdep ⟨3, .data⟩ (by simp) rfl
            have e3 := e3.symm
            subst e3
            go_simp
            have hK' := hK.out
            simp only [putAll, Act.put, List.setIfInBounds_toArray, List.set_cons_zero, List.set_cons_succ] at hK'
            exact hK' _ _ rfl (fun _ => Below.refl _ _) (fun h => absurd h (by decide))
          · go_simp
            have hK' := hK.out
            simp only [putAll, Act.put, List.setIfInBounds_toArray, List.set_cons_zero, List.set_cons_succ] at hK'
            exact hK' _ _ rfl (fun _ => Below.refl _ _) (fun h => absurd h (by decide))
          · have e5 : s50 = _ := hdep ⟨5, .data⟩ (by simp) rfl
            have e5 := e5.symm
            subst e5
            go_simp
            have hK' := hK.out
            simp only [putAll, Act.put, List.setIfInBounds_toArray, List.set_cons_zero, List.set_cons_succ] at hK'
            exact hK' _ _ rfl (fun _ => Below.refl _ _) (fun h => absurd h (by decide))
          · go_simp
            have hK' := hK.out
            simp only [putAll, Act.put, List.setIfInBounds_toArray, List.set_cons_zero, List.set_cons_succ] at hK'
            exact hK' _ _ rfl (fun _ => Below.refl _ _) (fun h => absurd h (by decide))
          · have e4 : s49 = _ := hdep ⟨4, .data⟩ (by simp) rfl
            have e4 := e4.symm
            subst e4
            have e6 : s51 = _ := hdep ⟨6, .data⟩ (by simp) rfl
            have e6 := e6.symm
            subst e6
            have e7 : s52 = _ := hdep ⟨7, .data⟩ (by simp) rfl
            have e7 := e7.symm
            subst e7
            have hbB := hB (Or.inl rfl)
            go_simp
            refine (Hwith.out _ hbB).mono ?_
            rintro e wy ⟨m', rfl, hm, hg, hv⟩
            go_wp2_with fail
            have hK' := hK.out
            simp only [putAll, Act.put, List.setIfInBounds_toArray, List.set_cons_zero, List.set_cons_succ] at hK'
            exact hK' _ _ trivial (fun h => absurd rfl h) (fun _ => ⟨(Apart.refl _ _).grown hg (fun k e => e), m', rfl, hm, hv.imp id fun h b e => Nat.le_trans hbB.size (h b e)⟩)
          · have e0 : s45 = _ := hdep ⟨0, .data⟩ (by simp) rfl
            have e0 := e0.symm
            subst e0
            go_simp
            have hK' := hK.out
            simp only [putAll, Act.put, List.setIfInBounds_toArray, List.set_cons_zero, List.set_cons_succ] at hK'
            exact hK' _ _ rfl (fun _ => Below.refl _ _) (fun h => absurd h (by decide))
          · have e9 : s54 = _ := hdep ⟨9, .data⟩ (by simp) rfl
            have e9 := e9.symm
            subst e9
            go_simp
            have hK' := hK.out
            simp only [putAll, Act.put, List.setIfInBounds_toArray, List.set_cons_zero, List.set_cons_succ] at hK'
            exact hK' _ _ rfl (fun _ => Below.refl _ _) (fun h => absurd h (by decide))
          · omega
        · intro vs wx hvl hb hf hJw
          have hvs := vlen11 hvl
          obtain ⟨s45, s46, s47, s48, s49, s50, s51, s52, s53, s54, s55, rfl⟩ := hvs
          have fp : s55 = .pointer (some ⟨g, 3, none⟩) := hf 10 (by decide)
          subst fp
          have hJw : MapJ (plNames p ++ [nm]) mn w6.heap.size s53 wx := hJw
          obtain ⟨m', ev, hj1, hj2⟩ := hJw
          subst ev
          clear hf hvl
          have hk := HS.out wx hb
          obtain ⟨⟨q0, q1, q2, q3, q4⟩, ⟨fz, -⟩, -⟩ := hk
          refine wpAny_one (i := 11) (by kernel_rfl) rfl ?_
          intro K hK
          simp only [putAll, Act.put, List.setIfInBounds_toArray, List.set_cons_zero, List.set_cons_succ]
          have hK' := hK.out
          have fzz := fz 3
          go_simp
          apply hK'
          clear hK hK' q0 q1 q2 q3 q4 fz fzz
          refine wpAny_done (by kernel_rfl) ?_ _
          try simp only [putAll, Act.put, List.setIfInBounds_toArray, List.set_cons_zero, List.set_cons_succ]
          have S9 := hid (HS6.out.name hb hj1 hj2 (fun k hk => .inr (by omega)))
          have A9 : Hid (Apart S w4 (wx.setCell ⟨g, 3, none⟩ (.map m'))) := hid (HA6.out.go ((hb.mono fun k hk => HH1.out.names.2 k hk).setCell (p := ⟨g, 3, none⟩) HH1.out.own _))
          clear hb hj1 hj2 HS Hwith HS6 HA6
          go_wp2
          go_ret2
          have hfin := plDeclare_new (p := p) (s := sd) Hbad.out Hany.out Hfl.out
          have hlt : p.syms.length < 256 := by have := Hfl.out; omega
          refine ⟨by rw [Hr.out, hfin]; rfl, fun k => Wide S w.heap.size k ∧ k < (wx.setCell ⟨g, 3, none⟩ (.map m')).heap.size, ?_, ?_, (Apart.of_below Hbw4.out).go A9.out⟩
          · rw [Hr.out, hfin]
            have hb9 := S9.out.bound
            rw [Hsd.out] at hb9
            refine ⟨⟨_, vt, vo, m', mk, _, by rw [plNames_snoc]; exact hnm ▸ hb9⟩, Hok.out.declare Hany.out hlt (by rw [hnm]; exact hnl), fun k hk => hk.2⟩
          · intro k hk
            rcases hk.1 with h | h
            · exact .inl h
            · exact .inr h
end Go.Proofs.YtckkpolikdnilaaGreatDoor
