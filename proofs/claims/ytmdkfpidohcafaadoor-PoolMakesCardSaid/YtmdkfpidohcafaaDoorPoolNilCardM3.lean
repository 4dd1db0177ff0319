/- Texts put together: PlFixed, PlOpen, PlOpen2, Laid. -/
import Derived.Test.YtmdkfpidohcafaaDoorPoolNilCardM2
import Derived.Deep.DeepHandedRow
import Derived.ProofKit
import Derived.ChangeSame
import Derived.SizedLaws
import Derived.Test.YtmdkfpidohcafaaDoorCards
import Derived.Test.YtmdkfpidohcafaaDoorTie
import Derived.WalkKit
import Derived.OpenShut
import Derived.Lib.LaidTab
/- elenchuslaw04.fixed; PoolNil. -/
namespace Go.Proofs.YtmdkfpidohcafaaDoor
open Go.RowKit Big Go.WideMaps

theorem zeroRaw (w : World) : RawAt w (.agg #[.bool false, .slice none 0 0]) 0 := ⟨false, _, [], rfl, At.nil _ _, (fun x hx => by cases hx), by simp, by simp [sg, val]⟩
theorem IAt.two (w : World) (a b : Int) : IAt (w.alloc (.cells #[.int .i64 a, .int .i64 b] 3)) (.slice (some ⟨w.heap.size, 0, none⟩) 2 2) [a, b] :=
  ⟨_, 2, rfl, by simp, by simp [maxLen], fun h => (by cases h), fun _ => ⟨_, 0, rfl, by simp, fun i hi => by
    have h := cells_at (c := [.int .i64 a, .int .i64 b]) (heap_alloc_new w (.cells #[.int .i64 a, .int .i64 b] 3)) i
    rw [Go.WideShapes.add_plain] at h
    match i, hi with
    | 0, _ => exact h _ rfl
    | 1, _ => exact h _ rfl⟩⟩
theorem terms_field0 (pa : Option Addr) (na ca : Nat) (pb : Option Addr) (nb cb : Nat) (w : World) : (Instr.field 27 (.agg #[.slice pa na ca, .slice pb nb cb]) 0).run Tryd.prog w = .ok (.slice pa na ca) w := by kernel_rfl
theorem terms_field1 (pa : Option Addr) (na ca : Nat) (pb : Option Addr) (nb cb : Nat) (w : World) : (Instr.field 27 (.agg #[.slice pa na ca, .slice pb nb cb]) 1).run Tryd.prog w = .ok (.slice pb nb cb) w := by kernel_rfl
def tTrue : Tm := ⟨1, [], 0, 0⟩
def tAnd : Tm := ⟨6, [0, 0], 0, 0⟩
theorem mkTrue : plMake ⟨[], [], []⟩ tTrue = (⟨[], [tTrue], [1]⟩, 0, 0) := by kernel_rfl
theorem mkAnd : plMake ⟨[], [tTrue], [1]⟩ tAnd = (⟨[], [tTrue, tAnd], [1, 1]⟩, 1, 0) := by kernel_rfl
theorem mkAnd2 : plMake ⟨[], [tTrue, tAnd], [1, 1]⟩ tAnd = (⟨[], [tTrue, tAnd], [1, 1]⟩, 1, 0) := by kernel_rfl
theorem SyIn.nil (w : World) : SyIn w (.slice none 0 0) [] := ⟨none, 0, rfl, by simp, by simp [maxLen], fun _ => rfl, fun h => absurd h (by simp)⟩

set_option maxRecDepth 100000 in
set_option maxHeartbeats 6400000 in
theorem fixed_any (B : Nat) (w : World) (hB : B ≤ w.heap.size) (htab : Tb B w) : Calls Tryd.prog 9 #[] w (RBool true w) := by
  have Htab := hid htab
  have Hnew := hid (New_any (.slice none 0 0) [] w (SyIn.nil w) (fun s h => by cases h))
  clear htab
  go_enter Tryd.func9, Tryd.ntmps9
  go_wp2_with fail
  refine Hnew.out.mono ?_
  rintro e w1 ⟨-, hok, b1⟩
  obtain ⟨g, S, rfl, hp, hS⟩ := hok (by decide +kernel)
  have hm := Make_any B S g ⟨[], [], []⟩ tTrue (.agg #[.int .i64 1, .slice none 0 0, .bool false, .slice none 0 0, .int .i64 0]) w1 hp (Nat.le_trans hB b1.size) (Htab.out.on (b1.mono hB)) ⟨none, 0, false, none, 0, 0, rfl, IAt.nil _, zeroRaw _⟩ (by decide)
  rw [mkTrue] at hm
  have Hm := hid hm; have HS := hid hS; have Hb1 := hid b1
  clear hm hok hp hS b1 Hnew
  go_wp2_with fail
  refine Hm.out.mono ?_
  rintro e w2 ⟨rfl, S2, hp2, hS2, hA2⟩
  have b2 : Below w.heap.size w w2 := Hb1.out.trans (hA2.below Hb1.out.size HS.out)
  have hS2' : ∀ k, S2 k → w.heap.size ≤ k := fun k hk => by
    rcases hS2 k hk with h | h
    · exact HS.out k h
    · have := Hb1.out.size; omega
  have b2a := below1 w2 (.cells #[.int .i64 0, .int .i64 0] 3)
  have hm := Make_any B S2 g _ tAnd (.agg #[.int .i64 6, .slice (some ⟨w2.heap.size, 0, none⟩) 2 2, .bool false, .slice none 0 0, .int .i64 0]) _ (hp2.below b2a) (Nat.le_trans hB (Nat.le_trans b2.size b2a.size)) (Htab.out.on ((bel_go b2a b2).mono hB)) ⟨_, _, false, none, 0, 0, rfl, IAt.two w2 0 0, zeroRaw _⟩ (by decide)
  rw [mkAnd] at hm
  have Hm := hid hm; have HS2 := hid hS2'; have Hb2 := hid (bel_go b2a b2)
  clear hm hp2 hS2 hS2' b2 b2a HS Hb1 hA2
  go_wp2_with fail
  refine Hm.out.mono ?_
  rintro e w3 ⟨rfl, S3, hp3, hS3, hA3⟩
  have b3 : Below w.heap.size w w3 := Hb2.out.trans (hA3.below Hb2.out.size HS2.out)
  have hS3' : ∀ k, S3 k → w.heap.size ≤ k := fun k hk => by
    rcases hS3 k hk with h | h
    · exact HS2.out k h
    · have := Hb2.out.size; omega
  have b3a := below1 w3 (.cells #[.int .i64 0, .int .i64 0] 3)
  have hm := Make_any B S3 g _ tAnd (.agg #[.int .i64 6, .slice (some ⟨w3.heap.size, 0, none⟩) 2 2, .bool false, .slice none 0 0, .int .i64 0]) _ (hp3.below b3a) (Nat.le_trans hB (Nat.le_trans b3.size b3a.size)) (Htab.out.on ((bel_go b3a b3).mono hB)) ⟨_, _, false, none, 0, 0, rfl, IAt.two w3 0 0, zeroRaw _⟩ (by decide)
  rw [mkAnd2] at hm
  have Hm := hid hm; have HS3 := hid hS3'; have Hb3 := hid (bel_go b3a b3)
  clear hm hp3 hS3 hS3' b3 b3a HS2 Hb2 hA3
  go_wp2_with fail
  refine Hm.out.mono ?_
  rintro e w4 ⟨rfl, S4, hp4, hS4, hA4⟩
  have b4 : Below w.heap.size w w4 := Hb3.out.trans (hA4.below Hb3.out.size HS3.out)
  have Hr := hid (Rows_any S4 g _ w4 hp4)
  have Hb4 := hid b4
  clear hp4 hS4 hA4 b4 HS3 Hb3
  go_wp2_with fail
  refine Hr.out.mono ?_
  rintro e w5 ⟨v, rfl, hro, b5⟩
  obtain ⟨va, vb, rfl, hsy, cs, hrow, -⟩ := hro
  obtain ⟨pa, ca, rfl⟩ := ownsRow_shape hsy
  obtain ⟨pb, cb, rfl⟩ := ownsRow_shape hrow
  have Hb5 := hid (bel_go b5 Hb4.out)
  clear hrow b5 Hr Hm
  clear hsy
  have hfd := fun w' => terms_field1 pa 0 ca pb 2 cb w'
  go_wp2
  go_ret
  exact ⟨rfl, Hb5.out⟩

set_option maxRecDepth 100000 in
set_option maxHeartbeats 1600000 in
theorem Make_nil2 (op sym : Int) (na nm ca cm : Nat) (pa pm : Option Addr) (b : Bool) (w : World) : Calls Tryd.prog 13 #[.pointer none, .agg #[.int .i64 op, .slice pa na ca, .bool b, .slice pm nm cm, .int .i64 sym]] w (RTwo 0 1 w) := by
  go_enter Tryd.func13, Tryd.ntmps13
  go_wp2
  go_ret2
  exact ⟨rfl, below1 _ _⟩
theorem Rows_none (w : World) : Calls Tryd.prog 19 #[.pointer none] w fun e w' => e = .returned (.agg #[.slice none 0 0, .slice none 0 0]) ∧ Below w.heap.size w w' := Rows_nil w
set_option maxRecDepth 100000 in
set_option maxHeartbeats 6400000 in
theorem lawNil_any (op sym : Int) (na nm ca cm : Nat) (pa pm : Option Addr) (b : Bool) (s : Sy) (k : Int) (w : World) (htab : Tb w.heap.size w) : Calls Tryd.prog 8 #[.agg #[.int .i64 op, .slice pa na ca, .bool b, .slice pm nm cm, .int .i64 sym], s.val, .int .i64 k] w (RBool true w) := by
  have Hd := hid (fun W => Declare_nil s W)
  obtain ⟨nam, ar, so⟩ := s
  have hsv : Sy.val ⟨nam, ar, so⟩ = .agg #[.string ⟨nam.toArray⟩, .int .i64 ar, .int .i64 so] := rfl
  rw [hsv] at Hd ⊢
  have bx := heap_alloc_new w (.cells #[.int .i64 op, .slice pa na ca, .bool b, .slice pm nm cm, .int .i64 sym] 39)
  have b0 := below1 w (.cells #[.int .i64 op, .slice pa na ca, .bool b, .slice pm nm cm, .int .i64 sym] 39)
  have bx' := heap_alloc_new (w.alloc (.cells #[.int .i64 op, .slice pa na ca, .bool b, .slice pm nm cm, .int .i64 sym] 39)) (.cells #[.string ⟨nam.toArray⟩, .int .i64 ar, .int .i64 so] 51)
  have b1 := below1 (w.alloc (.cells #[.int .i64 op, .slice pa na ca, .bool b, .slice pm nm cm, .int .i64 sym] 39)) (.cells #[.string ⟨nam.toArray⟩, .int .i64 ar, .int .i64 so] 51)
  have hs0 := size_alloc w (.cells #[.int .i64 op, .slice pa na ca, .bool b, .slice pm nm cm, .int .i64 sym] 39)
  have hs1 := size_alloc (w.alloc (.cells #[.int .i64 op, .slice pa na ca, .bool b, .slice pm nm cm, .int .i64 sym] 39)) (.cells #[.string ⟨nam.toArray⟩, .int .i64 ar, .int .i64 so] 51)
  have bw1 := bel_go b1 b0
  have hfx := fixed_any w.heap.size _ bw1.size (Lib.TabBelow.on htab bw1)
  rw [hs0] at bx' hs1
  have bx1 := (b1.block w.heap.size (by omega)).trans bx
  have Hfx := hid hfx
  clear htab hsv hfx bx b0 b1
  go_enter Tryd.func8, Tryd.ntmps8
  go_wp2_with fail
  generalize hW : ((w.alloc (.cells #[.int .i64 op, .slice pa na ca, .bool b, .slice pm nm cm, .int .i64 sym] 39)).alloc (.cells #[.string ⟨nam.toArray⟩, .int .i64 ar, .int .i64 so] 51)) = W1 at *
  clear hW hs0
  refine Hfx.out.mono ?_
  rintro e w2 ⟨rfl, b2⟩
  have bw2 := bel_go b2 bw1
  have q := five_cells ((b2.block w.heap.size (by omega)).trans bx1)
  obtain ⟨x0, x1, x2, x3, x4⟩ := q
  have bx2 := (b2.block (w.heap.size + 1) (by omega)).trans bx'
  have hz2 := b2.size
  have Hb2 := hid bw2
  have Hm := hid (Make_nil2 op sym na nm ca cm pa pm b w2)
  clear bw2 b2 bx1 bx' bw1 Hfx
  go_wp2_with fail
  refine Hm.out.mono ?_
  rintro e w3 ⟨rfl, b3⟩
  have bx3 := (b3.block (w.heap.size + 1) (by omega)).trans bx2
  have q := three_cells bx3
  have hz3 := b3.size
  have Hb3 := hid (bel_go b3 Hb2.out)
  obtain ⟨y0, y1, y2⟩ := q
  clear b3 bx3 bx2 x0 x1 x2 x3 x4 Hm Hb2
  go_wp2_with fail
  refine (Hd.out _).mono ?_
  rintro e w4 ⟨rfl, b4⟩
  have Hb4 := hid (bel_go b4 Hb3.out)
  clear b4 y0 y1 y2 Hb3
  go_wp2_with fail
  refine (Sort_nil k _).mono ?_
  rintro e w5 ⟨rfl, b5⟩
  have Hb5 := hid (bel_go b5 Hb4.out)
  clear b5 Hb4
  have hf0 := fun w' => terms_field0 none 0 0 none 0 0 w'
  have hf1 := fun w' => terms_field1 none 0 0 none 0 0 w'
  go_wp2_with fail
  refine (Rows_nil _).mono ?_
  rintro e w6 ⟨rfl, b6⟩
  have Hb6 := hid (bel_go b6 Hb5.out)
  clear b6 Hb5
  go_wp2_with fail
  refine (Rows_nil _).mono ?_
  rintro e w7 ⟨rfl, b7⟩
  have Hb7 := hid (bel_go b7 Hb6.out)
  clear b7 Hb6
  go_wp2
  go_ret
  exact ⟨rfl, Hb7.out⟩
end Go.Proofs.YtmdkfpidohcafaaDoor
/- Terms and symbols that come in as data: how they read. -/
namespace Go.Proofs.YtmdkfpidohcafaaDoor
open Go.ChangeShapes Go.WideShapes Go.ChangeAt Go.RowKit Go.Deep Go.Joins Big

/-- a term as it comes in: its number by sign and words -/
structure Tx where
  op : Int
  args : List Int
  neg : Bool
  words : List Nat
  sym : Int
def Tx.tm (x : Tx) : Tm := ⟨x.op, x.args, sg x.neg (val W x.words), x.sym⟩
def TxAt (w : World) (v : Value) (x : Tx) : Prop := ∃ pa ca pm cm, v = .agg #[.int .i64 x.op, .slice pa x.args.length ca, .bool x.neg, .slice pm x.words.length cm, .int .i64 x.sym] ∧
  IAt w (.slice pa x.args.length ca) x.args ∧ At w .u64 (.slice pm x.words.length cm) x.words ∧ Small W x.words
theorem TxAt.raw {w : World} {v : Value} {x : Tx} (h : TxAt w v x) (hs : x.words.length ≤ 1099511627776) : TmRaw w v x.tm := by
  obtain ⟨pa, ca, pm, cm, rfl, h1, h2, h3⟩ := h
  exact ⟨pa, ca, _, pm, _, cm, rfl, h1, _, _, _, rfl, h2, h3, hs, rfl⟩
theorem TxAt.below {w w' : World} {v : Value} {x : Tx} (h : TxAt w v x) (hb : Below w.heap.size w w') : TxAt w' v x := by
  obtain ⟨pa, ca, pm, cm, rfl, h1, h2, h3⟩ := h
  exact ⟨pa, ca, pm, cm, rfl, h1.below hb, h2.below hb, h3⟩
theorem laidOutP : laidOutB Tryd.prog = true := by kernel_rfl
theorem ownP : ownKnob Tryd.prog.godebug = none := by kernel_rfl
theorem fieldsTerm : ∃ f0 f1 f2 f3 : Field, Tryd.prog.underlying 39 = some (.struct #[f0, f1, f2, f3]) ∧ f0.type = 3 ∧ f1.type = 33 ∧ f2.type = 37 ∧ f3.type = 3 ∧ f0.offset = 0 ∧ f1.offset = 1 ∧ f2.offset = 2 ∧ f3.offset = 4 :=
  ⟨_, _, _, _, Tryd.underlying39, rfl, rfl, rfl, rfl, rfl, rfl, rfl, rfl⟩
theorem fieldsSym : ∃ f0 f1 f2 : Field, Tryd.prog.underlying 51 = some (.struct #[f0, f1, f2]) ∧ f0.type = 9 ∧ f1.type = 3 ∧ f2.type = 3 ∧ f0.offset = 0 ∧ f1.offset = 1 ∧ f2.offset = 2 :=
  ⟨_, _, _, Tryd.underlying51, rfl, rfl, rfl, rfl, rfl, rfl⟩
theorem fieldsIntP : ∃ f0 f1 : Field, Tryd.prog.underlying 37 = some (.struct #[f0, f1]) ∧ f0.type = 4 ∧ f1.type = 35 ∧ f0.offset = 0 ∧ f1.offset = 1 := ⟨_, _, Tryd.underlying37, rfl, rfl, rfl, rfl⟩
theorem cellsTermP : Tryd.prog.cellsOf 39 = 5 := by kernel_rfl
theorem cellsSymP : Tryd.prog.cellsOf 51 = 3 := by kernel_rfl
theorem cellsIntP : Tryd.prog.cellsOf 37 = 2 := by kernel_rfl
theorem cellsNatP : Tryd.prog.cellsOf 35 = 1 := by kernel_rfl
theorem cellsBoolP : Tryd.prog.cellsOf 4 = 1 := by kernel_rfl
theorem cellsIP : Tryd.prog.cellsOf 3 = 1 := by kernel_rfl
theorem cellsSP : Tryd.prog.cellsOf 9 = 1 := by kernel_rfl
theorem cellsIsP : Tryd.prog.cellsOf 33 = 1 := by kernel_rfl
def dataOf {H : Type} : DataW H → List (DataW H)
  | .slice e _ => e
  | _ => []
section
variable {H : Type} {enc : TypeId × Value → H} {w : World} {base : Nat} {spare : Nat → Bool} {held : Bool}
theorem spotless {b off : Nat} {sp : Option _} {v : Value} (h : w.cell? ((⟨b, off, sp⟩ : Addr)) = some v) : sp = none := by
  cases sp with
  | none => rfl
  | some x =>
    exfalso
    revert h
    unfold World.cell?
    split <;> simp
theorem cells_each {a : Addr} {n : Nat} {cs : List Value} (h : w.cells? base a n = some cs) : cs.length = n ∧ ∀ j u, cs[j]? = some u → w.cell? (a.add j) = some u := by
  unfold World.cells? at h
  split at h
  · have hl := mapM_some_length h
    simp at hl
    refine ⟨hl, fun j u hj => ?_⟩
    have hjl : j < n := by
      have := (List.getElem?_eq_some_iff.1 hj).1
      omega
    have := mapM_some_get h j j (by simp [hjl])
    rw [this, hj]
  · cases h
/-- a row of structs that comes in -/
theorem open_rows {α : Type} {t e : TypeId} (size : Nat) (ht : Tryd.prog.underlying t = some (.slice e)) (hsz : Tryd.prog.cellsOf e = size) (hpos : 0 < size) {Q : List Value → α → DataW H → Prop}
    (each : ∀ m cs y, DataW.trod enc Tryd.prog w base spare held m e cs = some y → ∃ x : α, Q cs x y.1) {fuel : Nat} {cs : List Value} {y : DataW H × List MemPlace} (h : DataW.trod enc Tryd.prog w base spare held fuel t cs = some y) :
    ∃ (p : Option Addr) (cap : Nat) (l : List α), cs = [.slice p l.length cap] ∧ l.length ≤ cap ∧ cap ≤ maxLen ∧ (p = none → cap = 0) ∧
      (0 < l.length → ∃ b off, p = some ⟨b, off, none⟩ ∧ b < w.heap.size ∧ ∀ i (h : i < l.length), ∃ c d, c.length = size ∧ (∀ j u, c[j]? = some u → w.cell? ⟨b, off + i * size + j, none⟩ = some u) ∧ Q c l[i] d ∧ d ∈ dataOf y.1) := by
  rcases DataW.trod_slice ht h with ⟨rfl, -⟩ | ⟨a, len, cap, elems, rest, m, rfl, rfl, rfl, hb, hl, hm, hel, hget, -, -⟩
  · exact ⟨none, 0, [], rfl, by simp, by simp [maxLen], fun _ => rfl, fun h => absurd h (by simp)⟩
  · rw [hsz] at hget
    have hone : ∀ i : Fin len, ∃ x : α, ∃ c d, c.length = size ∧ (∀ j u, c[j]? = some u → w.cell? ((a.add (i.1 * size)).add j) = some u) ∧ Q c x d ∧ d ∈ elems.map (·.1) := fun i => by
      have hg := hget i.1 i.2
      have hil : i.1 < elems.length := by omega
      rw [List.getElem?_eq_getElem hil] at hg
      obtain ⟨ci, h1, h2⟩ := Option.bind_eq_some_iff.1 hg
      obtain ⟨x, hx⟩ := each m ci _ h2
      obtain ⟨k1, k2⟩ := cells_each h1
      exact ⟨x, ci, _, k1, k2, hx, List.mem_map.2 ⟨_, List.getElem_mem hil, rfl⟩⟩
    obtain ⟨f, hf⟩ := Classical.axiomOfChoice hone
    have hll : (List.ofFn f).length = len := by simp
    refine ⟨some a, cap, List.ofFn f, by rw [hll], by rw [hll]; exact hl, hm, fun e => by (cases e), fun h0 => ?_⟩
    rw [hll] at h0
    obtain ⟨b, off, sp⟩ := a
    have hsp : sp = none := by
      obtain ⟨c, d, k1, k2, -⟩ := hf ⟨0, h0⟩
      have := k2 0 (c[0]'(by omega)) (by simp)
      simp only [Nat.zero_mul, Addr.add] at this
      exact spotless this
    subst hsp
    have hbl : b < w.heap.size := by
      obtain ⟨c, d, k1, k2, -⟩ := hf ⟨0, h0⟩
      have := k2 0 (c[0]'(by omega)) (by simp)
      exact World.block_lt_of_cell? w _ (by simpa only [add_plain] using this)
    refine ⟨b, off, rfl, hbl, fun i hi => ?_⟩
    rw [hll] at hi
    obtain ⟨c, d, k1, k2, k3, k4⟩ := hf ⟨i, hi⟩
    exact ⟨c, d, k1, fun j u hj => by have := k2 j u hj; simpa only [add_plain] using this, by rw [List.getElem_ofFn]; exact k3, k4⟩
/-- a slice of ints that comes in -/
theorem open_iat {fuel : Nat} {v : Value} {y : DataW H × List MemPlace} (h : DataW.trod enc Tryd.prog w base spare held fuel 33 [v] = some y) : ∃ p l cap, v = .slice p l.length cap ∧ IAt w (.slice p l.length cap) l := by
  obtain ⟨p, cap, l, hcs, h1, h2, h3, h4⟩ := open_rows (α := Int) (Q := fun cs x _ => cs = [.int .i64 x]) 1 Tryd.underlying33 cellsIP (by decide) (fun m cs y hy => by
    obtain ⟨n, g, -, -⟩ := DataW.trod_int Tryd.underlying3 hy
    exact ⟨n, g⟩) h
  injection hcs with hcs _
  refine ⟨p, l, cap, hcs, p, cap, rfl, h1, h2, h3, fun h0 => ?_⟩
  obtain ⟨b, off, e, hb, hc⟩ := h4 h0
  refine ⟨b, off, e, hb, fun i hi => ?_⟩
  obtain ⟨c, d, -, k, rfl, -⟩ := hc i hi
  have := k 0 _ rfl
  simpa using this
set_option maxRecDepth 100000 in
theorem open_tx {fuel : Nat} {cs : List Value} {y : DataW H × List MemPlace} (h : DataW.trod enc Tryd.prog w base spare held fuel 39 cs = some y) :
    ∃ x : Tx, ∃ c0 c1 c2 c3 c4, cs = [c0, c1, c2, c3, c4] ∧ TxAt w (.agg #[c0, c1, c2, c3, c4]) x := by
  obtain ⟨f0, f1, f2, f3, hs, e0, e1, e2, e3, o0, o1, o2, o3⟩ := fieldsTerm
  obtain ⟨xs, n, rfl, rfl, hl, hlen, hf⟩ := DataW.trod_struct hs h
  rw [cellsTermP] at hl
  match cs, hl, xs, hlen with
  | [c0, c1, c2, c3, c4], _, [y0, y1, y2, y3], _ =>
    have h0 := hf 0 f0 rfl
    have h1 := hf 1 f1 rfl
    have h2 := hf 2 f2 rfl
    have h3 := hf 3 f3 rfl
    rw [e0, o0, cellsIP] at h0
    rw [e1, o1, cellsIsP] at h1
    rw [e2, o2, cellsIntP] at h2
    rw [e3, o3, cellsIP] at h3
    obtain ⟨k, g0, -, -⟩ := DataW.trod_int Tryd.underlying3 (show DataW.trod enc Tryd.prog w base spare held n 3 [c0] = some y0 from h0)
    obtain ⟨p, l, cap, g1, hi⟩ := open_iat (show DataW.trod enc Tryd.prog w base spare held n 33 [c1] = some y1 from h1)
    obtain ⟨s, g3, -, -⟩ := DataW.trod_int Tryd.underlying3 (show DataW.trod enc Tryd.prog w base spare held n 3 [c4] = some y3 from h3)
    obtain ⟨i0, i1, hsi, ei0, ei1, oi0, oi1⟩ := fieldsIntP
    obtain ⟨zs, m, -, -, -, hzl, hzf⟩ := DataW.trod_struct hsi (show DataW.trod enc Tryd.prog w base spare held n 37 [c2, c3] = some y2 from h2)
    match zs, hzl with
    | [z0, z1], _ =>
      have k0 := hzf 0 i0 rfl
      have k1 := hzf 1 i1 rfl
      rw [ei0, oi0, cellsBoolP] at k0
      rw [ei1, oi1, cellsNatP] at k1
      obtain ⟨b, gb, -⟩ := DataW.trod_bool Tryd.underlying4 (show DataW.trod enc Tryd.prog w base spare held m 4 [c2] = some z0 from k0)
      obtain ⟨ws, hw, hsm⟩ := open_nat (show DataW.trod enc Tryd.prog w base spare held m 35 [c3] = some z1 from k1)
      injection g0 with g0 _; injection g3 with g3 _; injection gb with gb _
      subst g0 g1 g3 gb
      obtain ⟨pm, cm, rfl, r⟩ := hw
      exact ⟨⟨k, l, b, ws, s⟩, _, _, _, _, _, rfl, p, cap, pm, cm, rfl, hi, ⟨pm, cm, rfl, r⟩, hsm⟩
set_option maxRecDepth 100000 in
theorem open_sy {fuel : Nat} {cs : List Value} {y : DataW H × List MemPlace} (h : DataW.trod enc Tryd.prog w base spare held fuel 51 cs = some y) :
    ∃ s : Sy, cs = s.cells ∧ ∃ r, y.1 = .agg (.lit (.string s.name) :: r) := by
  obtain ⟨f0, f1, f2, hs, e0, e1, e2, o0, o1, o2⟩ := fieldsSym
  obtain ⟨xs, n, rfl, rfl, hl, hlen, hf⟩ := DataW.trod_struct hs h
  rw [cellsSymP] at hl
  match cs, hl, xs, hlen with
  | [c0, c1, c2], _, [y0, y1, y2], _ =>
    have h0 := hf 0 f0 rfl
    have h1 := hf 1 f1 rfl
    have h2 := hf 2 f2 rfl
    rw [e0, o0, cellsSP] at h0
    rw [e1, o1, cellsIP] at h1
    rw [e2, o2, cellsIP] at h2
    obtain ⟨t, g0, gy, -⟩ := DataW.trod_string Tryd.underlying9 (show DataW.trod enc Tryd.prog w base spare held n 9 [c0] = some y0 from h0)
    obtain ⟨a, g1, -, -⟩ := DataW.trod_int Tryd.underlying3 (show DataW.trod enc Tryd.prog w base spare held n 3 [c1] = some y1 from h1)
    obtain ⟨s, g2, -, -⟩ := DataW.trod_int Tryd.underlying3 (show DataW.trod enc Tryd.prog w base spare held n 3 [c2] = some y2 from h2)
    injection g0 with g0 _; injection g1 with g1 _; injection g2 with g2 _
    subst g0 g1 g2
    exact ⟨⟨t.data.toList, a, s⟩, rfl, _, by rw [gy]; rfl⟩
set_option maxRecDepth 100000 in
/-- a term by value -/
theorem open_term {r : Reach} {b0 : Nat} {v : Value} {d : DataW H} {p : List MemPlace} (hv : Value.okWide Tryd.prog w r b0 39 v) (h : DataW.Trod enc Tryd.prog w base spare held 39 v d p) : ∃ x, TxAt w v x := by
  obtain ⟨f0, f1, f2, f3, hs, -⟩ := fieldsTerm
  obtain ⟨cs, rfl, hsz⟩ := okWide_struct hs hv
  obtain ⟨fuel, hf⟩ := h
  obtain ⟨x, c0, c1, c2, c3, c4, hcs, hx⟩ := open_tx hf
  obtain ⟨l⟩ := cs
  have : l = [c0, c1, c2, c3, c4] := by simpa [Value.cells] using hcs
  exact ⟨x, by rw [this]; exact hx⟩
set_option maxRecDepth 100000 in
/-- a symbol by value -/
theorem open_sym {r : Reach} {b0 : Nat} {v : Value} {d : DataW H} {p : List MemPlace} (hv : Value.okWide Tryd.prog w r b0 51 v) (h : DataW.Trod enc Tryd.prog w base spare held 51 v d p) : ∃ s : Sy, v = s.val := by
  obtain ⟨f0, f1, f2, hs, -⟩ := fieldsSym
  obtain ⟨cs, rfl, hsz⟩ := okWide_struct hs hv
  obtain ⟨fuel, hf⟩ := h
  obtain ⟨s, hcs, -⟩ := open_sy hf
  obtain ⟨l⟩ := cs
  have : l = s.cells := by simpa [Value.cells] using hcs
  exact ⟨s, by rw [this]; rfl⟩
/-- terms that come in -/
def TxsIn (w : World) (v : Value) (l : List Tx) : Prop :=
  ∃ p cap, v = .slice p l.length cap ∧ l.length ≤ cap ∧ cap ≤ maxLen ∧ (p = none → cap = 0) ∧
    (0 < l.length → ∃ b off, p = some ⟨b, off, none⟩ ∧ b < w.heap.size ∧ ∀ i (h : i < l.length), ∃ c0 c1 c2 c3 c4, w.cell? ⟨b, off + i * 5, none⟩ = some c0 ∧ w.cell? ⟨b, off + i * 5 + 1, none⟩ = some c1 ∧ w.cell? ⟨b, off + i * 5 + 2, none⟩ = some c2 ∧ w.cell? ⟨b, off + i * 5 + 3, none⟩ = some c3 ∧ w.cell? ⟨b, off + i * 5 + 4, none⟩ = some c4 ∧
      TxAt w (.agg #[c0, c1, c2, c3, c4]) l[i])
theorem TxsIn.tms {v : Value} {l : List Tx} (h : TxsIn w v l) (hs : ∀ x ∈ l, x.words.length ≤ 1099511627776) : TmsIn w v (l.map Tx.tm) := by
  obtain ⟨p, cap, rfl, h1, h2, h3, h4⟩ := h
  refine ⟨p, cap, by rw [List.length_map], by rw [List.length_map]; exact h1, h2, h3, fun h0 => ?_⟩
  rw [List.length_map] at h0
  obtain ⟨b, off, e, hb, hc⟩ := h4 h0
  refine ⟨b, off, e, hb, fun i hi => ?_⟩
  rw [List.length_map] at hi
  obtain ⟨c0, c1, c2, c3, c4, k0, k1, k2, k3, k4, hx⟩ := hc i hi
  exact ⟨c0, c1, c2, c3, c4, k0, k1, k2, k3, k4, by rw [List.getElem_map]; exact hx.raw (hs _ (List.getElem_mem hi))⟩
theorem open_txs {fuel : Nat} {cs : List Value} {y : DataW H × List MemPlace} (h : DataW.trod enc Tryd.prog w base spare held fuel 23 cs = some y) : ∃ v l, cs = [v] ∧ TxsIn w v l := by
  obtain ⟨p, cap, l, hcs, h1, h2, h3, h4⟩ := open_rows (α := Tx) (Q := fun cs x _ => ∃ c0 c1 c2 c3 c4, cs = [c0, c1, c2, c3, c4] ∧ TxAt w (.agg #[c0, c1, c2, c3, c4]) x) 5 Tryd.underlying23 cellsTermP (by decide) (fun m cs y hy => open_tx hy) h
  refine ⟨_, l, hcs, p, cap, rfl, h1, h2, h3, fun h0 => ?_⟩
  obtain ⟨b, off, e, hb, hc⟩ := h4 h0
  refine ⟨b, off, e, hb, fun i hi => ?_⟩
  obtain ⟨c, d, -, k, ⟨c0, c1, c2, c3, c4, rfl, hx⟩, -⟩ := hc i hi
  exact ⟨c0, c1, c2, c3, c4, k 0 _ rfl, k 1 _ rfl, k 2 _ rfl, k 3 _ rfl, k 4 _ rfl, hx⟩
theorem open_sys {fuel : Nat} {cs : List Value} {y : DataW H × List MemPlace} (h : DataW.trod enc Tryd.prog w base spare held fuel 22 cs = some y) :
    ∃ v l, cs = [v] ∧ SyIn w v l ∧ ∀ s ∈ l, ∃ r, DataW.agg (.lit (.string s.name) :: r) ∈ dataOf y.1 := by
  obtain ⟨p, cap, l, hcs, h1, h2, h3, h4⟩ := open_rows (α := Sy) (Q := fun cs s d => cs = s.cells ∧ ∃ r, d = .agg (.lit (.string s.name) :: r)) 3 Tryd.underlying22 cellsSymP (by decide) (fun m cs y hy => open_sy hy) h
  refine ⟨_, l, hcs, ⟨p, cap, rfl, h1, h2, h3, fun h0 => ?_⟩, fun s hs => ?_⟩
  · obtain ⟨b, off, e, hb, hc⟩ := h4 h0
    refine ⟨b, off, e, hb, fun i hi => ?_⟩
    obtain ⟨c, d, -, k, ⟨rfl, -⟩, -⟩ := hc i hi
    exact ⟨k 0 _ rfl, k 1 _ rfl, k 2 _ rfl⟩
  · obtain ⟨i, hi, rfl⟩ := List.mem_iff_getElem.1 hs
    obtain ⟨b, off, e, hb, hc⟩ := h4 (by omega)
    obtain ⟨c, d, -, k, ⟨-, r, rfl⟩, hm⟩ := hc i hi
    exact ⟨r, hm⟩
end
end Go.Proofs.YtmdkfpidohcafaaDoor
/- Symbols, terms, rows and bytes that come in as data, by value; how long names may be; PoolNil of what comes in. -/
namespace Go.Proofs.YtmdkfpidohcafaaDoor
open Go.ChangeShapes Go.WideShapes Go.ChangeAt Go.RowKit Go.Deep Go.Joins Big

theorem lawNil_tx (x : Tx) (v : Value) (s : Sy) (k : Int) (w : World) (htab : Tb w.heap.size w) (h : TxAt w v x) : Calls Tryd.prog 8 #[v, s.val, .int .i64 k] w (RBool true w) := by
  obtain ⟨pa, ca, pm, cm, rfl, -⟩ := h
  exact lawNil_any _ _ _ _ _ _ _ _ _ s k w htab
theorem cellsU8 : Tryd.prog.cellsOf 5 = 1 := by kernel_rfl
theorem fieldsTerms : ∃ f0 f1 : Field, Tryd.prog.underlying 27 = some (.struct #[f0, f1]) ∧ f0.type = 22 ∧ f1.type = 23 ∧ f0.offset = 0 ∧ f1.offset = 1 := ⟨_, _, Tryd.underlying27, rfl, rfl, rfl, rfl⟩
theorem cellsTermsP : Tryd.prog.cellsOf 27 = 2 := by kernel_rfl
theorem cellsSysP : Tryd.prog.cellsOf 22 = 1 := by kernel_rfl
theorem cellsTmsP : Tryd.prog.cellsOf 23 = 1 := by kernel_rfl
section
variable {H : Type} {enc : TypeId × Value → H} {w : World} {base : Nat} {spare : Nat → Bool} {held : Bool}
theorem weightsAll_mem {P : Program} {e : TypeId} : ∀ {ds : List (DataW H)} {d : DataW H}, d ∈ ds → ∀ n ∈ d.weights P e, n ∈ DataW.weightsAll P e ds
  | d0 :: ds, d, hd, n, hn => by
    simp only [DataW.weightsAll, List.mem_append]
    rcases List.mem_cons.1 hd with rfl | hd
    · exact .inl hn
    · exact .inr (weightsAll_mem hd n hn)
theorem name_weight {d : DataW H} {b : List UInt8} {r : List (DataW H)} (hm : DataW.agg (.lit (.string b) :: r) ∈ dataOf d) : b.length ∈ d.weights Tryd.prog 22 := by
  cases d with
  | slice e s =>
    obtain ⟨f0, f1, f2, hs, e0, -⟩ := fieldsSym
    unfold DataW.weights
    rw [Tryd.underlying22]
    refine List.mem_cons_of_mem _ (List.mem_append.2 (.inl (weightsAll_mem hm _ ?_)))
    unfold DataW.weights
    rw [hs]
    simp only [List.map_cons, DataW.weightsEach, List.mem_append]
    exact .inl (by simp [DataW.weights])
  | _ => simp [dataOf] at hm
theorem reach_small : reachBytes ≤ 281474976710656 := by decide
set_option maxRecDepth 100000 in
theorem open_syms {r : Reach} {b0 j : Nat} {v : Value} {d : DataW H} {p : List MemPlace} {ts : List TypeId} {ds : List (DataW H)} (hv : Value.okWide Tryd.prog w r b0 22 v) (h : DataW.Trod enc Tryd.prog w base spare held 22 v d p)
    (hsz : (DataW.weightsEach Tryd.prog ts ds).all (· ≤ reachBytes) = true) (ht : ts[j]? = some 22) (hd : ds[j]? = some d) : ∃ l, SyIn w v l ∧ ∀ s ∈ l, s.name.length ≤ 281474976710656 := by
  obtain ⟨a, len, cap, rfl⟩ := okWide_slice Tryd.underlying22 hv
  obtain ⟨fuel, hf⟩ := h
  obtain ⟨v', l, he, h1, h2⟩ := open_sys hf
  have hv' : v' = .slice a len cap := by simpa [Value.cells] using he.symm
  rw [hv'] at h1
  refine ⟨l, h1, fun s hs => ?_⟩
  obtain ⟨r, hm⟩ := h2 s hs
  have := List.all_eq_true.1 hsz _ (DataW.weights_mem_each ht hd _ (name_weight hm))
  have := reach_small
  simp at *
  omega
set_option maxRecDepth 100000 in
theorem open_terms {r : Reach} {b0 : Nat} {v : Value} {d : DataW H} {p : List MemPlace} (hv : Value.okWide Tryd.prog w r b0 23 v) (h : DataW.Trod enc Tryd.prog w base spare held 23 v d p) : ∃ l, TxsIn w v l := by
  obtain ⟨a, len, cap, rfl⟩ := okWide_slice Tryd.underlying23 hv
  obtain ⟨fuel, hf⟩ := h
  obtain ⟨v', l, he, h1⟩ := open_txs hf
  have hv' : v' = .slice a len cap := by simpa [Value.cells] using he.symm
  rw [hv'] at h1
  exact ⟨l, h1⟩
set_option maxRecDepth 100000 in
theorem open_rws {r : Reach} {b0 j : Nat} {v : Value} {d : DataW H} {p : List MemPlace} {ts : List TypeId} {ds : List (DataW H)} (hv : Value.okWide Tryd.prog w r b0 27 v) (h : DataW.Trod enc Tryd.prog w base spare held 27 v d p)
    (hsz : (DataW.weightsEach Tryd.prog ts ds).all (· ≤ reachBytes) = true) (ht : ts[j]? = some 27) (hd : ds[j]? = some d) : ∃ va vb sy tx, v = .agg #[va, vb] ∧ SyIn w va sy ∧ TxsIn w vb tx ∧ ∀ s ∈ sy, s.name.length ≤ 281474976710656 := by
  obtain ⟨f0, f1, hs, e0, e1, o0, o1⟩ := fieldsTerms
  obtain ⟨cs, rfl, -⟩ := okWide_struct hs hv
  obtain ⟨fuel, hf⟩ := h
  obtain ⟨xs, n, -, hx, hl, hlen, hfi⟩ := DataW.trod_struct hs hf
  rw [cellsTermsP] at hl
  obtain ⟨va, vb, hcs⟩ : ∃ a b, cs = #[a, b] := by
    obtain ⟨l⟩ := cs
    have hl' : l.length = 2 := by simpa [Value.cells] using hl
    match l, hl' with
    | [a, b], _ => exact ⟨a, b, rfl⟩
  subst hcs
  match xs, hlen with
  | [y0, y1], _ =>
    have h0 := hfi 0 f0 rfl
    have h1 := hfi 1 f1 rfl
    rw [e0, o0, cellsSysP] at h0
    rw [e1, o1, cellsTmsP] at h1
    obtain ⟨v0, sy, g0, k0, n0⟩ := open_sys (show DataW.trod enc Tryd.prog w base spare held n 22 [va] = some y0 from h0)
    obtain ⟨v1, tx, g1, k1⟩ := open_txs (show DataW.trod enc Tryd.prog w base spare held n 23 [vb] = some y1 from h1)
    injection g0 with g0 _; injection g1 with g1 _
    subst g0 g1
    refine ⟨va, vb, sy, tx, rfl, k0, k1, fun s hs' => ?_⟩
    obtain ⟨r, hm⟩ := n0 s hs'
    have hdd : d = .agg [y0.1, y1.1] := by injection hx
    have hwt : s.name.length ∈ d.weights Tryd.prog 27 := by
      rw [hdd]
      unfold DataW.weights
      rw [hs]
      simp only [List.map_cons, DataW.weightsEach, List.mem_append, e0]
      exact .inl (name_weight hm)
    have := List.all_eq_true.1 hsz _ (DataW.weights_mem_each ht hd _ hwt)
    have := reach_small
    simp at *
    omega
theorem wf_u8 {n : Int} (h : (Lit.int .u8 n).wf = true) : 0 ≤ n ∧ n < 256 := by
  have h' : (decide (IntKind.u8.min ≤ n) && decide (n ≤ IntKind.u8.max)) = true := h
  have e1 : IntKind.u8.min = 0 := by decide
  have e2 : IntKind.u8.max = 255 := by decide
  rw [e1, e2] at h'
  simp only [Bool.and_eq_true, decide_eq_true_eq] at h'
  omega
set_option maxRecDepth 100000 in
theorem open_bytes {r : Reach} {b0 : Nat} {v : Value} {d : DataW H} {p : List MemPlace} (hv : Value.okWide Tryd.prog w r b0 56 v) (h : DataW.Trod enc Tryd.prog w base spare held 56 v d p) :
    ∃ l, At w .u8 v l := by
  obtain ⟨a, len, cap, rfl⟩ := okWide_slice Tryd.underlying56 hv
  obtain ⟨fuel, hf⟩ := h
  rcases open_ints Tryd.underlying56 Tryd.underlying5 cellsU8 hf with ⟨he, -⟩ | ⟨a', len', cap', zs, he, hb, hl, hm, hz, -, hc, hwf⟩
  · have he : Value.slice a len cap = .slice none 0 0 := by simpa [Value.cells] using he
    rw [he]
    exact ⟨[], At.nil w .u8⟩
  · have he : Value.slice a len cap = .slice (some a') len' cap' := by simpa [Value.cells] using he
    rw [he]
    have hlz : len' ≤ zs.length := by rw [hz]; split <;> omega
    refine ⟨(zs.take len').map Int.toNat, ?_⟩
    have e : ((zs.take len').map Int.toNat).length = len' := by simp [Nat.min_eq_left hlz]
    refine ⟨some a', cap', by rw [e], by rw [e]; exact hl, hm, nofun, fun h0 => ?_⟩
    rw [e] at h0
    have hs := hc 0 (by omega)
    obtain ⟨b, off, spot⟩ := a'
    cases spot with
    | some x =>
      exfalso
      revert hs
      unfold World.cell? Addr.add
      split <;> simp
    | none =>
      refine ⟨b, off, rfl, World.block_lt_of_cell? w _ hs, fun i hi => ?_⟩
      rw [e] at hi
      have hci := hc i (by omega)
      have hw := wf_u8 (hwf _ (List.getElem_mem (n := i) (l := zs) (by omega)))
      rw [add_plain] at hci
      rw [hci]
      have hg : zs.getD i 0 = zs[i]'(by omega) := by simp [List.getD, show i < zs.length by omega]
      rw [hg]
      simp only [List.getElem_map, List.getElem_take]
      congr 2
      omega
end
end Go.Proofs.YtmdkfpidohcafaaDoor
/- The package-level tables that the rows list, as start-up lays them; a world that holds them. -/
namespace Go.Proofs.YtmdkfpidohcafaaDoor
open Go.ChangeShapes Go.WideShapes Go.ChangeAt Go.RowKit

theorem own : ownKnob Tryd.prog.godebug = none := by kernel_rfl
def tabPow : Array Value := #[.int .u64 1, .int .u64 10, .int .u64 100, .int .u64 1000, .int .u64 10000, .int .u64 100000, .int .u64 1000000, .int .u64 10000000, .int .u64 100000000, .int .u64 1000000000, .int .u64 10000000000, .int .u64 100000000000, .int .u64 1000000000000, .int .u64 10000000000000, .int .u64 100000000000000, .int .u64 1000000000000000, .int .u64 10000000000000000, .int .u64 100000000000000000, .int .u64 1000000000000000000, .int .u64 10000000000000000000]
def tab32 : Array Value := #[.int .u8 0, .int .u8 1, .int .u8 28, .int .u8 2, .int .u8 29, .int .u8 14, .int .u8 24, .int .u8 3, .int .u8 30, .int .u8 22, .int .u8 20, .int .u8 15, .int .u8 25, .int .u8 17, .int .u8 4, .int .u8 8, .int .u8 31, .int .u8 27, .int .u8 13, .int .u8 23, .int .u8 21, .int .u8 19, .int .u8 16, .int .u8 7, .int .u8 26, .int .u8 12, .int .u8 18, .int .u8 6, .int .u8 11, .int .u8 5, .int .u8 10, .int .u8 9]
def tab64 : Array Value := #[.int .u8 0, .int .u8 1, .int .u8 56, .int .u8 2, .int .u8 57, .int .u8 49, .int .u8 28, .int .u8 3, .int .u8 61, .int .u8 58, .int .u8 42, .int .u8 50, .int .u8 38, .int .u8 29, .int .u8 17, .int .u8 4, .int .u8 62, .int .u8 47, .int .u8 59, .int .u8 36, .int .u8 45, .int .u8 43, .int .u8 51, .int .u8 22, .int .u8 53, .int .u8 39, .int .u8 33, .int .u8 30, .int .u8 24, .int .u8 18, .int .u8 12, .int .u8 5, .int .u8 63, .int .u8 55, .int .u8 48, .int .u8 27, .int .u8 60, .int .u8 41, .int .u8 37, .int .u8 16, .int .u8 46, .int .u8 35, .int .u8 44, .int .u8 21, .int .u8 52, .int .u8 32, .int .u8 23, .int .u8 11, .int .u8 54, .int .u8 26, .int .u8 40, .int .u8 15, .int .u8 34, .int .u8 20, .int .u8 31, .int .u8 10, .int .u8 25, .int .u8 14, .int .u8 19, .int .u8 9, .int .u8 13, .int .u8 8, .int .u8 7, .int .u8 6]
/-- the object that block k holds behind start-up -/
def laidObj (k : Nat) (o : Obj) : Obj :=
  match o with
  | .cells c t frozen => if k = 0 then .cells tabPow t frozen else if k = 1 then .cells tab32 t frozen else if k = 2 then .cells tab64 t frozen else .cells c t frozen
  | o => o
noncomputable def laidWorld (os : Os) : World :=
  { World.holding Tryd.prog os ⟨#[], #[], []⟩ with heap := (((World.holding Tryd.prog os ⟨#[], #[], []⟩).heap.modify 0 (laidObj 0)).modify 1 (laidObj 1)).modify 2 (laidObj 2) }
end Go.Proofs.YtmdkfpidohcafaaDoor
