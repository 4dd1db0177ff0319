/- Texts put together: VlOne_app, VlOne_and, VlOne_or, VlOne_add, VlOne, VlIn, VlOwn, VlValues, RefAddOwn, RefSubOwn, RefOfOwn, MkMath, MkRef, MkTape, MkTwo, VlRSame, VlFixed, VlRFew, PlOpen2, VlOpen, VlTells, VlMk1, MkNum, MkBuild, MkPick, MkApp, MkNum2, MkWhole. -/
import Derived.Test.YtckkpolikdnilaaGreatDoorValueOpposesCardM4
import Derived.Deep.RegionHeld3
import Derived.Deep.DeepCutAuto
import Derived.SizedLaws
import Derived.Deep.RegionWith
/- elenchusref05.One of Op 4. -/
namespace Go.Proofs.YtckkpolikdnilaaGreatDoor
open Go.RowKit Big Go.WideMaps

end Go.Proofs.YtckkpolikdnilaaGreatDoor
/- elenchusref05.One of Op 6. -/
namespace Go.Proofs.YtckkpolikdnilaaGreatDoor
open Go.RowKit Big Go.WideMaps

end Go.Proofs.YtckkpolikdnilaaGreatDoor
/- elenchusref05.One of Op 7. -/
namespace Go.Proofs.YtckkpolikdnilaaGreatDoor
open Go.RowKit Big Go.WideMaps

end Go.Proofs.YtckkpolikdnilaaGreatDoor
/- elenchusref05.One of Op 12. -/
namespace Go.Proofs.YtckkpolikdnilaaGreatDoor
open Go.RowKit Big Go.WideMaps

end Go.Proofs.YtckkpolikdnilaaGreatDoor
/- elenchusref05.One, whatever the Op. -/
namespace Go.Proofs.YtckkpolikdnilaaGreatDoor
open Go.RowKit Big Go.WideMaps

/-- the numbers that a table's rows ask for aren't too great -/
def Rows9 (ts : List Tb5) : Prop := ∀ t ∈ ts, ∀ r ∈ t.rows, ∀ z ∈ r.1, sz Big.W z.natAbs ≤ 549755813888
end Go.Proofs.YtckkpolikdnilaaGreatDoor
/- Numbers, rows, tables and models as they come in: by sign and words; how they read as numbers. -/
namespace Go.Proofs.YtckkpolikdnilaaGreatDoor
open Go.RowKit Big Go.WideMaps

/-- a row whose parts of k cells are told by Q -/
def LsIn {α : Type} (k : Nat) (Q : World → List Value → α → Prop) (w : World) (v : Value) (l : List α) : Prop :=
  ∃ p cap, v = .slice p l.length cap ∧ l.length ≤ cap ∧ cap ≤ maxLen ∧ (p = none → cap = 0) ∧
    (0 < l.length → ∃ b off, p = some ⟨b, off, none⟩ ∧ b < w.heap.size ∧ ∀ i (h : i < l.length), ∃ c : List Value, (∀ j u, c[j]? = some u → w.cell? ⟨b, off + i * k + j, none⟩ = some u) ∧ Q w c l[i])
theorem LsIn.below {α : Type} {k : Nat} {Q : World → List Value → α → Prop} (hQ : ∀ {w w' : World} {c : List Value} {x : α}, Q w c x → Below w.heap.size w w' → Q w' c x) {w w' : World} {v : Value} {l : List α} (h : LsIn k Q w v l) (hb : Below w.heap.size w w') : LsIn k Q w' v l := by
  obtain ⟨p, cap, rfl, h1, h2, h3, h4⟩ := h
  refine ⟨p, cap, rfl, h1, h2, h3, fun hp => ?_⟩
  obtain ⟨b, off, h5, h6, h7⟩ := h4 hp
  refine ⟨b, off, h5, Nat.lt_of_lt_of_le h6 hb.size, fun i hi => ?_⟩
  obtain ⟨c, k1, k2⟩ := h7 i hi
  exact ⟨c, fun j u hj => (hb.cell (p := ⟨b, off + i * k + j, none⟩) h6).trans (k1 j u hj), hQ k2 hb⟩
/-- a number as it comes in -/
structure Nx where
  neg : Bool
  words : List Nat
def Nx.z (x : Nx) : Int := sg x.neg (val W x.words)
def NxQ (w : World) (c : List Value) (x : Nx) : Prop := ∃ p cp, c = [.bool x.neg, .slice p x.words.length cp] ∧ At w .u64 (.slice p x.words.length cp) x.words ∧ Small W x.words
theorem NxQ.below {w w' : World} {c : List Value} {x : Nx} (h : NxQ w c x) (hb : Below w.heap.size w w') : NxQ w' c x := by
  obtain ⟨p, cp, e, h1, h2⟩ := h
  exact ⟨p, cp, e, h1.below hb, h2⟩
def Nx.fit (x : Nx) : Prop := x.words.length ≤ 6
theorem NxQ.raw {w : World} {n s : Value} {x : Nx} (h : NxQ w [n, s] x) (hf : x.fit) : RawAt w (.agg #[n, s]) x.z := by
  obtain ⟨p, cp, e, h1, h2⟩ := h
  injection e with e0 e
  injection e with e1 _
  subst e0 e1
  exact ⟨_, _, _, rfl, h1, h2, Nat.le_trans hf (by decide), rfl⟩
theorem NxQ.small {w : World} {c : List Value} {x : Nx} (h : NxQ w c x) (hf : x.fit) : sz W x.z.natAbs ≤ 6 := by
  obtain ⟨p, cp, e, h1, h2⟩ := h
  unfold Nx.z
  rw [sg_natAbs]
  exact Nat.le_trans (sz_val W2 h2) hf
abbrev NxsIn := LsIn 2 NxQ
theorem NxsIn.below {w w' : World} {v : Value} {l : List Nx} (h : NxsIn w v l) (hb : Below w.heap.size w w') : NxsIn w' v l := LsIn.below (Q := NxQ) (fun h hb => NxQ.below h hb) h hb
theorem NxsIn.nums {w : World} {v : Value} {l : List Nx} (h : NxsIn w v l) (hf : ∀ x ∈ l, x.fit) : NumsIn w v (l.map Nx.z) := by
  obtain ⟨p, cap, rfl, h1, h2, h3, h4⟩ := h
  refine ⟨p, cap, by rw [List.length_map], by rw [List.length_map]; exact h1, h2, h3, fun hp => ?_⟩
  rw [List.length_map] at hp
  obtain ⟨b, off, h5, h6, h7⟩ := h4 hp
  refine ⟨b, off, h5, h6, fun i hi => ?_⟩
  rw [List.length_map] at hi
  obtain ⟨c, k1, k2⟩ := h7 i hi
  obtain ⟨q, cq, e, k3, k4⟩ := id k2
  subst e
  refine ⟨_, _, k1 0 _ rfl, k1 1 _ rfl, ?_⟩
  rw [List.getElem_map]
  exact k2.raw (hf _ (List.getElem_mem hi))
theorem NxsIn.small {w : World} {v : Value} {l : List Nx} (h : NxsIn w v l) (hf : ∀ x ∈ l, x.fit) : ∀ z ∈ l.map Nx.z, sz W z.natAbs ≤ 6 := by
  intro z hz
  obtain ⟨x, hx, rfl⟩ := List.mem_map.1 hz
  obtain ⟨i, hi, rfl⟩ := List.mem_iff_getElem.1 hx
  obtain ⟨p, cap, -, -, -, -, h4⟩ := h
  obtain ⟨b, off, -, -, h7⟩ := h4 (by omega)
  obtain ⟨c, -, k2⟩ := h7 i hi
  exact k2.small (hf _ hx)
/-- a row of a table -/
structure Rx where
  args : List Nx
  val : Nx
def Rx.r (x : Rx) : List Int × Int := (x.args.map Nx.z, x.val.z)
def Rx.fit (x : Rx) : Prop := x.args.length ≤ 10 ∧ x.val.fit ∧ ∀ a ∈ x.args, a.fit
def RxQ (w : World) (c : List Value) (x : Rx) : Prop := ∃ a n s, c = [a, n, s] ∧ NxsIn w a x.args ∧ NxQ w [n, s] x.val
theorem RxQ.below {w w' : World} {c : List Value} {x : Rx} (h : RxQ w c x) (hb : Below w.heap.size w w') : RxQ w' c x := by
  obtain ⟨a, n, s, e, h1, h2⟩ := h
  exact ⟨a, n, s, e, h1.below hb, h2.below hb⟩
abbrev RxsIn := LsIn 3 RxQ
theorem RxsIn.below {w w' : World} {v : Value} {l : List Rx} (h : RxsIn w v l) (hb : Below w.heap.size w w') : RxsIn w' v l := LsIn.below (Q := RxQ) (fun h hb => RxQ.below h hb) h hb
theorem NxQ.two {w : World} {c : List Value} {x : Nx} (h : NxQ w c x) : ∃ s, c = [.bool x.neg, s] := by
  obtain ⟨p, cp, e, -⟩ := h
  exact ⟨_, e⟩
theorem RxsIn.rows {w : World} {v : Value} {l : List Rx} (h : RxsIn w v l) (hf : ∀ x ∈ l, x.fit) : RowsIn w v (l.map Rx.r) := by
  obtain ⟨p, cap, rfl, h1, h2, h3, h4⟩ := h
  refine ⟨p, cap, by rw [List.length_map], by rw [List.length_map]; exact h1, h2, h3, fun hp => ?_⟩
  rw [List.length_map] at hp
  obtain ⟨b, off, h5, h6, h7⟩ := h4 hp
  refine ⟨b, off, h5, h6, fun i hi => ?_⟩
  rw [List.length_map] at hi
  obtain ⟨c, k1, a, n, s, rfl, k2, k3⟩ := h7 i hi
  have hx := hf _ (List.getElem_mem hi)
  obtain ⟨s', e⟩ := k3.two
  injection e with e0 e
  injection e with e1 _
  subst e0 e1
  refine ⟨a, _, s, k1 0 _ rfl, k1 1 _ rfl, k1 2 _ rfl, ?_⟩
  rw [List.getElem_map]
  exact ⟨k2.nums hx.2.2, k3.raw hx.2.1⟩
/-- a table -/
structure Tbx where
  rows : List Rx
  els : Nx
def Tbx.t (x : Tbx) : Tb5 := ⟨x.rows.map Rx.r, x.els.z⟩
def Tbx.fit (x : Tbx) : Prop := x.rows.length ≤ 30 ∧ x.els.fit ∧ ∀ r ∈ x.rows, r.fit
def TbxQ (w : World) (c : List Value) (x : Tbx) : Prop := ∃ a n s, c = [a, n, s] ∧ RxsIn w a x.rows ∧ NxQ w [n, s] x.els
theorem TbxQ.below {w w' : World} {c : List Value} {x : Tbx} (h : TbxQ w c x) (hb : Below w.heap.size w w') : TbxQ w' c x := by
  obtain ⟨a, n, s, e, h1, h2⟩ := h
  exact ⟨a, n, s, e, h1.below hb, h2.below hb⟩
abbrev TbxsIn := LsIn 3 TbxQ
theorem TbxsIn.below {w w' : World} {v : Value} {l : List Tbx} (h : TbxsIn w v l) (hb : Below w.heap.size w w') : TbxsIn w' v l := LsIn.below (Q := TbxQ) (fun h hb => TbxQ.below h hb) h hb
theorem TbxQ.tab {w : World} {a n s : Value} {x : Tbx} (h : TbxQ w [a, n, s] x) (hf : x.fit) : n = .bool x.els.neg ∧ TabIs w a x.els.neg s x.t := by
  obtain ⟨a', n', s', e, h1, h2⟩ := h
  injection e with e0 e
  injection e with e1 e
  injection e with e2 _
  subst e0 e1 e2
  obtain ⟨s', e⟩ := h2.two
  injection e with e0 _
  refine ⟨e0, h1.rows hf.2.2, ?_⟩
  rw [← e0]
  exact h2.raw hf.2.1
theorem TbxsIn.tabs {w : World} {v : Value} {l : List Tbx} (h : TbxsIn w v l) (hf : ∀ x ∈ l, x.fit) : TabsIn w v (l.map Tbx.t) := by
  obtain ⟨p, cap, rfl, h1, h2, h3, h4⟩ := h
  refine ⟨p, cap, by rw [List.length_map], by rw [List.length_map]; exact h1, h2, h3, fun hp => ?_⟩
  rw [List.length_map] at hp
  obtain ⟨b, off, h5, h6, h7⟩ := h4 hp
  refine ⟨b, off, h5, h6, fun i hi => ?_⟩
  rw [List.length_map] at hi
  obtain ⟨c, k1, k2⟩ := h7 i hi
  obtain ⟨a, n, s, rfl, -⟩ := id k2
  obtain ⟨rfl, h8⟩ := k2.tab (hf _ (List.getElem_mem hi))
  refine ⟨a, _, s, k1 0 _ rfl, k1 1 _ rfl, k1 2 _ rfl, ?_⟩
  rw [List.getElem_map]
  exact h8
theorem RxQ.small {w : World} {c : List Value} {x : Rx} (h : RxQ w c x) (hf : x.fit) : sz W x.r.2.natAbs ≤ 6 := by
  obtain ⟨a, n, s, rfl, -, h2⟩ := h
  exact h2.small hf.2.1
theorem TbxsIn.small {w : World} {v : Value} {l : List Tbx} (h : TbxsIn w v l) (hf : ∀ x ∈ l, x.fit) : ∀ t ∈ l.map Tbx.t, sz Big.W t.els.natAbs ≤ 6 ∧ ∀ r ∈ t.rows, sz Big.W r.2.natAbs ≤ 6 := by
  intro t ht
  obtain ⟨x, hx, rfl⟩ := List.mem_map.1 ht
  obtain ⟨i, hi, rfl⟩ := List.mem_iff_getElem.1 hx
  obtain ⟨p, cap, -, -, -, -, h4⟩ := h
  obtain ⟨b, off, -, -, h7⟩ := h4 (by omega)
  obtain ⟨c, -, a, n, s, rfl, h1, h2⟩ := h7 i hi
  have hfx := hf _ hx
  refine ⟨h2.small hfx.2.1, fun r hr => ?_⟩
  obtain ⟨y, hy, rfl⟩ := List.mem_map.1 hr
  obtain ⟨j, hj, rfl⟩ := List.mem_iff_getElem.1 hy
  obtain ⟨p, cap, -, -, -, -, h4⟩ := h1
  obtain ⟨b, off, -, -, h7⟩ := h4 (by omega)
  obtain ⟨c, -, k2⟩ := h7 j hj
  exact k2.small (hfx.2.2 _ hy)
end Go.Proofs.YtckkpolikdnilaaGreatDoor
/- What stays when only blocks of some types turn; rows of one's own whose parts are told. -/
namespace Go.Proofs.YtckkpolikdnilaaGreatDoor
open Go.RowKit Big Go.WideMaps

/-- of what was there only blocks of these types may have turned -/
structure OffT (Ts : List TypeId) (w w' : World) : Prop where
  os : w'.os = w.os
  tape : w'.tape = w.tape
  output : w'.output = w.output
  size : w.heap.size ≤ w'.heap.size
  block : ∀ (k : Nat) (c : Array Value) (T : TypeId), w.heap[k]? = some (.cells c T (0, 0)) → T ∉ Ts → w'.heap[k]? = some (.cells c T (0, 0))
theorem OffT.refl (Ts : List TypeId) (w : World) : OffT Ts w w := ⟨rfl, rfl, rfl, Nat.le_refl _, fun _ _ _ h _ => h⟩
theorem OffT.trans {Ts : List TypeId} {a b c : World} (h : OffT Ts a b) (k : OffT Ts b c) : OffT Ts a c :=
  ⟨k.os.trans h.os, k.tape.trans h.tape, k.output.trans h.output, Nat.le_trans h.size k.size, fun i o T hi hn => k.block i o T (h.block i o T hi hn) hn⟩
theorem OffT.mono {Ts Ts' : List TypeId} {a b : World} (h : OffT Ts a b) (hs : ∀ T ∈ Ts, T ∈ Ts') : OffT Ts' a b :=
  ⟨h.os, h.tape, h.output, h.size, fun i o T hi hn => h.block i o T hi (fun hT => hn (hs T hT))⟩
theorem OffT.of_below {Ts : List TypeId} {w w' : World} (h : Below w.heap.size w w') : OffT Ts w w' :=
  ⟨h.os, h.tape, h.output, h.size, fun i _ _ hi _ => (h.block i (Array.getElem?_eq_some_iff.1 hi).1).trans hi⟩
theorem OffT.of_apart {Ts : List TypeId} {S : Nat → Prop} {w w' : World} (h : Apart S w w') (hS : ∀ k, S k → k < w.heap.size → ∃ c, ∃ T ∈ Ts, w.heap[k]? = some (.cells c T (0, 0))) : OffT Ts w w' :=
  ⟨h.os, h.tape, h.output, h.size, fun i o T hi hn => (h.block i (Array.getElem?_eq_some_iff.1 hi).1 (fun hs => by
    obtain ⟨c, T', hT', hc⟩ := hS i hs (Array.getElem?_eq_some_iff.1 hi).1
    rw [hi] at hc
    injection hc with hc
    injection hc with _ hc
    exact hn (hc ▸ hT'))).trans hi⟩
theorem OffT.row {Ts : List TypeId} {w w' : World} (h : OffT Ts w w') {b : Nat} {e : TypeId} {s : Nat} {v : Value} {n : Nat} {xs : List Value} (hr : w.ownsRow b e s v n xs) (he : e ∉ Ts) : w'.ownsRow b e s v n xs :=
  row_stays hr fun k hk => by
    obtain ⟨c, hc⟩ := row_tag hr k hk
    rw [hc]
    exact h.block k c e hc he
theorem OffT.own {Ts : List TypeId} {w w' : World} (h : OffT Ts w w') {B : Nat} {v : Value} {z : Int} (hi : IntOwn w B v z) (he : 94 ∉ Ts) : IntOwn w' B v z := by
  obtain ⟨s, hs, ho⟩ := hi
  exact ⟨s, hs, h.row ho he⟩
/-- a row of one's own whose parts of k cells are told by Q -/
def OwnLs {α : Type} (e : TypeId) (k : Nat) (Q : World → List Value → α → Prop) (B : Nat) (w : World) (v : Value) (l : List α) : Prop :=
  ∃ css : List (List Value), css.length = l.length ∧ w.ownsRow B e k v l.length css.flatten ∧ (∀ c ∈ css, c.length = k) ∧ ∀ i (h : i < l.length) (h' : i < css.length), Q w css[i] l[i]
theorem OwnLs.nil {α : Type} (e : TypeId) (k : Nat) (Q : World → List Value → α → Prop) (B : Nat) (w : World) : OwnLs e k Q B w (.slice none 0 0) ([] : List α) :=
  ⟨[], rfl, World.ownsRow_nil w B e k, nofun, fun i h => absurd h (by simp)⟩
theorem OwnLs.off {α : Type} {e : TypeId} {k : Nat} {Q : World → List Value → α → Prop} {B : Nat} {w w' : World} {v : Value} {l : List α} (h : OwnLs e k Q B w v l) {Ts : List TypeId} (hf : OffT Ts w w') (he : e ∉ Ts) (hQ : ∀ c x, Q w c x → Q w' c x) : OwnLs e k Q B w' v l := by
  obtain ⟨css, h1, h2, h3, h4⟩ := h
  exact ⟨css, h1, hf.row h2 he, h3, fun i hi hi' => hQ _ _ (h4 i hi hi')⟩
/-- what is told of the parts is kept, and the row's block stays -/
theorem OwnLs.kept {α : Type} {e : TypeId} {k : Nat} {Q : World → List Value → α → Prop} {B : Nat} {w w' : World} {v : Value} {l : List α} (h : OwnLs e k Q B w v l) (hb : ∀ g, v.ownBlock = some g → w'.heap[g]? = w.heap[g]?) (hQ : ∀ c x, Q w c x → Q w' c x) : OwnLs e k Q B w' v l := by
  obtain ⟨css, h1, h2, h3, h4⟩ := h
  exact ⟨css, h1, row_stays h2 hb, h3, fun i hi hi' => hQ _ _ (h4 i hi hi')⟩
theorem OwnLs.mono {α : Type} {e : TypeId} {k : Nat} {Q : World → List Value → α → Prop} {B B' : Nat} {w : World} {v : Value} {l : List α} (h : OwnLs e k Q B w v l) (hB : B' ≤ B) : OwnLs e k Q B' w v l := by
  obtain ⟨css, h1, h2, h3, h4⟩ := h
  exact ⟨css, h1, ownsRow_mono h2 hB, h3, h4⟩
theorem OwnLs.row {α : Type} {e : TypeId} {k : Nat} {Q : World → List Value → α → Prop} {B : Nat} {w : World} {v : Value} {l : List α} (h : OwnLs e k Q B w v l) : ∃ xs, w.ownsRow B e k v l.length xs ∧
    ∀ w' v' c x, w'.ownsRow B e k v' (l.length + 1) (xs ++ c) → c.length = k → (∀ c x, Q w c x → Q w' c x) → Q w' c x → OwnLs e k Q B w' v' (l ++ [x]) := by
  obtain ⟨css, h1, h2, h3, h4⟩ := h
  refine ⟨css.flatten, h2, fun w' v' c x hr hc hQ hx => ⟨css ++ [c], by simp [h1], by simpa using hr, fun d hd => ?_, fun i hi hi' => ?_⟩⟩
  · rcases List.mem_append.1 hd with hd | hd
    · exact h3 d hd
    · rw [List.mem_singleton.1 hd]; exact hc
  · by_cases hlt : i < l.length
    · rw [List.getElem_append_left hlt, List.getElem_append_left (by omega)]
      exact hQ _ _ (h4 i hlt (by omega))
    · have e1 : i = l.length := by simp at hi; omega
      subst e1
      rw [List.getElem_append_right (Nat.le_refl _), List.getElem_append_right (by omega)]
      simpa [h1] using hx
theorem OwnLs.shape {α : Type} {e : TypeId} {k : Nat} {Q : World → List Value → α → Prop} {B : Nat} {w : World} {v : Value} {l : List α} (h : OwnLs e k Q B w v l) : ∃ p c, v = .slice p l.length c := by
  obtain ⟨css, h1, h2, h3, h4⟩ := h
  exact ownsRow_shape h2
theorem flatten_at {k : Nat} : ∀ {css : List (List Value)}, (∀ c ∈ css, c.length = k) → ∀ i (h : i < css.length) j u, css[i][j]? = some u → css.flatten[i * k + j]? = some u
  | c :: css, hc, 0, _, j, u, hj => by
    have hj : c[j]? = some u := hj
    have hl := (List.getElem?_eq_some_iff.1 hj).1
    rw [Nat.zero_mul, Nat.zero_add, List.flatten_cons, List.getElem?_append_left hl]
    exact hj
  | c :: css, hc, i + 1, h, j, u, hj => by
    have h1 := flatten_at (css := css) (fun d hd => hc d (by simp [hd])) i (by simpa using h) j u hj
    have h2 := hc c (by simp)
    rw [List.flatten_cons, List.getElem?_append_right (by rw [h2, Nat.succ_mul]; omega), h2]
    rw [show (i + 1) * k + j - k = i * k + j from by rw [Nat.succ_mul]; omega]
    exact h1
/-- it reads so -/
theorem OwnLs.in {α : Type} {e : TypeId} {k : Nat} {Q : World → List Value → α → Prop} {B : Nat} {w : World} {v : Value} {l : List α} (h : OwnLs e k Q B w v l) : LsIn k Q w v l := by
  obtain ⟨css, h1, h2, h3, h4⟩ := h
  rcases id h2.2 with ⟨rfl, h0⟩ | ⟨g, cap, cur, rfl, hb, hh, k1, k2, k3, k4⟩
  · have : l = [] := List.eq_nil_of_length_eq_zero h0
    subst this
    exact ⟨none, 0, rfl, by simp, by simp [maxLen], fun _ => rfl, fun h => absurd h (by simp)⟩
  · refine ⟨_, cap, rfl, k1, k2, by simp, fun _ => ⟨g, 0, rfl, (Array.getElem?_eq_some_iff.1 hh).1, fun i hi => ⟨css[i]'(by omega), fun j u hj => ?_, h4 i hi (by omega)⟩⟩⟩
    have h5 := flatten_at h3 i (by omega) j u hj
    have := h2.cells (g := g) rfl _ _ h5
    rw [Go.WideShapes.add_plain] at this
    rw [← this]
    congr 2
    omega
/-- a number's two cells, its words of one's own -/
def IoQ (B : Nat) (w : World) (c : List Value) (z : Int) : Prop := ∃ s, c = [.bool (decide (z < 0)), s] ∧ IntOwn w B (.agg #[.bool (decide (z < 0)), s]) z
theorem IoQ.off {B : Nat} {w w' : World} {c : List Value} {z : Int} (h : IoQ B w c z) {Ts : List TypeId} (hf : OffT Ts w w') (he : 94 ∉ Ts) : IoQ B w' c z := by
  obtain ⟨s, e, h⟩ := h
  exact ⟨s, e, hf.own h he⟩
theorem IoQ.mono {B B' : Nat} {w : World} {c : List Value} {z : Int} (h : IoQ B w c z) (hB : B' ≤ B) : IoQ B' w c z := by
  obtain ⟨s, e, h⟩ := h
  exact ⟨s, e, h.mono hB⟩
abbrev OwnNums (B : Nat) := OwnLs 44 2 (IoQ B) B
theorem OwnNums.told {B : Nat} {w : World} {v : Value} {l : List Int} (h : OwnNums B w v l) : NumsTold w v l := by
  obtain ⟨p, cap, rfl, h1, h2, h3, h4⟩ := h.in
  refine ⟨p, cap, rfl, h1, h2, h3, fun hp => ?_⟩
  obtain ⟨b, off, h5, h6, h7⟩ := h4 hp
  refine ⟨b, off, h5, h6, fun i hi => ?_⟩
  obtain ⟨c, k1, s, rfl, k2⟩ := h7 i hi
  exact ⟨s, k1 0 _ rfl, k1 1 _ rfl, k2.told⟩
theorem NumsTold.in {w : World} {v : Value} {l : List Int} (h : NumsTold w v l) (hs : ∀ z ∈ l, sz W z.natAbs ≤ 1099511627776) : NumsIn w v l := by
  obtain ⟨p, cap, rfl, h1, h2, h3, h4⟩ := h
  refine ⟨p, cap, rfl, h1, h2, h3, fun hp => ?_⟩
  obtain ⟨b, off, h5, h6, h7⟩ := h4 hp
  refine ⟨b, off, h5, h6, fun i hi => ?_⟩
  obtain ⟨s, k1, k2, k3⟩ := h7 i hi
  exact ⟨_, s, k1, k2, k3.raw (hs _ (List.getElem_mem hi))⟩
theorem OwnNums.off {B : Nat} {w w' : World} {v : Value} {l : List Int} (h : OwnNums B w v l) {Ts : List TypeId} (hf : OffT Ts w w') (he : 44 ∉ Ts) (hu : 94 ∉ Ts) : OwnNums B w' v l :=
  OwnLs.off h hf he (fun _ _ hx => hx.off hf hu)
theorem OwnNums.later {B : Nat} {w w' : World} {v : Value} {l : List Int} (h : OwnNums B w v l) (hb : Below w.heap.size w w') : OwnNums B w' v l :=
  OwnNums.off h (OffT.of_below (Ts := []) hb) (by simp) (by simp)
end Go.Proofs.YtckkpolikdnilaaGreatDoor
/- elenchusref05.Values. -/
namespace Go.Proofs.YtckkpolikdnilaaGreatDoor
open Go.RowKit Big Go.WideMaps

theorem OffT.of_grown {w w' : World} {b : Nat} {e : TypeId} {s : Nat} {v : Value} {n : Nat} {xs : List Value} (hr : w.ownsRow b e s v n xs) (hg : w.grownBy w' v.ownBlock) : OffT [e] w w' :=
  OffT.of_apart (S := fun k => v.ownBlock = some k) ((Apart.refl _ w).grown hg (fun k hk => hk)) (fun k hk _ => by
    obtain ⟨c, hc⟩ := row_tag hr k hk
    exact ⟨c, e, by simp, hc⟩)
def RTold (l : List Int) (w : World) (e : Ending) (w' : World) : Prop := ∃ v, e = .returned v ∧ NumsTold w' v l ∧ Below w.heap.size w w'
end Go.Proofs.YtckkpolikdnilaaGreatDoor
/- elenchusref01.Add: its answer lies in memory of its own (made out of XRefAdd by gen_refown.py). -/
namespace Go.Proofs.YtckkpolikdnilaaGreatDoor
open Go.RowKit Big

/-- a number told in memory of the call's own -/
def RIntO (z : Int) (w : World) (e : Ending) (w' : World) : Prop := ∃ v, e = .returned v ∧ IntOwn w' w.heap.size v z ∧ Below w.heap.size w w'
theorem RIntO.int {z : Int} {w w' : World} {e : Ending} (h : RIntO z w e w') : RInt z w e w' := by
  obtain ⟨v, h1, h2, h3⟩ := h
  exact ⟨v, h1, h2.told, h3⟩
theorem WholeN_own (neg : Bool) (v : Value) (x : Nat) (w : World) (h : At w .u64 v (dig W x)) (k : sz W x ≤ 2199023255552) :
    Calls Tryz.prog 40 #[.bool neg, v] w (RIntO (sg neg x) w) := by
  have := Whole_own neg v _ w h (small_dig W2 _) k
  rwa [val_dig W2] at this
set_option maxRecDepth 100000 in
set_option maxHeartbeats 3200000 in
theorem RAdd_own (v0 v1 : Value) (a b : Int) (w : World) (h0 : RawAt w v0 a) (h1 : RawAt w v1 b) : Calls Tryz.prog 63 #[v0, v1] w (RIntO (a + b) w) := by
  obtain ⟨n0, s0, l0, rfl, a0, b0, c0, rfl⟩ := h0
  obtain ⟨n1, s1, l1, rfl, a1, b1, c1, rfl⟩ := h1
  have g0 : ∀ W', Below w.heap.size w W' → Calls Tryz.prog 61 #[s0] W' (RAt .i64 (dig D (val W l0)) W') := fun W' hb => Digits_any s0 l0 W' (a0.below hb) b0 (by omega)
  have g1 : ∀ W', Below w.heap.size w W' → Calls Tryz.prog 61 #[s1] W' (RAt .i64 (dig D (val W l1)) W') := fun W' hb => Digits_any s1 l1 W' (a1.below hb) b1 (by omega)
  have go : ∀ W', Below w.heap.size w W' → Calls Tryz.prog 91 #[s0, s1] W' (RNum .i64 (ord (val W l0) (val W l1)) W') := fun W' hb => order_any s0 s1 l0 l1 W' (a0.below hb) (a1.below hb) b0 b1 c0 c1
  have m0 : sz W (val W l0) ≤ 1099511627776 := Nat.le_trans (sz_val W2 b0) c0
  have m1 : sz W (val W l1) ≤ 1099511627776 := Nat.le_trans (sz_val W2 b1) c1
  have G0 := hid g0; have G1 := hid g1; have GO := hid go
  obtain ⟨r, hr⟩ : ∃ r, r = sg n0 (val W l0) + sg n1 (val W l1) := ⟨_, rfl⟩
  rw [← hr]
  have Hr := hid hr
  clear hr g0 g1 go a0 a1 b0 b1 c0 c1
  generalize val W l0 = x at *
  generalize val W l1 = y at *
  have k0 : sz D x ≤ 4398046511104 := Nat.le_trans (sz4 x) (by omega)
  have k1 : sz D y ≤ 4398046511104 := Nat.le_trans (sz4 y) (by omega)
  by_cases hn : n0 = n1
  · subst hn
    have Hs : Hid (sg n0 (x + y) = r) := by unfold Hid; rw [sg_add_same, Hr.out]
    have mw : sz W (x + y) ≤ 2199023255552 := Nat.le_trans (sz_add W2 m0 m1) (by omega)
    have ks : sz D (x + y) ≤ 8796093022208 := Nat.le_trans (sz4 _) (by omega)
    go_enter Tryz.func63, Tryz.ntmps63
    go_wp2_with fail
    generalize hW : World.alloc (World.alloc (World.alloc w _) _) _ = W3
    have bw : Below w.heap.size w W3 := by rw [← hW]; exact ((below1 _ _).alloc (by simp) _).alloc (by simp; omega) _
    have hp : Pair W3 (w.heap.size + 1 + 1) 44 := by rw [← hW]; exact Pair.new2 ..
    obtain ⟨c00, c01, c10, c11, -⟩ : Two W3 w.heap.size (.bool n0) s0 (.bool n0) s1 := by rw [← hW]; exact (Two.new w _ _ _ _ _).below (below1 _ _)
    have z3 : w.heap.size + 3 ≤ W3.heap.size := by rw [← hW]; simp
    have bw' := hid bw
    clear hW bw
    go_region_held3 (fun w' => w'.cell? ⟨w.heap.size, 0, none⟩ = some (.bool n0) ∧ w'.cell? ⟨w.heap.size, 1, none⟩ = some s0 ∧ w'.cell? ⟨w.heap.size + 1, 0, none⟩ = some (.bool n0) ∧ w'.cell? ⟨w.heap.size + 1, 1, none⟩ = some s1 ∧ Pair w' (w.heap.size + 1 + 1) 44)
      (first | (go_split_ands; (try dsimp only); (repeat' apply And.intro) <;> first | assumption | exact Pair.drew ‹_› | exact Pair.below ‹_› hb9 | exact Pair.below ‹_› hb8 | exact Pair.below ‹_› hb7 | exact Pair.below ‹_› hb6 | exact Pair.below ‹_› hb5 | exact Pair.below ‹_› hb4 | exact Pair.below ‹_› hb3 | exact Pair.below ‹_› hb2 | exact Pair.below ‹_› hb1 | exact (hb9.cell (by first | omega | (simp; omega) | (simp; done))).trans ‹_› | exact (hb8.cell (by first | omega | (simp; omega) | (simp; done))).trans ‹_› | exact (hb7.cell (by first | omega | (simp; omega) | (simp; done))).trans ‹_› | exact (hb6.cell (by first | omega | (simp; omega) | (simp; done))).trans ‹_› | exact (hb5.cell (by first | omega | (simp; omega) | (simp; done))).trans ‹_› | exact (hb4.cell (by first | omega | (simp; omega) | (simp; done))).trans ‹_› | exact (hb3.cell (by first | omega | (simp; omega) | (simp; done))).trans ‹_› | exact (hb2.cell (by first | omega | (simp; omega) | (simp; done))).trans ‹_› | exact (hb1.cell (by first | omega | (simp; omega) | (simp; done))).trans ‹_› | exact Pair.set1 (Pair.set0 ‹_› _) _ _ _ | exact (cell_stored _ (by first | (dsimp only; omega) | (simp; done) | (simp; omega)) _ _).trans ‹_› | exact Pair.drew (Pair.below ‹_› (below1 _ _)) | exact Pair.below ‹_› (below1 _ _) | exact Pair.far ‹_› (by omega) hb1 | exact Pair.new .. | exact Pair.new1 .. | exact Pair.new2 .. | (go_keep; done)) | (go_keep; done))
      (first
        | (go_at_call_of 61 (s0); refine (G0.out _ bw'.out.drew).mono ?_; rintro e w1 ⟨v1, rfl, d1, hb1⟩; have hz1 : w.heap.size + 3 ≤ w1.heap.size := (by have := hb1.size; simp at this; omega))
        | (go_at_call_of 61 (s1); refine (G1.out _ (bw'.out.drew.trans (hb1.mono (B' := w.heap.size) (by simp; omega)))).mono ?_; rintro e w2 ⟨v2, rfl, d2, hb2⟩; have d1' := d1.below hb2; have hz2 := hb2.size)
        | (go_at_call 90; refine (rplusN_any v1 v2 x y _ d1' d2 k0 k1).mono ?_; rintro e w3 ⟨v3, rfl, d3, hb3⟩; have hz3 := hb3.size)
        | (go_at_call 60; refine (FromN_any v3 _ _ d3 ks).mono ?_; rintro e w4 ⟨v4, rfl, d4, hb4⟩; have hz4 := hb4.size)
        | (go_at_call 40; refine (WholeN_own n0 v4 _ _ d4 mw).mono ?_; rintro e w5 ⟨v5, rfl, hi5, hb5⟩; obtain ⟨p5, n5, c5, rfl, hi5⟩ := hi5.shape; have hpr := Pair.below (by go_split_ands; assumption) hb5; obtain ⟨_, _, q0, q1, q2, q3⟩ := hpr.cells))
    go_wp2
    exact bodyPost_ret (v := .agg #[.bool (decide (sg n0 (x + y) < 0)), .slice p5 n5 c5]) (by simp [results, Tryz.results63, go_sem, q0, q1]) rfl
      ⟨_, rfl, by rw [← Hs.out]; exact IntOwn.mono (IntOwn.stored hi5 (by omega) _ _) (by omega), Below.stored (((((bw'.out.drew.trans (hb1.mono (B' := w.heap.size) (by simp; omega))).trans (hb2.mono (B' := w.heap.size) (by omega))).trans (hb3.mono (B' := w.heap.size) (by omega))).trans (hb4.mono (B' := w.heap.size) (by omega))).trans (hb5.mono (B' := w.heap.size) (by omega))) (by omega) _ _⟩
  · have hb : (n0 == n1) = false := beq_eq_false_iff_ne.2 hn
    go_enter Tryz.func63, Tryz.ntmps63
    go_wp2_with fail
    generalize hW : World.alloc (World.alloc (World.alloc w _) _) _ = W3
    have bw : Below w.heap.size w W3 := by rw [← hW]; exact ((below1 _ _).alloc (by simp) _).alloc (by simp; omega) _
    have hp : Pair W3 (w.heap.size + 1 + 1) 44 := by rw [← hW]; exact Pair.new2 ..
    obtain ⟨c00, c01, c10, c11, -⟩ : Two W3 w.heap.size (.bool n0) s0 (.bool n1) s1 := by rw [← hW]; exact (Two.new w _ _ _ _ _).below (below1 _ _)
    have z3 : w.heap.size + 3 ≤ W3.heap.size := by rw [← hW]; simp
    have bw' := hid bw
    clear hW bw
    by_cases hxy : x < y
    · have Hs : Hid (sg n1 (y - x) = r) := by unfold Hid; rw [sg_add_lt hn hxy, Hr.out]
      have mw : sz W (y - x) ≤ 2199023255552 := Nat.le_trans (sz_mono W2 (by omega)) (Nat.le_trans m1 (by omega))
      have ks : sz D (y - x) ≤ 8796093022208 := Nat.le_trans (sz4 _) (by omega)
      have hc := GO.out W3 bw'.out
      rw [ord_lt (by omega)] at hc
      have Hc := hid hc
      clear hc
      refine Hc.out.mono ?_
      rintro e W4 ⟨rfl, hb0⟩
      have hz0 := hb0.size
      have e00 := (hb0.cell (p := ⟨w.heap.size, 0, none⟩) (by show w.heap.size < _; omega)).trans c00
      have e01 := (hb0.cell (p := ⟨w.heap.size, 1, none⟩) (by show w.heap.size < _; omega)).trans c01
      have e10 := (hb0.cell (p := ⟨w.heap.size + 1, 0, none⟩) (by show w.heap.size + 1 < _; omega)).trans c10
      have e11 := (hb0.cell (p := ⟨w.heap.size + 1, 1, none⟩) (by show w.heap.size + 1 < _; omega)).trans c11
      have hp4 := hp.below hb0
      have bw4 := hid (bw'.out.trans (hb0.mono (B' := w.heap.size) (by omega)))
      clear c00 c01 c10 c11 hp hb0
      go_wp2_with fail
      go_region_held3 (fun w' => w'.cell? ⟨w.heap.size, 0, none⟩ = some (.bool n0) ∧ w'.cell? ⟨w.heap.size, 1, none⟩ = some s0 ∧ w'.cell? ⟨w.heap.size + 1, 0, none⟩ = some (.bool n1) ∧ w'.cell? ⟨w.heap.size + 1, 1, none⟩ = some s1 ∧ Pair w' (w.heap.size + 1 + 1) 44)
        (first | (go_split_ands; (try dsimp only); (repeat' apply And.intro) <;> first | assumption | exact Pair.drew ‹_› | exact Pair.below ‹_› hb9 | exact Pair.below ‹_› hb8 | exact Pair.below ‹_› hb7 | exact Pair.below ‹_› hb6 | exact Pair.below ‹_› hb5 | exact Pair.below ‹_› hb4 | exact Pair.below ‹_› hb3 | exact Pair.below ‹_› hb2 | exact Pair.below ‹_› hb1 | exact (hb9.cell (by first | omega | (simp; omega) | (simp; done))).trans ‹_› | exact (hb8.cell (by first | omega | (simp; omega) | (simp; done))).trans ‹_› | exact (hb7.cell (by first | omega | (simp; omega) | (simp; done))).trans ‹_› | exact (hb6.cell (by first | omega | (simp; omega) | (simp; done))).trans ‹_› | exact (hb5.cell (by first | omega | (simp; omega) | (simp; done))).trans ‹_› | exact (hb4.cell (by first | omega | (simp; omega) | (simp; done))).trans ‹_› | exact (hb3.cell (by first | omega | (simp; omega) | (simp; done))).trans ‹_› | exact (hb2.cell (by first | omega | (simp; omega) | (simp; done))).trans ‹_› | exact (hb1.cell (by first | omega | (simp; omega) | (simp; done))).trans ‹_› | exact Pair.set1 (Pair.set0 ‹_› _) _ _ _ | exact (cell_stored _ (by first | (dsimp only; omega) | (simp; done) | (simp; omega)) _ _).trans ‹_› | exact Pair.drew (Pair.below ‹_› (below1 _ _)) | exact Pair.below ‹_› (below1 _ _) | exact Pair.far ‹_› (by omega) hb1 | exact Pair.new .. | exact Pair.new1 .. | exact Pair.new2 .. | (go_keep; done)) | (go_keep; done))
        (first
          | (go_at_call_of 61 (s1); refine (G1.out _ bw4.out.drew).mono ?_; rintro e w1 ⟨v1, rfl, d1, hb1⟩; have hz1 : w.heap.size + 3 ≤ w1.heap.size := (by have := hb1.size; simp at this; omega))
          | (go_at_call_of 61 (s0); refine (G0.out _ (bw4.out.drew.trans (hb1.mono (B' := w.heap.size) (by simp; omega)))).mono ?_; rintro e w2 ⟨v2, rfl, d2, hb2⟩; have d1' := d1.below hb2; have hz2 := hb2.size)
          | (go_at_call 92; refine (rlessN_any v1 v2 y x _ d1' d2 k1 (by omega)).mono ?_; rintro e w3 ⟨v3, rfl, d3, hb3⟩; have hz3 := hb3.size)
          | (go_at_call 60; refine (FromN_any v3 _ _ d3 ks).mono ?_; rintro e w4 ⟨v4, rfl, d4, hb4⟩; have hz4 := hb4.size)
          | (go_at_call 40; refine (WholeN_own n1 v4 _ _ d4 mw).mono ?_; rintro e w5 ⟨v5, rfl, hi5, hb5⟩; obtain ⟨p5, n5, c5, rfl, hi5⟩ := hi5.shape; have hpr := Pair.below (by go_split_ands; assumption) hb5; obtain ⟨_, _, q0, q1, q2, q3⟩ := hpr.cells))
      go_wp2
      exact bodyPost_ret (v := .agg #[.bool (decide (sg n1 (y - x) < 0)), .slice p5 n5 c5]) (by simp [results, Tryz.results63, go_sem, q0, q1]) rfl
        ⟨_, rfl, by rw [← Hs.out]; exact IntOwn.mono (IntOwn.stored hi5 (by omega) _ _) (by omega), Below.stored (((((bw4.out.drew.trans (hb1.mono (B' := w.heap.size) (by simp; omega))).trans (hb2.mono (B' := w.heap.size) (by omega))).trans (hb3.mono (B' := w.heap.size) (by omega))).trans (hb4.mono (B' := w.heap.size) (by omega))).trans (hb5.mono (B' := w.heap.size) (by omega))) (by omega) _ _⟩
    · have Hs : Hid (sg n0 (x - y) = r) := by unfold Hid; rw [sg_add_ge hn hxy, Hr.out]
      have mw : sz W (x - y) ≤ 2199023255552 := Nat.le_trans (sz_mono W2 (by omega)) (Nat.le_trans m0 (by omega))
      have ks : sz D (x - y) ≤ 8796093022208 := Nat.le_trans (sz4 _) (by omega)
      have hc := GO.out W3 bw'.out
      obtain ⟨o, ho, hneg⟩ : ∃ o, o = ord (x : Int) y ∧ 0 ≤ o := ⟨_, rfl, by unfold ord; (repeat' split) <;> omega⟩
      rw [← ho] at hc
      have Hc := hid hc
      clear hc ho
      refine Hc.out.mono ?_
      rintro e W4 ⟨rfl, hb0⟩
      have hz0 := hb0.size
      have e00 := (hb0.cell (p := ⟨w.heap.size, 0, none⟩) (by show w.heap.size < _; omega)).trans c00
      have e01 := (hb0.cell (p := ⟨w.heap.size, 1, none⟩) (by show w.heap.size < _; omega)).trans c01
      have e10 := (hb0.cell (p := ⟨w.heap.size + 1, 0, none⟩) (by show w.heap.size + 1 < _; omega)).trans c10
      have e11 := (hb0.cell (p := ⟨w.heap.size + 1, 1, none⟩) (by show w.heap.size + 1 < _; omega)).trans c11
      have hp4 := hp.below hb0
      have bw4 := hid (bw'.out.trans (hb0.mono (B' := w.heap.size) (by omega)))
      clear c00 c01 c10 c11 hp hb0
      go_wp2_with fail
      go_region_held3 (fun w' => w'.cell? ⟨w.heap.size, 0, none⟩ = some (.bool n0) ∧ w'.cell? ⟨w.heap.size, 1, none⟩ = some s0 ∧ w'.cell? ⟨w.heap.size + 1, 0, none⟩ = some (.bool n1) ∧ w'.cell? ⟨w.heap.size + 1, 1, none⟩ = some s1 ∧ Pair w' (w.heap.size + 1 + 1) 44)
        (first | (go_split_ands; (try dsimp only); (repeat' apply And.intro) <;> first | assumption | exact Pair.drew ‹_› | exact Pair.below ‹_› hb9 | exact Pair.below ‹_› hb8 | exact Pair.below ‹_› hb7 | exact Pair.below ‹_› hb6 | exact Pair.below ‹_› hb5 | exact Pair.below ‹_› hb4 | exact Pair.below ‹_› hb3 | exact Pair.below ‹_› hb2 | exact Pair.below ‹_› hb1 | exact (hb9.cell (by first | omega | (simp; omega) | (simp; done))).trans ‹_› | exact (hb8.cell (by first | omega | (simp; omega) | (simp; done))).trans ‹_› | exact (hb7.cell (by first | omega | (simp; omega) | (simp; done))).trans ‹_› | exact (hb6.cell (by first | omega | (simp; omega) | (simp; done))).trans ‹_› | exact (hb5.cell (by first | omega | (simp; omega) | (simp; done))).trans ‹_› | exact (hb4.cell (by first | omega | (simp; omega) | (simp; done))).trans ‹_› | exact (hb3.cell (by first | omega | (simp; omega) | (simp; done))).trans ‹_› | exact (hb2.cell (by first | omega | (simp; omega) | (simp; done))).trans ‹_› | exact (hb1.cell (by first | omega | (simp; omega) | (simp; done))).trans ‹_› | exact Pair.set1 (Pair.set0 ‹_› _) _ _ _ | exact (cell_stored _ (by first | (dsimp only; omega) | (simp; done) | (simp; omega)) _ _).trans ‹_› | exact Pair.drew (Pair.below ‹_› (below1 _ _)) | exact Pair.below ‹_› (below1 _ _) | exact Pair.far ‹_› (by omega) hb1 | exact Pair.new .. | exact Pair.new1 .. | exact Pair.new2 .. | (go_keep; done)) | (go_keep; done))
        (first
          | (go_at_call_of 61 (s0); refine (G0.out _ bw4.out.drew).mono ?_; rintro e w1 ⟨v1, rfl, d1, hb1⟩; have hz1 : w.heap.size + 3 ≤ w1.heap.size := (by have := hb1.size; simp at this; omega))
          | (go_at_call_of 61 (s1); refine (G1.out _ (bw4.out.drew.trans (hb1.mono (B' := w.heap.size) (by simp; omega)))).mono ?_; rintro e w2 ⟨v2, rfl, d2, hb2⟩; have d1' := d1.below hb2; have hz2 := hb2.size)
          | (go_at_call 92; refine (rlessN_any v1 v2 x y _ d1' d2 k0 (by omega)).mono ?_; rintro e w3 ⟨v3, rfl, d3, hb3⟩; have hz3 := hb3.size)
          | (go_at_call 60; refine (FromN_any v3 _ _ d3 ks).mono ?_; rintro e w4 ⟨v4, rfl, d4, hb4⟩; have hz4 := hb4.size)
          | (go_at_call 40; refine (WholeN_own n0 v4 _ _ d4 mw).mono ?_; rintro e w5 ⟨v5, rfl, hi5, hb5⟩; obtain ⟨p5, n5, c5, rfl, hi5⟩ := hi5.shape; have hpr := Pair.below (by go_split_ands; assumption) hb5; obtain ⟨_, _, q0, q1, q2, q3⟩ := hpr.cells))
      go_wp2
      exact bodyPost_ret (v := .agg #[.bool (decide (sg n0 (x - y) < 0)), .slice p5 n5 c5]) (by simp [results, Tryz.results63, go_sem, q0, q1]) rfl
        ⟨_, rfl, by rw [← Hs.out]; exact IntOwn.mono (IntOwn.stored hi5 (by omega) _ _) (by omega), Below.stored (((((bw4.out.drew.trans (hb1.mono (B' := w.heap.size) (by simp; omega))).trans (hb2.mono (B' := w.heap.size) (by omega))).trans (hb3.mono (B' := w.heap.size) (by omega))).trans (hb4.mono (B' := w.heap.size) (by omega))).trans (hb5.mono (B' := w.heap.size) (by omega))) (by omega) _ _⟩
end Go.Proofs.YtckkpolikdnilaaGreatDoor
/- elenchusref01.Sub: its answer lies in memory of its own (made out of XRefSub by gen_refown.py). -/
namespace Go.Proofs.YtckkpolikdnilaaGreatDoor
open Go.RowKit Big

set_option maxHeartbeats 1600000 in
set_option maxRecDepth 100000 in
theorem RSub_own (v0 v1 : Value) (a b : Int) (w : World) (h0 : RawAt w v0 a) (h1 : RawAt w v1 b) : Calls Tryz.prog 44 #[v0, v1] w (RIntO (a - b) w) := by
  have g1 : ∀ W', Below w.heap.size w W' → Calls Tryz.prog 64 #[v1] W' (RInt (-b) W') := fun W' hb => RNeg_any v1 b W' (h1.below hb)
  have g2 : ∀ W' v, Below w.heap.size w W' → IntAt W' v (-b) → Calls Tryz.prog 63 #[v0, v] W' (RIntO (a - b) W') := fun W' v hb hv => by
    have := RAdd_own v0 v a (-b) W' (h0.below hb) (hv.raw (by rw [Int.natAbs_neg]; exact h1.sz))
    rwa [show a + -b = a - b by omega] at this
  have G1 := hid g1; have G2 := hid g2
  obtain ⟨n0, s0, l0, rfl, a0, -⟩ := id h0
  obtain ⟨n1, s1, l1, rfl, a1, -⟩ := id h1
  obtain ⟨p0, c0, rfl, -⟩ := a0
  obtain ⟨p1, c1, rfl, -⟩ := a1
  generalize a - b = r at *
  clear g1 g2 h0 h1
  generalize -b = nb at *
  go_enter Tryz.func44, Tryz.ntmps44
  go_wp2_with fail
  generalize hW : World.alloc (World.alloc (World.alloc w _) _) _ = W3
  have bw : Below w.heap.size w W3 := by rw [← hW]; exact ((below1 _ _).alloc (by simp) _).alloc (by simp; omega) _
  have hp : Pair W3 (w.heap.size + 1 + 1) 44 := by rw [← hW]; exact Pair.new2 ..
  obtain ⟨c00, c01, c10, c11, -⟩ : Two W3 w.heap.size (.bool n0) (.slice p0 l0.length c0) (.bool n1) (.slice p1 l1.length c1) := by rw [← hW]; exact (Two.new w _ _ _ _ _).below (below1 _ _)
  have z3 : w.heap.size + 3 ≤ W3.heap.size := by rw [← hW]; simp
  have bw' := hid bw
  clear hW bw
  go_region_held3 (fun w' => w'.cell? ⟨w.heap.size, 0, none⟩ = some (.bool n0) ∧ w'.cell? ⟨w.heap.size, 1, none⟩ = some (.slice p0 l0.length c0) ∧ w'.cell? ⟨w.heap.size + 1, 0, none⟩ = some (.bool n1) ∧ w'.cell? ⟨w.heap.size + 1, 1, none⟩ = some (.slice p1 l1.length c1) ∧ Pair w' (w.heap.size + 1 + 1) 44)
    (first | (go_split_ands; (try dsimp only); (repeat' apply And.intro) <;> first | assumption | exact Pair.drew ‹_› | exact Pair.below ‹_› hb9 | exact Pair.below ‹_› hb8 | exact Pair.below ‹_› hb7 | exact Pair.below ‹_› hb6 | exact Pair.below ‹_› hb5 | exact Pair.below ‹_› hb4 | exact Pair.below ‹_› hb3 | exact Pair.below ‹_› hb2 | exact Pair.below ‹_› hb1 | exact (hb9.cell (by first | omega | (simp; omega) | (simp; done))).trans ‹_› | exact (hb8.cell (by first | omega | (simp; omega) | (simp; done))).trans ‹_› | exact (hb7.cell (by first | omega | (simp; omega) | (simp; done))).trans ‹_› | exact (hb6.cell (by first | omega | (simp; omega) | (simp; done))).trans ‹_› | exact (hb5.cell (by first | omega | (simp; omega) | (simp; done))).trans ‹_› | exact (hb4.cell (by first | omega | (simp; omega) | (simp; done))).trans ‹_› | exact (hb3.cell (by first | omega | (simp; omega) | (simp; done))).trans ‹_› | exact (hb2.cell (by first | omega | (simp; omega) | (simp; done))).trans ‹_› | exact (hb1.cell (by first | omega | (simp; omega) | (simp; done))).trans ‹_› | exact Pair.set1 (Pair.set0 ‹_› _) _ _ _ | exact (cell_stored _ (by first | (dsimp only; omega) | (simp; done) | (simp; omega)) _ _).trans ‹_› | exact Pair.drew (Pair.below ‹_› (below1 _ _)) | exact Pair.below ‹_› (below1 _ _) | exact Pair.far ‹_› (by omega) hb1 | exact Pair.new .. | exact Pair.new1 .. | exact Pair.new2 .. | (go_keep; done)) | (go_keep; done))
    (first
      | (go_at_call 64; refine (G1.out _ bw'.out.drew).mono ?_; rintro e w1 ⟨v1, rfl, hi1, hb1⟩; have hz1 : w.heap.size + 3 ≤ w1.heap.size := (by have := hb1.size; simp at this; omega); obtain ⟨p3, n3, c3, rfl, hi1⟩ := hi1.shape)
      | (go_at_call 63; refine (G2.out _ _ (bw'.out.drew.trans (hb1.mono (B' := w.heap.size) (by simp; omega))) hi1).mono ?_; rintro e w2 ⟨v2, rfl, hi2, hb2⟩; obtain ⟨p2, n2, c2, rfl, hi2⟩ := hi2.shape; have hpr := Pair.below (by go_split_ands; assumption) hb2; obtain ⟨_, _, q0, q1, q2, q3⟩ := hpr.cells))
  go_wp2
  exact bodyPost_ret (v := .agg #[.bool (decide (r < 0)), .slice p2 n2 c2]) (by simp [results, Tryz.results44, go_sem, q0, q1]) rfl
    ⟨_, rfl, IntOwn.mono (IntOwn.stored hi2 (by omega) _ _) (by omega), Below.stored ((bw'.out.drew.trans (hb1.mono (B' := w.heap.size) (by simp; omega))).trans (hb2.mono (B' := w.heap.size) (by omega))) (by omega) _ _⟩
end Go.Proofs.YtckkpolikdnilaaGreatDoor
/- elenchusref01.Of: its answer lies in memory of its own (made out of XRefOf by gen_refown.py). -/
namespace Go.Proofs.YtckkpolikdnilaaGreatDoor
open Go.RowKit Big

set_option maxHeartbeats 1600000 in
theorem ROf_own (z : Int) (w : World) (h0 : -9223372036854775808 ≤ z) (h1 : z ≤ 9223372036854775807) : Calls Tryz.prog 22 #[.int .i64 z] w (RIntO z w) := by
  by_cases hz : z < 0
  · obtain ⟨n, hn⟩ : ∃ n : Nat, z = -(n : Int) - 1 := ⟨(-z - 1).toNat, by omega⟩
    have hnW : n < W := by unfold W; omega
    have hn' : n ≤ 9223372036854775807 := by omega
    subst hn
    clear h0 h1
    have hsz : sz W (sg true n).natAbs ≤ 1099511627776 := by rw [sg_natAbs]; exact Nat.le_trans (sz_word hnW) (by omega)
    have hsz1 : sz W (sg false 1).natAbs ≤ 1099511627776 := by rw [sg_natAbs]; exact Nat.le_trans (sz_word (by decide)) (by omega)
    have g1 : ∀ o o', Calls Tryz.prog 40 #[.bool true, .slice (some ⟨w.heap.size + 1, 0, none⟩) 1 1] ((w.alloc o).alloc (.cells #[.int .u64 (n : Nat)] o')) (RInt (sg true n) ((w.alloc o).alloc (.cells #[.int .u64 (n : Nat)] o'))) := fun o o' => by
      have := Whole_any true _ [n] _ (At.one1 w o .u64 n o') (small_one hnW) (by simp)
      rwa [show val W [n] = n by simp [val]] at this
    have g2 : ∀ W' o', Calls Tryz.prog 40 #[.bool false, .slice (some ⟨World.heap W' |>.size, 0, none⟩) 1 1] (W'.alloc (.cells #[.int .u64 1] o')) (RInt (sg false 1) (W'.alloc (.cells #[.int .u64 1] o'))) := fun W' o' => by
      have := Whole_any false _ [1] _ (At.oneI W' .u64 1 1 o' rfl) (small_one (by decide)) (by simp)
      rwa [show val W [1] = 1 by simp [val]] at this
    have g3 : ∀ W' v v', IntAt W' v (sg true n) → IntAt W' v' (sg false 1) → Calls Tryz.prog 44 #[v, v'] W' (RIntO (-(n : Int) - 1) W') := fun W' v v' h h' => by
      have := RSub_own v v' _ _ W' (h.raw hsz) (h'.raw hsz1)
      rwa [show sg true n - sg false 1 = -(n : Int) - 1 by simp [sg]] at this
    have G1 := hid g1; have G2 := hid g2; have G3 := hid g3
    clear g1 g2 g3 hsz hsz1
    obtain ⟨r, hr⟩ : ∃ r, r = -(n : Int) - 1 := ⟨_, rfl⟩
    have G3' : Hid (∀ W' v v', IntAt W' v (sg true n) → IntAt W' v' (sg false 1) → Calls Tryz.prog 44 #[v, v'] W' (RIntO r W')) := by rw [hr]; exact G3
    have G4 : Hid (∀ e w', RIntO r w e w' → RIntO (-(n : Int) - 1) w e w') := by rw [hr]; exact fun _ _ h => h
    refine Calls.mono ?_ G4.out
    clear hr G3
    generalize sg true n = a at *
    generalize sg false 1 = b at *
    go_enter Tryz.func22, Tryz.ntmps22
    go_wp2_with fail
    refine (G1.out _ _).mono ?_
    rintro e w1 ⟨v1, rfl, hi1, hb1⟩
    go_wp2_with fail
    refine (G2.out _ _).mono ?_
    rintro e w2 ⟨v2, rfl, hi2, hb2⟩
    have hi1' := hi1.below ((below1 _ _).trans (hb2.mono (B' := w1.heap.size) (by simp)))
    go_wp2_with fail
    refine (G3'.out _ _ _ hi1' hi2).mono ?_
    rintro e w3 ⟨v3, rfl, hi3, hb3⟩
    obtain ⟨p3, n3, c3, rfl, hi3⟩ := hi3.shape
    have z1 : w.heap.size + 2 ≤ w1.heap.size := by have := hb1.size; simp at this; omega
    have z2 : w.heap.size + 3 ≤ w2.heap.size := by have := hb2.size; simp at this; omega
    have b12 : Below w1.heap.size w1 w2 := (below1 _ _).trans (hb2.mono (B' := w1.heap.size) (by simp))
    have hpr : Pair w3 w.heap.size 44 := Pair.below (Pair.below (Pair.below (Pair.below (Pair.new ..) (below1 _ _)) hb1) b12) hb3
    obtain ⟨_, _, q0, q1, q2, q3⟩ := hpr.cells
    have bw : Below w.heap.size w w3 := ((((below1 _ _).alloc (by simp) _).trans (hb1.mono (B' := w.heap.size) (by simp; omega))).trans (b12.mono (B' := w.heap.size) (by omega))).trans (hb3.mono (B' := w.heap.size) (by omega))
    have Hi := hid hi3
    clear hb1 hb2 hb3 b12 hi1 hi1' hi2 hi3
    go_wp2
    exact bodyPost_ret (v := .agg #[.bool (decide (r < 0)), .slice p3 n3 c3]) (by simp [results, Tryz.results22, go_sem, q0, q1]) rfl
      ⟨_, rfl, IntOwn.mono (IntOwn.stored Hi.out (by first | omega | (simp; done) | (simp; omega)) _ _) (by first | omega | (simp; done) | (simp; omega)), Below.stored bw (by omega) _ _⟩
  · obtain ⟨n, hn⟩ : ∃ n : Nat, z = (n : Int) := ⟨z.natAbs, by omega⟩
    subst hn
    have hnW : n < W := by unfold W; omega
    have g1 : ∀ o o', Calls Tryz.prog 40 #[.bool false, .slice (some ⟨w.heap.size + 1, 0, none⟩) 1 1] ((w.alloc o).alloc (.cells #[.int .u64 (n : Nat)] o')) (RIntO (n : Int) ((w.alloc o).alloc (.cells #[.int .u64 (n : Nat)] o'))) := fun o o' => by
      have := Whole_own false _ [n] _ (At.one1 w o .u64 n o') (small_one hnW) (by simp)
      rwa [show sg false (val W [n]) = (n : Int) by simp [val, sg]] at this
    have G1 := hid g1
    clear g1
    go_enter Tryz.func22, Tryz.ntmps22
    go_wp2_with fail
    refine (G1.out _ _).mono ?_
    rintro e w1 ⟨v1, rfl, hi1, hb1⟩
    obtain ⟨p3, n3, c3, rfl, hi1⟩ := hi1.shape
    have z1 : w.heap.size + 2 ≤ w1.heap.size := by have := hb1.size; simp at this; omega
    have hpr : Pair w1 w.heap.size 44 := Pair.below (Pair.below (Pair.new ..) (below1 _ _)) hb1
    obtain ⟨_, _, q0, q1, q2, q3⟩ := hpr.cells
    have bw : Below w.heap.size w w1 := ((below1 _ _).alloc (by simp) _).trans (hb1.mono (B' := w.heap.size) (by simp; omega))
    have Hi := hid hi1
    clear hb1 hi1
    go_wp2
    exact bodyPost_ret (v := .agg #[.bool (decide ((n : Int) < 0)), .slice p3 n3 c3]) (by simp [results, Tryz.results22, go_sem, q0, q1]) rfl
      ⟨_, rfl, IntOwn.mono (IntOwn.stored Hi.out (by first | omega | (simp; done) | (simp; omega)) _ _) (by first | omega | (simp; done) | (simp; omega)), Below.stored bw (by omega) _ _⟩
end Go.Proofs.YtckkpolikdnilaaGreatDoor
/- Rows that grow by terms that may be: each is at its own place, has the sort that is meant (made by gen_mkmath.py). -/
namespace Go.Proofs.YtckkpolikdnilaaGreatDoor
open Go.RowKit Big Go.WideMaps

/-- a pool whose terms, made one behind the other, come to their own places -/
def MkSelf (p : Po) : Prop := p.sorts.length = p.terms.length ∧ ∀ k (h : k < p.terms.length), plMake ⟨p.syms, p.terms.take k, p.sorts.take k⟩ p.terms[k] = (⟨p.syms, p.terms.take (k + 1), p.sorts.take (k + 1)⟩, ((k : Nat) : Int), 0)
theorem MkSelf.make {p : Po} (t : Tm) (h : MkSelf p) : MkSelf (plMake p t).1 ∧ (plMake p t).1.syms = p.syms ∧ ∀ x ∈ (plMake p t).1.terms, x ∈ p.terms ∨ x = t := by
  by_cases hw : plWrong p t = 0
  · cases hf : plFind p.terms t with
    | some k => rw [plMake_there hw hf]; exact ⟨h, rfl, fun x hx => .inl hx⟩
    | none =>
      by_cases h4 : p.terms.length = 4096
      · rw [plMake_full hw hf h4]; exact ⟨h, rfl, fun x hx => .inl hx⟩
      · have hm := plMake_new hw hf h4
        rw [hm]
        obtain ⟨h1, h2⟩ := h
        refine ⟨⟨by simp [h1], fun k hk => ?_⟩, rfl, fun x hx => by simpa using hx⟩
        have hk' : k < p.terms.length + 1 := by simpa using hk
        by_cases hlt : k < p.terms.length
        · show plMake ⟨p.syms, (p.terms ++ [t]).take k, (p.sorts ++ [plSort p t]).take k⟩ (p.terms ++ [t])[k] = (⟨p.syms, (p.terms ++ [t]).take (k + 1), (p.sorts ++ [plSort p t]).take (k + 1)⟩, ((k : Nat) : Int), 0)
          rw [List.take_append_of_le_length (by omega), List.take_append_of_le_length (by omega), List.take_append_of_le_length (by omega), List.take_append_of_le_length (by omega), List.getElem_append_left hlt]
          exact h2 k hlt
        · have e : k = p.terms.length := by omega
          subst e
          have e1 : (p.terms ++ [t]).take p.terms.length = p.terms := by simp
          have e2 : (p.sorts ++ [plSort p t]).take p.terms.length = p.sorts := by rw [← h1]; simp
          have e3 : (p.terms ++ [t]).take (p.terms.length + 1) = p.terms ++ [t] := List.take_of_length_le (by simp)
          have e4 : (p.sorts ++ [plSort p t]).take (p.terms.length + 1) = p.sorts ++ [plSort p t] := List.take_of_length_le (by simp [h1])
          have e5 : (p.terms ++ [t])[p.terms.length]'(by simp) = t := by simp
          show plMake ⟨p.syms, (p.terms ++ [t]).take p.terms.length, (p.sorts ++ [plSort p t]).take p.terms.length⟩ ((p.terms ++ [t])[p.terms.length]'(by simp)) = (⟨p.syms, (p.terms ++ [t]).take (p.terms.length + 1), (p.sorts ++ [plSort p t]).take (p.terms.length + 1)⟩, ((p.terms.length : Nat) : Int), 0)
          rw [e1, e2, e3, e4, e5]
          exact hm
  · rw [plMake_bad hw]; exact ⟨h, rfl, fun x hx => .inl hx⟩
theorem MkSelf.news {p : Po} (h : MkSelf p) : ∀ (n k : Nat), k + n = p.terms.length → (plNews ⟨p.syms, p.terms.take k, p.sorts.take k⟩ (p.terms.drop k)).2 = 0
  | 0, k, e => by rw [List.drop_of_length_le (by omega)]; rfl
  | n + 1, k, e => by
    have hk : k < p.terms.length := by omega
    rw [List.drop_eq_getElem_cons hk]
    have hnew : plNew ⟨p.syms, p.terms.take k, p.sorts.take k⟩ p.terms[k] = (⟨p.syms, p.terms.take (k + 1), p.sorts.take (k + 1)⟩, ((k : Nat) : Int), 0) := by
      unfold plNew
      rw [h.2 k hk, if_neg]
      intro h3
      have h4 := h3.2
      simp only [List.length_take] at h4
      omega
    unfold plNews
    rw [hnew, if_neg (by simp)]
    exact MkSelf.news h n (k + 1) (by omega)
theorem MkSelf.check {p : Po} (h : MkSelf p) (hs : plNewErr p.syms = 0) : plCheck p.syms p.terms = 0 := by
  unfold plCheck
  rw [if_neg (by simp [hs])]
  have := h.news p.terms.length 0 (by omega)
  rwa [List.drop_zero, List.take_zero, List.take_zero] at this
/-- a term of a sort -/
def IsTm (p : Po) (k : Nat) (s : Int) : Prop := k < p.terms.length ∧ plSortAt p (k : Nat) = s
/-- rows that are those and more -/
def MkExt (p p' : Po) : Prop := p'.syms = p.syms ∧ p.terms.length ≤ p'.terms.length ∧ ∀ i, i < p.terms.length → p'.terms[i]? = p.terms[i]? ∧ plSortAt p' (i : Nat) = plSortAt p (i : Nat)
theorem MkExt.refl (p : Po) : MkExt p p := ⟨rfl, Nat.le_refl _, fun _ _ => ⟨rfl, rfl⟩⟩
theorem MkExt.trans {a b c : Po} (h : MkExt a b) (k : MkExt b c) : MkExt a c := ⟨k.1.trans h.1, Nat.le_trans h.2.1 k.2.1, fun i hi => ⟨((k.2.2 i (Nat.lt_of_lt_of_le hi h.2.1)).1).trans (h.2.2 i hi).1, ((k.2.2 i (Nat.lt_of_lt_of_le hi h.2.1)).2).trans (h.2.2 i hi).2⟩⟩
theorem IsTm.ext {p p' : Po} {k : Nat} {s : Int} (h : IsTm p k s) (e : MkExt p p') : IsTm p' k s := ⟨Nat.lt_of_lt_of_le h.1 e.2.1, (e.2.2 k h.1).2.trans h.2⟩
/-- what elenchusmake's rows keep -/
structure MkP (p : Po) : Prop where
  good : PoGood p
  self : MkSelf p
  small : ∀ t ∈ p.terms, t.args.length ≤ 8 ∧ sz W t.num.natAbs ≤ 8
theorem MkP.make {p : Po} {t : Tm} (h : MkP p) (hw : plWrong p t = 0) (hl : p.terms.length < 4096) (hs : t.args.length ≤ 8 ∧ sz W t.num.natAbs ≤ 8) :
    ∃ p' k, plMake p t = (p', ((k : Nat) : Int), 0) ∧ MkP p' ∧ MkExt p p' ∧ IsTm p' k (plSort p t) ∧ p'.terms[k]? = some t ∧ p'.terms.length ≤ p.terms.length + 1 := by
  have hself := h.self.make t
  have hsml : ∀ x ∈ (plMake p t).1.terms, x.args.length ≤ 8 ∧ sz W x.num.natAbs ≤ 8 := fun x hx => by
    rcases hself.2.2 x hx with h1 | rfl
    · exact h.small x h1
    · exact hs
  cases hf : plFind p.terms t with
  | some k =>
    have hm := plMake_there hw hf
    obtain ⟨h1, h2⟩ := plFind_some hf
    refine ⟨p, k, hm, h, MkExt.refl p, ⟨h1, ?_⟩, by rw [List.getElem?_eq_getElem h1, h2], Nat.le_succ _⟩
    rw [(h.good.2.2.2 k h1).2.2.2.2, h2]
  | none =>
    have hm := plMake_new hw hf (by omega)
    rw [hm] at hself hsml
    have hlen := h.good.1
    refine ⟨_, p.terms.length, hm, ⟨h.good.make hw hl, hself.1, hsml⟩, ⟨rfl, by simp, fun i hi => ⟨?_, ?_⟩⟩, ⟨by simp, ?_⟩, by simp, by simp⟩
    · show (p.terms ++ [t])[i]? = _
      rw [List.getElem?_append_left hi]
    · unfold plSortAt
      simp only [Int.toNat_natCast]
      rw [List.getElem?_append_left (by omega)]
    · unfold plSortAt
      simp only [Int.toNat_natCast]
      rw [List.getElem?_append_right (by omega), hlen]
      simp
/-- a term that may be -/
theorem mk_right {p : Po} {t : Tm} (h1 : plBadForm t = false) (h2 : plNoSym p t = false) (h3 : plBadCount p t = false) (h4 : ∀ i (h : i < t.args.length), ∃ j : Nat, t.args[i] = (j : Nat) ∧ IsTm p j (plPart p t i)) : plWrong p t = 0 := by
  have hp : plNoPart p t = false := by
    unfold plNoPart
    rw [List.any_eq_false]
    intro x hx
    obtain ⟨i, hi, rfl⟩ := List.getElem_of_mem hx
    obtain ⟨j, e, h5, -⟩ := h4 i hi
    rw [e]
    unfold plNoTerm
    simp
    omega
  have hb : plBadSort p t = false := by
    unfold plBadSort
    rw [List.any_eq_false]
    rintro ⟨x, i⟩ hx
    rw [List.mem_zipIdx_iff_getElem?] at hx
    obtain ⟨hi, hx⟩ := List.getElem?_eq_some_iff.1 hx
    obtain ⟨j, e, -, h6⟩ := h4 i hi
    dsimp only at hx ⊢
    rw [← hx, e, h6]
    simp
  unfold plWrong
  rw [if_neg (by simp [h1]), if_neg (by simp [h2]), if_neg (by simp [hp]), if_neg (by simp [h3]), if_neg (by simp [hb])]
theorem mk_num (p : Po) (z : Int) : plWrong p ⟨3, [], z, 0⟩ = 0 := mk_right (by rfl) (by rfl) (by rfl) (fun i h => absurd h (by simp))
theorem mk_leaf (p : Po) (op : Int) (h : op = 1 ∨ op = 2) : plWrong p ⟨op, [], 0, 0⟩ = 0 := by
  rcases h with rfl | rfl <;> exact mk_right (by rfl) (by rfl) (by rfl) (fun i h => absurd h (by simp))
theorem mk_app (p : Po) (k : Nat) (args : List Int) (hk : k < p.syms.length) (hl : (args.length : Int) = p.syms[k].arity) (ha : ∀ x ∈ args, ∃ j : Nat, x = (j : Nat) ∧ IsTm p j 2) : plWrong p ⟨4, args, 0, (k : Nat)⟩ = 0 := by
  refine mk_right (by rfl) ?_ ?_ (fun i h => ?_)
  · unfold plNoSym
    simp
    omega
  · unfold plBadCount plSymAt
    simp only [if_pos, Int.toNat_natCast, List.getElem?_eq_getElem hk, Option.getD_some]
    simp [hl]
  · obtain ⟨j, e, h5⟩ := ha _ (List.getElem_mem h)
    refine ⟨j, e, ?_⟩
    show IsTm p j (plPart p ⟨4, args, 0, (k : Nat)⟩ i)
    have : plPart p ⟨4, args, 0, (k : Nat)⟩ i = 2 := by
      unfold plPart
      rw [if_neg (by simp)]
      rfl
    rw [this]
    exact h5
theorem mk_one (p : Po) (a : Nat) (ha : IsTm p a 1) : plWrong p ⟨5, [(a : Nat)], 0, 0⟩ = 0 := mk_right (by rfl) (by rfl) (by rfl) (fun i h => by
  have : i = 0 := by simpa using h
  subst this
  exact ⟨a, rfl, ha⟩)
theorem mk_mul (p : Po) (a : Nat) (z : Int) (ha : IsTm p a 2) : plWrong p ⟨13, [(a : Nat)], z, 0⟩ = 0 := mk_right (by rfl) (by rfl) (by rfl) (fun i h => by
  have : i = 0 := by simpa using h
  subst this
  exact ⟨a, rfl, ha⟩)
theorem mk_two (p : Po) (op : Int) (a b : Nat) (s : Int) (hop : (s = 1 ∧ (op = 6 ∨ op = 7 ∨ op = 8)) ∨ (s = 2 ∧ (op = 10 ∨ op = 11 ∨ op = 12))) (ha : IsTm p a s) (hb : IsTm p b s) : plWrong p ⟨op, [(a : Nat), (b : Nat)], 0, 0⟩ = 0 := by
  have hi : ∀ i, i < 2 → i = 0 ∨ i = 1 := fun i h => by omega
  rcases hop with ⟨rfl, rfl | rfl | rfl⟩ | ⟨rfl, rfl | rfl | rfl⟩ <;> (
    refine mk_right (by rfl) (by rfl) (by rfl) (fun i h => ?_)
    rcases hi i h with rfl | rfl
    · exact ⟨a, rfl, ha⟩
    · exact ⟨b, rfl, hb⟩)
theorem mk_ite (p : Po) (c a b : Nat) (s : Int) (hc : IsTm p c 1) (ha : IsTm p a s) (hb : IsTm p b s) : plWrong p ⟨9, [(c : Nat), (a : Nat), (b : Nat)], 0, 0⟩ = 0 ∧ plSort p ⟨9, [(c : Nat), (a : Nat), (b : Nat)], 0, 0⟩ = s := by
  have hi : ∀ i, i < 3 → i = 0 ∨ i = 1 ∨ i = 2 := fun i h => by omega
  have e : ∀ i, 0 < i → plPart p ⟨9, [(c : Nat), (a : Nat), (b : Nat)], 0, 0⟩ i = s := fun i h => by
    unfold plPart
    rw [if_pos ⟨rfl, h⟩]
    exact ha.2
  refine ⟨mk_right (by rfl) (by rfl) (by rfl) (fun i h => ?_), ha.2⟩
  rcases hi i h with rfl | rfl | rfl
  · exact ⟨c, rfl, hc⟩
  · exact ⟨a, rfl, by rw [e 1 (by decide)]; exact ha⟩
  · exact ⟨b, rfl, by rw [e 2 (by decide)]; exact hb⟩
end Go.Proofs.YtckkpolikdnilaaGreatDoor
/- elenchusref04.Make once more, with the parts' rows under any predicate (made by gen_mkref.py out of XPlRef5 and XPlRef6). -/
namespace Go.Proofs.YtckkpolikdnilaaGreatDoor
open Go.RowKit Big Go.WideMaps

/-- a term in a row that the reference has made: its parts' numbers as they came in, its number in memory of its own -/
def MfTm (Q : Value → List Int → Prop) (B : Nat) (w : World) (t : Tm) (c : List Value) : Prop := ∃ va vn, c = [.int .i64 t.op, va, .bool (decide (t.num < 0)), vn, .int .i64 t.sym] ∧ Q va t.args ∧ Own w B 94 .u64 vn (dig W t.num.natAbs)
def MfRows (Q : Value → List Int → Prop) (B : Nat) (w : World) : List Tm → List Value → Prop
  | [], cs => cs = []
  | t :: l, cs => ∃ c r, cs = c ++ r ∧ MfTm Q B w t c ∧ MfRows Q B w l r
theorem MfTm.len {Q : Value → List Int → Prop} {w : World} {B : Nat} {t : Tm} {c : List Value} (h : MfTm Q B w t c) : c.length = 5 := by
  obtain ⟨va, vn, rfl, _⟩ := h; rfl
theorem MfRows.snoc {Q : Value → List Int → Prop} {w : World} {B : Nat} {t : Tm} {c : List Value} : ∀ {l : List Tm} {cs : List Value}, MfRows Q B w l cs → MfTm Q B w t c → MfRows Q B w (l ++ [t]) (cs ++ c)
  | [], _, h, ht => by
    subst h
    exact ⟨c, [], by simp, ht, rfl⟩
  | x :: l, _, ⟨c', r, rfl, hx, hr⟩, ht => ⟨c', r ++ c, by simp, hx, hr.snoc ht⟩
theorem MfRows.at {Q : Value → List Int → Prop} {w : World} {B : Nat} : ∀ {l : List Tm} {cs : List Value}, MfRows Q B w l cs → ∀ i (h : i < l.length), ∃ c, MfTm Q B w l[i] c ∧ ∀ j, j < 5 → cs[i * 5 + j]? = c[j]?
  | x :: l, _, ⟨c', r, rfl, hx, hr⟩, 0, _ => ⟨c', hx, fun j hj => by
      rw [Nat.zero_mul, Nat.zero_add, List.getElem?_append_left (by rw [hx.len]; exact hj)]⟩
  | x :: l, _, ⟨c', r, rfl, hx, hr⟩, i + 1, h => by
    obtain ⟨c, hc, hj⟩ := MfRows.at hr i (by simpa using h)
    refine ⟨c, hc, fun j hj' => ?_⟩
    rw [← hj j hj', List.getElem?_append_right (by rw [hx.len]; omega), hx.len]
    congr 1
    omega
/-- such rows stay where words stay -/
theorem MfRows.stays {Q : Value → List Int → Prop} {w w' : World} {B : Nat} (hb : ∀ (k : Nat), (∃ cc : Array Value, w.heap[k]? = some (Obj.cells cc 94 (0, 0))) → w'.heap[k]? = w.heap[k]?) : ∀ {l : List Tm} {cs : List Value}, MfRows Q B w l cs → MfRows Q B w' l cs
  | [], _, h => h
  | _ :: _, _, ⟨c', r, e, ⟨va, vn, e2, h1, h2⟩, hr⟩ => ⟨c', r, e, ⟨va, vn, e2, h1, row_stays h2 fun k hk => hb k (row_tag h2 k hk)⟩, hr.stays hb⟩
def MfIn (Q : Value → List Int → Prop) (B : Nat) (w : World) (v : Value) (l : List Tm) : Prop := ∃ cs, w.ownsRow B 71 5 v l.length cs ∧ MfRows Q B w l cs
theorem MfIn.stays {Q : Value → List Int → Prop} {w w' : World} {B : Nat} {v : Value} {l : List Tm} (h : MfIn Q B w v l) (hb : ∀ (k : Nat) (c : Array Value) t, w.heap[k]? = some (Obj.cells c t (0, 0)) → B ≤ k → (t = 94 ∨ v.ownBlock = some k) → w'.heap[k]? = w.heap[k]?) (hw : ∀ (k : Nat) (c : Array Value), w.heap[k]? = some (Obj.cells c 94 (0, 0)) → w'.heap[k]? = w.heap[k]?) : MfIn Q B w' v l := by
  obtain ⟨cs, h1, h2⟩ := h
  refine ⟨cs, row_stays h1 fun k hk => ?_, h2.stays fun k ⟨cc, hc⟩ => hw k cc hc⟩
  obtain ⟨c, hc⟩ := row_tag h1 k hk
  exact hb k c _ hc (World.ownsRow.lt h1 k hk).1 (.inr hk)
theorem MfIn.below {Q : Value → List Int → Prop} {w w' : World} {B : Nat} {v : Value} {l : List Tm} (h : MfIn Q B w v l) (hb : Below w.heap.size w w') : MfIn Q B w' v l := by
  obtain ⟨cs, h1, h2⟩ := h
  exact ⟨cs, ownsRow_later h1 hb, h2.stays fun k ⟨cc, hc⟩ => hb.block k (lt_of_block hc)⟩
theorem MfIn.tms {Q : Value → List Int → Prop} {w : World} {B : Nat} {v : Value} {l : List Tm} (h : MfIn Q B w v l) (h0 : ∀ va l, Q va l → IAt w va l) (hs : ∀ t ∈ l, sz W t.num.natAbs ≤ 1099511627776) : TmsIn w v l := by
  obtain ⟨cs, hrow, hr⟩ := h
  obtain ⟨p, cap, rfl, h1, h2, h3, h4⟩ := row_handed (ownsRow_mono hrow (Nat.zero_le _))
  refine ⟨p, cap, rfl, h1, h2, h3, fun hl => ?_⟩
  obtain ⟨b, hp, hb, hc⟩ := h4 hl
  refine ⟨b, 0, hp, hb, fun i hi => ?_⟩
  obtain ⟨c, ⟨va, vn, rfl, k1, k2⟩, hj⟩ := hr.at i hi
  have e0 := hj 0 (by decide); have e1 := hj 1 (by decide); have e2 := hj 2 (by decide); have e3 := hj 3 (by decide); have e4 := hj 4 (by decide)
  refine ⟨_, _, _, _, _, by rw [Nat.zero_add]; exact hc _ _ e0, by rw [Nat.zero_add]; exact hc _ _ e1, by rw [Nat.zero_add]; exact hc _ _ e2, by rw [Nat.zero_add]; exact hc _ _ e3, by rw [Nat.zero_add]; exact hc _ _ e4, ?_⟩
  have k1' := h0 _ _ k1
  obtain ⟨pa, ca, rfl, r1⟩ := id k1'
  have k3 := k2.at
  obtain ⟨pn, cn, rfl, r2⟩ := id k3
  exact ⟨pa, ca, _, pn, _, cn, rfl, k1', IntAt.raw ⟨_, rfl, k3⟩ (hs _ (List.getElem_mem hi))⟩
def MRf (Q : Value → List Int → Prop) (B : Nat) (vs vr : Value) (r : Po × Int × Int) (w : World) (e : Ending) (w' : World) : Prop := ∃ vr', e = .returned (.tuple #[.agg #[vs, vr'], .int .i64 r.2.1, .int .i64 r.2.2]) ∧ MfIn Q B w' vr' r.1.terms ∧ Apart (fun k => vr.ownBlock = some k) w w' ∧ (vr'.ownBlock = vr.ownBlock ∨ ∀ k, vr'.ownBlock = some k → w.heap.size ≤ k)
theorem MfIn.setFar {Q : Value → List Int → Prop} {w : World} {B : Nat} {v : Value} {l : List Tm} (h : MfIn Q B w v l) (a : Addr) (u : Value) (c : Array Value) (t : TypeId) (ha : w.heap[a.block]? = some (.cells c t (0, 0))) (ht : t ≠ 94) (hv : v.ownBlock ≠ some a.block) : MfIn Q B (w.setCell a u) v l :=
  h.stays (fun k c' t' hc _ hk => Below.heap_setCell _ _ _ _ (fun e => by
    rcases hk with rfl | hk
    · exact tag_ne hc (e ▸ ha) (fun e => ht e.symm) rfl
    · rw [e] at hk; exact hv hk)) (fun k c' hc => Below.heap_setCell _ _ _ _ (fun e => tag_ne hc (e ▸ ha) (fun e => ht e.symm) rfl))
set_option maxRecDepth 100000 in
set_option maxHeartbeats 25600000 in
theorem MMake_any (Q : Value → List Int → Prop) (B : Nat) (p : Po) (hp : PoGood p) (t : Tm) (vs vr vt : Value) (w : World) (hQ : ∀ va l, Q va l → IAt w va l) (hB : B ≤ w.heap.size) (hs : SyIn w vs p.syms) (hr : MfIn Q B w vr p.terms) (ht : TmRaw w vt t) (hqt : ∀ c0 va c2 c3 c4, vt = .agg #[c0, va, c2, c3, c4] → Q va t.args)
    (hst : sz W t.num.natAbs ≤ 549755813888) (hsl : ∀ x ∈ p.terms, sz W x.num.natAbs ≤ 549755813888) :
    Calls Tryz.prog 47 #[.agg #[vs, vr], vt] w (MRf Q B vs vr (plMake p t) w) := by
  have h0 : Below w.heap.size w w := Below.refl _ _
  have hsl' : ∀ x ∈ p.terms, sz W x.num.natAbs ≤ 1099511627776 := fun x hx => Nat.le_trans (hsl x hx) (by omega)
  have hrw := fun w' (hb : Below w.heap.size w w') => (show RwIn w' (.agg #[vs, vr]) p.syms p.terms from ⟨_, _, rfl, hs.below (bel_go hb h0), (hr.below hb).tms (fun va l q => (hQ va l q).below hb) hsl'⟩)
  have Hct := hid (fun w' hb => CheckTerm_any p hp t _ vt w' (hrw w' hb) (ht.below (bel_go hb h0)))
  have Hfi := hid (fun w' hb => Find_any p.syms p.terms t _ vt w' (hrw w' hb) (ht.below (bel_go hb h0)) hst hsl)
  have Hrf := hid hr
  have H0 := hid h0
  have hlen := hp.2.1
  obtain ⟨pc, cc, b, pm, nm, cm, rfl, -, hnum⟩ := ht
  have hargs := hqt _ _ _ _ _ rfl
  obtain ⟨pa, ca, rfl, -, -, -, -⟩ := hs
  obtain ⟨cs, hrow, hrr⟩ := hr
  obtain ⟨pb, cb, rfl⟩ := ownsRow_shape hrow
  have Hrow := hid hrow; have Hrr := hid hrr
  obtain ⟨neg, sl, ws, eq1, hat, hsm, hwl, hval⟩ := hnum
  have eq2 : neg = b ∧ sl = .slice pm nm cm := by simpa using eq1.symm
  obtain ⟨rfl, rfl⟩ := eq2
  have hwh := fun w' (hb : Below w.heap.size w w') => Whole_own neg _ ws w' (hat.below (bel_go hb h0)) hsm (by omega)
  rw [← hval] at hwh
  have Hwh := hid hwh
  obtain ⟨r, hrd⟩ : ∃ r, r = plMake p t := ⟨_, rfl⟩
  rw [← hrd]
  have Hrd := hid hrd
  obtain ⟨er, her⟩ : ∃ er, er = plWrong p t := ⟨_, rfl⟩
  have Her := hid her
  rw [← her] at Hct
  obtain ⟨fi, hfi⟩ : ∃ fi, fi = rfFound p.terms t := ⟨_, rfl⟩
  have Hfd := hid hfi
  rw [← hfi] at Hfi
  clear hrw hrr hat hwh hval hrd her hfi eq1 h0 hsl hsl'
  have bx := below1 w (.cells #[.slice pa p.syms.length ca, .slice pb p.terms.length cb] 25)
  have hx0 := heap_alloc_new w (.cells #[.slice pa p.syms.length ca, .slice pb p.terms.length cb] 25)
  have hz := size_alloc w (.cells #[.slice pa p.syms.length ca, .slice pb p.terms.length cb] 25)
  have by_ := below1 (w.alloc (.cells #[.slice pa p.syms.length ca, .slice pb p.terms.length cb] 25)) (.cells #[.int .i64 t.op, .slice pc t.args.length cc, .bool neg, .slice pm nm cm, .int .i64 t.sym] 71)
  have hy0 := heap_alloc_new (w.alloc (.cells #[.slice pa p.syms.length ca, .slice pb p.terms.length cb] 25)) (.cells #[.int .i64 t.op, .slice pc t.args.length cc, .bool neg, .slice pm nm cm, .int .i64 t.sym] 71)
  have hz2 := size_alloc (w.alloc (.cells #[.slice pa p.syms.length ca, .slice pb p.terms.length cb] 25)) (.cells #[.int .i64 t.op, .slice pc t.args.length cc, .bool neg, .slice pm nm cm, .int .i64 t.sym] 71)
  rw [hz] at hy0 hz2
  have hx1 := (by_.block w.heap.size (by omega)).trans hx0
  have bw := bel_go by_ bx
  go_enter Tryz.func47, Tryz.ntmps47
  have bz := below1 ((w.alloc (.cells #[.slice pa p.syms.length ca, .slice pb p.terms.length cb] 25)).alloc (.cells #[.int .i64 t.op, .slice pc t.args.length cc, .bool neg, .slice pm nm cm, .int .i64 t.sym] 71)) (.cells #[.slice none 0 0, .slice none 0 0] 25)
  have hr0 := heap_alloc_new ((w.alloc (.cells #[.slice pa p.syms.length ca, .slice pb p.terms.length cb] 25)).alloc (.cells #[.int .i64 t.op, .slice pc t.args.length cc, .bool neg, .slice pm nm cm, .int .i64 t.sym] 71)) (.cells #[.slice none 0 0, .slice none 0 0] 25)
  have hz3 := size_alloc ((w.alloc (.cells #[.slice pa p.syms.length ca, .slice pb p.terms.length cb] 25)).alloc (.cells #[.int .i64 t.op, .slice pc t.args.length cc, .bool neg, .slice pm nm cm, .int .i64 t.sym] 71)) (.cells #[.slice none 0 0, .slice none 0 0] 25)
  rw [hz2] at hr0 hz3
  have hx3 := (bz.block w.heap.size (by omega)).trans hx1
  have hy3 := (bz.block (w.heap.size + 1) (by omega)).trans hy0
  have bw3 := bel_go bz bw
  go_upto_region 1 with fail
  generalize hW : (((w.alloc (.cells #[.slice pa p.syms.length ca, .slice pb p.terms.length cb] 25)).alloc (.cells #[.int .i64 t.op, .slice pc t.args.length cc, .bool neg, .slice pm nm cm, .int .i64 t.sym] 71)).alloc (.cells #[.slice none 0 0, .slice none 0 0] 25)) = W3 at *
  have q := two_cells hx3
  obtain ⟨z0, z1, -, -⟩ := q
  have q := five_cells hy3
  obtain ⟨y0, y1, y2, y3, y4⟩ := q
  have HX := hid hx3; have HY := hid hy3; have HR := hid hr0; have HB3 := hid bw3
  clear hW bx hx0 hz by_ hy0 hz2 hx1 bw bz hr0 hx3 hy3 bw3
  have back : Hid (∀ w', Below W3.heap.size W3 w' → MfIn Q B w' (.slice pb p.terms.length cb) p.terms) := hid fun w' hb => (Hrf.out.below HB3.out).below hb
  have far : Hid (∀ u, (Value.slice pb p.terms.length cb).ownBlock = some u → u < w.heap.size) := hid fun u hu => (World.ownsRow.lt Hrow.out u hu).2
  go_wp2_with fail
  refine (Hct.out _ HB3.out).mono ?_
  rintro e w4 ⟨rfl, b4⟩
  clear z0 z1 y0 y1 y2 y3 y4
  have HB4 := hid b4
  clear b4
  have hx4 := (HB4.out.block w.heap.size (by omega)).trans HX.out
  have hy4 := (HB4.out.block (w.heap.size + 1) (by omega)).trans HY.out
  have hr4 := (HB4.out.block (w.heap.size + 2) (by omega)).trans HR.out
  have q := two_cells hx4
  obtain ⟨z0, z1, -, -⟩ := q
  have hz4 := HB4.out.size
  cases he : (er != 0)
  case true =>
    have hne : plWrong p t ≠ 0 := by rw [← Her.out]; simpa using he
    have q := two_cells hr4
    obtain ⟨r0, r1, -, -⟩ := q
    have f0 := frozen_all hr4 0; have f1 := frozen_all hr4 1
    have hr5 := set2_same hr4 (.slice pa p.syms.length ca) (.slice pb p.terms.length cb)
    have HR5 := hid hr5
    have hrd := plMake_bad hne
    have Hfin := hid hrd
    have hin4 := back.out w4 HB4.out
    have hin5 := (hin4.setFar ⟨w.heap.size + 2, 0, none⟩ (.slice pa p.syms.length ca) _ _ hr4 (by decide) (fun e => by have := far.out _ e; simp at this; omega))
    have hr45 := heap_setCell_same w4 (w.heap.size + 2) 0 _ _ (.slice pa p.syms.length ca) hr4
    have Hin5 := hid (hin5.setFar ⟨w.heap.size + 2, 1, none⟩ (.slice pb p.terms.length cb) _ _ hr45 (by decide) (fun e => by have := far.out _ e; simp at this; omega))
    have Hb5 := hid (((bel_go HB4.out HB3.out).setCell (p := ⟨w.heap.size + 2, 0, none⟩) (by show w.heap.size ≤ w.heap.size + 2; omega) (.slice pa p.syms.length ca)).setCell (p := ⟨w.heap.size + 2, 1, none⟩) (by show w.heap.size ≤ w.heap.size + 2; omega) (.slice pb p.terms.length cb))
    clear hx4 hy4 hr4 hr5 hrd hin4 hin5 hr45 hne
    go_wp2
    have q := two_cells HR5.out
    obtain ⟨s0, s1, -, -⟩ := q
    refine bodyPost_ret (v := .tuple #[.agg #[.slice pa p.syms.length ca, .slice pb p.terms.length cb], .int .i64 0, .int .i64 er]) (by simp [results, Tryz.results47, go_sem, s0, s1]) rfl ⟨_, ?_, ?_, Apart.of_below Hb5.out, .inl rfl⟩
    · rw [Hrd.out, Hfin.out, Her.out]
    · rw [Hrd.out, Hfin.out]; exact Hin5.out
  case false =>
  have hez : plWrong p t = 0 := by rw [← Her.out]; simpa using he
  have Hez := hid hez
  have q := five_cells hy4
  obtain ⟨y0, y1, y2, y3, y4⟩ := q
  clear hez
  go_wp2_with fail
  refine (Hfi.out _ (bel_go HB4.out HB3.out)).mono ?_
  rintro e w5 ⟨rfl, b5⟩
  clear z0 z1 y0 y1 y2 y3 y4 hx4 hy4 hr4
  have HB5 := hid (bel_go b5 HB4.out)
  clear b5 HB4
  have hx5 := (HB5.out.block w.heap.size (by omega)).trans HX.out
  have hy5 := (HB5.out.block (w.heap.size + 1) (by omega)).trans HY.out
  have hr5 := (HB5.out.block (w.heap.size + 2) (by omega)).trans HR.out
  have hz5 := HB5.out.size
  have q := two_cells hx5
  obtain ⟨z0, z1, -, -⟩ := q
  cases hf : plFind p.terms t with
  | some k =>
    have hfi : fi = (k : Nat) := by rw [Hfd.out]; unfold rfFound; rw [hf]
    have Hf := hid hf
    clear hf
    subst hfi
    have q := two_cells hr5
    obtain ⟨r0, r1, -, -⟩ := q
    have f0 := frozen_all hr5 0; have f1 := frozen_all hr5 1
    have hr6 := set2_same hr5 (.slice pa p.syms.length ca) (.slice pb p.terms.length cb)
    have HR6 := hid hr6
    have Hfin := hid (plMake_there Hez.out Hf.out)
    have hin5 := back.out w5 HB5.out
    have hin6 := (hin5.setFar ⟨w.heap.size + 2, 0, none⟩ (.slice pa p.syms.length ca) _ _ hr5 (by decide) (fun e => by have := far.out _ e; simp at this; omega))
    have hr56 := heap_setCell_same w5 (w.heap.size + 2) 0 _ _ (.slice pa p.syms.length ca) hr5
    have Hin6 := hid (hin6.setFar ⟨w.heap.size + 2, 1, none⟩ (.slice pb p.terms.length cb) _ _ hr56 (by decide) (fun e => by have := far.out _ e; simp at this; omega))
    have Hb6 := hid (((bel_go HB5.out HB3.out).setCell (p := ⟨w.heap.size + 2, 0, none⟩) (by show w.heap.size ≤ w.heap.size + 2; omega) (.slice pa p.syms.length ca)).setCell (p := ⟨w.heap.size + 2, 1, none⟩) (by show w.heap.size ≤ w.heap.size + 2; omega) (.slice pb p.terms.length cb))
    clear hx5 hy5 hr5 hr6 hin5 hin6 hr56
    go_wp2
    have q := two_cells HR6.out
    obtain ⟨s0, s1, -, -⟩ := q
    refine bodyPost_ret (v := .tuple #[.agg #[.slice pa p.syms.length ca, .slice pb p.terms.length cb], .int .i64 (k : Nat), .int .i64 0]) (by simp [results, Tryz.results47, go_sem, s0, s1]) rfl ⟨_, ?_, ?_, Apart.of_below Hb6.out, .inl rfl⟩
    · rw [Hrd.out, Hfin.out]
    · rw [Hrd.out, Hfin.out]; exact Hin6.out
  | none =>
    have hfi : fi = -1 := by rw [Hfd.out]; unfold rfFound; rw [hf]
    have Hf := hid hf
    clear hf
    subst hfi
    cases hfull : decide ((4096 : Int) ≤ (p.terms.length : Nat))
    case true =>
      have Hfl := hid (show p.terms.length = 4096 by have := of_decide_eq_true hfull; omega)
      have q := two_cells hr5
      obtain ⟨r0, r1, -, -⟩ := q
      have f0 := frozen_all hr5 0; have f1 := frozen_all hr5 1
      have hr6 := set2_same hr5 (.slice pa p.syms.length ca) (.slice pb p.terms.length cb)
      have HR6 := hid hr6
      have Hfin := hid (plMake_full Hez.out Hf.out Hfl.out)
      have hin5 := back.out w5 HB5.out
      have hin6 := (hin5.setFar ⟨w.heap.size + 2, 0, none⟩ (.slice pa p.syms.length ca) _ _ hr5 (by decide) (fun e => by have := far.out _ e; simp at this; omega))
      have hr56 := heap_setCell_same w5 (w.heap.size + 2) 0 _ _ (.slice pa p.syms.length ca) hr5
      have Hin6 := hid (hin6.setFar ⟨w.heap.size + 2, 1, none⟩ (.slice pb p.terms.length cb) _ _ hr56 (by decide) (fun e => by have := far.out _ e; simp at this; omega))
      have Hb6 := hid (((bel_go HB5.out HB3.out).setCell (p := ⟨w.heap.size + 2, 0, none⟩) (by show w.heap.size ≤ w.heap.size + 2; omega) (.slice pa p.syms.length ca)).setCell (p := ⟨w.heap.size + 2, 1, none⟩) (by show w.heap.size ≤ w.heap.size + 2; omega) (.slice pb p.terms.length cb))
      clear hx5 hy5 hr5 hr6 hin5 hin6 hr56
      go_wp2
      have q := two_cells HR6.out
      obtain ⟨s0, s1, -, -⟩ := q
      refine bodyPost_ret (v := .tuple #[.agg #[.slice pa p.syms.length ca, .slice pb p.terms.length cb], .int .i64 0, .int .i64 11]) (by simp [results, Tryz.results47, go_sem, s0, s1]) rfl ⟨_, ?_, ?_, Apart.of_below Hb6.out, .inl rfl⟩
      · rw [Hrd.out, Hfin.out]
      · rw [Hrd.out, Hfin.out]; exact Hin6.out
    case false =>
    have Hfl := hid (show p.terms.length < 4096 by have := of_decide_eq_false hfull; omega)
    have q := five_cells hy5
    obtain ⟨y0, y1, y2, y3, y4⟩ := q
    go_upto_region 9 with fail
    clear z0 z1 hfull
    go_wp2_with fail
    refine (Hwh.out _ (bel_go HB5.out HB3.out)).mono ?_
    rintro e w6 ⟨v6, rfl, hi6, b6⟩
    obtain ⟨p6, n6, c6, rfl, hi6⟩ := hi6.shape
    obtain ⟨sx, hsx, hown6⟩ := hi6
    have hsx : sx = .slice p6 n6 c6 := by simpa using hsx.symm
    subst hsx
    clear y0 y1 y2 y3 y4
    have HB6 := hid (bel_go b6 HB5.out)
    have hz6 := HB6.out.size
    have hx6 := (HB6.out.block w.heap.size (by omega)).trans HX.out
    have hy6 := (HB6.out.block (w.heap.size + 1) (by omega)).trans HY.out
    have q := five_cells hy6
    obtain ⟨y0, y1, y2, y3, y4⟩ := q
    have f2 := frozen_all hy6 2; have f3 := frozen_all hy6 3
    have hs6 := b6.size
    clear b6 hx5 hy5 hr5
    have hown6 := hown6.mono (base' := B) (by have := HB3.out.size; omega)
    have hlow6 : w.heap.size + 1 < w5.heap.size := by omega
    go_upto_region 10 with fail
    clear y0 y1 y2 y3 y4 f2 f3
    have hy7 := heap_setCell_same _ (w.heap.size + 1) 3 _ _ (.slice p6 n6 c6) (heap_setCell_same w6 (w.heap.size + 1) 2 _ _ (.bool (decide (t.num < 0))) hy6)
    simp only [List.setIfInBounds_toArray, List.set_cons_zero, List.set_cons_succ] at hy7
    have E7 : ∀ k, k ≠ w.heap.size + 1 → ((w6.setCell ⟨w.heap.size + 1, 2, none⟩ (.bool (decide (t.num < 0)))).setCell ⟨w.heap.size + 1, 3, none⟩ (.slice p6 n6 c6)).heap[k]? = w6.heap[k]? := fun k hk => (Below.heap_setCell _ _ _ _ hk).trans (Below.heap_setCell _ _ _ _ hk)
    have hz7 : ((w6.setCell ⟨w.heap.size + 1, 2, none⟩ (.bool (decide (t.num < 0)))).setCell ⟨w.heap.size + 1, 3, none⟩ (.slice p6 n6 c6)).heap.size = w6.heap.size := by simp [World.setCell]
    have bw7 : Below w.heap.size w ((w6.setCell ⟨w.heap.size + 1, 2, none⟩ (.bool (decide (t.num < 0)))).setCell ⟨w.heap.size + 1, 3, none⟩ (.slice p6 n6 c6)) := ((bel_go HB6.out HB3.out).setCell (p := ⟨w.heap.size + 1, 2, none⟩) (Nat.le_succ _) _).setCell (p := ⟨w.heap.size + 1, 3, none⟩) (Nat.le_succ _) _
    generalize hW7 : ((w6.setCell ⟨w.heap.size + 1, 2, none⟩ (.bool (decide (t.num < 0)))).setCell ⟨w.heap.size + 1, 3, none⟩ (.slice p6 n6 c6)) = w7 at *
    have hn7 : Own w7 B 94 .u64 (.slice p6 n6 c6) (dig W t.num.natAbs) := row_stays hown6 fun k hk => E7 k (fun e => tag_ne (row_tag hown6 k hk).choose_spec (e ▸ hy6) (by decide) rfl)
    have hrow7 := row_stays Hrow.out (w' := w7) fun k hk => (E7 k (by have := far.out k hk; omega)).trans (((bel_go HB6.out HB3.out).block k (far.out k hk)))
    have hrr7 := MfRows.stays (w' := w7) (fun k hk => (bel_go HB6.out HB3.out).block k (by obtain ⟨cc', hc⟩ := hk; exact lt_of_block hc) |> fun e => by
      obtain ⟨cc', hc⟩ := hk
      have hlt := lt_of_block hc
      exact (E7 k (by omega)).trans e) Hrr.out
    have hx7 := (E7 w.heap.size (by omega)).trans hx6
    have hr7 := (E7 (w.heap.size + 2) (by omega)).trans ((HB6.out.block (w.heap.size + 2) (by omega)).trans HR.out)
    clear hW7 hy6 hown6 hx6 E7
    have b8 := below1 w7 (.cells #[.int .i64 t.op, .slice pc t.args.length cc, .bool (decide (t.num < 0)), .slice p6 n6 c6, .int .i64 t.sym] 71)
    have hnews := cells_at (c := [.int .i64 t.op, .slice pc t.args.length cc, .bool (decide (t.num < 0)), .slice p6 n6 c6, .int .i64 t.sym]) (heap_alloc_new w7 (.cells #[.int .i64 t.op, .slice pc t.args.length cc, .bool (decide (t.num < 0)), .slice p6 n6 c6, .int .i64 t.sym] 71))
    have hrow8 := ownsRow_later hrow7 b8
    have hz8 := size_alloc w7 (.cells #[.int .i64 t.op, .slice pc t.args.length cc, .bool (decide (t.num < 0)), .slice p6 n6 c6, .int .i64 t.sym] 71)
    have hx8 := (b8.block w.heap.size (by omega)).trans hx7
    have hr8 := (b8.block (w.heap.size + 2) (by omega)).trans hr7
    have hn8 := Own.kept hn7 b8
    have hrr8 := MfRows.stays (w' := w7.alloc (.cells #[.int .i64 t.op, .slice pc t.args.length cc, .bool (decide (t.num < 0)), .slice p6 n6 c6, .int .i64 t.sym] 71)) (fun k hk => b8.block k (by obtain ⟨cc', hc⟩ := hk; exact lt_of_block hc)) hrr7
    have bw8 := bel_go b8 bw7
    have q := two_cells hx7
    obtain ⟨z0, z1, -, -⟩ := q
    have q := five_cells hy7
    obtain ⟨y0, y1, y2, y3, y4⟩ := q
    obtain ⟨i0, hii, hiz0, hiz1, hiz2⟩ := info_parts infoTerm
    have Hn8 := hid hn8; have Hrr8 := hid hrr8; have Hx8 := hid hx8; have Hr8 := hid hr8; have Hbw8 := hid bw8
    have hz7' := Nat.le_of_eq hz7.symm
    replace hz7 := Nat.le_of_eq hz7.symm
    replace hz8 := Nat.le_of_eq hz8.symm
    clear hn7 hrr7 hx7 hr7 b8 hrow7 hx8 hr8 hn8 hrr8 bw8 bw7 hy7
    go_wp2_with (at_builtin; refine wpList_append_own_at _ rfl _ _ 23 rfl B 71 i0 _ 5 72 Tryz.underlying23 hii hiz0 hiz1 hiz2 rfl (by decide) _ p.terms.length _ rfl hrow8 ⟨w7.heap.size, 0, none⟩ 1 1 [.int .i64 t.op, .slice pc t.args.length cc, .bool (decide (t.num < 0)), .slice p6 n6 c6, .int .i64 t.sym] rfl rfl hnews (by intro u hu; simp at hu; rcases hu with rfl | rfl | rfl | rfl | rfl <;> rfl) (by simp [maxLen]; omega) (by omega) (by have := HB3.out.size; omega) ?_; intro v9 w9 ho9 hg9 _ hat9; obtain ⟨p9, c9, rfl⟩ := ownsRow_shape ho9; have fN : (Value.slice pb p.terms.length cb).ownBlock ≠ some w.heap.size := (fun e => by have := far.out _ e; omega); have fR : (Value.slice pb p.terms.length cb).ownBlock ≠ some (w.heap.size + 2) := (fun e => by have := far.out _ e; omega); have hx9 := (hg9.block w.heap.size (by omega) (fun e => fN e.symm)).trans Hx8.out; have q9 := two_cells hx9; obtain ⟨zz0, zz1, zf0, zf1⟩ := q9)
    have hat9 : (Value.slice p9 (p.terms.length + 1) c9).ownBlock = (Value.slice pb p.terms.length cb).ownBlock ∨ (Value.slice p9 (p.terms.length + 1) c9).ownBlock = some (w7.alloc (.cells #[.int .i64 t.op, .slice pc t.args.length cc, .bool (decide (t.num < 0)), .slice p6 n6 c6, .int .i64 t.sym] 71)).heap.size := hat9
    have hx10 := heap_setCell_same w9 w.heap.size 1 _ _ (.slice p9 (p.terms.length + 1) c9) hx9
    simp only [List.setIfInBounds_toArray, List.set_cons_zero, List.set_cons_succ] at hx10
    have hr9 := (hg9.block (w.heap.size + 2) (by omega) (fun e => fR e.symm)).trans Hr8.out
    have hr10 := (Below.heap_setCell w9 ⟨w.heap.size, 1, none⟩ (.slice p9 (p.terms.length + 1) c9) (w.heap.size + 2) (by show w.heap.size + 2 ≠ w.heap.size; omega)).trans hr9
    have h9b : ∀ k, (Value.slice p9 (p.terms.length + 1) c9).ownBlock = some k → k < w.heap.size ∨ w6.heap.size ≤ k := fun k hk => by
      rcases hat9 with h | h
      · exact .inl (far.out k (by rw [← h]; exact hk))
      · rw [h] at hk; cases hk; exact .inr (Nat.le_trans hz7' (by simp))
    have hu9 : ∀ (k : Nat) (c : Array Value), (w7.alloc (.cells #[.int .i64 t.op, .slice pc t.args.length cc, .bool (decide (t.num < 0)), .slice p6 n6 c6, .int .i64 t.sym] 71)).heap[k]? = some (Obj.cells c 94 (0, 0)) → w9.heap[k]? = (w7.alloc (.cells #[.int .i64 t.op, .slice pc t.args.length cc, .bool (decide (t.num < 0)), .slice p6 n6 c6, .int .i64 t.sym] 71)).heap[k]? := fun k c hc => hg9.block k (lt_of_block hc) (fun e => by
      obtain ⟨c', hc'⟩ := row_tag hrow8 k e.symm
      exact tag_ne hc hc' (by decide) rfl)
    have hrr9 := MfRows.stays (w' := w9) (fun k hk => by obtain ⟨c', hc⟩ := hk; exact hu9 k c' hc) Hrr8.out
    have hn9 : Own w9 B 94 .u64 (.slice p6 n6 c6) (dig W t.num.natAbs) := row_stays Hn8.out fun k hk => by obtain ⟨c', hc⟩ := row_tag Hn8.out k hk; exact hu9 k c' hc
    have hin9 : MfIn Q B w9 (.slice p9 (p.terms.length + 1) c9) (p.terms ++ [t]) := ⟨_, by rw [List.length_append]; exact ho9, hrr9.snoc ⟨_, _, rfl, hargs, hn9⟩⟩
    have hin10 := hin9.setFar ⟨w.heap.size, 1, none⟩ (.slice p9 (p.terms.length + 1) c9) _ _ hx9 (by decide) (fun e => by have := h9b _ e; simp at this; omega)
    have ha9 : Apart (fun k => (Value.slice pb p.terms.length cb).ownBlock = some k) w w9 := (Apart.of_below Hbw8.out).grown hg9 (fun k e => e)
    have ha10 := ha9.setNew (q := ⟨w.heap.size, 1, none⟩) (Nat.le_refl _) (.slice p9 (p.terms.length + 1) c9)
    have hat10 : (Value.slice p9 (p.terms.length + 1) c9).ownBlock = (Value.slice pb p.terms.length cb).ownBlock ∨ ∀ k, (Value.slice p9 (p.terms.length + 1) c9).ownBlock = some k → w.heap.size ≤ k := hat9.imp id fun h k hk => by
      rw [h] at hk; cases hk
      have := Hbw8.out.size
      have : w.heap.size ≤ w6.heap.size := by omega
      exact Nat.le_trans (Nat.le_trans this hz7') (by simp)
    generalize hW10 : (w9.setCell ⟨w.heap.size, 1, none⟩ (.slice p9 (p.terms.length + 1) c9)) = w10 at *
    have hin11 := hin10.setFar ⟨w.heap.size + 2, 0, none⟩ (.slice pa p.syms.length ca) _ _ hr10 (by decide) (fun e => by have := h9b _ e; simp at this; omega)
    have hr11 := heap_setCell_same w10 (w.heap.size + 2) 0 _ _ (.slice pa p.syms.length ca) hr10
    have Hin12 := hid (hin11.setFar ⟨w.heap.size + 2, 1, none⟩ (.slice p9 (p.terms.length + 1) c9) _ _ hr11 (by decide) (fun e => by have := h9b _ e; simp at this; omega))
    have HR12 := hid (set2_same hr10 (.slice pa p.syms.length ca) (.slice p9 (p.terms.length + 1) c9))
    have Ha12 := hid ((ha10.setNew (q := ⟨w.heap.size + 2, 0, none⟩) (by show w.heap.size ≤ w.heap.size + 2; omega) (.slice pa p.syms.length ca)).setNew (q := ⟨w.heap.size + 2, 1, none⟩) (by show w.heap.size ≤ w.heap.size + 2; omega) (.slice p9 (p.terms.length + 1) c9))
    have Hat := hid hat10
    have q := two_cells hx10
    obtain ⟨z0, z1, -, -⟩ := q
    have q := two_cells hr10
    obtain ⟨r0, r1, g0, g1⟩ := q
    clear hW10 hx10 hr9 hr10 h9b hu9 hrr9 hn9 hin9 hin10 ha9 ha10 hat10 hin11 hr11 hx9 zz0 zz1 zf0 zf1 hg9 hat9 ho9 Hx8 Hr8 Hrr8 Hn8 hnews hrow8
    have Hfin := hid (plMake_new Hez.out Hf.out (by have := Hfl.out; omega))
    go_region
    clear z0 z1 r0 r1 g0 g1
    go_wp2
    have q := two_cells HR12.out
    obtain ⟨s0, s1, -, -⟩ := q
    refine bodyPost_ret (v := .tuple #[.agg #[.slice pa p.syms.length ca, .slice p9 (p.terms.length + 1) c9], .int .i64 (p.terms.length : Nat), .int .i64 0]) (by simp [results, Tryz.results47, go_sem, s0, s1]) rfl ⟨_, ?_, ?_, Ha12.out.drew, Hat.out⟩
    · rw [Hrd.out, Hfin.out]
    · rw [Hrd.out, Hfin.out]; exact Hin12.out.stays (fun _ _ _ _ _ _ => rfl) (fun _ _ _ => rfl)
end Go.Proofs.YtckkpolikdnilaaGreatDoor
/- elenchusmake's numbers that are used up. -/
namespace Go.Proofs.YtckkpolikdnilaaGreatDoor
open Go.RowKit Big Go.WideMaps

/-- blocks whose type is none of a tape's, a build's or a term's stay, and so does all below N -/
structure MkFr (w w' : World) : Prop where
  os : w'.os = w.os
  tape : w'.tape = w.tape
  output : w'.output = w.output
  size : w.heap.size ≤ w'.heap.size
  block : ∀ (k : Nat) (o : Obj), w.heap[k]? = some o → (∀ c : Array Value, o ≠ Obj.cells c 54 (0, 0) ∧ o ≠ Obj.cells c 73 (0, 0) ∧ o ≠ Obj.cells c 71 (0, 0)) → w'.heap[k]? = some o
theorem MkFr.refl (w : World) : MkFr w w := ⟨rfl, rfl, rfl, Nat.le_refl _, fun _ _ h _ => h⟩
theorem MkFr.trans {a b c : World} (h : MkFr a b) (k : MkFr b c) : MkFr a c := ⟨k.os.trans h.os, k.tape.trans h.tape, k.output.trans h.output, Nat.le_trans h.size k.size, fun i o hi hn => k.block i o (h.block i o hi hn) hn⟩
theorem MkFr.of_below {w w' : World} (h : Below w.heap.size w w') : MkFr w w' := ⟨h.os, h.tape, h.output, h.size, fun i _ hi _ => (h.block i (Array.getElem?_eq_some_iff.1 hi).1).trans hi⟩
theorem MkFr.drewN {a w : World} (h : MkFr a w) (n : Nat) : MkFr a (w.drewN n) := ⟨h.os, h.tape, h.output, h.size, h.block⟩
theorem MkFr.drew {a w : World} (h : MkFr a w) : MkFr a w.drew := ⟨h.os, h.tape, h.output, h.size, h.block⟩
theorem MkFr.set {a w : World} (h : MkFr a w) {p : Addr} {c : Array Value} {t : TypeId} (hp : w.heap[p.block]? = some (.cells c t (0, 0))) (ht : t = 54 ∨ t = 73 ∨ t = 71) (u : Value) : MkFr a (w.setCell p u) :=
  h.trans ⟨rfl, rfl, rfl, by simp [World.setCell], fun k o hk hn => (Below.heap_setCell _ _ _ _ (fun e => by
    rw [e] at hk
    have := hk.symm.trans hp
    injection this with this
    have h1 := hn c
    rcases ht with rfl | rfl | rfl
    · exact h1.1 this
    · exact h1.2.1 this
    · exact h1.2.2 this)).trans hk⟩
theorem MkFr.cells {w w' : World} (h : MkFr w w') {k : Nat} {c : Array Value} {t : TypeId} (hk : w.heap[k]? = some (.cells c t (0, 0))) (h1 : t ≠ 54) (h2 : t ≠ 73) (h3 : t ≠ 71) : w'.heap[k]? = some (.cells c t (0, 0)) :=
  h.block k _ hk fun c' => ⟨fun e => by injection e with _ e; exact h1 e, fun e => by injection e with _ e; exact h2 e, fun e => by injection e with _ e; exact h3 e⟩
theorem MkFr.row {w w' : World} (h : MkFr w w') {b : Nat} {e : TypeId} {s : Nat} {v : Value} {n : Nat} {xs : List Value} (hr : w.ownsRow b e s v n xs) (h1 : e ≠ 54) (h2 : e ≠ 73) (h3 : e ≠ 71) : w'.ownsRow b e s v n xs :=
  row_stays hr fun k hk => by
    obtain ⟨c, hc⟩ := row_tag hr k hk
    rw [hc]
    exact h.cells hc h1 h2 h3
/-- the tape in block t -/
def TpAt (w : World) (t : Nat) (v : Value) (l : Nat) : Prop := ∃ a : Nat, a ≤ l ∧ w.heap[t]? = some (.cells #[v, .int .i64 (a : Nat)] 54 (0, 0))
/-- what Next answers: a number below n, or 0 -/
def RNext (t : Nat) (v : Value) (l : Nat) (n : Int) (w : World) (e : Ending) (w' : World) : Prop := ∃ k : Nat, e = .returned (.int .i64 (k : Nat)) ∧ ((k : Int) < n ∨ k = 0) ∧ TpAt w' t v l ∧ Apart (fun i => i = t) w w'
set_option maxRecDepth 100000 in
set_option maxHeartbeats 3200000 in
theorem Next_any (t : Nat) (v : Value) (l : List Nat) (n : Int) (w : World) (ht : TpAt w t v l.length) (hl : At w .u8 v l) (hn : ∀ y ∈ l, y < 256) (hi : n ≤ 1000000) :
    Calls Tryz.prog 41 #[.pointer (some ⟨t, 0, none⟩), .int .i64 n] w (RNext t v l.length n w) := by
  obtain ⟨a, ha, hc⟩ := ht
  have HC := hid hc
  obtain ⟨p, cap, rfl, h1, h2, h3, h4⟩ := hl
  obtain ⟨c0, c1, f0, f1⟩ := two_cells hc
  unfold maxLen at h2
  have H4 := hid h4
  clear h4 hc
  go_enter Tryz.func41, Tryz.ntmps41
  cases hd : decide (n < 2)
  case true =>
    go_wp2_with fail
    go_quiet (fail)
    go_wp2
    go_ret
    exact ⟨0, rfl, .inr rfl, ⟨a, ha, HC.out⟩, (Apart.refl _ _).drewN _⟩
  case false =>
    have hn2 : ¬ n < 2 := of_decide_eq_false hd
    cases hd2 : decide (l.length ≤ a)
    case true =>
      go_wp2_with fail
      go_quiet (fail)
      go_wp2
      go_ret
      exact ⟨0, rfl, .inr rfl, ⟨a, ha, HC.out⟩, (Apart.refl _ _).drewN _⟩
    case false =>
      have hal : a < l.length := by have := of_decide_eq_false hd2; omega
      obtain ⟨b, off, rfl, k1, k2⟩ := H4.out (by omega)
      have m := k2 a hal
      have hy := hn l[a] (List.getElem_mem hal)
      generalize l[a] = y at *
      go_wp2_with fail
      go_quiet (fail)
      clear c0 c1 f0 f1
      have q := two_cells (show (w.drewN nq).heap[t]? = _ from HC.out)
      obtain ⟨c0, c1, f0, f1⟩ := q
      go_upto_region 4 with fail
      generalize hW : World.setCell (w.drewN nq) ⟨t, 1, none⟩ _ = W4
      have hbt : b ≠ t := by
        intro e
        rw [e, cell_of_row w t (off + a) _ _ (0, 0) HC.out] at m
        rcases hj : off + a with _ | _ | j
        · rw [hj] at m; simp at m
        · rw [hj] at m; simp at m
        · rw [hj] at m; simp at m
      have hA4 : Apart (fun i => i = t) w W4 := by rw [← hW]; exact Apart.setCell (p := ⟨t, 1, none⟩) ((Apart.refl (fun i => i = t) w).drewN nq) rfl _
      have hc4 : W4.heap[t]? = some (.cells #[.slice (some ⟨b, off, none⟩) l.length cap, .int .i64 ((a + 1 : Nat) : Int)] 54 (0, 0)) := by
        rw [← hW]
        have := heap_setCell_same (w.drewN nq) t 1 _ _ (.int .i64 ((a : Int) + 1)) (show (w.drewN nq).heap[t]? = _ from HC.out)
        simpa using this
      have m4 := (hA4.cell (p := ⟨b, off + a, none⟩) k1 hbt).trans m
      have HA4 := hid hA4; have HC4 := hid hc4
      clear hW hA4 c0 c1 f0 f1 m
      have q := two_cells hc4
      obtain ⟨c0, c1, -, -⟩ := q
      clear hc4 hd hd2
      go_wp2_with fail
      go_quiet (fail)
      go_wp2
      go_ret
      obtain ⟨kk, hk⟩ : ∃ kk : Nat, (y : Int) % n = (kk : Nat) := ⟨((y : Int) % n).toNat, by have := Int.emod_nonneg (y : Int) (show n ≠ 0 by omega); omega⟩
      have hlt := Int.emod_lt_of_pos (y : Int) (show 0 < n by omega)
      refine ⟨kk, ?_, .inl (by omega), ⟨a + 1, by omega, HC4.out⟩, HA4.out.drewN _⟩
      show Ending.returned (.int .i64 ((y : Int) % n)) = _
      rw [hk]
/-- the tape in block t, its bytes as they came in with W0, and nothing of W0 turned -/
def TpIn (W0 w : World) (t : Nat) (v : Value) (l : List Nat) : Prop := At W0 .u8 v l ∧ (∀ y ∈ l, y < 256) ∧ W0.heap.size ≤ t ∧ Below W0.heap.size W0 w ∧ TpAt w t v l.length
theorem TpAt.lt {w : World} {t : Nat} {v : Value} {n : Nat} (h : TpAt w t v n) : t < w.heap.size := by
  obtain ⟨a, -, h⟩ := h
  exact lt_of_block h
theorem TpIn.go {W0 w w' : World} {t : Nat} {v : Value} {l : List Nat} (h : TpIn W0 w t v l) (hb : Below w.heap.size w w') : TpIn W0 w' t v l := by
  obtain ⟨h1, h2, h3, h4, a, ha, hc⟩ := h
  exact ⟨h1, h2, h3, bel_go hb h4, a, ha, (hb.block t (lt_of_block hc)).trans hc⟩
theorem Next_in {W0 w : World} {t : Nat} {v : Value} {l : List Nat} (n : Int) (h : TpIn W0 w t v l) (hi : n ≤ 1000000) :
    Calls Tryz.prog 41 #[.pointer (some ⟨t, 0, none⟩), .int .i64 n] w (fun e w' => ∃ k : Nat, e = .returned (.int .i64 (k : Nat)) ∧ ((k : Int) < n ∨ k = 0) ∧ TpIn W0 w' t v l ∧ Apart (fun i => i = t) w w') := by
  obtain ⟨h1, h2, h3, h4, h5⟩ := h
  refine (Next_any t v l n w h5 (h1.below h4) h2 hi).mono ?_
  rintro e w' ⟨k, he, hk, ht, hA⟩
  exact ⟨k, he, hk, ⟨h1, h2, h3, h4.trans (hA.below h4.size (fun i hi => by rw [hi]; exact h3)), ht⟩, hA⟩
theorem TpIn.fr {W0 w w' : World} {t : Nat} {v : Value} {l : List Nat} (h : TpIn W0 w t v l) (hA : Apart (fun i => i = t) w w') : MkFr w w' := by
  obtain ⟨-, -, -, -, a, -, hc⟩ := h
  refine ⟨hA.os, hA.tape, hA.output, hA.size, fun k o hk hn => (hA.block k (Array.getElem?_eq_some_iff.1 hk).1 (fun e => ?_)).trans hk⟩
  rw [e, hc] at hk
  injection hk with hk
  exact (hn _).1 hk.symm
end Go.Proofs.YtckkpolikdnilaaGreatDoor
/- A region that draws its order, with one operation that writes as elenchusmake's calls do (MkFr); what hangs on it needs last only while memory stays (made out of XWrite). -/
namespace Go.Proofs.YtckkpolikdnilaaGreatDoor
open Go.RowKit

structure TFact where
  P : Value → World → Prop
  st : ∀ v w w', P v w → Below w.heap.size w w' → P v w'
theorem wpAny_mk {P : Program} {ops : Array Oper} {Q : Exit → Act → World → Prop} {a0 : Act} {w0 : World} (n s : Nat) (hsize : ops.size = n + s) (ds : List Tmp) (f : Nat → TFact) (a : Nat) (J : Value → World → Prop) (hJ : ∀ v w w', J v w → Below w.heap.size w w' → J v w')
    (hd : edgesDown .any ops = true) (hsw : storesWait .any ops n = true) (hdn : ds.Nodup) (hlen : ds.length = n) (hds : dstsAre ops n ds = true) (han : a < n) (hst0 : ∀ j, j < n → reach .any ops 8 j a = false → j ≠ a → ∀ v w w', (f j).P v w → MkFr w w' → (f j).P v w')
    (hstep : ∀ i o, i < n → ops[i]? = some o → ∀ vs w, vs.length = n → MkFr w0 w → (i = a ∨ reach .any ops 8 a i = true → Below w0.heap.size w0 w) → (∀ e ∈ o.after, Region.binds .any e = true → (f e.on).P (vs.getD e.on undef) w) →
      ∀ K : Act → World → Prop, Shut (∀ v w', (f i).P v w' → (i ≠ a → Below w.heap.size w w') → (i = a → MkFr w w' ∧ J v w') → K ((putAll a0 ds vs).put o.dst v) w') →
        if Region.wanted o (yielded ops (putAll a0 ds vs).tmps) = true then Oper.wp P o (putAll a0 ds vs) w K Q else K ((putAll a0 ds vs).put o.dst undef) w)
    (hend : ∀ vs w, vs.length = n → MkFr w0 w → (∀ i, i < n → (f i).P (vs.getD i undef) w) → J (vs.getD a undef) w →
      wpAny P .any ops Q s ((List.replicate n true ++ List.replicate s false).toArray) (putAll a0 ds vs) w) :
    ∀ (c : Nat) (L : Array Bool) (vs : List Value) (w : World), (L.toList.take n).count false = c → L.size = n + s → (∀ j, n ≤ j → j < n + s → L.getD j true = false) → Closed .any ops L → vs.length = n → MkFr w0 w →
      (∀ i, i < n → L.getD i false = true → (f i).P (vs.getD i undef) w) → (L.getD a false = false → Below w0.heap.size w0 w) → (L.getD a false = true → J (vs.getD a undef) w) → wpAny P .any ops Q (c + s) L (putAll a0 ds vs) w := by
  intro c
  induction c with
  | zero =>
    intro L vs w hc hs hst hcl hvl hb hf hj0 hj1
    have hall : ∀ i, i < n → L.getD i false = true := fun i hi => by
      have hil : i < L.size := by omega
      cases hb : L[i] with
      | true => simp [Array.getD, hil, hb]
      | false =>
        exfalso
        have hmem : false ∈ L.toList.take n := by
          rw [List.mem_take_iff_getElem]
          exact ⟨i, by simp; omega, by simpa using hb⟩
        have := List.count_pos_iff.2 hmem
        omega
    have hL : L = (List.replicate n true ++ List.replicate s false).toArray := by
      apply Array.ext
      · simp [hs]
      · intro i hi hi2
        by_cases h : i < n
        · have := hall i h
          simp only [Array.getD, hi] at this
          simp [h]
          simpa using this
        · have := hst i (by omega) (by omega)
          simp only [Array.getD, hi] at this
          simp [List.getElem_append, h]
          simpa using this
    rw [Nat.zero_add, hL]
    exact hend vs w hvl hb (fun i hi => hf i hi (hall i hi)) (hj1 (hall a han))
  | succ c ih =>
    intro L vs w hc hs hst hcl hvl hb hf hj0 hj1
    have hnot : ¬ ∀ i, i < n → L.getD i false = true := fun hall => by
      have : (L.toList.take n).count false = 0 := by
        rw [List.count_eq_zero]
        intro hmem
        rw [List.mem_take_iff_getElem] at hmem
        obtain ⟨i, hi, hif⟩ := hmem
        have hi' : i < L.size := by simp at hi; omega
        have := hall i (by simp at hi; omega)
        have h2 : L.getD i false = L[i] := by simp [Array.getD, hi']
        rw [h2] at this
        rw [Array.getElem_toList] at hif
        rw [hif] at this
        cases this
      omega
    rw [show c + 1 + s = (c + s) + 1 by omega]
    refine ⟨fun hr => ?_, fun i hi => ?_⟩
    · exfalso
      apply hnot
      intro i hi
      have := all_listed hd (by rw [hs, hsize]) hr i (by omega)
      have hil : i < L.size := by omega
      simpa [Array.getD, hil] using this
    · obtain ⟨hun, o, ho, hall⟩ := mem_ready.1 hi
      have hio : i < ops.size := (Array.getElem?_eq_some_iff.1 ho).1
      have hil : i < L.size := by omega
      have hin : i < n := by
        rcases Nat.lt_or_ge i n with h | h
        · exact h
        · exfalso
          apply hnot
          intro j hj
          have h1 := List.all_eq_true.1 hsw i (by simpa using hio)
          simp only [Bool.or_eq_true, decide_eq_true_eq] at h1
          rcases h1 with h1 | h1
          · omega
          · exact reach_listed hcl 6 i o j ho hall (List.all_eq_true.1 h1 j (by simpa using hj))
      have hdst : o.dst = ds[i]? := by
        have h1 := List.all_eq_true.1 hds i (by simpa using hin)
        rw [ho] at h1
        simpa using h1
      have hdi : ds[i]? = some (ds[i]'(by omega)) := by simp
      have hia : i = a ∨ reach .any ops 8 a i = true → L.getD a false = false := fun h => by
        rcases h with rfl | h
        · simpa [Array.getD, hil] using hun
        · cases hla : L.getD a false with
          | false => rfl
          | true =>
            exfalso
            have hoa : ops[a]? = some (ops[a]'(by omega)) := by simp
            have := reach_listed hcl 8 a _ i hoa (fun e he hb => hcl a _ hoa hla e he hb) h
            have h2 : L.getD i false = L[i] := by simp [Array.getD, hil]
            rw [h2] at this
            have h3 : L.getD i true = L[i] := by simp [Array.getD, hil]
            rw [h3, this] at hun
            cases hun
      refine wpOp_step ho (fun K hK => hstep i o hin ho vs w hvl hb (fun h => hj0 (hia h)) (fun e he hbd => ?_) K (fun v w' hv hb' hp => ?_))
      · have hl := hall e he hbd
        have hlt : e.on < n := by
          rcases Nat.lt_or_ge e.on n with h | h
          · exact h
          · exfalso
            rcases Nat.lt_or_ge e.on (n + s) with h2 | h2
            · have := hst e.on h h2
              have hl2 : e.on < L.size := by omega
              simp only [Array.getD, hl2] at this hl
              simp at this hl
              rw [this] at hl; cases hl
            · have : ¬ e.on < L.size := by omega
              simp [Array.getD, this] at hl
        exact hf e.on hlt hl
      · apply hK
        rw [hdst, hdi, putAll_set hdn hdi (by omega)]
        have hset : ∀ j, i ≠ j → (L.setIfInBounds i true).getD j false = L.getD j false := fun j h => getD_set_ne false h
        have hap : MkFr w w' := by
          by_cases e : i = a
          · exact (hp e).1
          · exact MkFr.of_below (hb' e)
        refine ih (L.setIfInBounds i true) (vs.set i v) w' ?_ (by simpa using hs) ?_ ?_ (by simpa using hvl) (hb.trans hap) ?_ ?_ ?_
        · have hf' : (L.toList.take n)[i]'(by simp; omega) = false := by
            simp only [List.getElem_take]
            simpa [Array.getD, hil] using hun
          have := count_false_set (L.toList.take n) i (by simp; omega) hf'
          rw [Array.toList_setIfInBounds, ← List.take_set] at *
          omega
        · intro j hj hj2
          rw [getD_set_ne true (by omega)]
          exact hst j hj hj2
        · intro j o' hjo hjl e he hbd
          by_cases hji : i = j
          · subst hji
            rw [ho] at hjo
            cases hjo
            exact getD_set_true (hall e he hbd)
          · rw [hset j hji] at hjl
            exact getD_set_true (hcl j o' hjo hjl e he hbd)
        · intro j hj hjl
          by_cases hji : i = j
          · subst hji
            rw [getD_set_list_self (by omega)]
            exact hv
          · rw [hset j hji] at hjl
            rw [getD_set_list hji]
            by_cases e : i = a
            · cases hr : reach .any ops 8 j a with
              | false => exact hst0 j hj hr (fun h => hji (e.trans h.symm)) _ _ _ (hf j hj hjl) hap
              | true =>
                exfalso
                have hjo : ops[j]? = some (ops[j]'(by omega)) := by simp
                have h1 := reach_listed hcl 8 j _ a hjo (fun e' he' hb' => hcl j _ hjo hjl e' he' hb') hr
                rw [← e] at h1
                have h2 : L.getD i false = L[i] := by simp [Array.getD, hil]
                rw [h2] at h1
                have h3 : L.getD i true = L[i] := by simp [Array.getD, hil]
                rw [h3, h1] at hun
                cases hun
            · exact (f j).st _ _ _ (hf j hj hjl) (hb' e)
        · intro hla
          by_cases hji : i = a
          · subst hji
            exfalso
            have h2 : i < (L.setIfInBounds i true).size := by simpa using hil
            simp [Array.getD, hil] at hla
          · rw [hset a hji] at hla
            have := hb' hji
            exact (hj0 hla).trans (this.mono (hj0 hla).size)
        · intro hla
          by_cases hji : i = a
          · subst hji
            rw [getD_set_list_self (by omega)]
            exact (hp rfl).2
          · rw [hset a hji] at hla
            rw [getD_set_list hji]
            exact hJ _ _ _ (hj1 hla) (hb' hji)

theorem wp_region_mk {P : Program} {ops : Array Oper} {Q : Exit → Act → World → Prop} {id : Nat} {a0 : Act} {w0 : World} (n s : Nat) (ds : List Tmp) (vs0 : List Value) (f : Nat → TFact) (a : Nat) (J : Value → World → Prop) (hJ : ∀ v w w', J v w → Below w.heap.size w w' → J v w') (hm : P.follows .mixedOrders = true)
    (hsize : ops.size = n + s) (hd : edgesDown .any ops = true) (hsw : storesWait .any ops n = true) (hdn : ds.Nodup) (hlen : ds.length = n) (hds : dstsAre ops n ds = true) (hv0 : vs0.length = n) (han : a < n) (hst0 : ∀ j, j < n → reach .any ops 8 j a = false → j ≠ a → ∀ v w w', (f j).P v w → MkFr w w' → (f j).P v w')
    (he : a0 = putAll a0 ds vs0)
    (hstep : ∀ i o, i < n → ops[i]? = some o → ∀ vs w, vs.length = n → MkFr w0 w → (i = a ∨ reach .any ops 8 a i = true → Below w0.heap.size w0 w) → (∀ e ∈ o.after, Region.binds .any e = true → (f e.on).P (vs.getD e.on undef) w) →
      ∀ K : Act → World → Prop, Shut (∀ v w', (f i).P v w' → (i ≠ a → Below w.heap.size w w') → (i = a → MkFr w w' ∧ J v w') → K ((putAll a0 ds vs).put o.dst v) w') →
        if Region.wanted o (yielded ops (putAll a0 ds vs).tmps) = true then Oper.wp P o (putAll a0 ds vs) w K Q else K ((putAll a0 ds vs).put o.dst undef) w)
    (hend : ∀ vs w, vs.length = n → MkFr w0 w → (∀ i, i < n → (f i).P (vs.getD i undef) w) → J (vs.getD a undef) w →
      wpAny P .any ops Q s ((List.replicate n true ++ List.replicate s false).toArray) (putAll a0 ds vs) w) : (Code.region id ops true).wp P Q a0 w0 := by
  refine wp_region_any hm ?_
  have := wpAny_mk (a0 := a0) (w0 := w0) n s hsize ds f a J hJ hd hsw hdn hlen hds han hst0 hstep hend n (Array.replicate ops.size false) vs0 w0.drew
    (by rw [hsize]; simp [List.take_replicate, Nat.min_eq_left (Nat.le_add_right n s)]) (by simp [hsize]) (by intro j hj hj2; simp [Array.getD, hsize, hj2]) (by intro j o _ h; simp [Array.getD] at h) hv0 ((MkFr.refl _).drew)
    (by intro i _ h; simp [Array.getD] at h) (fun _ => (Below.refl _ _).drew) (by intro h; simp [Array.getD] at h)
  rw [← he, ← hsize] at this
  exact this

end Go.Proofs.YtckkpolikdnilaaGreatDoor
/- elenchusref05.SameInts of numbers that are the same. -/
namespace Go.Proofs.YtckkpolikdnilaaGreatDoor
open Go.RowKit Big Go.WideMaps

theorem NumsTold.at {w : World} {v : Value} {l : List Int} (h : NumsTold w v l) (i : Nat) (hi : i < l.length) : ∃ b o c q d g, v = .slice (some ⟨b, o, none⟩) l.length c ∧ b < w.heap.size ∧ w.cell? ⟨b, o + i * 2, none⟩ = some (.bool (decide (l[i] < 0))) ∧ w.cell? ⟨b, o + i * 2 + 1, none⟩ = some (.slice q d g) ∧ IntAt w (.agg #[.bool (decide (l[i] < 0)), .slice q d g]) l[i] := by
  obtain ⟨p, c, rfl, -, -, -, h4⟩ := h
  obtain ⟨b, o, rfl, hb, hc⟩ := h4 (by omega)
  obtain ⟨s, k0, k1, hr⟩ := hc i hi
  obtain ⟨q, d, g, e, hr'⟩ := hr.shape
  have e2 : s = .slice q d g := by
    injection e with e
    simp only [Array.mk.injEq, List.cons.injEq, and_true, true_and] at e
    exact e
  subst e2
  exact ⟨b, o, c, q, d, g, rfl, hb, k0, k1, hr⟩
set_option maxRecDepth 100000 in
set_option maxHeartbeats 6400000 in
theorem SameInts_true (va vb : Value) (l : List Int) (w : World) (ha : NumsTold w va l) (hb : NumsTold w vb l) : Calls Tryz.prog 13 #[va, vb] w (RBool true w) := by
  have Ha := hid ha; have Hb := hid hb
  obtain ⟨pa, ca, rfl, a1, a2, -, -⟩ := ha
  obtain ⟨pb, cb, rfl, b1, b2, -, -⟩ := hb
  unfold maxLen at a2 b2
  obtain ⟨L, hL⟩ : ∃ L, L = l.length := ⟨_, rfl⟩
  have HL := hid hL
  rw [← hL] at a1 b1 Ha Hb ⊢
  clear hL
  go_enter Tryz.func13, Tryz.ntmps13
  go_wp2_with fail
  go_loopw [13] (fun i wr => ∃ k : Nat, k ≤ L ∧ i = .int .i64 (k : Nat) ∧ Hid (Below w.heap.size w wr)) (fun i _ => L - (intOf i).toNat)
  case atStart => exact ⟨0, Nat.zero_le _, rfl, hid (Below.refl _ _)⟩
  case round =>
    obtain ⟨k, hk, rfl, HB⟩ := hrel
    by_cases hlt : k < L
    · have hkl : k < l.length := by rw [← HL.out]; exact hlt
      have hlt' : (k : Int) < (L : Int) := by omega
      have hA := Ha.out.at k hkl
      obtain ⟨ba, oa, xa, qa, da, ga, ea, a5, m0, m1, ma⟩ := hA
      have hB := Hb.out.at k hkl
      obtain ⟨bb, ob, xb, qb, db, gb, eb, b5, n0, n1, nb⟩ := hB
      injection ea with ea1 ea2 ea3
      injection eb with eb1 eb2 eb3
      subst ea1 ea3 eb1 eb3
      clear ea2 eb2
      have Hsame := hid (fun W (hw : Below wr.heap.size wr W) => SameInt_same _ _ l[k] W (ma.below (bel_go hw HB.out)) (nb.below (bel_go hw HB.out)))
      generalize decide (l[k] < 0) = sg at *
      have HS : Hid (∀ w', Below wr.heap.size wr w' → w'.cell? ⟨ba, oa + k * 2, none⟩ = some (.bool sg) ∧ w'.cell? ⟨ba, oa + k * 2 + 1, none⟩ = some (.slice qa da ga) ∧ w'.cell? ⟨bb, ob + k * 2, none⟩ = some (.bool sg) ∧ w'.cell? ⟨bb, ob + k * 2 + 1, none⟩ = some (.slice qb db gb) ∧ Below wr.heap.size wr w') := hid fun w' hb =>
        ⟨((bel_go hb HB.out).cell (p := ⟨ba, oa + k * 2, none⟩) a5).trans m0, ((bel_go hb HB.out).cell (p := ⟨ba, oa + k * 2 + 1, none⟩) a5).trans m1, ((bel_go hb HB.out).cell (p := ⟨bb, ob + k * 2, none⟩) b5).trans n0, ((bel_go hb HB.out).cell (p := ⟨bb, ob + k * 2 + 1, none⟩) b5).trans n1, hb⟩
      clear m0 m1 n0 n1 ma nb Ha Hb a5 b5
      go_upto_region 6 with fail
      go_region_held3 (fun w' => w'.cell? ⟨ba, oa + k * 2, none⟩ = some (.bool sg) ∧ w'.cell? ⟨ba, oa + k * 2 + 1, none⟩ = some (.slice qa da ga) ∧ w'.cell? ⟨bb, ob + k * 2, none⟩ = some (.bool sg) ∧ w'.cell? ⟨bb, ob + k * 2 + 1, none⟩ = some (.slice qb db gb) ∧ Below wr.heap.size wr w')
        (first | exact HS.out _ (Below.drew (Below.refl _ _)) | (refine HS.out _ (bel_go hb1 ?_); go_split_ands; assumption))
        (first | (go_at_call 14; (with_reducible refine (Hsame.out _ (by go_split_ands; assumption)).mono ?_); rintro e w1 ⟨rfl, hb1⟩))
      go_split_ands
      have HBb := hid (show Below wr.heap.size wr w1 by assumption)
      go_wp2_with fail
      go_roundw
      case rel => exact ⟨k + 1, by omega, by go_num, hid (bel_go HBb.out HB.out)⟩
      case measure => simp [intOf]; omega
    · obtain rfl : k = L := by omega
      go_wp2_with fail
      go_ret
      exact ⟨rfl, HB.out⟩
end Go.Proofs.YtckkpolikdnilaaGreatDoor
/- elenchuslaw05.fixed answers true. -/
namespace Go.Proofs.YtckkpolikdnilaaGreatDoor
open Go.RowKit Big Go.WideMaps

theorem IntAt.parts5 {w : World} {v : Value} {z : Int} (h : IntAt w v z) : ∃ b p n c, v = .agg #[.bool b, .slice p n c] ∧ IntAt w (.agg #[.bool b, .slice p n c]) z := by
  obtain ⟨p, n, c, e, h⟩ := h.shape
  exact ⟨_, p, n, c, e, h⟩
theorem NumsIn.one {w : World} {d : Bool} {s : Value} {z : Int} {t : TypeId} (h : RawAt w (.agg #[.bool d, s]) z) : NumsIn (w.alloc (.cells #[.bool d, s] t)) (.slice (some ⟨w.heap.size, 0, none⟩) 1 1) [z] := by
  have hn := heap_alloc_new w (.cells #[.bool d, s] t)
  refine ⟨_, 1, rfl, by simp, by simp [maxLen], by simp, fun _ => ⟨w.heap.size, 0, rfl, by rw [size_alloc]; omega, fun i hi => ?_⟩⟩
  obtain rfl : i = 0 := by simp at hi; omega
  refine ⟨d, s, ?_, ?_, h.below (below1 _ _)⟩
  · rw [cell_of_row _ _ _ _ _ _ hn]; rfl
  · rw [cell_of_row _ _ _ _ _ _ hn]; rfl
theorem RowsIn.one {w : World} {a s : Value} {d : Bool} {x : List Int × Int} {t : TypeId} (h : RowIs w a d s x) : RowsIn (w.alloc (.cells #[a, .bool d, s] t)) (.slice (some ⟨w.heap.size, 0, none⟩) 1 1) [x] := by
  have hn := heap_alloc_new w (.cells #[a, .bool d, s] t)
  refine ⟨_, 1, rfl, by simp, by simp [maxLen], by simp, fun _ => ⟨w.heap.size, 0, rfl, by rw [size_alloc]; omega, fun i hi => ?_⟩⟩
  obtain rfl : i = 0 := by simp at hi; omega
  refine ⟨a, d, s, ?_, ?_, ?_, h.1.below (below1 _ _), h.2.below (below1 _ _)⟩
  · rw [cell_of_row _ _ _ _ _ _ hn]; rfl
  · rw [cell_of_row _ _ _ _ _ _ hn]; rfl
  · rw [cell_of_row _ _ _ _ _ _ hn]; rfl
theorem IAt.one5 (w : World) (z : Int) (t : TypeId) : IAt (w.alloc (.cells #[.int .i64 z] t)) (.slice (some ⟨w.heap.size, 0, none⟩) 1 1) [z] := by
  have hn := heap_alloc_new w (.cells #[.int .i64 z] t)
  refine ⟨_, 1, rfl, by simp, by simp [maxLen], by simp, fun _ => ⟨w.heap.size, 0, rfl, by rw [size_alloc]; omega, fun i hi => ?_⟩⟩
  obtain rfl : i = 0 := by simp at hi; omega
  rw [cell_of_row _ _ _ _ _ _ hn]; rfl
def fixTms : List Tm := [⟨2, [], 0, 0⟩, ⟨5, [0], 0, 0⟩]
theorem fixTms_in (w : World) (t t' : TypeId) : TmsIn ((w.alloc (.cells #[.int .i64 0] t)).alloc (.cells #[.int .i64 2, .slice none 0 0, .bool false, .slice none 0 0, .int .i64 0, .int .i64 5, .slice (some ⟨w.heap.size, 0, none⟩) 1 1, .bool false, .slice none 0 0, .int .i64 0] t')) (.slice (some ⟨w.heap.size + 1, 0, none⟩) 2 2) fixTms := by
  have hz := size_alloc w (.cells #[.int .i64 0] t)
  have hn := heap_alloc_new (w.alloc (.cells #[.int .i64 0] t)) (.cells #[.int .i64 2, .slice none 0 0, .bool false, .slice none 0 0, .int .i64 0, .int .i64 5, .slice (some ⟨w.heap.size, 0, none⟩) 1 1, .bool false, .slice none 0 0, .int .i64 0] t')
  rw [hz] at hn
  have hi := (IAt.one5 w 0 t).below (below1 _ (.cells #[.int .i64 2, .slice none 0 0, .bool false, .slice none 0 0, .int .i64 0, .int .i64 5, .slice (some ⟨w.heap.size, 0, none⟩) 1 1, .bool false, .slice none 0 0, .int .i64 0] t'))
  refine ⟨_, 2, rfl, by decide, by simp [maxLen], by simp, fun _ => ⟨w.heap.size + 1, 0, rfl, by rw [size_alloc, hz]; omega, fun i hi' => ?_⟩⟩
  have hz0 : ∀ W, RawAt W (.agg #[.bool false, .slice none 0 0]) 0 := fun W => (IntAt.zero W).raw (by show sz Big.W 0 ≤ _; rw [sz_zero]; omega)
  rcases i with _ | _ | i
  · refine ⟨_, _, _, _, _, by rw [cell_of_row _ _ _ _ _ _ hn]; rfl, by rw [cell_of_row _ _ _ _ _ _ hn]; rfl, by rw [cell_of_row _ _ _ _ _ _ hn]; rfl, by rw [cell_of_row _ _ _ _ _ _ hn]; rfl, by rw [cell_of_row _ _ _ _ _ _ hn]; rfl, none, 0, false, none, 0, 0, rfl, ⟨none, 0, rfl, by simp [fixTms], by simp [maxLen], fun _ => rfl, fun h => absurd h (by simp [fixTms])⟩, hz0 _⟩
  · refine ⟨_, _, _, _, _, by rw [cell_of_row _ _ _ _ _ _ hn]; rfl, by rw [cell_of_row _ _ _ _ _ _ hn]; rfl, by rw [cell_of_row _ _ _ _ _ _ hn]; rfl, by rw [cell_of_row _ _ _ _ _ _ hn]; rfl, by rw [cell_of_row _ _ _ _ _ _ hn]; rfl, _, 1, false, none, 0, 0, rfl, hi, hz0 _⟩
  · exact absurd hi' (by simp [fixTms])
theorem fixTms_check : plCheck [] fixTms = 0 := by kernel_rfl
theorem TabsIn.nil (w : World) : TabsIn w (.slice none 0 0) [] := ⟨none, 0, rfl, by simp, by simp [maxLen], fun _ => rfl, fun h => absurd h (by simp)⟩
set_option maxRecDepth 100000 in
set_option maxHeartbeats 6400000 in
theorem fixed5_any (w : World) (htab : Tb w.heap.size w) : Calls Tryz.prog 8 #[] w (RBool true w) := by
  have Htab := hid htab
  clear htab
  go_enter Tryz.func8, Tryz.ntmps8
  go_wp2_with fail
  refine (ROf_any 3 _ (by decide) (by decide)).mono ?_
  rintro e w1 ⟨v1, rfl, i1, b1⟩
  obtain ⟨d1, p1, n1, c1, rfl, i1⟩ := i1.parts5
  have h1 := NumsIn.one (t := 44) (i1.raw (by decide +kernel))
  have b2 := bel_go (below1 w1 (.cells #[.bool d1, .slice p1 n1 c1] 44)) b1
  have hgs := size_alloc w1 (.cells #[.bool d1, .slice p1 n1 c1] 44)
  generalize hW : w1.alloc (.cells #[.bool d1, .slice p1 n1 c1] 44) = w2 at *
  have H1 := hid h1; have B2 := hid b2
  clear h1 b2 b1 i1
  go_wp2_with fail
  refine (ROf_any 7 _ (by decide) (by decide)).mono ?_
  rintro e w3 ⟨v3, rfl, i3, b3⟩
  obtain ⟨d3, p3, n3, c3, rfl, i3⟩ := i3.parts5
  have h3 := RowsIn.one (t := 63) (x := ([3], 7)) ⟨H1.out.below b3, i3.raw (by decide +kernel)⟩
  have b4 := bel_go (below1 w3 (.cells #[.slice (some ⟨w1.heap.size, 0, none⟩) 1 1, .bool d3, .slice p3 n3 c3] 63)) (bel_go b3 B2.out)
  generalize hW2 : w3.alloc (.cells #[.slice (some ⟨w1.heap.size, 0, none⟩) 1 1, .bool d3, .slice p3 n3 c3] 63) = w4 at *
  have H3 := hid h3; have B4 := hid b4
  clear h3 b4 b3 i3
  go_wp2_with fail
  refine (ROf_any 1 _ (by decide) (by decide)).mono ?_
  rintro e w5 ⟨v5, rfl, i5, b5⟩
  obtain ⟨d5, p5, n5, c5, rfl, i5⟩ := i5.parts5
  go_upto_region 2 with fail
  have b6 := below1 w5 (.cells #[.slice (some ⟨w3.heap.size, 0, none⟩) 1 1, .bool d5, .slice p5 n5 c5] 46)
  have x6 := heap_alloc_new w5 (.cells #[.slice (some ⟨w3.heap.size, 0, none⟩) 1 1, .bool d5, .slice p5 n5 c5] 46)
  have z6 := size_alloc w5 (.cells #[.slice (some ⟨w3.heap.size, 0, none⟩) 1 1, .bool d5, .slice p5 n5 c5] 46)
  generalize hW6 : World.alloc w5 _ = w6 at *
  have HT := hid (show TabIs w6 (.slice (some ⟨w3.heap.size, 0, none⟩) 1 1) d5 (.slice p5 n5 c5) ⟨[([3], 7)], 1⟩ from ⟨(H3.out.below b5).below b6, (i5.raw (by decide +kernel)).below b6⟩)
  have B6 := hid (bel_go b6 (bel_go b5 B4.out))
  obtain ⟨gt, hgt⟩ : ∃ gt, gt = w5.heap.size := ⟨_, rfl⟩
  rw [← hgt] at x6 z6 ⊢
  have X6 := hid x6; have Z6 := hid z6
  clear b5 b6 i5 x6 z6 hgt hW6 H1 H3 B2 B4
  go_upto_region 3 with fail
  have b7 := below1 w6 (.cells #[.string ⟨#[102]⟩, .int .i64 1, .int .i64 2] 39)
  have x7 := heap_alloc_new w6 (.cells #[.string ⟨#[102]⟩, .int .i64 1, .int .i64 2] 39)
  have z7 := size_alloc w6 (.cells #[.string ⟨#[102]⟩, .int .i64 1, .int .i64 2] 39)
  generalize hW7 : World.alloc w6 _ = w7 at *
  obtain ⟨gf, hgf⟩ : ∃ gf, gf = w6.heap.size := ⟨_, rfl⟩
  rw [← hgf] at x7 z7 ⊢
  have hgtf : gt < gf := by have := Z6.out; omega
  have HT7 := hid (HT.out.below b7)
  have B7 := hid (bel_go b7 B6.out)
  have X7 := hid x7; have Z7 := hid z7
  have XT := hid ((b7.block gt (by have := Z6.out; omega)).trans X6.out)
  clear b7 x7 z7 hgf HT B6 X6 hW7
  have htm := fixTms_in w7 3 71
  have b9 : Below w7.heap.size w7 ((w7.alloc (.cells #[.int .i64 0] 3)).alloc (.cells #[.int .i64 2, .slice none 0 0, .bool false, .slice none 0 0, .int .i64 0, .int .i64 5, .slice (some ⟨w7.heap.size, 0, none⟩) 1 1, .bool false, .slice none 0 0, .int .i64 0] 71)) := (below1 w7 _).alloc (by simp) _
  generalize hW9 : (w7.alloc (.cells #[.int .i64 0] 3)).alloc (.cells #[.int .i64 2, .slice none 0 0, .bool false, .slice none 0 0, .int .i64 0, .int .i64 5, .slice (some ⟨w7.heap.size, 0, none⟩) 1 1, .bool false, .slice none 0 0, .int .i64 0] 71) = w9 at *
  have hst : Steps ⟨[], [], []⟩ fixTms := steps_of_news fixTms ⟨[], [], []⟩ (by decide) (by kernel_rfl)
  have HE := hid (Eval_ok _ _ _ [] fixTms [] w9 (tab_later Htab.out (bel_go b9 B7.out)) (SyIn.nil w9) htm (TabsIn.nil w9) (by decide) (by decide) fixTms_check (by decide) (by decide) (fit_at (N := 1) (Nat.le_refl _) (fun t h => by cases h) hst (by decide +kernel) (by decide) (by decide)))
  rw [show vlEval [] [] fixTms [] = [0, 1] from by decide] at HE
  have B9 := hid b9
  have XF9 := hid ((b9.block gf (by have := Z7.out; omega)).trans X7.out)
  have XT9 := hid ((b9.block gt (by have := Z7.out; omega)).trans XT.out)
  have HT9 := hid (HT7.out.below b9)
  have hg9 : gf < w9.heap.size := by have := b9.size; have := Z7.out; omega
  clear htm hst b9
  go_wp2_with fail
  refine HE.out.mono ?_
  rintro e w10 ⟨vl, rfl, hin, -, b10⟩
  have hat := hin.at 1 (by decide)
  obtain ⟨b5, o5, c5', x5, q5, d5', g5, rfl, hb5, n0, n1, hr⟩ := hat
  have n0 : w10.cell? ⟨b5, o5 + 2, none⟩ = some (.bool x5) := n0
  have n1 : w10.cell? ⟨b5, o5 + 3, none⟩ = some (.slice q5 d5' g5) := n1
  have hr : RawAt w10 (.agg #[.bool x5, .slice q5 d5' g5]) 1 := hr
  have hxf := rec3_cells ((b10.block gf hg9).trans XF9.out)
  have hxt := rec3_cells ((b10.block gt (by omega)).trans XT9.out)
  have HT10 := hid (HT9.out.below b10)
  have HW10 := hid (bel_go b10 (bel_go B9.out B7.out))
  have hg10 : gf < w10.heap.size := by have := b10.size; omega
  have HR := hid hr
  have Htl := hid (fun (w' : World) (v : Value) (z y : Int) (hb : Below w10.heap.size w10 w') (hn : NumsIn w' v [z]) (hy : vlTell 2 ⟨[([3], 7)], 1⟩ [z] = y) => (by rw [← hy]; exact Tell_any (.string ⟨#[102]⟩) ⟨_, rfl⟩ 1 2 _ _ _ _ _ [z] w' (HT10.out.below hb) hn : Calls Tryz.prog 15 #[.agg #[.string ⟨#[102]⟩, .int .i64 1, .int .i64 2], .agg #[.slice (some ⟨w3.heap.size, 0, none⟩) 1 1, .bool d5, .slice p5 n5 c5], v] w' (RInt y w')))
  have Hsg := hid (fun (w' : World) (hb : Below w10.heap.size w10 w') => RSign_any _ 1 w' (HR.out.below hb))
  have HS : Hid (∀ w', Below w10.heap.size w10 w' → w'.cell? ⟨gf, 0, none⟩ = some (.string ⟨#[102]⟩) ∧ w'.cell? ⟨gf, 1, none⟩ = some (.int .i64 1) ∧ w'.cell? ⟨gf, 2, none⟩ = some (.int .i64 2) ∧ w'.cell? ⟨gt, 0, none⟩ = some (.slice (some ⟨w3.heap.size, 0, none⟩) 1 1) ∧ w'.cell? ⟨gt, 1, none⟩ = some (.bool d5) ∧ w'.cell? ⟨gt, 2, none⟩ = some (.slice p5 n5 c5) ∧ w'.cell? ⟨b5, o5 + 2, none⟩ = some (.bool x5) ∧ w'.cell? ⟨b5, o5 + 3, none⟩ = some (.slice q5 d5' g5) ∧ Below w10.heap.size w10 w') := hid fun w' hb =>
    ⟨(hb.cell (p := ⟨gf, 0, none⟩) hg10).trans hxf.1, (hb.cell (p := ⟨gf, 1, none⟩) hg10).trans hxf.2.1, (hb.cell (p := ⟨gf, 2, none⟩) hg10).trans hxf.2.2, (hb.cell (p := ⟨gt, 0, none⟩) (by show gt < _; omega)).trans hxt.1, (hb.cell (p := ⟨gt, 1, none⟩) (by show gt < _; omega)).trans hxt.2.1, (hb.cell (p := ⟨gt, 2, none⟩) (by show gt < _; omega)).trans hxt.2.2, (hb.cell (p := ⟨b5, o5 + 2, none⟩) hb5).trans n0, (hb.cell (p := ⟨b5, o5 + 3, none⟩) hb5).trans n1, hb⟩
  have m0 := hid True.intro
  clear n0 n1 hr hxf hxt hin b10 HT10 HT9 XF9 XT9 HE B9 B7 X7 XT HT7 HR Htab hW hW2 hW9 hgs
  go_upto_region 4 with fail
  go_region_held3 (fun w' => w'.cell? ⟨gf, 0, none⟩ = some (.string ⟨#[102]⟩) ∧ w'.cell? ⟨gf, 1, none⟩ = some (.int .i64 1) ∧ w'.cell? ⟨gf, 2, none⟩ = some (.int .i64 2) ∧ w'.cell? ⟨gt, 0, none⟩ = some (.slice (some ⟨w3.heap.size, 0, none⟩) 1 1) ∧ w'.cell? ⟨gt, 1, none⟩ = some (.bool d5) ∧ w'.cell? ⟨gt, 2, none⟩ = some (.slice p5 n5 c5) ∧ w'.cell? ⟨b5, o5 + 2, none⟩ = some (.bool x5) ∧ w'.cell? ⟨b5, o5 + 3, none⟩ = some (.slice q5 d5' g5) ∧ Below w10.heap.size w10 w')
    (first | exact HS.out _ (Below.drew (Below.refl _ _)) | (refine HS.out _ (bel_go hb ?_); go_split_ands; assumption) | (refine HS.out _ (bel_go (below1 _ _) ?_); go_split_ands; assumption))
    (first
      | (go_at_call 26; refine (Hsg.out _ (by go_split_ands; assumption)).mono ?_; rintro e wa ⟨rfl, hb⟩)
      | (go_at_call 22; (fail_if_success have _t := m1); refine (ROf_any 3 _ (by decide) (by decide)).mono ?_; rintro e wb ⟨u1, rfl, j1, hb⟩; have j1p := j1.parts5; obtain ⟨e1, s1, l1, k1, rfl, j1⟩ := j1p; have m1 := hid True.intro)
      | (go_at_call 15; have _t := m1; (fail_if_success have _t := m2); refine (Htl.out _ _ 3 7 (by go_split_ands; assumption) (NumsIn.one (j1.raw (by decide +kernel))) (by decide)).mono ?_; rintro e wc ⟨u2, rfl, j2, hb⟩; have m2 := hid True.intro)
      | (go_at_call 22; have _t := m2; (fail_if_success have _t := m3); refine (ROf_any 7 _ (by decide) (by decide)).mono ?_; rintro e wd ⟨u3, rfl, j3, hb⟩; have j2 := j2.below hb; have m3 := hid True.intro)
      | (go_at_call 14; have _t := m3; (fail_if_success have _t := m4); refine (SameInt_same _ _ 7 _ j2 j3).mono ?_; rintro e we ⟨rfl, hb⟩; have m4 := hid True.intro)
      | (go_at_call 22; have _t := m4; (fail_if_success have _t := m5); refine (ROf_any 4 _ (by decide) (by decide)).mono ?_; rintro e wf ⟨u5, rfl, j5, hb⟩; have j5p := j5.parts5; obtain ⟨e5, s5, l5, k5, rfl, j5⟩ := j5p; have m5 := hid True.intro)
      | (go_at_call 15; have _t := m5; (fail_if_success have _t := m6); refine (Htl.out _ _ 4 1 (by go_split_ands; assumption) (NumsIn.one (j5.raw (by decide +kernel))) (by decide)).mono ?_; rintro e wg ⟨u6, rfl, j6, hb⟩; have m6 := hid True.intro)
      | (go_at_call 22; have _t := m6; (fail_if_success have _t := m7); refine (ROf_any 1 _ (by decide) (by decide)).mono ?_; rintro e wh ⟨u7, rfl, j7, hb⟩; have j6 := j6.below hb; have m7 := hid True.intro)
      | (go_at_call 14; have _t := m7; refine (SameInt_same _ _ 1 _ j6 j7).mono ?_; rintro e wi ⟨rfl, hb⟩))
  all_goals
    rename_i hHeld
    go_split_ands
    have HBf := hid (show Below w10.heap.size w10 wi by assumption)
    clear hb
    go_wp2_with fail
    go_ret
    exact ⟨rfl, bel_go HBf.out HW10.out⟩
end Go.Proofs.YtckkpolikdnilaaGreatDoor
/- elenchusref05.Few: what it says of a model that it takes. -/
namespace Go.Proofs.YtckkpolikdnilaaGreatDoor
open Go.RowKit Big Go.WideMaps

def MFew (ts : List Tbx) : Prop := ts.length ≤ 300 ∧ ∀ t ∈ ts, t.fit
def RFewM (ts : List Tbx) (w : World) (e : Ending) (w' : World) : Prop := ∃ b, e = .returned (.bool b) ∧ (b = true → MFew ts) ∧ Below w.heap.size w w'
theorem LsIn.at {α : Type} {k : Nat} {Q : World → List Value → α → Prop} {w : World} {v : Value} {l : List α} (h : LsIn k Q w v l) (i : Nat) (hi : i < l.length) : ∃ b o c cs, v = .slice (some ⟨b, o, none⟩) l.length c ∧ b < w.heap.size ∧ (∀ j u, cs[j]? = some u → w.cell? ⟨b, o + i * k + j, none⟩ = some u) ∧ Q w cs l[i] := by
  obtain ⟨p, c, rfl, -, -, -, h4⟩ := h
  obtain ⟨b, o, rfl, hb, hc⟩ := h4 (by omega)
  obtain ⟨cs, k1, k2⟩ := hc i hi
  exact ⟨b, o, c, cs, rfl, hb, k1, k2⟩
end Go.Proofs.YtckkpolikdnilaaGreatDoor
/- Symbols, terms, rows and bytes that come in as data, by value; how long names may be; PoolNil of what comes in. -/
namespace Go.Proofs.YtckkpolikdnilaaGreatDoor
open Go.ChangeShapes Go.WideShapes Go.ChangeAt Go.RowKit Go.Deep Go.Joins Big

theorem cellsU8 : Tryz.prog.cellsOf 5 = 1 := by kernel_rfl
section
variable {H : Type} {enc : TypeId × Value → H} {w : World} {base : Nat} {spare : Nat → Bool} {held : Bool}
theorem wf_u8 {n : Int} (h : (Lit.int .u8 n).wf = true) : 0 ≤ n ∧ n < 256 := by
  have h' : (decide (IntKind.u8.min ≤ n) && decide (n ≤ IntKind.u8.max)) = true := h
  have e1 : IntKind.u8.min = 0 := by decide
  have e2 : IntKind.u8.max = 255 := by decide
  rw [e1, e2] at h'
  simp only [Bool.and_eq_true, decide_eq_true_eq] at h'
  omega
end
end Go.Proofs.YtckkpolikdnilaaGreatDoor
/- Numbers, rows, tables and models that come in as data. -/
namespace Go.Proofs.YtckkpolikdnilaaGreatDoor
open Go.ChangeShapes Go.WideShapes Go.ChangeAt Go.RowKit Go.Deep Go.Joins Big

section
variable {H : Type} {enc : TypeId × Value → H} {w : World} {base : Nat} {spare : Nat → Bool} {held : Bool}
end
end Go.Proofs.YtckkpolikdnilaaGreatDoor
/- ValueTells answers true. -/
namespace Go.Proofs.YtckkpolikdnilaaGreatDoor
open Go.RowKit Big Go.WideMaps

theorem NxQ.shape {w : World} {n s : Value} {x : Nx} (h : NxQ w [n, s] x) : ∃ p c, n = .bool x.neg ∧ s = .slice p x.words.length c := by
  obtain ⟨p, c, e, -⟩ := h
  injection e with e1 e
  injection e with e2 _
  exact ⟨p, c, e1, e2⟩
theorem TbxQ.shape {w : World} {a n s : Value} {x : Tbx} (h : TbxQ w [a, n, s] x) : ∃ p c q d, a = .slice p x.rows.length c ∧ n = .bool x.els.neg ∧ s = .slice q x.els.words.length d := by
  obtain ⟨a', n', s', e, hr, he⟩ := h
  injection e with e0 e
  injection e with e1 e
  injection e with e2 _
  subst e0 e1 e2
  obtain ⟨p, c, rfl, -⟩ := hr
  obtain ⟨q, d, h1, h2⟩ := he.shape
  exact ⟨p, c, q, d, rfl, h1, h2⟩
theorem TbxQ.rows9 {w : World} {c : List Value} {x : Tbx} (h : TbxQ w c x) (hf : x.fit) : ∀ r ∈ x.t.rows, ∀ z ∈ r.1, sz Big.W z.natAbs ≤ 549755813888 := by
  intro r hr z hz
  obtain ⟨y, hy, rfl⟩ := List.mem_map.1 hr
  obtain ⟨a, n, s, rfl, hrs, -⟩ := h
  obtain ⟨i, hi, rfl⟩ := List.mem_iff_getElem.1 hy
  obtain ⟨b, o, c, cs, -, -, -, ra, rn, rs, -, hra, -⟩ := hrs.at i hi
  exact Nat.le_trans (hra.small (hf.2.2 _ hy).2.2 z hz) (by decide)
theorem TbxsIn.one {w : World} {a n s : Value} {x : Tbx} {t : TypeId} (h : TbxQ w [a, n, s] x) : TbxsIn (w.alloc (.cells #[a, n, s] t)) (.slice (some ⟨w.heap.size, 0, none⟩) 1 1) [x] := by
  have hn := heap_alloc_new w (.cells #[a, n, s] t)
  refine ⟨_, 1, rfl, by simp, by simp [maxLen], by simp, fun _ => ⟨w.heap.size, 0, rfl, by rw [size_alloc]; omega, fun i hi => ?_⟩⟩
  obtain rfl : i = 0 := by simp at hi; omega
  refine ⟨[a, n, s], fun j u hj => ?_, h.below (below1 _ _)⟩
  rw [cell_of_row _ _ _ _ _ _ hn]
  simpa using hj
end Go.Proofs.YtckkpolikdnilaaGreatDoor
/- Tables of small numbers in memory of their own, as elenchusmake.Model makes them. -/
namespace Go.Proofs.YtckkpolikdnilaaGreatDoor
open Go.RowKit Big Go.WideMaps

theorem OwnLs.weaken {α : Type} {e : TypeId} {k : Nat} {Q Q' : World → List Value → α → Prop} {B B' : Nat} {w : World} {v : Value} {l : List α} (h : OwnLs e k Q B w v l) (hB : B' ≤ B) (hQ : ∀ c x, Q w c x → Q' w c x) : OwnLs e k Q' B' w v l := by
  obtain ⟨css, h1, h2, h3, h4⟩ := h
  exact ⟨css, h1, ownsRow_mono h2 hB, h3, fun i hi hi' => hQ _ _ (h4 i hi hi')⟩
theorem OwnNums.weaken {B B' : Nat} {w : World} {v : Value} {l : List Int} (h : OwnNums B w v l) (hB : B' ≤ B) : OwnNums B' w v l := OwnLs.weaken h hB (fun _ _ hq => hq.mono hB)
theorem OwnLs.lt {α : Type} {e : TypeId} {k : Nat} {Q : World → List Value → α → Prop} {B : Nat} {w : World} {v : Value} {l : List α} (h : OwnLs e k Q B w v l) : ∀ g, v.ownBlock = some g → B ≤ g ∧ g < w.heap.size := by
  obtain ⟨css, h1, h2, h3, h4⟩ := h
  exact World.ownsRow.lt h2
/-- a table's row in memory of one's own -/
def RowIoQ (B : Nat) (w : World) (c : List Value) (x : List Int × Int) : Prop := ∃ a n s, c = [a, n, s] ∧ OwnNums B w a x.1 ∧ IoQ B w [n, s] x.2
theorem RowIoQ.off {B : Nat} {w w' : World} {c : List Value} {x : List Int × Int} (h : RowIoQ B w c x) {Ts : List TypeId} (hf : OffT Ts w w') (hi : 44 ∉ Ts) (hu : 94 ∉ Ts) : RowIoQ B w' c x := by
  obtain ⟨a, n, s, e, h1, h2⟩ := h
  exact ⟨a, n, s, e, OwnNums.off h1 hf hi hu, h2.off hf hu⟩
theorem RowIoQ.mono {B B' : Nat} {w : World} {c : List Value} {x : List Int × Int} (h : RowIoQ B w c x) (hB : B' ≤ B) : RowIoQ B' w c x := by
  obtain ⟨a, n, s, e, h1, h2⟩ := h
  exact ⟨a, n, s, e, OwnNums.weaken h1 hB, h2.mono hB⟩
abbrev OwnRows (B : Nat) := OwnLs 63 3 (RowIoQ B) B
theorem OwnRows.off {B : Nat} {w w' : World} {v : Value} {l : List (List Int × Int)} (h : OwnRows B w v l) {Ts : List TypeId} (hf : OffT Ts w w') (hr : 63 ∉ Ts) (hi : 44 ∉ Ts) (hu : 94 ∉ Ts) : OwnRows B w' v l :=
  OwnLs.off h hf hr (fun _ _ hx => hx.off hf hi hu)
theorem OwnRows.weaken {B B' : Nat} {w : World} {v : Value} {l : List (List Int × Int)} (h : OwnRows B w v l) (hB : B' ≤ B) : OwnRows B' w v l := OwnLs.weaken h hB (fun _ _ hq => hq.mono hB)
/-- a table in memory of one's own -/
def TabIoQ (B : Nat) (w : World) (c : List Value) (t : Tb5) : Prop := ∃ a n s, c = [a, n, s] ∧ OwnRows B w a t.rows ∧ IoQ B w [n, s] t.els
theorem TabIoQ.off {B : Nat} {w w' : World} {c : List Value} {t : Tb5} (h : TabIoQ B w c t) {Ts : List TypeId} (hf : OffT Ts w w') (hr : 63 ∉ Ts) (hi : 44 ∉ Ts) (hu : 94 ∉ Ts) : TabIoQ B w' c t := by
  obtain ⟨a, n, s, e, h1, h2⟩ := h
  exact ⟨a, n, s, e, OwnRows.off h1 hf hr hi hu, h2.off hf hu⟩
abbrev OwnTabs (B : Nat) := OwnLs 46 3 (TabIoQ B) B
theorem OwnTabs.off {B : Nat} {w w' : World} {v : Value} {l : List Tb5} (h : OwnTabs B w v l) {Ts : List TypeId} (hf : OffT Ts w w') (ht : 46 ∉ Ts) (hr : 63 ∉ Ts) (hi : 44 ∉ Ts) (hu : 94 ∉ Ts) : OwnTabs B w' v l :=
  OwnLs.off h hf ht (fun _ _ hx => hx.off hf hr hi hu)
/-! ### small numbers -/
def NSm (z : Int) : Prop := sz Big.W z.natAbs ≤ 1
theorem NSm.of {z : Int} (h0 : -1000 ≤ z) (h1 : z ≤ 1000) : NSm z := by
  refine sz_le_of_lt W2 ?_
  rw [Nat.pow_one]
  unfold Big.W
  omega
def RSm (x : List Int × Int) : Prop := (∀ z ∈ x.1, NSm z) ∧ NSm x.2
def TSm (t : Tb5) : Prop := (t.rows.length ≤ 3 ∧ ∀ r ∈ t.rows, RSm r) ∧ NSm t.els
theorem IoQ.raw {B : Nat} {w : World} {n s : Value} {z : Int} (h : IoQ B w [n, s] z) (hz : sz Big.W z.natAbs ≤ 1099511627776) : ∃ b, n = .bool b ∧ RawAt w (.agg #[.bool b, s]) z := by
  obtain ⟨s', e, h⟩ := h
  injection e with e1 e
  injection e with e2 _
  subst e1 e2
  exact ⟨_, rfl, h.told.raw hz⟩
theorem OwnRows.rows {B : Nat} {w : World} {v : Value} {l : List (List Int × Int)} (h : OwnRows B w v l) (hs : ∀ r ∈ l, RSm r) : RowsIn w v l := by
  obtain ⟨p, cap, rfl, h1, h2, h3, h4⟩ := h.in
  refine ⟨p, cap, rfl, h1, h2, h3, fun hp => ?_⟩
  obtain ⟨b, off, h5, h6, h7⟩ := h4 hp
  refine ⟨b, off, h5, h6, fun i hi => ?_⟩
  obtain ⟨c, k1, a, n, s, rfl, k2, k3⟩ := h7 i hi
  have hx := hs _ (List.getElem_mem hi)
  obtain ⟨x, rfl, hr⟩ := k3.raw (Nat.le_trans hx.2 (by decide))
  exact ⟨a, x, s, k1 0 _ rfl, k1 1 _ rfl, k1 2 _ rfl, (OwnNums.told k2).in (fun z hz => Nat.le_trans (hx.1 z hz) (by decide)), hr⟩
theorem OwnTabs.tabs {B : Nat} {w : World} {v : Value} {l : List Tb5} (h : OwnTabs B w v l) (hs : ∀ t ∈ l, TSm t) : TabsIn w v l := by
  obtain ⟨p, cap, rfl, h1, h2, h3, h4⟩ := h.in
  refine ⟨p, cap, rfl, h1, h2, h3, fun hp => ?_⟩
  obtain ⟨b, off, h5, h6, h7⟩ := h4 hp
  refine ⟨b, off, h5, h6, fun i hi => ?_⟩
  obtain ⟨c, k1, a, n, s, rfl, k2, k3⟩ := h7 i hi
  have hx := hs _ (List.getElem_mem hi)
  obtain ⟨x, rfl, hr⟩ := k3.raw (Nat.le_trans hx.2 (by decide))
  exact ⟨a, x, s, k1 0 _ rfl, k1 1 _ rfl, k1 2 _ rfl, OwnRows.rows k2 hx.1.2, hr⟩
theorem rows9_small {l : List Tb5} (hs : ∀ t ∈ l, TSm t) : Rows9 l := fun t ht r hr z hz => Nat.le_trans (((hs t ht).1.2 r hr).1 z hz) (by decide)
/-! ### frames -/
theorem OffT.drew {Ts : List TypeId} {a w : World} (h : OffT Ts a w) : OffT Ts a w.drew := ⟨h.os, h.tape, h.output, h.size, h.block⟩
theorem OffT.set {w : World} {g : Nat} {c : Array Value} {T : TypeId} (hc : w.heap[g]? = some (.cells c T (0, 0))) (j : Nat) (u : Value) : OffT [T] w (w.setCell ⟨g, j, none⟩ u) :=
  ⟨rfl, rfl, rfl, by simp [World.setCell], fun k c' T' hk hn => (Below.heap_setCell _ _ _ _ (fun e => by
    have e : k = g := e
    rw [e, hc] at hk
    injection hk with hk
    injection hk with _ hk
    exact hn (by simp [hk]))).trans hk⟩
theorem TpIn.offT {W0 w w' : World} {t : Nat} {v : Value} {l : List Nat} (h : TpIn W0 w t v l) (hA : Apart (fun i => i = t) w w') : OffT [54] w w' := by
  obtain ⟨-, -, -, -, a, -, hc⟩ := h
  exact OffT.of_apart hA (fun k hk _ => by
    obtain rfl : k = t := hk
    exact ⟨_, 54, List.mem_singleton.2 rfl, hc⟩)
theorem TpIn.keep {W0 w w' : World} {t : Nat} {v : Value} {l : List Nat} (h : TpIn W0 w t v l) (hb : Below W0.heap.size W0 w') (hc : w'.heap[t]? = w.heap[t]?) : TpIn W0 w' t v l := by
  obtain ⟨h1, h2, h3, -, a, ha, h5⟩ := h
  exact ⟨h1, h2, h3, hb, a, ha, hc.trans h5⟩
theorem TpIn.off {W0 w w' : World} {t : Nat} {v : Value} {l : List Nat} (h : TpIn W0 w t v l) {Ts : List TypeId} (hf : OffT Ts w w') (hT : 54 ∉ Ts) (hb : Below W0.heap.size W0 w') : TpIn W0 w' t v l := by
  obtain ⟨h1, h2, h3, h4, a, ha, h5⟩ := h
  exact ⟨h1, h2, h3, hb, a, ha, hf.block t _ _ h5 hT⟩
/-- of a region's facts: what a slot holds -/
def eqM (v0 : Value) : TFact := ⟨fun v _ => v = v0, fun _ _ _ h _ => h⟩
/-- the tape behind its turn -/
def nextM (W0 : World) (t : Nat) (vB : Value) (bs : List Nat) (n : Nat) (wa : World) : TFact :=
  ⟨fun v w => ∃ k : Nat, v = .int .i64 (k : Nat) ∧ k < n ∧ TpIn W0 w t vB bs ∧ Apart (fun i => i = t) wa w, fun _ _ _ ⟨k, e, hk, ht, hA⟩ hb => ⟨k, e, hk, ht.go hb, hA.go (Apart.of_below hb)⟩⟩
def smallM : TFact := ⟨fun v _ => ∃ z : Int, v = .int .i64 z ∧ -4 ≤ z ∧ z ≤ 8, fun _ _ _ h _ => h⟩
def ownM (B : Nat) : TFact :=
  ⟨fun v w => ∃ (d : Bool) (p : Option Addr) (n c : Nat) (z : Int), v = .agg #[.bool d, .slice p n c] ∧ NSm z ∧ IntOwn w B (.agg #[.bool d, .slice p n c]) z, fun _ _ _ ⟨d, p, n, c, z, e, hs, hi⟩ hb => ⟨d, p, n, c, z, e, hs, hi.kept hb⟩⟩
def rowM (B : Nat) (lv : Value) : TFact :=
  ⟨fun v w => ∃ (d : Bool) (p : Option Addr) (n c : Nat) (z : Int), v = .agg #[lv, .bool d, .slice p n c] ∧ NSm z ∧ IntOwn w B (.agg #[.bool d, .slice p n c]) z, fun _ _ _ ⟨d, p, n, c, z, e, hs, hi⟩ hb => ⟨d, p, n, c, z, e, hs, hi.kept hb⟩⟩
def putM (B : Nat) (lv : Value) : TFact :=
  ⟨fun v w => ∃ (g : Nat) (d : Bool) (p : Option Addr) (n c : Nat) (z : Int), v = .slice (some ⟨g, 0, none⟩) 1 1 ∧ w.heap[g]? = some (.cells #[lv, .bool d, .slice p n c] 63 (0, 0)) ∧ B ≤ g ∧ NSm z ∧ IntOwn w B (.agg #[.bool d, .slice p n c]) z,
    fun _ _ _ ⟨g, d, p, n, c, z, e, hg, hB, hs, hi⟩ hb => ⟨g, d, p, n, c, z, e, (hb.block g (Array.getElem?_eq_some_iff.1 hg).1).trans hg, hB, hs, hi.kept hb⟩⟩
end Go.Proofs.YtckkpolikdnilaaGreatDoor
/- elenchusmake's numbers: small ones, now and then great ones. -/
namespace Go.Proofs.YtckkpolikdnilaaGreatDoor
open Go.RowKit Big Go.WideMaps

theorem MkFr.setNew {a w : World} (h : MkFr a w) {p : Addr} (hp : a.heap.size ≤ p.block) (u : Value) : MkFr a (w.setCell p u) :=
  ⟨h.os, h.tape, h.output, by simpa [World.setCell] using h.size, fun k o hk hn => (Below.heap_setCell _ _ _ _ (fun e => by
    have := (Array.getElem?_eq_some_iff.1 hk).1
    omega)).trans (h.block k o hk hn)⟩
theorem TpIn.set {W0 w : World} {t : Nat} {v : Value} {l : List Nat} (h : TpIn W0 w t v l) {p : Addr} (hp : W0.heap.size ≤ p.block) (hn : p.block ≠ t) (u : Value) : TpIn W0 (w.setCell p u) t v l := by
  obtain ⟨h1, h2, h3, h4, a, ha, hc⟩ := h
  exact ⟨h1, h2, h3, h4.setCell hp u, a, ha, (Below.heap_setCell _ _ _ _ (fun e => hn e.symm)).trans hc⟩
/-- a number in a box -/
def BoxAt (w : World) (X : Nat) (z : Int) : Prop := ∃ p n c, w.heap[X]? = some (.cells #[.bool (decide (z < 0)), .slice p n c] 44 (0, 0)) ∧ IntAt w (.agg #[.bool (decide (z < 0)), .slice p n c]) z
theorem IntAt.below' {w w' : World} {v : Value} {z : Int} (h : IntAt w v z) (hb : Below w.heap.size w w') : IntAt w' v z := by
  obtain ⟨s, hs, ha⟩ := h
  exact ⟨s, hs, ha.below hb⟩
theorem BoxAt.go {w w' : World} {X : Nat} {z : Int} (h : BoxAt w X z) (hb : Below w.heap.size w w') : BoxAt w' X z := by
  obtain ⟨p, n, c, h1, h2⟩ := h
  exact ⟨p, n, c, (hb.block X (lt_of_block h1)).trans h1, h2.below' hb⟩
theorem BoxAt.new {w : World} {z : Int} {p : Option Addr} {n c : Nat} (h : IntAt w (.agg #[.bool (decide (z < 0)), .slice p n c]) z) : BoxAt (w.alloc (.cells #[.bool (decide (z < 0)), .slice p n c] 44)) w.heap.size z :=
  ⟨p, n, c, heap_alloc_new w _, h.below' (below1 _ _)⟩
theorem BoxAt.set {w : World} {X : Nat} {y z : Int} (h : BoxAt w X y) {p : Option Addr} {n c : Nat} (i : IntAt w (.agg #[.bool (decide (z < 0)), .slice p n c]) z) : BoxAt ((w.setCell ⟨X, 0, none⟩ (.bool (decide (z < 0)))).setCell ⟨X, 1, none⟩ (.slice p n c)) X z := by
  obtain ⟨p', n', c', h1, -⟩ := h
  obtain ⟨s, hs, ha⟩ := i
  have hs : s = .slice p n c := by simpa using hs.symm
  subst hs
  have e1 : (w.setCell ⟨X, 0, none⟩ (.bool (decide (z < 0)))).heap[X]? = some (.cells #[.bool (decide (z < 0)), .slice p' n' c'] 44 (0, 0)) := by simpa using heap_setCell_same w X 0 _ _ (.bool (decide (z < 0))) h1
  exact ⟨p, n, c, set2_same h1 _ _, _, rfl, (ha.offRec h1 (by simp [noWord]) 0 _).offRec e1 (by simp [noWord]) 1 _⟩
theorem At.tape {w w' : World} {t : Nat} {v x : Value} {l : List Nat} {a : Int} {ty : TypeId} (h : At w .u64 v l) (hc : w.heap[t]? = some (.cells #[x, .int .i64 a] ty (0, 0))) (hx : ∃ p n c, x = .slice p n c) (hA : Apart (fun i => i = t) w w') : At w' .u64 v l := by
  obtain ⟨p, cap, rfl, h1, h2, h3, h4⟩ := h
  refine ⟨p, cap, rfl, h1, h2, h3, fun hp => ?_⟩
  obtain ⟨b, off, h5, h6, h7⟩ := h4 hp
  have hbt : b ≠ t := by
    intro e
    have m := h7 0 hp
    obtain ⟨p', n', c', rfl⟩ := hx
    rw [e, cell_of_row w t (off + 0) _ _ (0, 0) hc] at m
    rcases hj : off + 0 with _ | _ | j
    · rw [hj] at m; simp at m
    · rw [hj] at m; simp at m
    · rw [hj] at m; simp at m
  exact ⟨b, off, h5, Nat.lt_of_lt_of_le h6 hA.size, fun i hi => (hA.cell (p := ⟨b, off + i, none⟩) h6 hbt).trans (h7 i hi)⟩
theorem TpIn.int {W0 w w' : World} {t : Nat} {v u : Value} {l : List Nat} {z : Int} (h : TpIn W0 w t v l) (i : IntAt w u z) (hA : Apart (fun i => i = t) w w') : IntAt w' u z := by
  obtain ⟨s, hs, ha⟩ := i
  obtain ⟨⟨p, cap, rfl, -⟩, -, -, -, a, -, hc⟩ := h
  exact ⟨s, hs, ha.tape hc ⟨_, _, _, rfl⟩ hA⟩
theorem TpIn.box {W0 w w' : World} {t X : Nat} {v : Value} {l : List Nat} {z : Int} (h : TpIn W0 w t v l) (i : BoxAt w X z) (hn : X ≠ t) (hA : Apart (fun i => i = t) w w') : BoxAt w' X z := by
  obtain ⟨p, n, c, h1, h2⟩ := i
  exact ⟨p, n, c, (hA.block X (lt_of_block h1) hn).trans h1, h.int h2 hA⟩
end Go.Proofs.YtckkpolikdnilaaGreatDoor
/- elenchusmake's rows that grow: Make. -/
namespace Go.Proofs.YtckkpolikdnilaaGreatDoor
open Go.RowKit Big Go.WideMaps

/-- a term's parts in a row of the call's own, in no block of X -/
def QArg (W0 : World) (X : Nat → Prop) (w : World) (va : Value) (l : List Int) : Prop := w.ownsRow W0.heap.size 3 1 va l.length (zints l) ∧ ∀ k, va.ownBlock = some k → ¬ X k
theorem MfIn.shape {Q : Value → List Int → Prop} {B : Nat} {w : World} {v : Value} {l : List Tm} (h : MfIn Q B w v l) : ∃ p c, v = .slice p l.length c := by
  obtain ⟨cs, h1, -⟩ := h
  exact ownsRow_shape h1
theorem MfIn.q {Q Q' : Value → List Int → Prop} {B : Nat} {w : World} {v : Value} {l : List Tm} (h : MfIn Q B w v l) (hq : ∀ va l, Q va l → Q' va l) : MfIn Q' B w v l := by
  obtain ⟨cs, h1, h2⟩ := h
  refine ⟨cs, h1, ?_⟩
  clear h1
  induction l generalizing cs with
  | nil => exact h2
  | cons t l ih =>
    obtain ⟨c, r, e, ⟨va, vn, e2, k1, k2⟩, hr⟩ := h2
    exact ⟨c, r, e, ⟨va, vn, e2, hq _ _ k1, k2⟩, ih r hr⟩
/-- rows over a tape: the build in block b, its tape in block t; all that is its own lies at or above W0's end -/
structure MkParts (W0 : World) (X : Nat → Prop) (w : World) (b t : Nat) (vB : Value) (bs : List Nat) (p : Po) (us : List Int) (vs vr vy : Value) : Prop where
  tp : TpIn W0 w t vB bs
  ge : W0.heap.size ≤ b
  cell : w.heap[b]? = some (.cells #[vs, vr, .pointer (some ⟨t, 0, none⟩), vy] 73 (0, 0))
  syms : w.ownsRow W0.heap.size 39 3 vs p.syms.length (syCells p.syms)
  rows : MfIn (QArg W0 X w) W0.heap.size w vr p.terms
  used : w.ownsRow W0.heap.size 3 1 vy us.length (zints us)
  mkp : MkP p
  uses : ∀ k ∈ us, ∃ j : Nat, k = (j : Nat) ∧ j < p.syms.length
  arity : ∀ s ∈ p.syms, 0 ≤ s.arity ∧ s.arity ≤ 2
  few : us.length ≤ 256
  xlt : ∀ k, X k → k < w.heap.size
  usx : ∀ k, vy.ownBlock = some k → ¬ X k
def MkAt (W0 : World) (X : Nat → Prop) (w : World) (b t : Nat) (vB : Value) (bs : List Nat) (p : Po) (us : List Int) : Prop := ∃ vs vr vy, MkParts W0 X w b t vB bs p us vs vr vy
theorem MkParts.go {W0 w w' : World} {X : Nat → Prop} {b t : Nat} {vB : Value} {bs : List Nat} {p : Po} {us : List Int} {vs vr vy : Value} (h : MkParts W0 X w b t vB bs p us vs vr vy) (hb : Below w.heap.size w w') : MkParts W0 X w' b t vB bs p us vs vr vy :=
  ⟨h.tp.go hb, h.ge, (hb.block b (lt_of_block h.cell)).trans h.cell, ownsRow_later h.syms hb, (h.rows.below hb).q (fun _ _ q => ⟨ownsRow_later q.1 hb, q.2⟩), ownsRow_later h.used hb, h.mkp, h.uses, h.arity, h.few, fun k hk => Nat.lt_of_lt_of_le (h.xlt k hk) hb.size, h.usx⟩
theorem MkAt.go {W0 w w' : World} {X : Nat → Prop} {b t : Nat} {vB : Value} {bs : List Nat} {p : Po} {us : List Int} (h : MkAt W0 X w b t vB bs p us) (hb : Below w.heap.size w w') : MkAt W0 X w' b t vB bs p us := by
  obtain ⟨vs, vr, vy, h⟩ := h
  exact ⟨vs, vr, vy, h.go hb⟩
/-- what a step answers: a term of sort s, at most n more terms -/
def MkRes (W0 : World) (X : Nat → Prop) (b t : Nat) (vB : Value) (bs : List Nat) (us : List Int) (p : Po) (n : Nat) (s : Int) (tm : Option Tm) (w : World) (e : Ending) (w' : World) : Prop :=
  ∃ (k : Nat) (p' : Po), e = .returned (.int .i64 (k : Nat)) ∧ MkAt W0 X w' b t vB bs p' us ∧ MkExt p p' ∧ IsTm p' k s ∧ (∀ x, tm = some x → p'.terms[k]? = some x) ∧ p'.terms.length ≤ p.terms.length + n ∧ MkFr w w'
theorem four_set {w : World} {g : Nat} {a b c d : Value} {t : TypeId} (h : w.heap[g]? = some (.cells #[a, b, c, d] t (0, 0))) (u0 u1 : Value) : ((w.setCell ⟨g, 0, none⟩ u0).setCell ⟨g, 1, none⟩ u1).heap[g]? = some (.cells #[u0, u1, c, d] t (0, 0)) := by
  have := heap_setCell_same _ g 1 _ _ u1 (heap_setCell_same w g 0 _ _ u0 h)
  simpa using this
theorem mid_res {W0 w Wc w2 wx : World} {X : Nat → Prop} {b t g : Nat} {vB : Value} {bs : List Nat} {p p' : Po} {us : List Int} {vs vr vr' vy : Value} (H : MkParts W0 X w b t vB bs p us vs vr vy) (hbc : Below w.heap.size w Wc) (hmk : MkP p') (hext : MkExt p p')
    (Hin : MfIn (QArg W0 X Wc) W0.heap.size w2 vr' p'.terms) (HA : Apart (fun k => vr.ownBlock = some k) Wc w2) (_hv : vr'.ownBlock = vr.ownBlock ∨ ∀ k, vr'.ownBlock = some k → Wc.heap.size ≤ k)
    (hg : w.heap.size ≤ g) (gc : (∃ c, w2.heap[g]? = some (.cells c 25 (0, 0))) ∨ w2.heap.size ≤ g) (hx : Apart (fun k => k = g) w2 wx) :
    wx.heap[b]? = some (.cells #[vs, vr, .pointer (some ⟨t, 0, none⟩), vy] 73 (0, 0)) ∧ MkAt W0 X ((wx.setCell ⟨b, 0, none⟩ vs).setCell ⟨b, 1, none⟩ vr') b t vB bs p' us ∧ MkFr w ((wx.setCell ⟨b, 0, none⟩ vs).setCell ⟨b, 1, none⟩ vr') := by
  obtain ⟨rc, hrow, -⟩ := H.rows
  have hrt : ∀ k, vr.ownBlock = some k → W0.heap.size ≤ k ∧ ∃ c, w.heap[k]? = some (.cells c 71 (0, 0)) := fun k hk => ⟨(World.ownsRow.lt hrow k hk).1, row_tag hrow k hk⟩
  have hne : ∀ (k : Nat) (c : Array Value) (ty : TypeId), w.heap[k]? = some (.cells c ty (0, 0)) → ty ≠ 71 → vr.ownBlock ≠ some k := fun k c ty hc ht e => by
    obtain ⟨-, c', hc'⟩ := hrt k e
    exact tag_ne hc hc' ht rfl
  have hbl := lt_of_block H.cell
  have E2 : ∀ k, k < w.heap.size → vr.ownBlock ≠ some k → w2.heap[k]? = w.heap[k]? := fun k hk hn => (HA.block k (Nat.lt_of_lt_of_le hk hbc.size) hn).trans (hbc.block k hk)
  have E : ∀ k, k < w.heap.size → vr.ownBlock ≠ some k → wx.heap[k]? = w.heap[k]? := fun k hk hn => (hx.block k (by have := hbc.size; have := HA.size; omega) (by omega)).trans (E2 k hk hn)
  have F : ∀ k, k ≠ b → ((wx.setCell ⟨b, 0, none⟩ vs).setCell ⟨b, 1, none⟩ vr').heap[k]? = wx.heap[k]? := fun k hk => (Below.heap_setCell _ _ _ _ hk).trans (Below.heap_setCell _ _ _ _ hk)
  have hbx := (E b hbl (hne b _ _ H.cell (by decide))).trans H.cell
  have hsz : w.heap.size ≤ wx.heap.size := by have := hbc.size; have := HA.size; have := hx.size; omega
  have keep : ∀ (k : Nat) (c : Array Value) (ty : TypeId), w.heap[k]? = some (.cells c ty (0, 0)) → ty ≠ 71 → ty ≠ 73 → ((wx.setCell ⟨b, 0, none⟩ vs).setCell ⟨b, 1, none⟩ vr').heap[k]? = w.heap[k]? := fun k c ty hc h1 h2 =>
    (F k (tag_ne hc H.cell h2)).trans (E k (lt_of_block hc) (hne k c ty hc h1))
  have krow : ∀ {e : TypeId} {s n : Nat} {v : Value} {xs : List Value}, w.ownsRow W0.heap.size e s v n xs → e ≠ 71 → e ≠ 73 → ((wx.setCell ⟨b, 0, none⟩ vs).setCell ⟨b, 1, none⟩ vr').ownsRow W0.heap.size e s v n xs := fun hr h1 h2 => row_stays hr fun k hk => by
    obtain ⟨c, hc⟩ := row_tag hr k hk
    exact keep k c _ hc h1 h2
  have hg2 : ∀ (k : Nat) (c : Array Value) (ty : TypeId), w2.heap[k]? = some (.cells c ty (0, 0)) → ty ≠ 25 → ty ≠ 73 → ((wx.setCell ⟨b, 0, none⟩ vs).setCell ⟨b, 1, none⟩ vr').heap[k]? = w2.heap[k]? := fun k c ty hc h1 h2 => by
    have hb2 := (E2 b hbl (hne b _ _ H.cell (by decide))).trans H.cell
    refine (F k (tag_ne hc hb2 h2)).trans (hx.block k (lt_of_block hc) ?_)
    rcases gc with ⟨c', hc'⟩ | hge
    · exact tag_ne hc hc' h1
    · have := lt_of_block hc; omega
  refine ⟨hbx, ⟨vs, vr', vy, ?_, H.ge, four_set hbx vs vr', by rw [hext.1]; exact krow H.syms (by decide) (by decide), ?_, krow H.used (by decide) (by decide), hmk, by rw [hext.1]; exact H.uses, by rw [hext.1]; exact H.arity, H.few, fun k hk => by have := H.xlt k hk; simp [World.setCell]; omega, H.usx⟩, ?_⟩
  · obtain ⟨h1, h2, h3, h4, a, ha, hc⟩ := H.tp
    refine ⟨h1, h2, h3, ?_, a, ha, (keep t _ _ hc (by decide) (by decide)).trans hc⟩
    exact ⟨(hx.os.trans (HA.os.trans hbc.os)).trans h4.os, (hx.tape.trans (HA.tape.trans hbc.tape)).trans h4.tape, (hx.output.trans (HA.output.trans hbc.output)).trans h4.output, by have := h4.size; simp [World.setCell]; omega,
      fun k hk => by
        have := h4.size
        exact (F k (by have := H.ge; omega)).trans ((E k (by omega) (fun e => by have := (hrt k e).1; omega)).trans (h4.block k hk))⟩
  · have h1 : MfIn (QArg W0 X Wc) W0.heap.size ((wx.setCell ⟨b, 0, none⟩ vs).setCell ⟨b, 1, none⟩ vr') vr' p'.terms := Hin.stays (fun k c ty hc _ hk => by
      rcases hk with rfl | hk
      · exact hg2 k c _ hc (by decide) (by decide)
      · obtain ⟨cs, hr, -⟩ := Hin
        obtain ⟨c', hc'⟩ := row_tag hr k hk
        exact hg2 k c' _ hc' (by decide) (by decide)) (fun k c hc => hg2 k c _ hc (by decide) (by decide))
    refine h1.q fun va l q => ?_
    obtain ⟨q, qx⟩ := q
    have q2 : w2.ownsRow W0.heap.size 3 1 va l.length (zints l) := row_stays q fun k hk => HA.block k (World.ownsRow.lt q k hk).2 (fun e => by
      obtain ⟨c, hc⟩ := row_tag q k hk
      obtain ⟨-, c', hc'⟩ := hrt k e
      exact tag_ne hc ((hbc.block k (lt_of_block hc')).trans hc') (by decide) rfl)
    exact ⟨row_stays q2 fun k hk => by
      obtain ⟨c, hc⟩ := row_tag q2 k hk
      exact hg2 k c _ hc (by decide) (by decide), qx⟩
  · refine ⟨hx.os.trans (HA.os.trans hbc.os), hx.tape.trans (HA.tape.trans hbc.tape), hx.output.trans (HA.output.trans hbc.output), by simp [World.setCell]; omega, fun k o hk hn => ?_⟩
    have hkl := (Array.getElem?_eq_some_iff.1 hk).1
    refine ((F k (fun e => ?_)).trans (E k hkl (fun e => ?_))).trans hk
    · rw [e, H.cell] at hk
      injection hk with hk
      exact (hn _).2.1 hk.symm
    · obtain ⟨-, c, hc⟩ := hrt k e
      rw [hc] at hk
      injection hk with hk
      exact (hn _).2.2 hk.symm
set_option maxRecDepth 100000 in
set_option maxHeartbeats 6400000 in
theorem BMake_any {W0 w : World} {X : Nat → Prop} {b t : Nat} {vB : Value} {bs : List Nat} {p : Po} {us : List Int} (h : MkAt W0 X w b t vB bs p us) (tm : Tm) (va : Value) (bn : Bool) (pn : Option Addr) (nn cn : Nat)
    (ha : QArg W0 X w va tm.args) (hnum : RawAt w (.agg #[.bool bn, .slice pn nn cn]) tm.num) (hw : plWrong p tm = 0) (hl : p.terms.length < 4096) (hs : tm.args.length ≤ 8 ∧ sz W tm.num.natAbs ≤ 8) :
    Calls Tryz.prog 25 #[.pointer (some ⟨b, 0, none⟩), .agg #[.int .i64 tm.op, va, .bool bn, .slice pn nn cn, .int .i64 tm.sym]] w (MkRes W0 X b t vB bs us p 1 (plSort p tm) (some tm) w) := by
  obtain ⟨vs, vr, vy, H⟩ := h
  obtain ⟨pa, ca, rfl⟩ := ownsRow_shape ha.1
  obtain ⟨ps, cs, rfl⟩ := ownsRow_shape H.syms
  obtain ⟨pr, cr, rfl⟩ := H.rows.shape
  obtain ⟨p', k, hm, hmk, hext, hk, hkt, hlen⟩ := H.mkp.make hw hl hs
  have b0 := below1 w (.cells #[.int .i64 tm.op, .slice pa tm.args.length ca, .bool bn, .slice pn nn cn, .int .i64 tm.sym] 71)
  have hX := heap_alloc_new w (.cells #[.int .i64 tm.op, .slice pa tm.args.length ca, .bool bn, .slice pn nn cn, .int .i64 tm.sym] 71)
  have hz := size_alloc w (.cells #[.int .i64 tm.op, .slice pa tm.args.length ca, .bool bn, .slice pn nn cn, .int .i64 tm.sym] 71)
  have hmm : ∀ W', Below w.heap.size w W' → Calls Tryz.prog 47 #[.agg #[.slice ps p.syms.length cs, .slice pr p.terms.length cr], .agg #[.int .i64 tm.op, .slice pa tm.args.length ca, .bool bn, .slice pn nn cn, .int .i64 tm.sym]] W' (MRf (QArg W0 X W') W0.heap.size (.slice ps p.syms.length cs) (.slice pr p.terms.length cr) (p', ((k : Nat) : Int), 0) W') := fun W' hb => by
    have := MMake_any (QArg W0 X W') W0.heap.size p H.mkp.good tm (.slice ps p.syms.length cs) (.slice pr p.terms.length cr) (.agg #[.int .i64 tm.op, .slice pa tm.args.length ca, .bool bn, .slice pn nn cn, .int .i64 tm.sym]) W' (fun va l q => IAt.own (ownsRow_mono q.1 (Nat.zero_le _))) (H.go hb).tp.2.2.2.1.size
      (SyAt.own (ownsRow_mono (H.go hb).syms (Nat.zero_le _))).handed (H.go hb).rows ⟨pa, ca, bn, pn, nn, cn, rfl, IAt.own (ownsRow_mono (ownsRow_later ha.1 hb) (Nat.zero_le _)), hnum.below hb⟩
      (fun c0 va c2 c3 c4 e => by obtain ⟨-, rfl, -, -, -⟩ := agg5 e; exact ⟨ownsRow_later ha.1 hb, ha.2⟩) (Nat.le_trans hs.2 (by decide)) (fun x hx => Nat.le_trans (H.mkp.small x hx).2 (by decide))
    rw [hm] at this
    exact this
  have hnv : ∀ k, w.heap.size ≤ k → ¬ (Value.slice pr p.terms.length cr).ownBlock = some k := fun k hk e => by
    obtain ⟨cs, hrow, -⟩ := H.rows
    have := (World.ownsRow.lt hrow k e).2
    omega
  have Hmm := hid hmm
  have q := H.cell
  have HH := hid H
  clear hmm H hm
  have qb := (b0.block b (lt_of_block q)).trans q
  have q4 := four_cells qb
  have q5 := five_cells hX
  obtain ⟨g0, g1, g2, g3⟩ := q4
  obtain ⟨x0, x1, x2, x3, x4⟩ := q5
  have hb1 := lt_of_block qb
  clear q qb hX
  have hnv := hnv (w.heap.size + 1) (by omega)
  rw [← hz] at hnv
  go_enter Tryz.func25, Tryz.ntmps25
  go_upto_region 1 with fail
  generalize hW : (w.alloc (.cells #[.int .i64 tm.op, .slice pa tm.args.length ca, .bool bn, .slice pn nn cn, .int .i64 tm.sym] 71)) = W1 at *
  have Hz := hid hz
  have hz1 : w.heap.size < W1.heap.size := by omega
  clear hz
  go_region_with (go_at_call 47; refine (Hmm.out _ (by first | exact b0 | exact below_drewN b0 _ | exact b0.drew | exact b0.drew.drew | exact bel_go (below1 _ _) b0 | exact (bel_go (below1 _ _) b0).drew | exact (bel_go (below1 _ _) b0).drew.drew)).mono ?_; rintro e w2 ⟨vr', rfl, hin, hA, hv⟩; obtain ⟨pv, cv, rfl⟩ := hin.shape; try (have hg2 := (hA.block W1.heap.size (by first | (simp; done) | (simp [World.drew]; done) | (show W1.heap.size < (W1.alloc _).heap.size; rw [size_alloc]; omega)) hnv).trans (heap_alloc_new W1 (.cells #[.slice none 0 0, .slice none 0 0] 25)); have q2 := two_cells hg2; obtain ⟨y0, y1, z0, z1⟩ := q2))
  all_goals first
  | (clear y0 y1 z0 z1
     have hm := mid_res (g := W1.heap.size) HH.out (bel_go (below1 W1 (.cells #[.slice none 0 0, .slice none 0 0] 25)) b0).drew hmk hext hin hA hv (by have := Hz.out; omega) (.inl ⟨_, hg2⟩) (Apart.setCell (p := ⟨W1.heap.size, 1, none⟩) (Apart.setCell (p := ⟨W1.heap.size, 0, none⟩) (Apart.refl (fun k => k = W1.heap.size) w2) rfl (.slice ps p.syms.length cs)) rfl (.slice pv p'.terms.length cv))
     have hgx := set2_same hg2 (.slice ps p.syms.length cs) (.slice pv p'.terms.length cv)
     generalize hW2 : ((w2.setCell ⟨W1.heap.size, 0, none⟩ (.slice ps p.syms.length cs)).setCell ⟨W1.heap.size, 1, none⟩ (.slice pv p'.terms.length cv)) = wx at *
     have q2 := two_cells hgx
     obtain ⟨y0, y1, -, -⟩ := q2
     have q4 := four_cells hm.1
     obtain ⟨k0, k1, k2, k3⟩ := q4
     have f0 := frozen_all hm.1 0
     have f1 := frozen_all hm.1 1
     have Hm := hid hm.2
     clear hW2 hg2 hgx hm hin hA hv g0 g1 g2 g3 x0 x1 x2 x3 x4
     go_wp2
     go_ret
     exact ⟨k, p', rfl, Hm.out.1, hext, hk, (fun x e => by injection e with e; exact e ▸ hkt), hlen, Hm.out.2⟩)
  | (have hz2 := hA.size
     have hm := mid_res (g := w2.heap.size) HH.out b0.drew hmk hext hin hA hv (by have := Hz.out; have : W1.heap.size ≤ w2.heap.size := hz2; omega) (.inr (Nat.le_refl _)) (Apart.of_below (S := fun k => k = w2.heap.size) (below1 w2 (.cells #[.slice ps p.syms.length cs, .slice pv p'.terms.length cv] 25)))
     have hgx := heap_alloc_new w2 (.cells #[.slice ps p.syms.length cs, .slice pv p'.terms.length cv] 25)
     generalize hW2 : (w2.alloc (.cells #[.slice ps p.syms.length cs, .slice pv p'.terms.length cv] 25)) = wx at *
     have q2 := two_cells hgx
     obtain ⟨y0, y1, -, -⟩ := q2
     have q4 := four_cells hm.1
     obtain ⟨k0, k1, k2, k3⟩ := q4
     have f0 := frozen_all hm.1 0
     have f1 := frozen_all hm.1 1
     have Hm := hid hm.2
     clear hW2 hgx hm hin hA hv g0 g1 g2 g3 x0 x1 x2 x3 x4
     go_wp2
     go_ret
     exact ⟨k, p', rfl, Hm.out.1, hext, hk, (fun x e => by injection e with e; exact e ▸ hkt), hlen, Hm.out.2⟩)
end Go.Proofs.YtckkpolikdnilaaGreatDoor
/- elenchusmake's choice of a symbol. -/
namespace Go.Proofs.YtckkpolikdnilaaGreatDoor
open Go.RowKit Big Go.WideMaps

theorem IAt.one (w : World) (a : Int) : IAt (w.alloc (.cells #[.int .i64 a] 3)) (.slice (some ⟨w.heap.size, 0, none⟩) 1 1) [a] :=
  ⟨_, 1, rfl, by simp, by simp [maxLen], nofun, fun _ => ⟨_, 0, rfl, by simp, fun i hi => by
    obtain rfl : i = 0 := by simpa using hi
    rw [cell_of_row _ _ _ _ _ (0, 0) (heap_alloc_new w _)]
    rfl⟩⟩
theorem MkParts.next {W0 w w' : World} {X : Nat → Prop} {b t : Nat} {vB : Value} {bs : List Nat} {p : Po} {us : List Int} {vs vr vy : Value} (h : MkParts W0 X w b t vB bs p us vs vr vy) (ht : TpIn W0 w' t vB bs) (hA : Apart (fun i => i = t) w w') : MkParts W0 X w' b t vB bs p us vs vr vy := by
  have hne : ∀ (k : Nat) (c : Array Value) (ty : TypeId), w.heap[k]? = some (.cells c ty (0, 0)) → ty ≠ 54 → w'.heap[k]? = w.heap[k]? := fun k c ty hc h1 => hA.block k (lt_of_block hc) (by
    obtain ⟨-, -, -, -, a, -, hct⟩ := h.tp
    exact tag_ne hc hct h1)
  have hrow : ∀ {e : TypeId} {s n B : Nat} {v : Value} {xs : List Value}, w.ownsRow B e s v n xs → e ≠ 54 → w'.ownsRow B e s v n xs := fun hr h1 => row_stays hr fun k hk => by
    obtain ⟨c, hc⟩ := row_tag hr k hk
    exact hne k c _ hc h1
  refine ⟨ht, h.ge, (hne b _ _ h.cell (by decide)).trans h.cell, hrow h.syms (by decide), ?_, hrow h.used (by decide), h.mkp, h.uses, h.arity, h.few, fun k hk => Nat.lt_of_lt_of_le (h.xlt k hk) hA.size, h.usx⟩
  exact (h.rows.stays (fun k c ty hc _ hk => by
      rcases hk with rfl | hk
      · exact hne k c _ hc (by decide)
      · obtain ⟨cs, hr, -⟩ := h.rows
        obtain ⟨c', hc'⟩ := row_tag hr k hk
        exact hne k c' _ hc' (by decide)) (fun k c hc => hne k c _ hc (by decide))).q fun _ _ q => ⟨hrow q.1 (by decide), q.2⟩
/-- a symbol of a sort that takes numbers, or takes none -/
def Picked (l : List Sy) (ar so x : Int) : Prop := ∃ j : Nat, x = (j : Nat) ∧ ∃ h : j < l.length, l[j].sort = so ∧ decide (0 < l[j].arity) = decide (0 < ar)
set_option maxRecDepth 100000 in
set_option maxHeartbeats 6400000 in
theorem pick_any {W0 w : World} {X : Nat → Prop} {b t : Nat} {vB : Value} {bs : List Nat} {p : Po} {us : List Int} (h : MkAt W0 X w b t vB bs p us) (ar so : Int) :
    Calls Tryz.prog 65 #[.pointer (some ⟨b, 0, none⟩), .int .i64 ar, .int .i64 so] w (fun e w' => ∃ r : Int, e = .returned (.int .i64 r) ∧ (r = -1 ∨ Picked p.syms ar so r) ∧ MkAt W0 X w' b t vB bs p us ∧ MkFr w w') := by
  obtain ⟨vs, vr, vy, H⟩ := h
  have HH := hid H
  have hsy := (SyAt.own (ownsRow_mono H.syms (Nat.zero_le _))).handed
  obtain ⟨ps, cs, rfl, i1, i2, -, i4⟩ := hsy
  have hus := IAt.own (ownsRow_mono H.used (Nat.zero_le _))
  obtain ⟨py, cy, rfl, j1, j2, -, j4⟩ := hus
  have hfew := H.few
  have H4 := hid i4; have J4 := hid j4
  have q4 := four_cells H.cell
  obtain ⟨k0, k1, k2, k3⟩ := q4
  have hbl := lt_of_block H.cell
  unfold maxLen at i2 j2
  clear H i4 j4
  go_enter Tryz.func65, Tryz.ntmps65
  go_wp2_with fail
  go_loopw [7, 16] (fun o i wr => ∃ (k : Nat) (L : List Int), k ≤ us.length ∧ i = .int .i64 (k : Nat) ∧ L.length ≤ k ∧ wr.ownsRow w.heap.size 3 1 o L.length (zints L) ∧ Hid (∀ x ∈ L, Picked p.syms ar so x) ∧ Hid (Below w.heap.size w wr)) (fun _ i _ => us.length - (intOf i).toNat)
  case atStart => exact ⟨0, [], Nat.zero_le _, rfl, Nat.le_refl _, World.ownsRow_nil _ _ _ _, hid (fun x h => absurd h (by simp)), hid (Below.refl _ _)⟩
  case round =>
    obtain ⟨k, L, hk, rfl, hLk, ho, HL, Hb⟩ := hrel
    have hcb := (Hb.out.block b hbl).trans HH.out.cell
    clear k0 k1 k2 k3
    have q4 := four_cells hcb
    obtain ⟨k0, k1, k2, k3⟩ := q4
    have hbw := Hb.out.size
    by_cases hlt : k < us.length
    · have hlt' : (k : Int) < (us.length : Nat) := by omega
      obtain ⟨bb, off, rfl, o1, o2⟩ := J4.out (by omega)
      have m := (Hb.out.cell (p := ⟨bb, off + k, none⟩) o1).trans (o2 k hlt)
      obtain ⟨j, hj, hjl⟩ := HH.out.uses us[k] (List.getElem_mem hlt)
      rw [hj] at m
      obtain ⟨bc, oc, rfl, s1, s2⟩ := H4.out (by omega)
      obtain ⟨n0, n1, n2⟩ := s2 j hjl
      have n0 := (Hb.out.cell (p := ⟨bc, oc + j * 3, none⟩) s1).trans n0
      have n1 := (Hb.out.cell (p := ⟨bc, oc + j * 3 + 1, none⟩) s1).trans n1
      have n2 := (Hb.out.cell (p := ⟨bc, oc + j * 3 + 2, none⟩) s1).trans n2
      have HP : Hid ((p.syms[j].sort == so) = true → (decide (0 < p.syms[j].arity) == decide (0 < ar)) = true → Picked p.syms ar so (j : Nat)) := hid fun h1 h2 => ⟨j, rfl, hjl, by simpa using h1, by simpa using h2⟩
      have hjl' : (j : Int) < (p.syms.length : Nat) := by omega
      generalize p.syms[j].name = nm at *
      generalize p.syms[j].arity = aj at *
      generalize p.syms[j].sort = sj at *
      have b1 := below1 wr (.cells #[.string ⟨nm.toArray⟩, .int .i64 aj, .int .i64 sj] 39)
      have z1 := size_alloc wr (.cells #[.string ⟨nm.toArray⟩, .int .i64 aj, .int .i64 sj] 39)
      clear hj hcb o2 s2
      cases h1 : (sj == so)
      case false =>
        go_wp2_with fail
        go_roundw
        case rel => exact ⟨k + 1, L, by omega, rfl, by omega, ownsRow_later ho b1, HL, hid (bel_go b1 Hb.out)⟩
        case measure => simp [intOf]; omega
      case true =>
      cases h2 : (decide (0 < aj) == decide (0 < ar))
      case false =>
        go_wp2_with fail
        go_roundw
        case rel => exact ⟨k + 1, L, by omega, rfl, by omega, ownsRow_later ho b1, HL, hid (bel_go b1 Hb.out)⟩
        case measure => simp [intOf]; omega
      case true =>
        have hp := HP.out h1 h2
        have Hp := hid hp
        clear hp HP
        go_upto_region 7 with fail
        generalize hW : (wr.alloc (.cells #[.string ⟨nm.toArray⟩, .int .i64 aj, .int .i64 sj] 39)) = w1 at *
        have b2 := below1 w1 (.cells #[.int .i64 (j : Nat)] 3)
        have ho2 := ownsRow_later ho (bel_go b2 b1)
        have hi2 := IAt.one w1 (j : Nat)
        have z2 := size_alloc w1 (.cells #[.int .i64 (j : Nat)] 3)
        have Hb2 := hid (bel_go b2 (bel_go b1 Hb.out))
        obtain ⟨pL, cL, rfl⟩ := ownsRow_shape ho
        have z1' := b1.size
        have hz2 : w.heap.size ≤ (w1.alloc (.cells #[.int .i64 (j : Nat)] 3)).heap.size := Hb2.out.size
        clear hW ho b1 b2 z1
        go_wp2_with (at_builtin; refine wpList_append_zints rfl _ _ 69 rfl elemInts w.heap.size _ L rfl ho2 _ [((j : Nat) : Int)] rfl hi2 (by simp [maxLen]; omega) (by simp; omega) hz2 ?_; intro v3 w3 ho3 hb3 hz3)
        go_roundw
        case rel => exact ⟨k + 1, L ++ [((j : Nat) : Int)], by omega, rfl, by simp; omega, ho3, hid (fun x hx => by
          rcases List.mem_append.1 hx with h | h
          · exact HL.out x h
          · rw [List.mem_singleton.1 h]; exact Hp.out), hid (Hb2.out.trans hb3)⟩
        case measure => simp [intOf]; omega
    · have hkk : k = us.length := by omega
      subst hkk
      obtain ⟨pL, cL, rfl⟩ := ownsRow_shape ho
      by_cases hL0 : L.length = 0
      case pos =>
        have hm := hid (HH.out.go (Hb.out.mono (B' := w.heap.size) (Nat.le_refl _)))
        rw [hL0] at *
        go_wp2_with fail
        go_ret
        exact ⟨-1, rfl, .inl rfl, ⟨_, _, _, hm.out⟩, MkFr.of_below Hb.out⟩
      case neg =>
        have hn := hid (Next_in ((L.length : Nat) : Int) (HH.out.tp.go Hb.out) (by omega))
        have hL1 : ((L.length : Int) == 0) = false := by rw [beq_eq_false_iff_ne]; omega
        have hL2 : (L.length == 0) = false := by rw [beq_eq_false_iff_ne]; omega
        have hm := HH.out.go Hb.out
        have Hm := hid hm
        clear hm
        go_wp2_with fail
        refine hn.out.mono ?_
        rintro e w3 ⟨q, rfl, hq, ht, hA⟩
        have hqL : q < L.length := by omega
        have htl := Hm.out.tp.2.2.2.2.lt
        have htw := HH.out.tp.2.2.2.2.lt
        have ho3 := row_stays ho (w' := w3) fun k hk => hA.block k (World.ownsRow.lt ho k hk).2 (fun e => by have := (World.ownsRow.lt ho k hk).1; omega)
        have hi3 := IAt.own (ownsRow_mono ho3 (Nat.zero_le _))
        obtain ⟨p3, c3, e3, r1, r2, -, r4⟩ := hi3
        cases e3
        obtain ⟨b3, o3, rfl, t1, t2⟩ := r4 (by omega)
        have m3 := t2 q hqL
        have Hp := hid (HL.out L[q] (List.getElem_mem hqL))
        have HR := hid (And.intro (Hm.out.next ht hA) (show MkFr w w3 from (MkFr.of_below Hb.out).trans (Hm.out.tp.fr hA)))
        unfold maxLen at r2
        generalize L[q] = x at *
        clear r4 t2 ho ho3 ht hA hcb k0 k1 k2 k3 hn hL1 hL2 Hm HL hq
        go_wp2
        go_ret
        exact ⟨x, rfl, .inr Hp.out, ⟨_, _, _, HR.out.1⟩, HR.out.2⟩
end Go.Proofs.YtckkpolikdnilaaGreatDoor
/- elenchusmake's terms of symbols. -/
namespace Go.Proofs.YtckkpolikdnilaaGreatDoor
open Go.RowKit Big Go.WideMaps

section
variable {P : Program} {w : World} {ops : Array Oper} {rest : List Oper} {o : Oper} {a : Act} {Q : Exit → Act → World → Prop}
/-- wpList_append_zints, told which block may have turned -/
theorem wpList_append_zints_g (hgd : o.guard = none) (s x : Operand) (t : TypeId)
    (ho : o.op = .call { callee := .builtin .append, args := #[s, x], argTypes := #[t, t] })
    {e : TypeId} {size : Nat} (E : Elem P t e .i64 size) (base : Nat) (v : Value) (l : List Int) (hs : a.eval s = v) (hown : w.ownsRow base e 1 v l.length (zints l))
    (vx : Value) (m : List Int) (hx : a.eval x = vx) (hat : IAt w vx m) (hm : 0 < m.length)
    (hlen : l.length + m.length ≤ maxLen) (hbytes : (l.length + m.length) * size ≤ 140737488355328) (hbase : base ≤ w.heap.size)
    (h : ∀ v' w', w'.ownsRow base e 1 v' (l ++ m).length (zints (l ++ m)) → Apart (fun k => v.ownBlock = some k) w w' → (v'.ownBlock = v.ownBlock ∨ v'.ownBlock = some w.heap.size) → wpList P ops Q rest (a.put o.dst v') w') : wpList P ops Q (o :: rest) a w := by
  obtain ⟨i, hi, hz, hsz, hby⟩ := E.row
  obtain ⟨p, cap, rfl, h1, h2, h3, h4⟩ := hat
  obtain ⟨b, off, rfl, hb, hc⟩ := h4 hm
  refine wpList_append_own_at w hgd s x t ho base e i (.int .i64 0) 1 size E.und hi hz hsz hby rfl (by decide) v l.length (zints l) hs hown _ m.length cap (zints m) hx (by simp [zints_length]) ?_ ?_ hlen hbytes hbase ?_
  · intro j u hj
    by_cases hjm : j < m.length
    · rw [Go.WideShapes.add_plain, hc j hjm]
      simpa [zints, hjm] using hj
    · rw [List.getElem?_eq_none (by rw [zints_length]; omega)] at hj; cases hj
  · intro u hu
    obtain ⟨n, _, rfl⟩ := List.mem_map.1 hu
    rfl
  · intro v' w' h5 h6 _ h7
    refine h v' w' ?_ ((Apart.refl _ _).grown h6 (fun k e => e)) h7
    rw [List.length_append, show zints (l ++ m) = zints l ++ zints m by simp [zints]]; exact h5
end
theorem MkParts.app {W0 w w' : World} {S X X' : Nat → Prop} {b t : Nat} {vB : Value} {bs : List Nat} {p : Po} {us : List Int} {vs vr vy : Value} (h : MkParts W0 X w b t vB bs p us vs vr vy) (hA : Apart S w w') (hS : ∀ k, S k → X k ∧ W0.heap.size ≤ k ∧ ∃ c, w.heap[k]? = some (.cells c 3 (0, 0)))
    (hX : ∀ k, X' k → X k ∨ w.heap.size ≤ k) (hl : ∀ k, X' k → k < w'.heap.size) : MkParts W0 X' w' b t vB bs p us vs vr vy := by
  have hne : ∀ (k : Nat) (c : Array Value) (ty : TypeId), w.heap[k]? = some (.cells c ty (0, 0)) → ty ≠ 3 → w'.heap[k]? = w.heap[k]? := fun k c ty hc h1 => hA.block k (lt_of_block hc) (fun hs => by
    obtain ⟨-, -, c', hc'⟩ := hS k hs
    exact tag_ne hc hc' h1 rfl)
  have hrow : ∀ {e : TypeId} {s n B : Nat} {v : Value} {xs : List Value}, w.ownsRow B e s v n xs → e ≠ 3 → w'.ownsRow B e s v n xs := fun hr h1 => row_stays hr fun k hk => by
    obtain ⟨c, hc⟩ := row_tag hr k hk
    exact hne k c _ hc h1
  have hint : ∀ {v : Value} {n : Nat} {xs : List Value}, w.ownsRow W0.heap.size 3 1 v n xs → (∀ k, v.ownBlock = some k → ¬ X k) → w'.ownsRow W0.heap.size 3 1 v n xs ∧ ∀ k, v.ownBlock = some k → ¬ X' k := fun hr hx => ⟨row_stays hr fun k hk => hA.block k (World.ownsRow.lt hr k hk).2 (fun hs => hx k hk (hS k hs).1), fun k hk e => by
    rcases hX k e with h1 | h1
    · exact hx k hk h1
    · have := (World.ownsRow.lt hr k hk).2; omega⟩
  have hu := hint h.used h.usx
  refine ⟨?_, h.ge, (hne b _ _ h.cell (by decide)).trans h.cell, hrow h.syms (by decide), ?_, hu.1, h.mkp, h.uses, h.arity, h.few, hl, hu.2⟩
  · obtain ⟨h1, h2, h3, h4, a, ha, hc⟩ := h.tp
    exact ⟨h1, h2, h3, h4.trans (hA.below h4.size (fun k hk => (hS k hk).2.1)), a, ha, (hne t _ _ hc (by decide)).trans hc⟩
  · exact (h.rows.stays (fun k c ty hc _ hk => by
      rcases hk with rfl | hk
      · exact hne k c _ hc (by decide)
      · obtain ⟨cs, hr, -⟩ := h.rows
        obtain ⟨c', hc'⟩ := row_tag hr k hk
        exact hne k c' _ hc' (by decide)) (fun k c hc => hne k c _ hc (by decide))).q fun _ _ q => hint q.1 q.2
theorem MkAt.app {W0 w w' : World} {S X X' : Nat → Prop} {b t : Nat} {vB : Value} {bs : List Nat} {p : Po} {us : List Int} (h : MkAt W0 X w b t vB bs p us) (hA : Apart S w w') (hS : ∀ k, S k → X k ∧ W0.heap.size ≤ k ∧ ∃ c, w.heap[k]? = some (.cells c 3 (0, 0)))
    (hX : ∀ k, X' k → X k ∨ w.heap.size ≤ k) (hl : ∀ k, X' k → k < w'.heap.size) : MkAt W0 X' w' b t vB bs p us := by
  obtain ⟨vs, vr, vy, h⟩ := h
  exact ⟨vs, vr, vy, h.app hA hS hX hl⟩
theorem MkAt.less {W0 w : World} {X X' : Nat → Prop} {b t : Nat} {vB : Value} {bs : List Nat} {p : Po} {us : List Int} (h : MkAt W0 X w b t vB bs p us) (hX : ∀ k, X' k → X k) : MkAt W0 X' w b t vB bs p us := by
  obtain ⟨vs, vr, vy, h⟩ := h
  exact ⟨vs, vr, vy, h.app (Apart.refl (fun _ => False) w) (fun _ h => h.elim) (fun k hk => .inl (hX k hk)) (fun k hk => h.xlt k (hX k hk))⟩
/-- the loop of app: the parts that are there -/
def AppIn (W0 : World) (X : Nat → Prop) (b t : Nat) (vB : Value) (bs : List Nat) (us : List Int) (p : Po) (m : Nat) (w : World) (o : Value) (k : Nat) (L : List Int) (wr : World) : Prop :=
  ∃ p', L.length = k ∧ wr.ownsRow w.heap.size 3 1 o L.length (zints L) ∧ (∀ x ∈ L, ∃ j : Nat, x = (j : Nat) ∧ IsTm p' j 2) ∧ MkAt W0 (fun i => X i ∨ o.ownBlock = some i) wr b t vB bs p' us ∧ MkExt p p' ∧ p'.terms.length ≤ p.terms.length + k * m ∧ MkFr w wr
set_option maxRecDepth 100000 in
set_option maxHeartbeats 6400000 in
theorem app_any {W0 w : World} {X : Nat → Prop} {b t : Nat} {vB : Value} {bs : List Nat} {p : Po} {us : List Int} (h : MkAt W0 X w b t vB bs p us) (m : Nat) (ar so deep : Int) (other : Nat) (har : ar = 0 ∨ ar = 1) (hd : -100 ≤ deep ∧ deep ≤ 100)
    (hrec : ar = 1 → ∀ X' w' p', MkAt W0 X' w' b t vB bs p' us → p'.terms.length + m ≤ 4096 → Calls Tryz.prog 42 #[.pointer (some ⟨b, 0, none⟩), .int .i64 (deep - 1)] w' (MkRes W0 X' b t vB bs us p' m 2 none w'))
    (hn : p.terms.length + 2 * m + 1 ≤ 4096) (hot : IsTm p other so) :
    Calls Tryz.prog 46 #[.pointer (some ⟨b, 0, none⟩), .int .i64 ar, .int .i64 so, .int .i64 deep, .int .i64 (other : Nat)] w (MkRes W0 X b t vB bs us p (2 * m + 1) so none w) := by
  have Hrec := hid hrec
  have Hpick := hid (pick_any h ar so)
  have Hot := hid hot
  have hW0 : W0.heap.size ≤ w.heap.size := by obtain ⟨_, _, _, h⟩ := h; exact h.tp.2.2.2.1.size
  have hxl : ∀ k, X k → k < w.heap.size := by obtain ⟨_, _, _, h⟩ := h; exact h.xlt
  have Hxl := hid hxl
  have har2 : ∀ s ∈ p.syms, 0 ≤ s.arity ∧ s.arity ≤ 2 := by obtain ⟨_, _, _, h⟩ := h; exact h.arity
  have hp256 : p.syms.length ≤ 256 := by obtain ⟨_, _, _, h⟩ := h; exact h.mkp.good.2.2.1
  clear h hrec hot hxl
  go_enter Tryz.func46, Tryz.ntmps46
  go_wp2_with fail
  refine Hpick.out.mono ?_
  rintro e w1 ⟨r, rfl, hr, hm1, hf1⟩
  have Hm1 := hid hm1; have Hf1 := hid hf1
  clear hm1 hf1 Hpick
  rcases hr with rfl | ⟨j, rfl, hj, hso, haj⟩
  · go_wp2
    go_ret
    exact ⟨other, p, rfl, Hm1.out, MkExt.refl p, Hot.out, (fun x e => by cases e), by omega, Hf1.out⟩
  · have hjp := hj
    have haj2 := har2 p.syms[j] (List.getElem_mem hj)
    have Hso := hid hso
    obtain ⟨aj, haje⟩ : ∃ aj, aj = p.syms[j].arity := ⟨_, rfl⟩
    have Haj := hid haje
    rw [← haje] at haj haj2
    have hjd : decide (((j : Nat) : Int) < 0) = false := by simp
    have hwz := Hf1.out.size
    clear hso haje har2
    go_wp2_with fail
    go_loopw [12, 13] (fun o i wr => ∃ (k : Nat) (L : List Int), i = .int .i64 (k : Nat) ∧ (k : Int) ≤ aj ∧ Hid (AppIn W0 X b t vB bs us p m w o k L wr)) (fun _ i _ => (aj - intOf i).toNat)
    case atStart => exact ⟨0, [], rfl, by omega, hid ⟨p, rfl, World.ownsRow_nil _ _ _ _, (fun x h => absurd h (by simp)), Hm1.out.less (fun k hk => hk.elim id (fun e => by cases e)), MkExt.refl p, by simp, Hf1.out⟩⟩
    case round =>
      obtain ⟨k, L, rfl, hk, Hk⟩ := hrel
      obtain ⟨p', hLk, ho, hL, hm, hext, hlen, hf⟩ := Hk.out
      obtain ⟨pL, cL, rfl⟩ := ownsRow_shape ho
      have hm' := hm
      obtain ⟨vs, vr, vy, H⟩ := hm'
      have hsy := (SyAt.own (ownsRow_mono H.syms (Nat.zero_le _))).handed
      have hes := hext.1
      rw [hes] at hsy
      obtain ⟨ps, cs, rfl, i1, i2, -, i4⟩ := hsy
      obtain ⟨bc, oc, rfl, s1, s2⟩ := i4 (by omega)
      obtain ⟨-, n1, -⟩ := s2 j hjp
      rw [← Haj.out] at n1
      have q4 := four_cells H.cell
      obtain ⟨k0, k1, k2, k3⟩ := q4
      have hjl' : (j : Int) < (p.syms.length : Nat) := by omega
      unfold maxLen at i2
      have HLk := hid hLk; have hLk2 : L.length ≤ k := Nat.le_of_eq hLk; have hLk3 : k ≤ L.length := Nat.le_of_eq hLk.symm; have HL := hid hL; have Hm := hid hm; have Hext := hid hext; have Hlen := hid hlen; have Hf := hid hf
      have hzr := Hf.out.size
      clear s2 i4 H hL hm hext hlen hf hes Hk hLk
      cases hlt : decide ((k : Int) < aj)
      case true =>
        have hka := of_decide_eq_true hlt
        have har1 : ar = 1 := by
          rcases har with rfl | rfl
          · simp at haj; omega
          · rfl
        have hbnd : p'.terms.length + m ≤ 4096 := by
          have := Hlen.out
          have hk2 : k = 0 ∨ k = 1 := by omega
          rcases hk2 with rfl | rfl <;> omega
        have Hcall := hid (Hrec.out har1 _ wr p' Hm.out hbnd)
        clear har1 hbnd
        go_wp2_with fail
        refine Hcall.out.mono ?_
        rintro e w3 ⟨x, p3, rfl, hm3, hext3, hx3, -, hlen3, hf3⟩
        have ho3 := hf3.row ho (by decide) (by decide) (by decide)
        have b4 := below1 w3 (.cells #[.int .i64 (x : Nat)] 3)
        have ho4 := ownsRow_later ho3 b4
        have hi4 := IAt.one w3 (x : Nat)
        have hm4 := hm3.go b4
        have hf4 := (Hf.out.trans hf3).trans (MkFr.of_below b4)
        have hz4 : w.heap.size ≤ (w3.alloc (.cells #[.int .i64 (x : Nat)] 3)).heap.size := hf4.size
        have hz4' : (w3.alloc (.cells #[.int .i64 (x : Nat)] 3)).heap.size = w3.heap.size + 1 := size_alloc w3 _
        have Hm4 := hid hm4; have Hf4 := hid hf4; have Hext3 := hid (Hext.out.trans hext3); have Hx3 := hid hx3; have Hlen3 := hid hlen3
        have HL3 := hid (show ∀ y ∈ L, ∃ i : Nat, y = (i : Nat) ∧ IsTm p3 i 2 from fun y hy => by obtain ⟨i, e1, h1⟩ := HL.out y hy; exact ⟨i, e1, h1.ext hext3⟩)
        have hL2 : L.length ≤ 2 := by omega
        clear ho ho3 hm3 hext3 hx3 hlen3 hf3 b4 hm4 hf4 k0 k1 k2 k3 n1 Hcall Hm Hf Hext HL
        go_wp2_with (at_builtin; refine wpList_append_zints_g rfl _ _ 69 rfl elemInts w.heap.size _ L rfl ho4 _ [((x : Nat) : Int)] rfl hi4 (by simp) (by simp [maxLen]; omega) (by simp; omega) hz4 ?_; intro v5 w5 ho5 hA5 hv5)
        have hS5 : ∀ i, (Value.slice pL L.length cL).ownBlock = some i → (X i ∨ (Value.slice pL L.length cL).ownBlock = some i) ∧ W0.heap.size ≤ i ∧ ∃ c, (w3.alloc (.cells #[.int .i64 (x : Nat)] 3)).heap[i]? = some (.cells c 3 (0, 0)) := fun i hi => ⟨.inr hi, by have := (World.ownsRow.lt ho4 i hi).1; omega, row_tag ho4 i hi⟩
        have hm5 : MkAt W0 (fun i => X i ∨ v5.ownBlock = some i) w5 b t vB bs p3 us := Hm4.out.app hA5 hS5 (fun i hi => by
          rcases hi with h1 | h1
          · exact .inl (.inl h1)
          · rcases hv5 with e | e
            · exact .inl (.inr (e ▸ h1))
            · rw [e] at h1; injection h1 with h1; exact .inr (Nat.le_of_eq h1)) (fun i hi => by
          have hz5 := hA5.size
          rcases hi with h1 | h1
          · have := Hxl.out i h1; omega
          · exact (World.ownsRow.lt ho5 i h1).2)
        have hf5 : MkFr w w5 := ⟨hA5.os.trans Hf4.out.os, hA5.tape.trans Hf4.out.tape, hA5.output.trans Hf4.out.output, Nat.le_trans Hf4.out.size hA5.size, fun i o hi hno => by
          have hil := (Array.getElem?_eq_some_iff.1 hi).1
          have h4 := Hf4.out.block i o hi hno
          exact (hA5.block i (Nat.lt_of_lt_of_le hil hz4) (fun e => by have := (World.ownsRow.lt ho4 i e).1; omega)).trans h4⟩
        have Hfin := hid (show AppIn W0 X b t vB bs us p m w v5 (k + 1) (L ++ [((x : Nat) : Int)]) w5 from ⟨p3, by simp [HLk.out], ho5, fun y hy => by
          rcases List.mem_append.1 hy with h1 | h1
          · exact HL3.out y h1
          · exact ⟨x, List.mem_singleton.1 h1, Hx3.out⟩, hm5, Hext3.out, by
          have h1 := Hlen.out; have h2 := Hlen3.out
          have h3 : (k + 1) * m = k * m + m := by rw [Nat.add_mul, Nat.one_mul]
          omega, hf5⟩)
        clear ho5 hA5 hv5 hS5 hm5 hf5 ho4 hi4
        go_roundw
        case rel => exact ⟨k + 1, _, rfl, by omega, Hfin⟩
        case measure => simp [intOf]; omega
      case false =>
        have hka := of_decide_eq_false hlt
        obtain ⟨hHm1, hHm2⟩ := (show (k : Int) = aj ∧ True from ⟨by omega, trivial⟩)
        have hw4 : plWrong p' ⟨4, L, 0, (j : Nat)⟩ = 0 := by
          refine mk_app p' j L (by rw [Hext.out.1]; exact hjp) ?_ HL.out
          simp only [Hext.out.1]
          rw [← Haj.out, HLk.out]; exact hHm1
        have hso4 : plSort p' ⟨4, L, 0, (j : Nat)⟩ = so := by
          unfold plSort plSymAt
          rw [if_pos rfl, Hext.out.1]
          simp only [Int.toNat_natCast, List.getElem?_eq_getElem hjp, Option.getD_some]
          exact Hso.out
        have hl4 : p'.terms.length < 4096 := by
          have := Hlen.out
          have hk2 : k = 0 ∨ k = 1 ∨ k = 2 := by omega
          rcases hk2 with rfl | rfl | rfl <;> omega
        have hln : p'.terms.length + 1 ≤ p.terms.length + (2 * m + 1) := by
          have := Hlen.out
          have hk2 : k = 0 ∨ k = 1 ∨ k = 2 := by omega
          rcases hk2 with rfl | rfl | rfl <;> omega
        have Hb := hid (BMake_any (Hm.out.less (X' := X) (fun k hk => .inl hk)) ⟨4, L, 0, (j : Nat)⟩ (.slice pL L.length cL) false none 0 0 ⟨ownsRow_mono ho hW0, fun i hi hx => by have h1 := (World.ownsRow.lt ho i hi).1; have := Hxl.out i hx; omega⟩ (zeroRaw wr) hw4 hl4 ⟨by show L.length ≤ 8; omega, by show sz W 0 ≤ 8; rw [sz_zero]; omega⟩)
        rw [hso4] at Hb
        clear hHm1 hHm2 hw4 hso4 hl4 ho
        go_wp2_with fail
        refine Hb.out.mono ?_
        rintro e w6 ⟨x, p6, rfl, hm6, hext6, hx6, -, hlen6, hf6⟩
        have Hfin := hid (show MkRes W0 X b t vB bs us p (2 * m + 1) so none w (.returned (.int .i64 (x : Nat))) w6 from ⟨x, p6, rfl, hm6, Hext.out.trans hext6, hx6, (fun x e => by cases e), by omega, Hf.out.trans hf6⟩)
        clear hm6 hext6 hx6 hlen6 hf6 k0 k1 k2 k3 n1
        go_wp2
        go_ret
        exact Hfin.out
end Go.Proofs.YtckkpolikdnilaaGreatDoor
/- elenchusmake's numbers once more: nothing but the tape has turned (made out of XMkNum by gen_mknum2.py). -/
namespace Go.Proofs.YtckkpolikdnilaaGreatDoor
open Go.RowKit Big Go.WideMaps

set_option maxRecDepth 100000 in
set_option maxHeartbeats 6400000 in
theorem Num_apart {W0 w : World} {t : Nat} {v : Value} {l : List Nat} (h : TpIn W0 w t v l) :
    Calls Tryz.prog 62 #[.pointer (some ⟨t, 0, none⟩)] w (fun e w' => ∃ u z, e = .returned u ∧ IntAt w' u z ∧ sz W z.natAbs ≤ 8 ∧ TpIn W0 w' t v l ∧ Apart (fun i => i = t) w w') := by
  have b0 := below1 w (.cells #[.bool false, .slice none 0 0] 44)
  have hr0 := heap_alloc_new w (.cells #[.bool false, .slice none 0 0] 44)
  have hz0 := size_alloc w (.cells #[.bool false, .slice none 0 0] 44)
  have htl := h.2.2.2.2.lt
  have htW := h.2.2.1
  have hWw := h.2.2.2.1.size
  have H1 := hid (h.go b0)
  have F1 := hid (Apart.of_below (S := fun i => i = t) b0)
  clear h b0
  go_enter Tryz.func62, Tryz.ntmps62
  go_wp2_with fail
  generalize hW : (w.alloc (.cells #[.bool false, .slice none 0 0] 44)) = W1 at *
  clear hW
  refine (Next_in 9 H1.out (by decide)).mono ?_
  rintro e w1 ⟨k, rfl, hk, h1, hA1⟩
  have hk9 : (k : Int) < 9 := by omega
  have hr1 := (hA1.block w.heap.size (by omega) (by omega)).trans hr0
  have F2 := hid (F1.out.go hA1)
  have H2 := hid h1
  have hz1 := hA1.size
  clear hA1 h1 hr0 hk F1 H1
  go_wp2_with fail
  refine (ROf_any ((k : Int) - 4) w1 (by omega) (by omega)).mono ?_
  rintro e w2 ⟨u, rfl, i2, b2⟩
  obtain ⟨p2, n2, c2, rfl, i2⟩ := i2.shape
  have hr2 := (b2.block w.heap.size (by omega)).trans hr1
  have hz2 := b2.size
  have b3 := below1 w2 (.cells #[.bool (decide ((k : Int) - 4 < 0)), .slice p2 n2 c2] 44)
  have x3 := BoxAt.new i2
  have hz3 := size_alloc w2 (.cells #[.bool (decide ((k : Int) - 4 < 0)), .slice p2 n2 c2] 44)
  have hr3 := (b3.block w.heap.size (by omega)).trans hr2
  have H3 := hid ((H2.out.go b2).go b3)
  have F3 := hid (F2.out.go (Apart.of_below (S := fun i => i = t) (bel_go b3 b2)))
  have X3 := hid x3; have R3 := hid hr3
  have hsz : sz W ((k : Int) - 4).natAbs ≤ 1 := sz_le_of_lt W2 (by unfold W; omega)
  clear hr1 hr2 x3 hr3 i2 b2 b3 F2 H2
  go_wp2_with fail
  generalize hW : (w2.alloc (.cells #[.bool (decide ((k : Int) - 4 < 0)), .slice p2 n2 c2] 44)) = W3 at *
  clear hW
  refine (Next_in 12 H3.out (by decide)).mono ?_
  rintro e w4 ⟨k2, rfl, hk2, h4, hA4⟩
  have hk12 : (k2 : Int) < 12 := by omega
  have X4 := hid (H3.out.box X3.out (by omega) hA4)
  have R4 := hid ((hA4.block w.heap.size (by omega) (by omega)).trans R3.out)
  have F4 := hid (F3.out.go hA4)
  have H4 := hid h4
  have hz4 := hA4.size
  clear hA4 h4 hk2 F3 H3 X3 R3
  have fin : ∀ (wf : World) (z : Int), sz W z.natAbs ≤ 8 → BoxAt wf w2.heap.size z → wf.heap[w.heap.size]? = some (.cells #[.bool false, .slice none 0 0] 44 (0, 0)) → TpIn W0 wf t v l → Apart (fun i => i = t) w wf →
      ∃ p n c, wf.cell? ⟨w2.heap.size, 0, none⟩ = some (.bool (decide (z < 0))) ∧ wf.cell? ⟨w2.heap.size, 1, none⟩ = some (.slice p n c) ∧ wf.cell? ⟨w.heap.size, 0, none⟩ = some (.bool false) ∧ wf.cell? ⟨w.heap.size, 1, none⟩ = some (.slice none 0 0) ∧ wf.frozen? ⟨w.heap.size, 0, none⟩ = false ∧ wf.frozen? ⟨w.heap.size, 1, none⟩ = false ∧
        ((wf.setCell ⟨w.heap.size, 0, none⟩ (.bool (decide (z < 0)))).setCell ⟨w.heap.size, 1, none⟩ (.slice p n c)).cell? ⟨w.heap.size, 0, none⟩ = some (.bool (decide (z < 0))) ∧ ((wf.setCell ⟨w.heap.size, 0, none⟩ (.bool (decide (z < 0)))).setCell ⟨w.heap.size, 1, none⟩ (.slice p n c)).cell? ⟨w.heap.size, 1, none⟩ = some (.slice p n c) ∧
        ∃ u z', u = .agg #[.bool (decide (z < 0)), .slice p n c] ∧ IntAt ((wf.setCell ⟨w.heap.size, 0, none⟩ (.bool (decide (z < 0)))).setCell ⟨w.heap.size, 1, none⟩ (.slice p n c)) u z' ∧ sz W z'.natAbs ≤ 8 ∧ TpIn W0 ((wf.setCell ⟨w.heap.size, 0, none⟩ (.bool (decide (z < 0)))).setCell ⟨w.heap.size, 1, none⟩ (.slice p n c)) t v l ∧ Apart (fun i => i = t) w ((wf.setCell ⟨w.heap.size, 0, none⟩ (.bool (decide (z < 0)))).setCell ⟨w.heap.size, 1, none⟩ (.slice p n c)) := by
    intro wf z hz ⟨p, n, c, x1, x2⟩ hr ht hf
    obtain ⟨q0, q1, -, -⟩ := two_cells x1
    obtain ⟨r0, r1, f0, f1⟩ := two_cells hr
    obtain ⟨s0, s1, -, -⟩ := two_cells (set2_same hr (.bool (decide (z < 0))) (.slice p n c))
    obtain ⟨sx, hsx, ha⟩ := x2
    have hsx : sx = .slice p n c := by simpa using hsx.symm
    subst hsx
    have e1 : (wf.setCell ⟨w.heap.size, 0, none⟩ (.bool (decide (z < 0)))).heap[w.heap.size]? = some (.cells #[.bool (decide (z < 0)), .slice none 0 0] 44 (0, 0)) := by simpa using heap_setCell_same wf w.heap.size 0 _ _ (.bool (decide (z < 0))) hr
    exact ⟨p, n, c, q0, q1, r0, r1, f0, f1, s0, s1, _, z, rfl, ⟨_, rfl, (ha.offRec hr (by simp [noWord]) 0 _).offRec e1 (by simp [noWord]) 1 _⟩, hz, (ht.set (p := ⟨w.heap.size, 0, none⟩) hWw (by show w.heap.size ≠ t; omega) _).set (p := ⟨w.heap.size, 1, none⟩) hWw (by show w.heap.size ≠ t; omega) _, (hf.setNew (q := ⟨w.heap.size, 0, none⟩) (Nat.le_refl _) _).setNew (q := ⟨w.heap.size, 1, none⟩) (Nat.le_refl _) _⟩
  have Fin := hid fin
  clear fin
  by_cases hc : k2 = 1
  case neg =>
    have hc1 : ((k2 : Int) == 1) = false := by simp; omega
    have hc2 : (k2 == 1) = false := by simp; omega
    obtain ⟨p, n, c, q0, q1, r0, r1, f0, f1, s0, s1, hfin⟩ := Fin.out w4 _ (by omega) X4.out R4.out H4.out F4.out
    have Hf := hid hfin
    clear hfin
    go_wp2
    refine bodyPost_ret (v := .agg #[.bool (decide ((k : Int) - 4 < 0)), .slice p n c]) (by simp [results, Tryz.results62, go_sem, s0, s1]) rfl ?_
    obtain ⟨u, z', rfl, h⟩ := Hf.out
    exact ⟨_, z', rfl, h⟩
  case pos =>
    subst hc
    go_wp2_with fail
    refine (ROf_any 1000000007 w4 (by omega) (by omega)).mono ?_
    rintro e w5 ⟨u5, rfl, i5, b5⟩
    obtain ⟨p5, n5, c5, rfl, i5⟩ := i5.shape
    have X5 := hid (X4.out.go b5)
    have R5 := hid ((b5.block w.heap.size (by omega)).trans R4.out)
    have F5 := hid (F4.out.go (Apart.of_below (S := fun i => i = t) b5))
    have H5 := hid (H4.out.go b5)
    have I5 := hid i5
    have hz5 := b5.size
    clear b5 i5 X4 R4 F4 H4
    go_wp2_with fail
    refine (Next_in 200 H5.out (by decide)).mono ?_
    rintro e w6 ⟨k6, rfl, hk6, h6, hA6⟩
    have hk200 : (k6 : Int) < 200 := by omega
    have X6 := hid (H5.out.box X5.out (by omega) hA6)
    have R6 := hid ((hA6.block w.heap.size (by omega) (by omega)).trans R5.out)
    have F6 := hid (F5.out.go hA6)
    have I6 := hid (H5.out.int I5.out hA6)
    have H6 := hid h6
    have hz6 := hA6.size
    clear hA6 h6 hk6 X5 R5 F5 H5 I5
    go_wp2_with fail
    refine (ROf_any ((k6 : Int) - 100) w6 (by omega) (by omega)).mono ?_
    rintro e w7 ⟨u7, rfl, i7, b7⟩
    obtain ⟨p7, n7, c7, rfl, i7⟩ := i7.shape
    have s5 : sz W (1000000007 : Int).natAbs ≤ 1 := sz_le_of_lt W2 (by unfold W; decide)
    have s7 : sz W ((k6 : Int) - 100).natAbs ≤ 1 := sz_le_of_lt W2 (by unfold W; omega)
    have Hm8 := hid (RMul_any _ _ 1000000007 ((k6 : Int) - 100) w7 ((I6.out.below' b7).raw (by omega)) (i7.raw (by omega)) (by omega) (by omega))
    have X7 := hid (X6.out.go b7)
    have R7 := hid ((b7.block w.heap.size (by omega)).trans R6.out)
    have F7 := hid (F6.out.go (Apart.of_below (S := fun i => i = t) b7))
    have H7 := hid (H6.out.go b7)
    have hz7 := b7.size
    clear b7 i7 X6 R6 F6 H6 I6
    go_wp2_with fail
    refine Hm8.out.mono ?_
    rintro e w8 ⟨u8, rfl, i8, b8⟩
    obtain ⟨z8, hz8⟩ : ∃ z8 : Int, z8 = 1000000007 * ((k6 : Int) - 100) := ⟨_, rfl⟩
    rw [← hz8] at i8
    have s8 : sz W z8.natAbs ≤ 1 := sz_le_of_lt W2 (by unfold W; omega)
    obtain ⟨p8, n8, c8, rfl, i8⟩ := i8.shape
    have X8 := hid (X7.out.go b8)
    have R8 := hid ((b8.block w.heap.size (by omega)).trans R7.out)
    have F8 := hid (F7.out.go (Apart.of_below (S := fun i => i = t) b8))
    have H8 := hid (H7.out.go b8)
    have hs8 := b8.size
    clear b8 X7 R7 F7 H7 Hm8 hz8
    have x8 := X8.out
    obtain ⟨p', n', c', x8, -⟩ := x8
    have q := two_cells x8
    obtain ⟨q0, q1, f0, f1⟩ := q
    have hX : w.heap.size ≤ w2.heap.size := by omega
    have X9 := hid (X8.out.set i8)
    have R9 := hid ((Below.heap_setCell (w8.setCell ⟨w2.heap.size, 0, none⟩ (.bool (decide (z8 < 0)))) ⟨w2.heap.size, 1, none⟩ (.slice p8 n8 c8) w.heap.size (by show w.heap.size ≠ w2.heap.size; omega)).trans ((Below.heap_setCell w8 ⟨w2.heap.size, 0, none⟩ (.bool (decide (z8 < 0))) w.heap.size (by show w.heap.size ≠ w2.heap.size; omega)).trans R8.out))
    have F9 := hid ((F8.out.setNew (q := ⟨w2.heap.size, 0, none⟩) hX (.bool (decide (z8 < 0)))).setNew (q := ⟨w2.heap.size, 1, none⟩) hX (.slice p8 n8 c8))
    have H9 := hid ((H8.out.set (p := ⟨w2.heap.size, 0, none⟩) (by show _ ≤ w2.heap.size; omega) (by show w2.heap.size ≠ t; omega) (.bool (decide (z8 < 0)))).set (p := ⟨w2.heap.size, 1, none⟩) (by show _ ≤ w2.heap.size; omega) (by show w2.heap.size ≠ t; omega) (.slice p8 n8 c8))
    have hs9 : w8.heap.size ≤ ((w8.setCell ⟨w2.heap.size, 0, none⟩ (.bool (decide (z8 < 0)))).setCell ⟨w2.heap.size, 1, none⟩ (.slice p8 n8 c8)).heap.size := by simp [World.setCell]
    clear x8 i8 X8 R8 F8 H8
    go_upto_region 4 with fail
    generalize hW : ((w8.setCell ⟨w2.heap.size, 0, none⟩ (.bool (decide (z8 < 0)))).setCell ⟨w2.heap.size, 1, none⟩ (.slice p8 n8 c8)) = w9 at *
    clear hW q0 q1 f0 f1
    have x9 := X9.out
    obtain ⟨p9, n9, c9, x9, i9⟩ := x9
    have q := two_cells x9
    obtain ⟨q0, q1, f0, f1⟩ := q
    have Hm10 := hid (RMul_any _ _ z8 z8 w9 (i9.raw (by omega)) (i9.raw (by omega)) (by omega) (by omega))
    clear x9 i9
    go_wp2_with fail
    refine Hm10.out.mono ?_
    rintro e w10 ⟨u10, rfl, i10, b10⟩
    have s10 : sz W (z8 * z8).natAbs ≤ 8 := by rw [Int.natAbs_mul]; have := sz_mul W2 z8.natAbs z8.natAbs; omega
    generalize z8 * z8 = z10 at *
    obtain ⟨p10, n10, c10, rfl, i10⟩ := i10.shape
    have X10 := hid (X9.out.go b10)
    have R10 := hid ((b10.block w.heap.size (by omega)).trans R9.out)
    have F10 := hid (F9.out.go (Apart.of_below (S := fun i => i = t) b10))
    have H10 := hid (H9.out.go b10)
    have hs10 := b10.size
    clear b10 X9 R9 F9 H9 Hm10 q0 q1 f0 f1
    have x10 := X10.out
    obtain ⟨p', n', c', x10, -⟩ := x10
    have q := two_cells x10
    obtain ⟨q0, q1, f0, f1⟩ := q
    have X11 := hid (X10.out.set i10)
    have R11 := hid ((Below.heap_setCell (w10.setCell ⟨w2.heap.size, 0, none⟩ (.bool (decide (z10 < 0)))) ⟨w2.heap.size, 1, none⟩ (.slice p10 n10 c10) w.heap.size (by show w.heap.size ≠ w2.heap.size; omega)).trans ((Below.heap_setCell w10 ⟨w2.heap.size, 0, none⟩ (.bool (decide (z10 < 0))) w.heap.size (by show w.heap.size ≠ w2.heap.size; omega)).trans R10.out))
    have F11 := hid ((F10.out.setNew (q := ⟨w2.heap.size, 0, none⟩) hX (.bool (decide (z10 < 0)))).setNew (q := ⟨w2.heap.size, 1, none⟩) hX (.slice p10 n10 c10))
    have H11 := hid ((H10.out.set (p := ⟨w2.heap.size, 0, none⟩) (by show _ ≤ w2.heap.size; omega) (by show w2.heap.size ≠ t; omega) (.bool (decide (z10 < 0)))).set (p := ⟨w2.heap.size, 1, none⟩) (by show _ ≤ w2.heap.size; omega) (by show w2.heap.size ≠ t; omega) (.slice p10 n10 c10))
    clear x10 i10 X10 R10 F10 H10
    go_upto_region 5 with fail
    generalize hW : ((w10.setCell ⟨w2.heap.size, 0, none⟩ (.bool (decide (z10 < 0)))).setCell ⟨w2.heap.size, 1, none⟩ (.slice p10 n10 c10)) = w11 at *
    clear hW q0 q1 f0 f1
    obtain ⟨p, n, c, q0, q1, r0, r1, f0, f1, s0, s1, hfin⟩ := Fin.out w11 _ (by omega) X11.out R11.out H11.out F11.out
    have Hf := hid hfin
    clear hfin
    go_wp2
    refine bodyPost_ret (v := .agg #[.bool (decide (z10 < 0)), .slice p n c]) (by simp [results, Tryz.results62, go_sem, s0, s1]) rfl ?_
    obtain ⟨u, z', rfl, h⟩ := Hf.out
    exact ⟨_, z', rfl, h⟩
end Go.Proofs.YtckkpolikdnilaaGreatDoor
/- elenchusmake's Whole and Bool (made by gen_mkwhole.py). -/
namespace Go.Proofs.YtckkpolikdnilaaGreatDoor
open Go.RowKit Big Go.WideMaps

theorem QArg.nil (W0 : World) (X : Nat → Prop) (w : World) : QArg W0 X w (.slice none 0 0) [] := ⟨World.ownsRow_nil _ _ _ _, fun k h => by cases h⟩
theorem MkAt.base {W0 w : World} {X : Nat → Prop} {b t : Nat} {vB : Value} {bs : List Nat} {p : Po} {us : List Int} (h : MkAt W0 X w b t vB bs p us) : W0.heap.size ≤ w.heap.size := by
  obtain ⟨_, _, _, h⟩ := h
  exact h.tp.2.2.2.1.size
theorem MkAt.xlt {W0 w : World} {X : Nat → Prop} {b t : Nat} {vB : Value} {bs : List Nat} {p : Po} {us : List Int} (h : MkAt W0 X w b t vB bs p us) : ∀ k, X k → k < w.heap.size := by
  obtain ⟨_, _, _, h⟩ := h
  exact h.xlt
theorem MkAt.mkp {W0 w : World} {X : Nat → Prop} {b t : Nat} {vB : Value} {bs : List Nat} {p : Po} {us : List Int} (h : MkAt W0 X w b t vB bs p us) : MkP p := by
  obtain ⟨_, _, _, h⟩ := h
  exact h.mkp
theorem MkAt.tp {W0 w : World} {X : Nat → Prop} {b t : Nat} {vB : Value} {bs : List Nat} {p : Po} {us : List Int} (h : MkAt W0 X w b t vB bs p us) : TpIn W0 w t vB bs := by
  obtain ⟨_, _, _, h⟩ := h
  exact h.tp
theorem MkAt.next {W0 w w' : World} {X : Nat → Prop} {b t : Nat} {vB : Value} {bs : List Nat} {p : Po} {us : List Int} (h : MkAt W0 X w b t vB bs p us) (ht : TpIn W0 w' t vB bs) (hA : Apart (fun i => i = t) w w') : MkAt W0 X w' b t vB bs p us := by
  obtain ⟨vs, vr, vy, h⟩ := h
  exact ⟨vs, vr, vy, h.next ht hA⟩
/-- the build's field that holds the tape -/
theorem MkAt.cell2 {W0 w : World} {X : Nat → Prop} {b t : Nat} {vB : Value} {bs : List Nat} {p : Po} {us : List Int} (h : MkAt W0 X w b t vB bs p us) : w.cell? ⟨b, 2, none⟩ = some (.pointer (some ⟨t, 0, none⟩)) := by
  obtain ⟨_, _, _, h⟩ := h
  exact (four_cells h.cell).2.2.1
/-- a row of parts, just made -/
theorem QArg.new {W0 w : World} {X : Nat → Prop} (hb : W0.heap.size ≤ w.heap.size) (hx : ∀ k, X k → k < w.heap.size) (l : List Int) (c : Array Value) (hc : c = (zints l).toArray) (n : Nat) (hn : n = l.length) (hm : l.length ≤ 100) : QArg W0 X (w.alloc (.cells c 3)) (.slice (some ⟨w.heap.size, 0, none⟩) n n) l := by
  subst hn hc
  exact ⟨⟨by simp [zints], .inr ⟨w.heap.size, l.length, (zints l).toArray, rfl, hb, heap_alloc_new w _, Nat.le_refl _, by simp [maxLen]; omega, by simp [zints], by simp [zints]; exact List.take_of_length_le (by simp)⟩⟩, fun k hk h => by
    have hk : w.heap.size = k := Option.some.inj hk
    have := hx k h
    omega⟩
theorem QArg.later {W0 w w' : World} {X : Nat → Prop} {va : Value} {l : List Int} (h : QArg W0 X w va l) (hb : Below w.heap.size w w') : QArg W0 X w' va l := ⟨ownsRow_later h.1 hb, h.2⟩
def mkN : Nat → Nat
  | 0 => 2
  | d + 1 => 3 * mkN d + 3
set_option maxRecDepth 100000 in
set_option maxHeartbeats 12800000 in
theorem Whole_step {W0 w : World} {X : Nat → Prop} {b t : Nat} {vB : Value} {bs : List Nat} {p : Po} {us : List Int} (h : MkAt W0 X w b t vB bs p us) (deep : Int) (m n : Nat) (hd0 : 0 ≤ deep) (hd1 : deep ≤ 100) (hn2 : 2 ≤ n) (hn3 : 1 ≤ deep → 3 * m + 3 ≤ n) (hn : p.terms.length + n ≤ 4096)
    (hW : 1 ≤ deep → ∀ X w p, MkAt W0 X w b t vB bs p us → p.terms.length + m ≤ 4096 → Calls Tryz.prog 42 #[.pointer (some ⟨b, 0, none⟩), .int .i64 (deep - 1)] w (MkRes W0 X b t vB bs us p m 2 none w))
    (hB : 1 ≤ deep → ∀ X w p, MkAt W0 X w b t vB bs p us → p.terms.length + m ≤ 4096 → Calls Tryz.prog 24 #[.pointer (some ⟨b, 0, none⟩), .int .i64 (deep - 1)] w (MkRes W0 X b t vB bs us p m 1 none w))
    (hZ : 1 ≤ deep → ∀ X w p, MkAt W0 X w b t vB bs p us → p.terms.length + 2 ≤ 4096 → Calls Tryz.prog 42 #[.pointer (some ⟨b, 0, none⟩), .int .i64 0] w (MkRes W0 X b t vB bs us p 2 2 none w)) :
    Calls Tryz.prog 42 #[.pointer (some ⟨b, 0, none⟩), .int .i64 deep] w (MkRes W0 X b t vB bs us p n 2 none w) := by
  have HM0 := hid h
  have c2 := h.cell2
  have Hx := hid (Next_in 9 h.tp (by decide))
  have HWr := hid hW; have HBr := hid hB; have HZr := hid hZ
  clear h hW hB hZ
  go_enter Tryz.func42, Tryz.ntmps42
  go_wp2_with fail
  refine Hx.out.mono ?_
  rintro e w1 ⟨q, rfl, hq, ht, hA⟩
  have hq1 : q < 9 := by omega
  obtain ⟨p1, hp1⟩ : ∃ q, q = p := ⟨_, rfl⟩
  have HM1 := hid (show MkAt W0 X w1 b t vB bs p1 us from hp1 ▸ HM0.out.next ht hA)
  have HF1 := hid (HM0.out.tp.fr hA)
  have HE1 := hid (show MkExt p p1 from hp1 ▸ MkExt.refl p)
  have hl1 : p1.terms.length ≤ p.terms.length := by rw [hp1]; exact Nat.le_refl _
  clear ht hA hq HM0 Hx c2 hp1
  cases hdp : decide (deep < 1)
  case true =>
    have hd2 : deep < 1 := of_decide_eq_true hdp
    obtain ⟨r, hr⟩ : ∃ r : Nat, (q : Int) % 3 = (r : Nat) := ⟨((q : Int) % 3).toNat, by omega⟩
    have hr3 : r < 3 := by omega
    go_upto_region 4 with fail
    generalize hqr : (q : Int) % 3 = qr at *
    subst hr
    clear hqr
    rcases (show r = 0 ∨ r = 1 ∨ r = 2 by omega) with rfl | rfl | rfl
    ·
      have c2 := HM1.out.cell2
      have Hn2 := hid (Num_apart HM1.out.tp)
      go_wp2_with fail
      refine Hn2.out.mono ?_
      rintro e w2 ⟨u, z, rfl, iz, hz, ht2, hA2⟩
      obtain ⟨pz, nz, cz, rfl, iz⟩ := iz.shape
      have HM2 := hid (HM1.out.next ht2 hA2); have HF2 := hid (HF1.out.trans (HM1.out.tp.fr hA2)); have HR := hid (iz.raw (by omega))
      have HE2 := HE1
      have hl2 := hl1
      obtain ⟨p2, hp2⟩ : ∃ q, q = p1 := ⟨_, rfl⟩
      subst hp2
      clear ht2 hA2 iz Hn2 HM1 HF1 c2 HE1
      have HMa := HM2; have HFa := HF2; have HQ := hid (QArg.nil W0 X w2)
      have hb3 := BMake_any HMa.out ⟨3, [], z, 0⟩ (.slice none 0 0) (decide (z < 0)) pz nz cz HQ.out HR.out (mk_num _ z) (by omega) ⟨by simp, by exact hz⟩
      rw [show plSort _ ⟨3, [], z, 0⟩ = 2 from rfl] at hb3
      have Hb3 := hid hb3
      clear hb3 HQ
      go_wp2_with fail
      refine Hb3.out.mono ?_
      rintro e w3 ⟨x, p3, rfl, hm3, he3, hx, -, hl3, hf3⟩
      have HM3 := hid hm3; have HE3 := hid (HE2.out.trans he3); have HF3 := hid (HFa.out.trans hf3)
      have Ix := hid hx
      clear hm3 he3 hf3 hx Hb3 HM2 HE2 HF2 HMa HFa
      have Hfin := hid (show MkRes W0 X b t vB bs us p n 2 none w (.returned (.int .i64 (x : Nat))) w3 from ⟨x, p3, rfl, HM3.out, HE3.out, Ix.out, (fun x e => by cases e), by omega, HF3.out⟩)
      go_wp2
      go_ret
      exact Hfin.out
    ·
      have c2 := HM1.out.cell2
      have Hn2 := hid (Num_apart HM1.out.tp)
      go_wp2_with fail
      refine Hn2.out.mono ?_
      rintro e w2 ⟨u, z, rfl, iz, hz, ht2, hA2⟩
      obtain ⟨pz, nz, cz, rfl, iz⟩ := iz.shape
      have HM2 := hid (HM1.out.next ht2 hA2); have HF2 := hid (HF1.out.trans (HM1.out.tp.fr hA2)); have HR := hid (iz.raw (by omega))
      have HE2 := HE1
      have hl2 := hl1
      obtain ⟨p2, hp2⟩ : ∃ q, q = p1 := ⟨_, rfl⟩
      subst hp2
      clear ht2 hA2 iz Hn2 HM1 HF1 c2 HE1
      have HMa := HM2; have HFa := HF2; have HQ := hid (QArg.nil W0 X w2)
      have hb3 := BMake_any HMa.out ⟨3, [], z, 0⟩ (.slice none 0 0) (decide (z < 0)) pz nz cz HQ.out HR.out (mk_num _ z) (by omega) ⟨by simp, by exact hz⟩
      rw [show plSort _ ⟨3, [], z, 0⟩ = 2 from rfl] at hb3
      have Hb3 := hid hb3
      clear hb3 HQ
      go_wp2_with fail
      refine Hb3.out.mono ?_
      rintro e w3 ⟨x, p3, rfl, hm3, he3, hx, -, hl3, hf3⟩
      have HM3 := hid hm3; have HE3 := hid (HE2.out.trans he3); have HF3 := hid (HFa.out.trans hf3)
      have Ix := hid hx
      clear hm3 he3 hf3 hx Hb3 HM2 HE2 HF2 HMa HFa
      have Ha4 := hid (app_any HM3.out 0 0 2 0 x (by omega) (by constructor <;> omega) (fun h => absurd h (by decide)) (by omega) Ix.out)
      go_wp2_with fail
      refine Ha4.out.mono ?_
      rintro e w4 ⟨y, p4, rfl, hm4, he4, hy, -, hl4, hf4⟩
      have HM4 := hid hm4; have HE4 := hid (HE3.out.trans he4); have HF4 := hid (HF3.out.trans hf4)
      have Iy := hid hy
      clear hm4 he4 hf4 hy Ha4
      have Hfin := hid (show MkRes W0 X b t vB bs us p n 2 none w (.returned (.int .i64 (y : Nat))) w4 from ⟨y, p4, rfl, HM4.out, HE4.out, Iy.out, (fun x e => by cases e), by omega, HF4.out⟩)
      go_wp2
      go_ret
      exact Hfin.out
    ·
      have c2 := HM1.out.cell2
      have Hn2 := hid (Num_apart HM1.out.tp)
      go_wp2_with fail
      refine Hn2.out.mono ?_
      rintro e w2 ⟨u, z, rfl, iz, hz, ht2, hA2⟩
      obtain ⟨pz, nz, cz, rfl, iz⟩ := iz.shape
      have HM2 := hid (HM1.out.next ht2 hA2); have HF2 := hid (HF1.out.trans (HM1.out.tp.fr hA2)); have HR := hid (iz.raw (by omega))
      have HE2 := HE1
      have hl2 := hl1
      obtain ⟨p2, hp2⟩ : ∃ q, q = p1 := ⟨_, rfl⟩
      subst hp2
      clear ht2 hA2 iz Hn2 HM1 HF1 c2 HE1
      have HMa := HM2; have HFa := HF2; have HQ := hid (QArg.nil W0 X w2)
      have hb3 := BMake_any HMa.out ⟨3, [], z, 0⟩ (.slice none 0 0) (decide (z < 0)) pz nz cz HQ.out HR.out (mk_num _ z) (by omega) ⟨by simp, by exact hz⟩
      rw [show plSort _ ⟨3, [], z, 0⟩ = 2 from rfl] at hb3
      have Hb3 := hid hb3
      clear hb3 HQ
      go_wp2_with fail
      refine Hb3.out.mono ?_
      rintro e w3 ⟨x, p3, rfl, hm3, he3, hx, -, hl3, hf3⟩
      have HM3 := hid hm3; have HE3 := hid (HE2.out.trans he3); have HF3 := hid (HFa.out.trans hf3)
      have Ix := hid hx
      clear hm3 he3 hf3 hx Hb3 HM2 HE2 HF2 HMa HFa
      have Ha4 := hid (app_any HM3.out 0 0 2 0 x (by omega) (by constructor <;> omega) (fun h => absurd h (by decide)) (by omega) Ix.out)
      go_wp2_with fail
      refine Ha4.out.mono ?_
      rintro e w4 ⟨y, p4, rfl, hm4, he4, hy, -, hl4, hf4⟩
      have HM4 := hid hm4; have HE4 := hid (HE3.out.trans he4); have HF4 := hid (HF3.out.trans hf4)
      have Iy := hid hy
      clear hm4 he4 hf4 hy Ha4
      have Hfin := hid (show MkRes W0 X b t vB bs us p n 2 none w (.returned (.int .i64 (y : Nat))) w4 from ⟨y, p4, rfl, HM4.out, HE4.out, Iy.out, (fun x e => by cases e), by omega, HF4.out⟩)
      go_wp2
      go_ret
      exact Hfin.out
  case false =>
    have hd2 : 1 ≤ deep := by have := of_decide_eq_false hdp; omega
    have HW := hid (HWr.out hd2); have HB := hid (HBr.out hd2); have HZ := hid (HZr.out hd2)
    have hn4 := hn3 hd2
    clear HWr HBr HZr
    rcases (show q = 0 ∨ q = 1 ∨ q = 2 ∨ q = 3 ∨ q = 4 ∨ q = 5 ∨ q = 6 ∨ q = 7 ∨ q = 8 by omega) with rfl | rfl | rfl | rfl | rfl | rfl | rfl | rfl | rfl
    ·
      have c2 := HM1.out.cell2
      have Hn2 := hid (Num_apart HM1.out.tp)
      go_wp2_with fail
      refine Hn2.out.mono ?_
      rintro e w2 ⟨u, z, rfl, iz, hz, ht2, hA2⟩
      obtain ⟨pz, nz, cz, rfl, iz⟩ := iz.shape
      have HM2 := hid (HM1.out.next ht2 hA2); have HF2 := hid (HF1.out.trans (HM1.out.tp.fr hA2)); have HR := hid (iz.raw (by omega))
      have HE2 := HE1
      have hl2 := hl1
      obtain ⟨p2, hp2⟩ : ∃ q, q = p1 := ⟨_, rfl⟩
      subst hp2
      clear ht2 hA2 iz Hn2 HM1 HF1 c2 HE1
      have HMa := HM2; have HFa := HF2; have HQ := hid (QArg.nil W0 X w2)
      have hb3 := BMake_any HMa.out ⟨3, [], z, 0⟩ (.slice none 0 0) (decide (z < 0)) pz nz cz HQ.out HR.out (mk_num _ z) (by omega) ⟨by simp, by exact hz⟩
      rw [show plSort _ ⟨3, [], z, 0⟩ = 2 from rfl] at hb3
      have Hb3 := hid hb3
      clear hb3 HQ
      go_wp2_with fail
      refine Hb3.out.mono ?_
      rintro e w3 ⟨x, p3, rfl, hm3, he3, hx, -, hl3, hf3⟩
      have HM3 := hid hm3; have HE3 := hid (HE2.out.trans he3); have HF3 := hid (HFa.out.trans hf3)
      have Ix := hid hx
      clear hm3 he3 hf3 hx Hb3 HM2 HE2 HF2 HMa HFa
      have Hfin := hid (show MkRes W0 X b t vB bs us p n 2 none w (.returned (.int .i64 (x : Nat))) w3 from ⟨x, p3, rfl, HM3.out, HE3.out, Ix.out, (fun x e => by cases e), by omega, HF3.out⟩)
      go_wp2
      go_ret
      exact Hfin.out
    ·
      have c2 := HM1.out.cell2
      have Hn2 := hid (Num_apart HM1.out.tp)
      go_wp2_with fail
      refine Hn2.out.mono ?_
      rintro e w2 ⟨u, z, rfl, iz, hz, ht2, hA2⟩
      obtain ⟨pz, nz, cz, rfl, iz⟩ := iz.shape
      have HM2 := hid (HM1.out.next ht2 hA2); have HF2 := hid (HF1.out.trans (HM1.out.tp.fr hA2)); have HR := hid (iz.raw (by omega))
      have HE2 := HE1
      have hl2 := hl1
      obtain ⟨p2, hp2⟩ : ∃ q, q = p1 := ⟨_, rfl⟩
      subst hp2
      clear ht2 hA2 iz Hn2 HM1 HF1 c2 HE1
      have HMa := HM2; have HFa := HF2; have HQ := hid (QArg.nil W0 X w2)
      have hb3 := BMake_any HMa.out ⟨3, [], z, 0⟩ (.slice none 0 0) (decide (z < 0)) pz nz cz HQ.out HR.out (mk_num _ z) (by omega) ⟨by simp, by exact hz⟩
      rw [show plSort _ ⟨3, [], z, 0⟩ = 2 from rfl] at hb3
      have Hb3 := hid hb3
      clear hb3 HQ
      go_wp2_with fail
      refine Hb3.out.mono ?_
      rintro e w3 ⟨x, p3, rfl, hm3, he3, hx, -, hl3, hf3⟩
      have HM3 := hid hm3; have HE3 := hid (HE2.out.trans he3); have HF3 := hid (HFa.out.trans hf3)
      have Ix := hid hx
      clear hm3 he3 hf3 hx Hb3 HM2 HE2 HF2 HMa HFa
      have Ha4 := hid (app_any HM3.out 0 0 2 0 x (by omega) (by constructor <;> omega) (fun h => absurd h (by decide)) (by omega) Ix.out)
      go_wp2_with fail
      refine Ha4.out.mono ?_
      rintro e w4 ⟨y, p4, rfl, hm4, he4, hy, -, hl4, hf4⟩
      have HM4 := hid hm4; have HE4 := hid (HE3.out.trans he4); have HF4 := hid (HF3.out.trans hf4)
      have Iy := hid hy
      clear hm4 he4 hf4 hy Ha4
      have Hfin := hid (show MkRes W0 X b t vB bs us p n 2 none w (.returned (.int .i64 (y : Nat))) w4 from ⟨y, p4, rfl, HM4.out, HE4.out, Iy.out, (fun x e => by cases e), by omega, HF4.out⟩)
      go_wp2
      go_ret
      exact Hfin.out
    ·
      have c2 := HM1.out.cell2
      have Hn2 := hid (Num_apart HM1.out.tp)
      go_wp2_with fail
      refine Hn2.out.mono ?_
      rintro e w2 ⟨u, z, rfl, iz, hz, ht2, hA2⟩
      obtain ⟨pz, nz, cz, rfl, iz⟩ := iz.shape
      have HM2 := hid (HM1.out.next ht2 hA2); have HF2 := hid (HF1.out.trans (HM1.out.tp.fr hA2)); have HR := hid (iz.raw (by omega))
      have HE2 := HE1
      have hl2 := hl1
      obtain ⟨p2, hp2⟩ : ∃ q, q = p1 := ⟨_, rfl⟩
      subst hp2
      clear ht2 hA2 iz Hn2 HM1 HF1 c2 HE1
      have HMa := HM2; have HFa := HF2; have HQ := hid (QArg.nil W0 X w2)
      have hb3 := BMake_any HMa.out ⟨3, [], z, 0⟩ (.slice none 0 0) (decide (z < 0)) pz nz cz HQ.out HR.out (mk_num _ z) (by omega) ⟨by simp, by exact hz⟩
      rw [show plSort _ ⟨3, [], z, 0⟩ = 2 from rfl] at hb3
      have Hb3 := hid hb3
      clear hb3 HQ
      go_wp2_with fail
      refine Hb3.out.mono ?_
      rintro e w3 ⟨x, p3, rfl, hm3, he3, hx, -, hl3, hf3⟩
      have HM3 := hid hm3; have HE3 := hid (HE2.out.trans he3); have HF3 := hid (HFa.out.trans hf3)
      have Ix := hid hx
      clear hm3 he3 hf3 hx Hb3 HM2 HE2 HF2 HMa HFa
      have Ha4 := hid (app_any HM3.out 0 0 2 0 x (by omega) (by constructor <;> omega) (fun h => absurd h (by decide)) (by omega) Ix.out)
      go_wp2_with fail
      refine Ha4.out.mono ?_
      rintro e w4 ⟨y, p4, rfl, hm4, he4, hy, -, hl4, hf4⟩
      have HM4 := hid hm4; have HE4 := hid (HE3.out.trans he4); have HF4 := hid (HF3.out.trans hf4)
      have Iy := hid hy
      clear hm4 he4 hf4 hy Ha4
      have Hfin := hid (show MkRes W0 X b t vB bs us p n 2 none w (.returned (.int .i64 (y : Nat))) w4 from ⟨y, p4, rfl, HM4.out, HE4.out, Iy.out, (fun x e => by cases e), by omega, HF4.out⟩)
      go_wp2
      go_ret
      exact Hfin.out
    ·
      have Hc2 := hid (HW.out X w1 p1 HM1.out (by omega))
      go_wp2_with fail
      refine Hc2.out.mono ?_
      rintro e w2 ⟨a1, p2, rfl, hm2, he2, ha1, -, hl2, hf2⟩
      have HM2 := hid hm2; have HE2 := hid (HE1.out.trans he2); have HF2 := hid (HF1.out.trans hf2)
      have Ia1 := hid ha1
      clear hm2 he2 hf2 ha1 Hc2 HM1 HE1 HF1
      have Hc3 := hid (HW.out X w2 p2 HM2.out (by omega))
      go_wp2_with fail
      refine Hc3.out.mono ?_
      rintro e w3 ⟨a2, p3, rfl, hm3, he3, ha2, -, hl3, hf3⟩
      have HM3 := hid hm3; have HE3 := hid (HE2.out.trans he3); have HF3 := hid (HF2.out.trans hf3)
      replace Ia1 := hid (Ia1.out.ext he3)
      have Ia2 := hid ha2
      clear hm3 he3 hf3 ha2 Hc3 HM2 HE2 HF2
      have bq := below1 w3 (.cells #[.int .i64 (a1 : Nat), .int .i64 (a2 : Nat)] 3)
      have HQ := hid (QArg.new HM3.out.base HM3.out.xlt [((a1 : Nat) : Int), ((a2 : Nat) : Int)] #[.int .i64 (a1 : Nat), .int .i64 (a2 : Nat)] rfl 2 rfl (by simp))
      have HMa := hid (HM3.out.go bq); have HFa := hid (HF3.out.trans (MkFr.of_below bq))
      have hb4 := BMake_any HMa.out ⟨12, [(a1 : Nat), (a2 : Nat)], 0, 0⟩ (.slice (some ⟨w3.heap.size, 0, none⟩) 2 2) false none 0 0 HQ.out (zeroRaw _) (mk_two _ 12 a1 a2 2 (.inr ⟨rfl, by omega⟩) Ia1.out Ia2.out) (by omega) ⟨by simp, by show sz W 0 ≤ 8; rw [sz_zero]; omega⟩
      rw [show plSort _ ⟨12, [(a1 : Nat), (a2 : Nat)], 0, 0⟩ = 2 from rfl] at hb4
      have Hb4 := hid hb4
      clear hb4 HQ bq
      go_wp2_with fail
      refine Hb4.out.mono ?_
      rintro e w4 ⟨x, p4, rfl, hm4, he4, hx, -, hl4, hf4⟩
      have HM4 := hid hm4; have HE4 := hid (HE3.out.trans he4); have HF4 := hid (HFa.out.trans hf4)
      have Ix := hid hx
      clear hm4 he4 hf4 hx Hb4 HM3 HE3 HF3 HMa HFa
      have Hfin := hid (show MkRes W0 X b t vB bs us p n 2 none w (.returned (.int .i64 (x : Nat))) w4 from ⟨x, p4, rfl, HM4.out, HE4.out, Ix.out, (fun x e => by cases e), by omega, HF4.out⟩)
      go_wp2
      go_ret
      exact Hfin.out
    ·
      have Hc2 := hid (HW.out X w1 p1 HM1.out (by omega))
      go_wp2_with fail
      refine Hc2.out.mono ?_
      rintro e w2 ⟨a1, p2, rfl, hm2, he2, ha1, -, hl2, hf2⟩
      have HM2 := hid hm2; have HE2 := hid (HE1.out.trans he2); have HF2 := hid (HF1.out.trans hf2)
      have Ia1 := hid ha1
      clear hm2 he2 hf2 ha1 Hc2 HM1 HE1 HF1
      have c2 := HM2.out.cell2
      have Hn3 := hid (Num_apart HM2.out.tp)
      go_wp2_with fail
      refine Hn3.out.mono ?_
      rintro e w3 ⟨u, z, rfl, iz, hz, ht3, hA3⟩
      obtain ⟨pz, nz, cz, rfl, iz⟩ := iz.shape
      have HM3 := hid (HM2.out.next ht3 hA3); have HF3 := hid (HF2.out.trans (HM2.out.tp.fr hA3)); have HR := hid (iz.raw (by omega))
      have HE3 := HE2
      have hl3 := hl2
      obtain ⟨p3, hp3⟩ : ∃ q, q = p2 := ⟨_, rfl⟩
      subst hp3
      clear ht3 hA3 iz Hn3 HM2 HF2 c2 HE2
      have bq := below1 w3 (.cells #[.int .i64 (a1 : Nat)] 3)
      have HQ := hid (QArg.new HM3.out.base HM3.out.xlt [((a1 : Nat) : Int)] #[.int .i64 (a1 : Nat)] rfl 1 rfl (by simp))
      have HMa := hid (HM3.out.go bq); have HFa := hid (HF3.out.trans (MkFr.of_below bq))
      have hb4 := BMake_any HMa.out ⟨13, [(a1 : Nat)], z, 0⟩ (.slice (some ⟨w3.heap.size, 0, none⟩) 1 1) (decide (z < 0)) pz nz cz HQ.out (HR.out.below bq) (mk_mul _ a1 z Ia1.out) (by omega) ⟨by simp, by exact hz⟩
      rw [show plSort _ ⟨13, [(a1 : Nat)], z, 0⟩ = 2 from rfl] at hb4
      have Hb4 := hid hb4
      clear hb4 HQ bq
      go_wp2_with fail
      refine Hb4.out.mono ?_
      rintro e w4 ⟨x, p4, rfl, hm4, he4, hx, -, hl4, hf4⟩
      have HM4 := hid hm4; have HE4 := hid (HE3.out.trans he4); have HF4 := hid (HFa.out.trans hf4)
      have Ix := hid hx
      clear hm4 he4 hf4 hx Hb4 HM3 HE3 HF3 HMa HFa
      have Hfin := hid (show MkRes W0 X b t vB bs us p n 2 none w (.returned (.int .i64 (x : Nat))) w4 from ⟨x, p4, rfl, HM4.out, HE4.out, Ix.out, (fun x e => by cases e), by omega, HF4.out⟩)
      go_wp2
      go_ret
      exact Hfin.out
    ·
      have Hc2 := hid (HB.out X w1 p1 HM1.out (by omega))
      go_wp2_with fail
      refine Hc2.out.mono ?_
      rintro e w2 ⟨a0, p2, rfl, hm2, he2, ha0, -, hl2, hf2⟩
      have HM2 := hid hm2; have HE2 := hid (HE1.out.trans he2); have HF2 := hid (HF1.out.trans hf2)
      have Ia0 := hid ha0
      clear hm2 he2 hf2 ha0 Hc2 HM1 HE1 HF1
      have Hc3 := hid (HW.out X w2 p2 HM2.out (by omega))
      go_wp2_with fail
      refine Hc3.out.mono ?_
      rintro e w3 ⟨a1, p3, rfl, hm3, he3, ha1, -, hl3, hf3⟩
      have HM3 := hid hm3; have HE3 := hid (HE2.out.trans he3); have HF3 := hid (HF2.out.trans hf3)
      replace Ia0 := hid (Ia0.out.ext he3)
      have Ia1 := hid ha1
      clear hm3 he3 hf3 ha1 Hc3 HM2 HE2 HF2
      have Hc4 := hid (HW.out X w3 p3 HM3.out (by omega))
      go_wp2_with fail
      refine Hc4.out.mono ?_
      rintro e w4 ⟨a2, p4, rfl, hm4, he4, ha2, -, hl4, hf4⟩
      have HM4 := hid hm4; have HE4 := hid (HE3.out.trans he4); have HF4 := hid (HF3.out.trans hf4)
      replace Ia0 := hid (Ia0.out.ext he4)
      replace Ia1 := hid (Ia1.out.ext he4)
      have Ia2 := hid ha2
      clear hm4 he4 hf4 ha2 Hc4 HM3 HE3 HF3
      have bq := below1 w4 (.cells #[.int .i64 (a0 : Nat), .int .i64 (a1 : Nat), .int .i64 (a2 : Nat)] 3)
      have HQ := hid (QArg.new HM4.out.base HM4.out.xlt [((a0 : Nat) : Int), ((a1 : Nat) : Int), ((a2 : Nat) : Int)] #[.int .i64 (a0 : Nat), .int .i64 (a1 : Nat), .int .i64 (a2 : Nat)] rfl 3 rfl (by simp))
      have HMa := hid (HM4.out.go bq); have HFa := hid (HF4.out.trans (MkFr.of_below bq))
      have hb5 := BMake_any HMa.out ⟨9, [(a0 : Nat), (a1 : Nat), (a2 : Nat)], 0, 0⟩ (.slice (some ⟨w4.heap.size, 0, none⟩) 3 3) false none 0 0 HQ.out (zeroRaw _) (mk_ite _ a0 a1 a2 2 Ia0.out Ia1.out Ia2.out).1 (by omega) ⟨by simp, by show sz W 0 ≤ 8; rw [sz_zero]; omega⟩
      rw [(mk_ite _ a0 a1 a2 2 Ia0.out Ia1.out Ia2.out).2] at hb5
      have Hb5 := hid hb5
      clear hb5 HQ bq
      go_wp2_with fail
      refine Hb5.out.mono ?_
      rintro e w5 ⟨x, p5, rfl, hm5, he5, hx, -, hl5, hf5⟩
      have HM5 := hid hm5; have HE5 := hid (HE4.out.trans he5); have HF5 := hid (HFa.out.trans hf5)
      have Ix := hid hx
      clear hm5 he5 hf5 hx Hb5 HM4 HE4 HF4 HMa HFa
      have Hfin := hid (show MkRes W0 X b t vB bs us p n 2 none w (.returned (.int .i64 (x : Nat))) w5 from ⟨x, p5, rfl, HM5.out, HE5.out, Ix.out, (fun x e => by cases e), by omega, HF5.out⟩)
      go_wp2
      go_ret
      exact Hfin.out
    ·
      have Hc2 := hid (HZ.out X w1 p1 HM1.out (by omega))
      go_wp2_with fail
      refine Hc2.out.mono ?_
      rintro e w2 ⟨a1, p2, rfl, hm2, he2, ha1, -, hl2, hf2⟩
      have HM2 := hid hm2; have HE2 := hid (HE1.out.trans he2); have HF2 := hid (HF1.out.trans hf2)
      have Ia1 := hid ha1
      clear hm2 he2 hf2 ha1 Hc2 HM1 HE1 HF1
      have Ha3 := hid (app_any HM2.out m 1 2 deep a1 (by omega) (by constructor <;> omega) (fun _ => HW.out) (by omega) Ia1.out)
      go_wp2_with fail
      refine Ha3.out.mono ?_
      rintro e w3 ⟨y, p3, rfl, hm3, he3, hy, -, hl3, hf3⟩
      have HM3 := hid hm3; have HE3 := hid (HE2.out.trans he3); have HF3 := hid (HF2.out.trans hf3)
      have Iy := hid hy
      clear hm3 he3 hf3 hy Ha3
      have Hfin := hid (show MkRes W0 X b t vB bs us p n 2 none w (.returned (.int .i64 (y : Nat))) w3 from ⟨y, p3, rfl, HM3.out, HE3.out, Iy.out, (fun x e => by cases e), by omega, HF3.out⟩)
      go_wp2
      go_ret
      exact Hfin.out
    ·
      have c2 := HM1.out.cell2
      have Hn2 := hid (Num_apart HM1.out.tp)
      go_wp2_with fail
      refine Hn2.out.mono ?_
      rintro e w2 ⟨u, z, rfl, iz, hz, ht2, hA2⟩
      obtain ⟨pz, nz, cz, rfl, iz⟩ := iz.shape
      have HM2 := hid (HM1.out.next ht2 hA2); have HF2 := hid (HF1.out.trans (HM1.out.tp.fr hA2)); have HR := hid (iz.raw (by omega))
      have HE2 := HE1
      have hl2 := hl1
      obtain ⟨p2, hp2⟩ : ∃ q, q = p1 := ⟨_, rfl⟩
      subst hp2
      clear ht2 hA2 iz Hn2 HM1 HF1 c2 HE1
      have HMa := HM2; have HFa := HF2; have HQ := hid (QArg.nil W0 X w2)
      have hb3 := BMake_any HMa.out ⟨3, [], z, 0⟩ (.slice none 0 0) (decide (z < 0)) pz nz cz HQ.out HR.out (mk_num _ z) (by omega) ⟨by simp, by exact hz⟩
      rw [show plSort _ ⟨3, [], z, 0⟩ = 2 from rfl] at hb3
      have Hb3 := hid hb3
      clear hb3 HQ
      go_wp2_with fail
      refine Hb3.out.mono ?_
      rintro e w3 ⟨x, p3, rfl, hm3, he3, hx, -, hl3, hf3⟩
      have HM3 := hid hm3; have HE3 := hid (HE2.out.trans he3); have HF3 := hid (HFa.out.trans hf3)
      have Ix := hid hx
      clear hm3 he3 hf3 hx Hb3 HM2 HE2 HF2 HMa HFa
      have Ha4 := hid (app_any HM3.out 0 0 2 0 x (by omega) (by constructor <;> omega) (fun h => absurd h (by decide)) (by omega) Ix.out)
      go_wp2_with fail
      refine Ha4.out.mono ?_
      rintro e w4 ⟨y, p4, rfl, hm4, he4, hy, -, hl4, hf4⟩
      have HM4 := hid hm4; have HE4 := hid (HE3.out.trans he4); have HF4 := hid (HF3.out.trans hf4)
      have Iy := hid hy
      clear hm4 he4 hf4 hy Ha4
      have Hfin := hid (show MkRes W0 X b t vB bs us p n 2 none w (.returned (.int .i64 (y : Nat))) w4 from ⟨y, p4, rfl, HM4.out, HE4.out, Iy.out, (fun x e => by cases e), by omega, HF4.out⟩)
      go_wp2
      go_ret
      exact Hfin.out
    ·
      have c2 := HM1.out.cell2
      have Hn2 := hid (Num_apart HM1.out.tp)
      go_wp2_with fail
      refine Hn2.out.mono ?_
      rintro e w2 ⟨u, z, rfl, iz, hz, ht2, hA2⟩
      obtain ⟨pz, nz, cz, rfl, iz⟩ := iz.shape
      have HM2 := hid (HM1.out.next ht2 hA2); have HF2 := hid (HF1.out.trans (HM1.out.tp.fr hA2)); have HR := hid (iz.raw (by omega))
      have HE2 := HE1
      have hl2 := hl1
      obtain ⟨p2, hp2⟩ : ∃ q, q = p1 := ⟨_, rfl⟩
      subst hp2
      clear ht2 hA2 iz Hn2 HM1 HF1 c2 HE1
      have HMa := HM2; have HFa := HF2; have HQ := hid (QArg.nil W0 X w2)
      have hb3 := BMake_any HMa.out ⟨3, [], z, 0⟩ (.slice none 0 0) (decide (z < 0)) pz nz cz HQ.out HR.out (mk_num _ z) (by omega) ⟨by simp, by exact hz⟩
      rw [show plSort _ ⟨3, [], z, 0⟩ = 2 from rfl] at hb3
      have Hb3 := hid hb3
      clear hb3 HQ
      go_wp2_with fail
      refine Hb3.out.mono ?_
      rintro e w3 ⟨x, p3, rfl, hm3, he3, hx, -, hl3, hf3⟩
      have HM3 := hid hm3; have HE3 := hid (HE2.out.trans he3); have HF3 := hid (HFa.out.trans hf3)
      have Ix := hid hx
      clear hm3 he3 hf3 hx Hb3 HM2 HE2 HF2 HMa HFa
      have Ha4 := hid (app_any HM3.out 0 0 2 0 x (by omega) (by constructor <;> omega) (fun h => absurd h (by decide)) (by omega) Ix.out)
      go_wp2_with fail
      refine Ha4.out.mono ?_
      rintro e w4 ⟨y, p4, rfl, hm4, he4, hy, -, hl4, hf4⟩
      have HM4 := hid hm4; have HE4 := hid (HE3.out.trans he4); have HF4 := hid (HF3.out.trans hf4)
      have Iy := hid hy
      clear hm4 he4 hf4 hy Ha4
      have Hfin := hid (show MkRes W0 X b t vB bs us p n 2 none w (.returned (.int .i64 (y : Nat))) w4 from ⟨y, p4, rfl, HM4.out, HE4.out, Iy.out, (fun x e => by cases e), by omega, HF4.out⟩)
      go_wp2
      go_ret
      exact Hfin.out
end Go.Proofs.YtckkpolikdnilaaGreatDoor
