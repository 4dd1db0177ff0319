/- Texts put together: PlDeclares. -/
import Derived.Test.YtmdkfpidohcafaaDoorPoolAgainCardM1
/- PoolDeclares answers true. -/
namespace Go.Proofs.YtmdkfpidohcafaaDoor
open Go.RowKit Big Go.WideMaps

/-- where PoolDeclares stands: the pool, and the list beside it -/
def DeclAt (w : World) (g : Nat) (h : Value) (wr : World) : Prop := ∃ pk Sk, PoAt wr Sk g pk ∧ (∀ i, Sk i → w.heap.size ≤ i) ∧ wr.ownsRow w.heap.size 51 3 h pk.syms.length (syCells pk.syms) ∧ (∀ k, h.ownBlock = some k → ¬ Sk k) ∧ pk.terms = [] ∧ Below w.heap.size w wr
/-- what is wanted of a symbol, j of those that are there being looked at -/
def wantAt (bad : Bool) (l : List Sy) (nm : List UInt8) (j : Nat) : Int := if bad then 6 else if (l.take j).any (fun x => x.name == nm) then 7 else 0
theorem want_step {bad : Bool} {l : List Sy} {nm : List UInt8} {j : Nat} (h : j < l.length) : wantAt bad l nm (j + 1) = if wantAt bad l nm j = 0 ∧ (l[j].name == nm) = true then 7 else wantAt bad l nm j := by
  unfold wantAt
  cases bad
  · simp only [Bool.false_eq_true, if_false]
    rw [List.take_succ_eq_append_getElem h, List.any_append]
    cases h1 : (l.take j).any (fun x => x.name == nm)
    · cases h2 : (l[j].name == nm)
      · simp [h2]
      · simp [h2]
    · simp
  · simp
theorem grow_base {S S' : Nat → Prop} {n : Nat} {w w' : World} (h : ∀ i, S i → n ≤ i) (h' : ∀ k, S' k → S k ∨ w'.heap.size ≤ k) (hn : n ≤ w.heap.size) (hb : Below w.heap.size w w') : ∀ i, S' i → n ≤ i := fun i hi => by
  rcases h' i hi with h1 | h1
  · exact h i h1
  · have := hb.size; omega
theorem row_out {w w' : World} {S S' : Nat → Prop} {b : Nat} {e : TypeId} {s : Nat} {v : Value} {n : Nat} {xs : List Value} (hr : w.ownsRow b e s v n xs) (hn : ∀ k, v.ownBlock = some k → ¬ S k) (h' : ∀ k, S' k → S k ∨ w'.heap.size ≤ k) (hb : Below w.heap.size w w') : ∀ k, v.ownBlock = some k → ¬ S' k := fun k hk hs => by
  rcases h' k hs with h1 | h1
  · exact hn k hk h1
  · have := (World.ownsRow.lt hr k hk).2
    have := hb.size
    omega
theorem decl_below {w w1 w2 w3 : World} {S : Nat → Prop} (h12 : Below w1.heap.size w1 w2) (h : Below w.heap.size w w1) (hA : Apart S w2 w3) (hS : ∀ i, S i → w.heap.size ≤ i) : Below w.heap.size w w3 :=
  (bel_go h12 h).trans (hA.below (B := w.heap.size) (bel_go h12 h).size hS)
set_option maxRecDepth 100000 in
set_option maxHeartbeats 25600000 in
theorem lawDeclares_any (v : Value) (l : List Sy) (w : World) (htab : Tb w.heap.size w) (hl : SyIn w v l) (hn : ∀ s ∈ l, s.name.length ≤ 281474976710656) :
    Calls Tryd.prog 4 #[v] w (RBool true w) := by
  obtain ⟨pa, ca, rfl, i1, i2, -, i4⟩ := hl
  have Hi := hid i4; have Hn := hid hn
  have Hfx := hid (fixed_any w.heap.size w (Nat.le_refl _) htab)
  unfold maxLen at i2
  clear i4 hn htab
  go_enter Tryd.func4, Tryd.ntmps4
  go_wp2_with fail
  refine Hfx.out.mono ?_
  rintro e w1 ⟨rfl, b1⟩
  have Hb1 := hid b1
  clear b1 Hfx
  cases h400 : decide ((400 : Int) < (l.length : Nat))
  case true =>
    go_wp2
    go_ret
    exact ⟨rfl, Hb1.out⟩
  case false =>
  have hle : l.length ≤ 400 := by have := of_decide_eq_false h400; omega
  have Hnew := hid (New_any (.slice none 0 0) [] w1 (SyIn.nil w1) (fun s h => by cases h))
  go_wp2_with fail
  refine Hnew.out.mono ?_
  rintro e w2 ⟨-, hok, b2⟩
  obtain ⟨g, S, rfl, hp, hS⟩ := hok (by decide +kernel)
  have Hat : Hid (DeclAt w g (.slice none 0 0) w2) := hid ⟨_, S, hp, fun i hi => by have := hS i hi; have := Hb1.out.size; omega, World.ownsRow_nil _ _ _ _, (fun k hk => by cases hk), rfl, bel_go b2 Hb1.out⟩
  clear hok hp hS b2 Hnew Hb1 h400
  go_wp2_with fail
  go_loopw [26, 5] (fun i h wr => ∃ k : Nat, k ≤ l.length ∧ i = .int .i64 (k : Nat) ∧ Hid (DeclAt w g h wr)) (fun i _ _ => l.length - (intOf i).toNat)
  case atStart => exact ⟨0, Nat.zero_le _, rfl, Hat⟩
  case round =>
    obtain ⟨k, hk, rfl, Hk⟩ := hrel
    obtain ⟨pk, Sk, hp, hS, hrow, hno, htm, hb⟩ := Hk.out
    obtain ⟨ph, ch, eh⟩ := ownsRow_shape hrow
    by_cases hlt : k < l.length
    · subst eh
      have hlt' : (k : Int) < (l.length : Nat) := by omega
      obtain ⟨bb, off, rfl, j1, j2⟩ := Hi.out (by omega)
      obtain ⟨m0, m1, m2⟩ := j2 k hlt
      have m0 := (hb.cell (p := ⟨bb, off + k * 3, none⟩) j1).trans m0
      have m1 := (hb.cell (p := ⟨bb, off + k * 3 + 1, none⟩) j1).trans m1
      have m2 := (hb.cell (p := ⟨bb, off + k * 3 + 2, none⟩) j1).trans m2
      have hns := Hn.out l[k] (List.getElem_mem hlt)
      generalize l[k] = x at *
      have Hx := hid (show ∃ y, y = x from ⟨_, rfl⟩)
      have Hsym := hid (fun W => IsSym_any x W)
      have Hdc := hid (fun W (hW : Below wr.heap.size wr W) => Declare_any Sk g pk x W (hp.below hW) hns)
      have hsplit : Hid ((plBadSym x = true ∧ plDeclare pk x = (pk, 0, 6)) ∨ (plBadSym x = false ∧ pk.syms.any (fun y => y.name == x.name) = true ∧ plDeclare pk x = (pk, 0, 7)) ∨
          (plBadSym x = false ∧ pk.syms.any (fun y => y.name == x.name) = false ∧ pk.syms.length = 256 ∧ plDeclare pk x = (pk, 0, 11)) ∨ (plBadSym x = false ∧ pk.syms.any (fun y => y.name == x.name) = false ∧ pk.syms.length < 256 ∧ plDeclare pk x = (⟨pk.syms ++ [x], pk.terms, pk.sorts⟩, ((pk.syms.length : Nat) : Int), 0))) := hid (by
        have h256 := hp.2.1.syms
        cases h1 : plBadSym x
        · cases h2 : pk.syms.any (fun y => y.name == x.name)
          · by_cases h3 : pk.syms.length = 256
            · exact .inr (.inr (.inl ⟨rfl, rfl, h3, plDeclare_long h1 h2 h3⟩))
            · exact .inr (.inr (.inr ⟨rfl, rfl, by omega, plDeclare_new h1 h2 h3⟩))
          · exact .inr (.inl ⟨rfl, rfl, plDeclare_name h1 h2⟩)
        · exact .inl ⟨rfl, plDeclare_form h1⟩)
      have hlen := hp.2.1.syms
      have hat := SyAt.own (ownsRow_mono hrow (Nat.zero_le _))
      obtain ⟨_, _, e7, -, h2, -, h4⟩ := hat.handed
      cases e7
      unfold maxLen at h2
      have H4 := hid h4
      have Hp := hid hp; have HS := hid hS; have Hrow := hid hrow; have Hno := hid hno; have Htm := hid htm; have Hb := hid hb
      clear hp hS hrow hno htm hb j2 hat h4 Hk hns
      obtain ⟨nm, ar, so⟩ := x
      unfold Sy.val at Hsym Hdc
      dsimp only at *
      have bx := below1 wr (.cells #[.string ⟨nm.toArray⟩, .int .i64 ar, .int .i64 so] 51)
      have hbx := heap_alloc_new wr (.cells #[.string ⟨nm.toArray⟩, .int .i64 ar, .int .i64 so] 51)
      have hzx := size_alloc wr (.cells #[.string ⟨nm.toArray⟩, .int .i64 ar, .int .i64 so] 51)
      generalize hbad : plBadSym ⟨nm, ar, so⟩ = bad at Hsym hsplit
      go_wp2_with fail
      refine (Hsym.out _).mono ?_
      rintro e w3 ⟨rfl, b3⟩
      have hb3 := bel_go b3 bx
      have hx3 := (b3.block wr.heap.size (by omega)).trans hbx
      obtain ⟨gx, hgx⟩ : ∃ gx, gx = wr.heap.size := ⟨_, rfl⟩
      have hz3 := b3.size
      rw [← hgx] at hx3 ⊢
      have hgz : gx < w3.heap.size := by omega
      have hgw : wr.heap.size ≤ gx := by omega
      have HX := hid hx3; have HB3 := hid hb3
      clear bx hbx b3 hx3 hb3 hz3 hzx hgx m0 m1 m2 hbad
      have Hsplit := hid hsplit.out
      have Hlt := hid Hp.out.2.2
      clear hsplit
      cases bad
      · go_wp2_with fail
        go_loopw [35, 8] (fun i wv wr => ∃ j : Nat, j ≤ pk.syms.length ∧ i = .int .i64 (j : Nat) ∧ wv = .int .i64 (wantAt false pk.syms nm j) ∧ Hid (Below w3.heap.size w3 wr)) (fun i _ _ => pk.syms.length - (intOf i).toNat)
        case atStart => exact ⟨0, Nat.zero_le _, rfl, rfl, hid (Below.refl _ _)⟩
        case round =>
          obtain ⟨j, hj, rfl, rfl, Hi5⟩ := hrel
          have hz5 := Hi5.out.size
          by_cases hjl : j < pk.syms.length
          case pos =>
            have hjl' : (j : Int) < (pk.syms.length : Nat) := by omega
            obtain ⟨bh, offh, rfl, o1, o2⟩ := H4.out (by omega)
            obtain ⟨n0, n1, n2⟩ := o2 j hjl
            have HB5 := bel_go Hi5.out HB3.out
            have n0 := (HB5.cell (p := ⟨bh, offh + j * 3, none⟩) o1).trans n0
            have n1 := (HB5.cell (p := ⟨bh, offh + j * 3 + 1, none⟩) o1).trans n1
            have n2 := (HB5.cell (p := ⟨bh, offh + j * 3 + 2, none⟩) o1).trans n2
            have hst := want_step (bad := false) (nm := nm) hjl
            generalize pk.syms[j].name = nj at *
            generalize pk.syms[j].arity = aj at *
            generalize pk.syms[j].sort = sj at *
            generalize wantAt false pk.syms nm j = wj at *
            generalize hwn : wantAt false pk.syms nm (j + 1) = wn at hst
            have Hwn := hid hwn; have Hst := hid hst
            have bz := below1 wr (.cells #[.string ⟨nj.toArray⟩, .int .i64 aj, .int .i64 sj] 51)
            have y0 := (bz.cell (p := ⟨gx, 0, none⟩) (by dsimp only; omega)).trans ((Hi5.out.cell (p := ⟨gx, 0, none⟩) hgz).trans (three_cells HX.out).1)
            have Hi6 := hid (Hi5.out.trans (bz.mono hz5))
            clear o2 HB5 hst hwn bz hz5
            cases hw : (wj == 0)
            · have Hq := hid (show wn = wj by rw [Hst.out, if_neg (fun h => by simp [h.1] at hw)])
              go_wp2_with fail
              go_roundw
              case rel => exact ⟨j + 1, by omega, rfl, by rw [Hwn.out, Hq.out], Hi6⟩
              case measure => simp [intOf]; omega
            · cases he : (nj == nm)
              · have Hq := hid (show wn = wj by rw [Hst.out, if_neg (fun h => by rw [he] at h; cases h.2)])
                go_wp2_with fail
                go_roundw
                case rel => exact ⟨j + 1, by omega, rfl, by rw [Hwn.out, Hq.out], Hi6⟩
                case measure => simp [intOf]; omega
              · have Hq := hid (show wn = 7 by rw [Hst.out, if_pos ⟨by simpa using hw, he⟩])
                go_wp2_with fail
                go_roundw
                case rel => exact ⟨j + 1, by omega, rfl, by rw [Hwn.out, Hq.out], Hi6⟩
                case measure => simp [intOf]; omega
          case neg =>
            have hjj : j = pk.syms.length := by omega
            subst hjj
            obtain ⟨y0, y1, y2⟩ := three_cells ((Hi5.out.block gx hgz).trans HX.out)
            rcases Hsplit.out with ⟨h1, -⟩ | ⟨-, h2, hpd⟩ | ⟨-, h2, h3, hpd⟩ | ⟨-, h2, h3, hpd⟩
            · cases h1
            · have Hpd := hid hpd
              rw [show wantAt false pk.syms nm pk.syms.length = 7 by unfold wantAt; rw [List.take_length, h2]; rfl]
              clear hpd h2
              go_wp2_with fail
              refine (Hdc.out _ (bel_go Hi5.out HB3.out)).mono ?_
              rintro e w6 ⟨rfl, S6, hp6, hS6, hA6⟩
              rw [Hpd.out] at hp6
              have Hk6 := hid (show DeclAt w g (.slice ph pk.syms.length ch) w6 from ⟨pk, S6, hp6, grow_base HS.out hS6 (Nat.le_trans Hb.out.size (Nat.le_refl _)) (bel_go Hi5.out HB3.out), row_apart (ownsRow_later Hrow.out (bel_go Hi5.out HB3.out)) hA6 Hno.out, row_out Hrow.out Hno.out hS6 (bel_go Hi5.out HB3.out), Htm.out, decl_below (bel_go Hi5.out HB3.out) Hb.out hA6 HS.out⟩)
              clear hp6 hS6 hA6 y0 y1 y2
              rw [Hpd.out]
              go_wp2_with fail
              go_roundw
              case rel => exact ⟨k + 1, by omega, rfl, Hk6⟩
              case measure => simp [intOf]; omega
            · have Hpd := hid hpd
              rw [show wantAt false pk.syms nm pk.syms.length = 0 by unfold wantAt; rw [List.take_length, h2]; rfl]
              have hge : (256 : Int) ≤ (pk.syms.length : Nat) := by omega
              clear hpd h2 h3
              go_wp2_with fail
              refine (Hdc.out _ (bel_go Hi5.out HB3.out)).mono ?_
              rintro e w6 ⟨rfl, S6, hp6, hS6, hA6⟩
              rw [Hpd.out] at hp6
              have Hk6 := hid (show DeclAt w g (.slice ph pk.syms.length ch) w6 from ⟨pk, S6, hp6, grow_base HS.out hS6 (Nat.le_trans Hb.out.size (Nat.le_refl _)) (bel_go Hi5.out HB3.out), row_apart (ownsRow_later Hrow.out (bel_go Hi5.out HB3.out)) hA6 Hno.out, row_out Hrow.out Hno.out hS6 (bel_go Hi5.out HB3.out), Htm.out, decl_below (bel_go Hi5.out HB3.out) Hb.out hA6 HS.out⟩)
              clear hp6 hS6 hA6 y0 y1 y2
              rw [Hpd.out]
              go_wp2_with fail
              go_roundw
              case rel => exact ⟨k + 1, by omega, rfl, Hk6⟩
              case measure => simp [intOf]; omega
            · have Hpd := hid hpd
              rw [show wantAt false pk.syms nm pk.syms.length = 0 by unfold wantAt; rw [List.take_length, h2]; rfl]
              have hge : ¬ (256 : Int) ≤ (pk.syms.length : Nat) := by omega
              clear hpd h2 h3
              go_wp2_with fail
              refine (Hdc.out _ (bel_go Hi5.out HB3.out)).mono ?_
              rintro e w6 ⟨rfl, S6, hp6, hS6, hA6⟩
              rw [Hpd.out] at hp6
              have hb6 := decl_below (bel_go Hi5.out HB3.out) Hb.out hA6 HS.out
              have hrow6 := row_apart (ownsRow_later Hrow.out (bel_go Hi5.out HB3.out)) hA6 Hno.out
              have hno6 := row_out Hrow.out Hno.out hS6 (bel_go Hi5.out HB3.out)
              have hS6' := grow_base HS.out hS6 (Nat.le_trans Hb.out.size (Nat.le_refl _)) (bel_go Hi5.out HB3.out)
              have hgS : ¬ Sk gx := fun e => by have := Hlt.out gx e; omega
              have hx6 := (hA6.block gx (by have := Hi5.out.size; omega) hgS).trans ((Hi5.out.block gx (by omega)).trans HX.out)
              have q := three_cells hx6
              clear y0 y1 y2
              obtain ⟨y0, y1, y2⟩ := q
              rw [Hpd.out]
              have bn := below1 w6 (.cells #[.string ⟨nm.toArray⟩, .int .i64 ar, .int .i64 so] 51)
              have hnews := cells_at (c := [.string ⟨nm.toArray⟩, .int .i64 ar, .int .i64 so]) (heap_alloc_new w6 (.cells #[.string ⟨nm.toArray⟩, .int .i64 ar, .int .i64 so] 51))
              have hrow7 := ownsRow_later hrow6 bn
              have hp7 := hp6.below bn
              have hlt7 : ∀ i, S6 i → i < w6.heap.size := hp6.2.2
              have hb7 := bel_go bn hb6
              have hsz7 := hb6.size
              have hsn := bn.size
              have Hp7 := hid hp7; have Hno6 := hid hno6; have HS6' := hid hS6'; have Hlt7 := hid hlt7; have Hb7 := hid hb7
              obtain ⟨i0, hi0, hz0, hz1, hz2⟩ := info_parts infoSym
              clear hp6 hS6 hA6 hx6 hgS hp7 hno6 hS6' hlt7 hb7 hb6 hrow6 bn
              go_wp2_with (at_builtin; refine wpList_append_own_at _ rfl _ _ 22 rfl w.heap.size 51 i0 _ 3 32 Tryd.underlying22 hi0 hz0 hz1 hz2 rfl (by decide) _ pk.syms.length _ rfl hrow7 ⟨w6.heap.size, 0, none⟩ 1 1 [.string ⟨nm.toArray⟩, .int .i64 ar, .int .i64 so] rfl rfl hnews (by intro u hu; simp at hu; rcases hu with rfl | rfl | rfl <;> rfl) (by simp [maxLen]; omega) (by omega) (by omega) ?_; intro v8 w8 ho8 hg8 _ hat8)
              have hat8 : v8.ownBlock = (Value.slice ph pk.syms.length ch).ownBlock ∨ v8.ownBlock = some (w6.alloc (.cells #[.string ⟨nm.toArray⟩, .int .i64 ar, .int .i64 so] 51)).heap.size := hat8
              go_roundw
              case rel =>
                refine ⟨k + 1, by omega, rfl, hid ⟨⟨pk.syms ++ [(⟨nm, ar, so⟩ : Sy)], pk.terms, pk.sorts⟩, S6, Hp7.out.stays (fun i hi => hg8.block i (Nat.lt_of_lt_of_le (Hlt7.out i hi) hsn) (fun e => Hno6.out i e.symm hi)) hg8.size, HS6'.out, ?_, ?_, Htm.out, Hb7.out.grown hg8 (by omega) (fun k hk => (World.ownsRow.lt hrow7 k hk).1)⟩⟩
                · have e1 : (pk.syms ++ [(⟨nm, ar, so⟩ : Sy)]).length = pk.syms.length + 1 := by simp
                  show w8.ownsRow _ _ 3 v8 (pk.syms ++ [(⟨nm, ar, so⟩ : Sy)]).length (syCells (pk.syms ++ [(⟨nm, ar, so⟩ : Sy)]))
                  rw [e1, syCells_snoc]
                  exact ho8
                · intro i hi hs
                  rcases hat8 with h | h
                  · rw [h] at hi; exact Hno6.out i hi hs
                  · rw [h] at hi; cases hi
                    have := Hlt7.out _ hs
                    omega
              case measure => simp [intOf]; omega
      · go_wp2_with fail
        go_loopw [35, 8] (fun i wv wr => ∃ j : Nat, j ≤ pk.syms.length ∧ i = .int .i64 (j : Nat) ∧ wv = .int .i64 (wantAt true pk.syms nm j) ∧ Hid (Below w3.heap.size w3 wr)) (fun i _ _ => pk.syms.length - (intOf i).toNat)
        case atStart => exact ⟨0, Nat.zero_le _, rfl, rfl, hid (Below.refl _ _)⟩
        case round =>
          obtain ⟨j, hj, rfl, rfl, Hi5⟩ := hrel
          have hz5 := Hi5.out.size
          by_cases hjl : j < pk.syms.length
          case pos =>
            have hjl' : (j : Int) < (pk.syms.length : Nat) := by omega
            obtain ⟨bh, offh, rfl, o1, o2⟩ := H4.out (by omega)
            obtain ⟨n0, n1, n2⟩ := o2 j hjl
            have HB5 := bel_go Hi5.out HB3.out
            have n0 := (HB5.cell (p := ⟨bh, offh + j * 3, none⟩) o1).trans n0
            have n1 := (HB5.cell (p := ⟨bh, offh + j * 3 + 1, none⟩) o1).trans n1
            have n2 := (HB5.cell (p := ⟨bh, offh + j * 3 + 2, none⟩) o1).trans n2
            have hst := want_step (bad := true) (nm := nm) hjl
            generalize pk.syms[j].name = nj at *
            generalize pk.syms[j].arity = aj at *
            generalize pk.syms[j].sort = sj at *
            generalize wantAt true pk.syms nm j = wj at *
            generalize hwn : wantAt true pk.syms nm (j + 1) = wn at hst
            have Hwn := hid hwn; have Hst := hid hst
            have bz := below1 wr (.cells #[.string ⟨nj.toArray⟩, .int .i64 aj, .int .i64 sj] 51)
            have y0 := (bz.cell (p := ⟨gx, 0, none⟩) (by dsimp only; omega)).trans ((Hi5.out.cell (p := ⟨gx, 0, none⟩) hgz).trans (three_cells HX.out).1)
            have Hi6 := hid (Hi5.out.trans (bz.mono hz5))
            clear o2 HB5 hst hwn bz hz5
            cases hw : (wj == 0)
            · have Hq := hid (show wn = wj by rw [Hst.out, if_neg (fun h => by simp [h.1] at hw)])
              go_wp2_with fail
              go_roundw
              case rel => exact ⟨j + 1, by omega, rfl, by rw [Hwn.out, Hq.out], Hi6⟩
              case measure => simp [intOf]; omega
            · cases he : (nj == nm)
              · have Hq := hid (show wn = wj by rw [Hst.out, if_neg (fun h => by rw [he] at h; cases h.2)])
                go_wp2_with fail
                go_roundw
                case rel => exact ⟨j + 1, by omega, rfl, by rw [Hwn.out, Hq.out], Hi6⟩
                case measure => simp [intOf]; omega
              · have Hq := hid (show wn = 7 by rw [Hst.out, if_pos ⟨by simpa using hw, he⟩])
                go_wp2_with fail
                go_roundw
                case rel => exact ⟨j + 1, by omega, rfl, by rw [Hwn.out, Hq.out], Hi6⟩
                case measure => simp [intOf]; omega
          case neg =>
            have hjj : j = pk.syms.length := by omega
            subst hjj
            obtain ⟨y0, y1, y2⟩ := three_cells ((Hi5.out.block gx hgz).trans HX.out)
            rcases Hsplit.out with ⟨-, hpd⟩ | ⟨h1, -⟩ | ⟨h1, -⟩ | ⟨h1, -⟩
            · have Hpd := hid hpd
              rw [show wantAt true pk.syms nm pk.syms.length = 6 from rfl]
              clear hpd
              go_wp2_with fail
              refine (Hdc.out _ (bel_go Hi5.out HB3.out)).mono ?_
              rintro e w6 ⟨rfl, S6, hp6, hS6, hA6⟩
              rw [Hpd.out] at hp6
              have Hk6 := hid (show DeclAt w g (.slice ph pk.syms.length ch) w6 from ⟨pk, S6, hp6, grow_base HS.out hS6 (Nat.le_trans Hb.out.size (Nat.le_refl _)) (bel_go Hi5.out HB3.out), row_apart (ownsRow_later Hrow.out (bel_go Hi5.out HB3.out)) hA6 Hno.out, row_out Hrow.out Hno.out hS6 (bel_go Hi5.out HB3.out), Htm.out, decl_below (bel_go Hi5.out HB3.out) Hb.out hA6 HS.out⟩)
              clear hp6 hS6 hA6 y0 y1 y2
              rw [Hpd.out]
              go_wp2_with fail
              go_roundw
              case rel => exact ⟨k + 1, by omega, rfl, Hk6⟩
              case measure => simp [intOf]; omega
            · cases h1
            · cases h1
            · cases h1
    · have hkk : k = l.length := by omega
      subst hkk
      subst eh
      have hs9 : SyIn wr (.slice ph pk.syms.length ch) pk.syms := (SyAt.own (ownsRow_mono hrow (Nat.zero_le _))).handed
      have Hrows := hid (Rows_any Sk g pk wr hp)
      have Hs9 := hid hs9; have Hb := hid hb; have Htm := hid htm
      clear hlt hp hS hrow hno htm hb hs9 Hk
      go_wp2_with fail
      refine Hrows.out.mono ?_
      rintro e w5 ⟨vr, rfl, hro, b5⟩
      obtain ⟨va, vb, rfl, hsy, htms⟩ := hro
      have hrw1 : RwIn w5 (.agg #[va, vb]) pk.syms pk.terms := ⟨_, _, rfl, (SyAt.own (ownsRow_mono hsy (Nat.zero_le _))).handed, htms.in (fun t h => by rw [Htm.out] at h; cases h)⟩
      have hrw2 : RwIn w5 (.agg #[.slice ph pk.syms.length ch, .slice none 0 0]) pk.syms pk.terms := ⟨_, _, rfl, Hs9.out.below b5, by rw [Htm.out]; exact ⟨none, 0, rfl, by simp, by simp [maxLen], fun _ => rfl, fun h => absurd h (by simp)⟩⟩
      have Hsr := hid (SameRows_true _ _ pk.syms pk.terms w5 hrw1 hrw2 (fun t h => by rw [Htm.out] at h; cases h))
      have Hb5 := hid (bel_go b5 Hb.out)
      obtain ⟨pq, cq, rfl⟩ := ownsRow_shape hsy
      obtain ⟨cst, hrt, -⟩ := htms
      obtain ⟨pt, ct, rfl⟩ := ownsRow_shape hrt
      clear hrw1 hrw2 hsy hrt b5 Hrows
      go_wp2_with fail
      refine Hsr.out.mono ?_
      rintro e w6 ⟨rfl, b6⟩
      have Hb6 := hid (bel_go b6 Hb5.out)
      clear b6 Hsr
      go_wp2_with fail
      go_ret
      exact ⟨rfl, Hb6.out⟩
end Go.Proofs.YtmdkfpidohcafaaDoor
