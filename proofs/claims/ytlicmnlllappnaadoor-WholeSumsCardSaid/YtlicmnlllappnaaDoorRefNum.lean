/- elenchusref01's digit functions, said of numbers. -/
import Derived.Test.YtlicmnlllappnaaDoorRefWhole
import Derived.Test.YtlicmnlllappnaaDoorRefLess
import Derived.Test.YtlicmnlllappnaaDoorRefCompare
namespace Go.Proofs.YtlicmnlllappnaaDoor
open Go.RowKit Big
theorem rplusN_any (v0 v1 : Value) (x y : Nat) (w : World) (h0 : At w .i64 v0 (dig D x)) (h1 : At w .i64 v1 (dig D y)) (k0 : sz D x ≤ 4398046511104) (k1 : sz D y ≤ 4398046511104) :
    Calls Tryd.prog 44 #[v0, v1] w (RAt .i64 (dig D (x + y)) w) := by
  have := rplus_any v0 v1 _ _ w h0 h1 (small_dig D2 _) (small_dig D2 _) k0 k1
  rwa [val_dig D2, val_dig D2] at this
theorem rlessN_any (v0 v1 : Value) (x y : Nat) (w : World) (h0 : At w .i64 v0 (dig D x)) (h1 : At w .i64 v1 (dig D y)) (k0 : sz D x ≤ 4398046511104) (hyx : y ≤ x) :
    Calls Tryd.prog 47 #[v0, v1] w (RAt .i64 (dig D (x - y)) w) := by
  have := rless_any v0 v1 _ _ w h0 h1 (small_dig D2 _) (small_dig D2 _) k0 (sz_mono D2 hyx) (by rw [val_dig D2, val_dig D2]; exact hyx)
  rwa [val_dig D2, val_dig D2] at this
theorem FromN_any (v : Value) (x : Nat) (w : World) (h : At w .i64 v (dig D x)) (k : sz D x ≤ 8796093022208) :
    Calls Tryd.prog 43 #[v] w (RAt .u64 (dig W x) w) := by
  have := From_any v _ w h (small_dig D2 _) k
  rwa [val_dig D2] at this
theorem WholeN_any (neg : Bool) (v : Value) (x : Nat) (w : World) (h : At w .u64 v (dig W x)) (k : sz W x ≤ 2199023255552) :
    Calls Tryd.prog 24 #[.bool neg, v] w (RInt (sg neg x) w) := by
  have := Whole_any neg v _ w h (small_dig W2 _) k
  rwa [val_dig W2] at this
end Go.Proofs.YtlicmnlllappnaaDoor
