/- Texts put together: Shelf, DivLong, RefParts, Facts. -/
import Derived.Test.YtippcalhcnjghaaDoorPrintsCardM4
import Derived.Shelf.Strings.Builder1
import Derived.Shelf.Strings.Builder2
import Derived.Shelf.Small.Bits
import Derived.Shelf.Small.Wraps
import Derived.Shelf.Strings.BuilderF
import Derived.Shelf.Strings.BuilderK
import Derived.Shelf.Strings.Builder2Cap
import Derived.Shelf.Strconv.Itoa0
import Derived.Shelf.Strconv.Itoa1
import Derived.Shelf.LaysM
import Derived.Shelf.Strconv.Itoa2
import Derived.Shelf.Strings.Prefix
import Derived.Shelf.Bits.Mul64
import Derived.Shelf.Strings.Repeat
import Derived.Shelf.Strings.BuilderCap
import Derived.Test.YtippcalhcnjghaaDoorProg
/-
  DERIVED: THE SHELF's CONTRACTS AT THIS DUMP, IN PLAIN WORDS (tools/lay-plain.mjs out of 'TrydShelf.lean', which tools/lay-shelf.mjs wrote): THE SAME DECLARATIONS UNDER THE SAME NAMES: 'import', 'namespace', 'open', 'def', 'theorem' AND NOTHING ELSE: no command of the shelf's: FOR A HAND-IN. Each laying: the table of numbers ('.._ren') and one theorem, a field a fact of the dump's own or the kernel's comparison; each contract: ONE APPLICATION.
-/
namespace Go.Proofs
open Go.Shelf
def Tryd.lays170_ren : Go.Shelf.Ren := ⟨fun | 170 => 87 | n => n, fun | 70 => 71 | 3 => 3 | 0 => 0 | 72 => 74 | 37 => 72 | 5 => 5 | n => n, fun | n => n⟩
theorem Tryd.lays170 : Go.Proofs.Lays.n170 Tryd.prog Tryd.lays170_ren := {
  mixed := by kernel_rfl
  f170 := Tryd.func87.trans (congrArg some (by kernel_rfl))
  t0 := Tryd.underlying0
  a0 := Tryd.isAgg0
  z0 := Tryd.sizeOf0
  v0 := Tryd.zeroValue0
  t3 := Tryd.underlying3
  a3 := Tryd.isAgg3
  z3 := Tryd.sizeOf3
  v3 := Tryd.zeroValue3
  t37 := Tryd.underlying72
  a37 := Tryd.isAgg72
  z37 := Tryd.sizeOf72
  v37 := Tryd.zeroValue72
  t70 := Tryd.underlying71
  a70 := Tryd.isAgg71
  z70 := Tryd.sizeOf71
  v70 := Tryd.zeroValue71
  t72 := Tryd.underlying74
  a72 := Tryd.isAgg74
  z72 := Tryd.sizeOf74
  v72 := Tryd.zeroValue74 }
open Go.RowKit in
/-- (*strings.Builder).Len: "Len returns the number of accumulated bytes; b.Len() == len(b.String()).": the world is as it was. (LAID: no walk: one application.) -/
theorem Tryd.Builder_Len (B b : Nat) (bs : List Value) (w : World) (h : Lib.IsBuilder 74 5 B b bs w) :
    Calls Tryd.prog 87 #[.pointer (some ⟨b, 0, none⟩)] w fun e w' => e = .returned (.int .i64 bs.length) ∧ w' = w := Any.Builder_Len Tryd.lays170 B b bs w h
def Tryd.lays169_ren : Go.Shelf.Ren := ⟨fun | 169 => 66 | n => n, fun | 70 => 71 | 9 => 9 | 0 => 0 | 72 => 74 | 37 => 72 | 127 => 105 | 3 => 3 | 5 => 5 | n => n, fun | n => n⟩
theorem Tryd.lays169 : Go.Proofs.Lays.n169 Tryd.prog Tryd.lays169_ren := {
  mixed := by kernel_rfl
  f169 := Tryd.func66.trans (congrArg some (by kernel_rfl))
  t0 := Tryd.underlying0
  a0 := Tryd.isAgg0
  z0 := Tryd.sizeOf0
  v0 := Tryd.zeroValue0
  t3 := Tryd.underlying3
  a3 := Tryd.isAgg3
  z3 := Tryd.sizeOf3
  v3 := Tryd.zeroValue3
  t9 := Tryd.underlying9
  a9 := Tryd.isAgg9
  z9 := Tryd.sizeOf9
  v9 := Tryd.zeroValue9
  t37 := Tryd.underlying72
  a37 := Tryd.isAgg72
  z37 := Tryd.sizeOf72
  v37 := Tryd.zeroValue72
  t70 := Tryd.underlying71
  a70 := Tryd.isAgg71
  z70 := Tryd.sizeOf71
  v70 := Tryd.zeroValue71
  t72 := Tryd.underlying74
  a72 := Tryd.isAgg74
  z72 := Tryd.sizeOf74
  v72 := Tryd.zeroValue74
  t127 := Tryd.underlying105
  a127 := Tryd.isAgg105
  z127 := Tryd.sizeOf105
  v127 := Tryd.zeroValue105 }
theorem Tryd.Builder_Extra_169 : Builder.Extra Tryd.prog Tryd.lays169_ren := {
  sizeBuilder := by kernel_rfl
  liesBuilder := by kernel_rfl
  t5 := Tryd.underlying5
  a5 := Tryd.isAgg5
  z5 := Tryd.sizeOf5
  v5 := Tryd.zeroValue5
  infoByte := by kernel_rfl
  cellsByte := by kernel_rfl
  sizeByte := by kernel_rfl
  neB5 := by decide }
open Go.RowKit in
/-- (*strings.Builder).String: "String returns the accumulated string.": OF A BUILDER THAT HOLDS AT LEAST ONE BYTE. ✋ THE MODEL FREEZES THOSE BYTES IN THE BUFFER (unsafe.String): a later write INTO them ends the model's run without an answer; a later append BEHIND them goes on. The statement's order of evaluation is drawn: one draw. (LAID: no walk: one application.) -/
theorem Tryd.Builder_String (B b : Nat) (l : List UInt8) (w : World) (h : Lib.IsBuilder 74 5 B b (Lib.byteCells l) w) (h0 : l ≠ []) :
    Calls Tryd.prog 66 #[.pointer (some ⟨b, 0, none⟩)] w fun e w' => e = .returned (.string ⟨l.toArray⟩) ∧ Below B w w' := Any.Builder_String Tryd.lays169 Tryd.Builder_Extra_169 B b l w h h0
open Go.RowKit in
/-- (*strings.Builder).String OF A BUILDER THAT HOLDS NO BYTE: the empty string. (Its buffer is nil, or a row of which it has taken nothing yet; where that row has NO capacity the model lays one new block for unsafe.SliceData's 'some address'.) One draw. (LAID: no walk: one application.) -/
theorem Tryd.Builder_String_empty (B b : Nat) (w : World) (h : Lib.IsBuilder 74 5 B b [] w) (hBw : B ≤ w.heap.size) :
    Calls Tryd.prog 66 #[.pointer (some ⟨b, 0, none⟩)] w fun e w' => e = .returned (.string ⟨#[]⟩) ∧ Below B w w' := Any.Builder_String_empty Tryd.lays169 Tryd.Builder_Extra_169 B b w h hBw
open Go.RowKit in
/-- (*strings.Builder).String: "String returns the accumulated string.": WHATEVER THE BUILDER HOLDS. (LAID: no walk: one application.) -/
theorem Tryd.Builder_String_any (B b : Nat) (l : List UInt8) (w : World) (h : Lib.IsBuilder 74 5 B b (Lib.byteCells l) w) (hBw : B ≤ w.heap.size) :
    Calls Tryd.prog 66 #[.pointer (some ⟨b, 0, none⟩)] w fun e w' => e = .returned (.string ⟨l.toArray⟩) ∧ Below B w w' := Any.Builder_String_any Tryd.lays169 Tryd.Builder_Extra_169 B b l w h hBw
def Tryd.lays241_ren : Go.Shelf.Ren := ⟨fun | 241 => 95 | 277 => 104 | n => n, fun | 70 => 71 | 3 => 3 | 0 => 0 | 72 => 74 | 37 => 72 | 5 => 5 | n => n, fun | n => n⟩
theorem Tryd.lays241 : Go.Proofs.Lays.n241 Tryd.prog Tryd.lays241_ren := {
  mixed := by kernel_rfl
  f241 := Tryd.func95.trans (congrArg some (by kernel_rfl))
  f277 := Tryd.func104.trans (congrArg some (by kernel_rfl))
  t0 := Tryd.underlying0
  a0 := Tryd.isAgg0
  z0 := Tryd.sizeOf0
  v0 := Tryd.zeroValue0
  t3 := Tryd.underlying3
  a3 := Tryd.isAgg3
  z3 := Tryd.sizeOf3
  v3 := Tryd.zeroValue3
  t37 := Tryd.underlying72
  a37 := Tryd.isAgg72
  z37 := Tryd.sizeOf72
  v37 := Tryd.zeroValue72
  t70 := Tryd.underlying71
  a70 := Tryd.isAgg71
  z70 := Tryd.sizeOf71
  v70 := Tryd.zeroValue71
  t72 := Tryd.underlying74
  a72 := Tryd.isAgg74
  z72 := Tryd.sizeOf74
  v72 := Tryd.zeroValue74 }
theorem Tryd.Builder_Extra_241 : Builder.Extra Tryd.prog Tryd.lays241_ren := {
  sizeBuilder := by kernel_rfl
  liesBuilder := by kernel_rfl
  t5 := Tryd.underlying5
  a5 := Tryd.isAgg5
  z5 := Tryd.sizeOf5
  v5 := Tryd.zeroValue5
  infoByte := by kernel_rfl
  cellsByte := by kernel_rfl
  sizeByte := by kernel_rfl
  neB5 := by decide }
open Go.RowKit in
/-- (*strings.Builder).grow (no doc but "grow copies the buffer to a new, larger buffer so that there are at least n bytes of capacity beyond len(b.buf)."): AT A BUILDER WITHOUT A BUFFER: a new row of whatever bytes for its buffer, none of them its own yet. Three draws. (LAID: no walk: one application.) -/
theorem Tryd.Builder_grow_fresh (B b n : Nat) (w : World) (hB : B ≤ b) (hbk : w.heap[b]? = some (.cells #[.pointer (some ⟨b, 0, none⟩), .slice none 0 0] 74 (0, 0))) (hBw : B ≤ w.heap.size) (hn : n ≤ 281474976710656) :
    Calls Tryd.prog 95 #[.pointer (some ⟨b, 0, none⟩), .int .i64 n] w fun e w' => e = .returned (.tuple #[]) ∧ (Lib.BuilderAt 74 5 B b (.pointer (some ⟨b, 0, none⟩)) [] w' ∧ Below B w w') := Any.Builder_grow_fresh Tryd.lays241 Tryd.Builder_Extra_241 B b n w hB hbk hBw hn
def Tryd.lays165_ren : Go.Shelf.Ren := ⟨fun | 165 => 86 | 240 => 82 | 241 => 95 | 276 => 91 | 277 => 104 | n => n, fun | 70 => 71 | 3 => 3 | 0 => 0 | 4 => 4 | 9 => 9 | 20 => 20 | 72 => 74 | 37 => 72 | 164 => 107 | 5 => 5 | n => n, fun | n => n⟩
theorem Tryd.lays165 : Go.Proofs.Lays.n165 Tryd.prog Tryd.lays165_ren := {
  mixed := by kernel_rfl
  f165 := Tryd.func86.trans (congrArg some (by kernel_rfl))
  f240 := Tryd.func82.trans (congrArg some (by kernel_rfl))
  f241 := Tryd.func95.trans (congrArg some (by kernel_rfl))
  f276 := Tryd.func91.trans (congrArg some (by kernel_rfl))
  f277 := Tryd.func104.trans (congrArg some (by kernel_rfl))
  t0 := Tryd.underlying0
  a0 := Tryd.isAgg0
  z0 := Tryd.sizeOf0
  v0 := Tryd.zeroValue0
  t3 := Tryd.underlying3
  a3 := Tryd.isAgg3
  z3 := Tryd.sizeOf3
  v3 := Tryd.zeroValue3
  t4 := Tryd.underlying4
  a4 := Tryd.isAgg4
  z4 := Tryd.sizeOf4
  v4 := Tryd.zeroValue4
  t9 := Tryd.underlying9
  a9 := Tryd.isAgg9
  z9 := Tryd.sizeOf9
  v9 := Tryd.zeroValue9
  t20 := Tryd.underlying20
  a20 := Tryd.isAgg20
  z20 := Tryd.sizeOf20
  v20 := Tryd.zeroValue20
  t37 := Tryd.underlying72
  a37 := Tryd.isAgg72
  z37 := Tryd.sizeOf72
  v37 := Tryd.zeroValue72
  t70 := Tryd.underlying71
  a70 := Tryd.isAgg71
  z70 := Tryd.sizeOf71
  v70 := Tryd.zeroValue71
  t72 := Tryd.underlying74
  a72 := Tryd.isAgg74
  z72 := Tryd.sizeOf74
  v72 := Tryd.zeroValue74
  t164 := Tryd.underlying107
  a164 := Tryd.isAgg107
  z164 := Tryd.sizeOf107
  v164 := Tryd.zeroValue107 }
theorem Tryd.Builder_Extra_165 : Builder.Extra Tryd.prog Tryd.lays165_ren := {
  sizeBuilder := by kernel_rfl
  liesBuilder := by kernel_rfl
  t5 := Tryd.underlying5
  a5 := Tryd.isAgg5
  z5 := Tryd.sizeOf5
  v5 := Tryd.zeroValue5
  infoByte := by kernel_rfl
  cellsByte := by kernel_rfl
  sizeByte := by kernel_rfl
  neB5 := by decide }
open Go.RowKit in
/-- (*strings.Builder).Grow AT A BUILDER THAT HAS NOT BEEN WRITTEN ('var b strings.Builder; b.Grow(n)'): "Grow grows b's capacity, if necessary, to guarantee space for another n bytes.": it holds no byte behind it as before it. (LAID: no walk: one application.) -/
theorem Tryd.Builder_Grow_fresh (B b n : Nat) (w : World) (hB : B ≤ b) (hbk : w.heap[b]? = some (.cells #[.pointer none, .slice none 0 0] 74 (0, 0))) (hBw : B ≤ w.heap.size) (hn : n ≤ 281474976710656) :
    Calls Tryd.prog 86 #[.pointer (some ⟨b, 0, none⟩), .int .i64 n] w fun e w' => e = .returned (.tuple #[]) ∧ (Lib.BuilderAt 74 5 B b (.pointer (some ⟨b, 0, none⟩)) [] w' ∧ Below B w w') := Any.Builder_Grow_fresh Tryd.lays165 Tryd.Builder_Extra_165 B b n w hB hbk hBw hn
def Tryd.lays128_ren : Go.Shelf.Ren := ⟨fun | 128 => 105 | n => n, fun | 51 => 67 | 3 => 3 | 4 => 4 | 46 => 88 | 5 => 5 | 9 => 9 | n => n, fun | n => n⟩
theorem Tryd.lays128 : Go.Proofs.Lays.n128 Tryd.prog Tryd.lays128_ren := {
  mixed := by kernel_rfl
  f128 := Tryd.func105.trans (congrArg some (by kernel_rfl))
  t3 := Tryd.underlying3
  a3 := Tryd.isAgg3
  z3 := Tryd.sizeOf3
  v3 := Tryd.zeroValue3
  t4 := Tryd.underlying4
  a4 := Tryd.isAgg4
  z4 := Tryd.sizeOf4
  v4 := Tryd.zeroValue4
  t5 := Tryd.underlying5
  a5 := Tryd.isAgg5
  z5 := Tryd.sizeOf5
  v5 := Tryd.zeroValue5
  t9 := Tryd.underlying9
  a9 := Tryd.isAgg9
  z9 := Tryd.sizeOf9
  v9 := Tryd.zeroValue9
  t46 := Tryd.underlying88
  a46 := Tryd.isAgg88
  z46 := Tryd.sizeOf88
  v46 := Tryd.zeroValue88
  t51 := Tryd.underlying67
  a51 := Tryd.isAgg67
  z51 := Tryd.sizeOf67
  v51 := Tryd.zeroValue67 }
/-- bits.Len32: "Len32 returns the minimum number of bits required to represent x; the result is 0 for x == 0.": IT RETURNS 'Lib.bitLen x'; the world is as it was. ('h0', 'h1': x is a uint32.) (LAID: no walk: one application.) -/
theorem Tryd.bits_Len32 (x : Int) (w : World) (h0 : 0 ≤ x) (h1 : x ≤ 4294967295) :
    Calls Tryd.prog 105 #[.int .u32 x] w fun e w' => e = .returned (.int .i64 (Lib.bitLen x.toNat)) ∧ w' = w := Any.bits_Len32 Tryd.lays128 x w h0 h1
def Tryd.lays133_ren : Go.Shelf.Ren := ⟨fun | 133 => 96 | 128 => 105 | n => n, fun | 51 => 67 | 3 => 3 | 4 => 4 | 46 => 88 | 5 => 5 | 9 => 9 | n => n, fun | n => n⟩
theorem Tryd.lays133 : Go.Proofs.Lays.n133 Tryd.prog Tryd.lays133_ren := {
  mixed := by kernel_rfl
  f128 := Tryd.func105.trans (congrArg some (by kernel_rfl))
  f133 := Tryd.func96.trans (congrArg some (by kernel_rfl))
  t3 := Tryd.underlying3
  a3 := Tryd.isAgg3
  z3 := Tryd.sizeOf3
  v3 := Tryd.zeroValue3
  t4 := Tryd.underlying4
  a4 := Tryd.isAgg4
  z4 := Tryd.sizeOf4
  v4 := Tryd.zeroValue4
  t5 := Tryd.underlying5
  a5 := Tryd.isAgg5
  z5 := Tryd.sizeOf5
  v5 := Tryd.zeroValue5
  t9 := Tryd.underlying9
  a9 := Tryd.isAgg9
  z9 := Tryd.sizeOf9
  v9 := Tryd.zeroValue9
  t46 := Tryd.underlying88
  a46 := Tryd.isAgg88
  z46 := Tryd.sizeOf88
  v46 := Tryd.zeroValue88
  t51 := Tryd.underlying67
  a51 := Tryd.isAgg67
  z51 := Tryd.sizeOf67
  v51 := Tryd.zeroValue67 }
/-- bits.LeadingZeros32: "LeadingZeros32 returns the number of leading zero bits in x; the result is 32 for x == 0.": IT RETURNS '32 - Lib.bitLen x'; the world is as it was. ITS CALLEE bits.Len32 IS MET BY ITS OWN CONTRACT OFF THE SHELF (lay that first): entered in place it sends the kernel out of memory. (LAID: no walk: one application.) -/
theorem Tryd.bits_LeadingZeros32 (x : Int) (w : World) (h0 : 0 ≤ x) (h1 : x ≤ 4294967295) :
    Calls Tryd.prog 96 #[.int .u32 x] w fun e w' => e = .returned (.int .i64 (32 - (Lib.bitLen x.toNat : Int))) ∧ w' = w := Any.bits_LeadingZeros32 Tryd.lays133 x w h0 h1
def Tryd.lays210_ren : Go.Shelf.Ren := ⟨fun | 210 => 79 | 206 => 90 | n => n, fun | 9 => 9 | 4 => 4 | 3 => 3 | n => n, fun | n => n⟩
theorem Tryd.lays210 : Go.Proofs.Lays.n210 Tryd.prog Tryd.lays210_ren := {
  mixed := by kernel_rfl
  f206 := Tryd.func90.trans (congrArg some (by kernel_rfl))
  f210 := Tryd.func79.trans (congrArg some (by kernel_rfl))
  t3 := Tryd.underlying3
  a3 := Tryd.isAgg3
  z3 := Tryd.sizeOf3
  v3 := Tryd.zeroValue3
  t4 := Tryd.underlying4
  a4 := Tryd.isAgg4
  z4 := Tryd.sizeOf4
  v4 := Tryd.zeroValue4
  t9 := Tryd.underlying9
  a9 := Tryd.isAgg9
  z9 := Tryd.sizeOf9
  v9 := Tryd.zeroValue9 }
open Go.RowKit in
/-- internal/stringslite.CutPrefix (what strings.CutPrefix calls). (LAID: no walk: one application.) -/
theorem Tryd.stringslite_CutPrefix (s p : ByteArray) (w : World) :
    Calls Tryd.prog 79 #[.string s, .string p] w fun e w' => e = .returned (.tuple #[.string ⟨(Lib.trimPrefix s.data.toList p.data.toList).toArray⟩, .bool (Lib.hasPrefix s.data.toList p.data.toList)]) ∧ w' = w := Any.stringslite_CutPrefix Tryd.lays210 s p w
def Tryd.lays103_ren : Go.Shelf.Ren := ⟨fun | 103 => 56 | 210 => 79 | 206 => 90 | n => n, fun | 9 => 9 | 4 => 4 | 24 => 63 | 3 => 3 | n => n, fun | n => n⟩
theorem Tryd.lays103 : Go.Proofs.Lays.n103 Tryd.prog Tryd.lays103_ren := {
  mixed := by kernel_rfl
  f103 := Tryd.func56.trans (congrArg some (by kernel_rfl))
  f206 := Tryd.func90.trans (congrArg some (by kernel_rfl))
  f210 := Tryd.func79.trans (congrArg some (by kernel_rfl))
  t3 := Tryd.underlying3
  a3 := Tryd.isAgg3
  z3 := Tryd.sizeOf3
  v3 := Tryd.zeroValue3
  t4 := Tryd.underlying4
  a4 := Tryd.isAgg4
  z4 := Tryd.sizeOf4
  v4 := Tryd.zeroValue4
  t9 := Tryd.underlying9
  a9 := Tryd.isAgg9
  z9 := Tryd.sizeOf9
  v9 := Tryd.zeroValue9
  t24 := Tryd.underlying63
  a24 := Tryd.isAgg63
  z24 := Tryd.sizeOf63
  v24 := Tryd.zeroValue63 }
open Go.RowKit in
/-- strings.CutPrefix: "CutPrefix returns s without the provided leading prefix string and reports whether it found the prefix. If s doesn't start with prefix, CutPrefix returns s, false. If prefix is the empty string, CutPrefix returns s, true.": IT RETURNS '(Lib.trimPrefix s p, Lib.hasPrefix s p)'; the world is as it was. (LAID: no walk: one application.) -/
theorem Tryd.strings_CutPrefix (s p : ByteArray) (w : World) :
    Calls Tryd.prog 56 #[.string s, .string p] w fun e w' => e = .returned (.tuple #[.string ⟨(Lib.trimPrefix s.data.toList p.data.toList).toArray⟩, .bool (Lib.hasPrefix s.data.toList p.data.toList)]) ∧ w' = w := Any.strings_CutPrefix Tryd.lays103 s p w
def Tryd.lays215_ren : Go.Shelf.Ren := ⟨fun | 215 => 73 | n => n, fun | 3 => 3 | 4 => 4 | n => n, fun | n => n⟩
theorem Tryd.lays215 : Go.Proofs.Lays.n215 Tryd.prog Tryd.lays215_ren := {
  mixed := by kernel_rfl
  f215 := Tryd.func73.trans (congrArg some (by kernel_rfl))
  t3 := Tryd.underlying3
  a3 := Tryd.isAgg3
  z3 := Tryd.sizeOf3
  v3 := Tryd.zeroValue3
  t4 := Tryd.underlying4
  a4 := Tryd.isAgg4
  z4 := Tryd.sizeOf4
  v4 := Tryd.zeroValue4 }
open Go.RowKit in
/-- cmp.isNaN at int: 'x != x': false. (LAID: no walk: one application.) -/
theorem Tryd.cmp_isNaN_int (x : Int) (w : World) :
    Calls Tryd.prog 73 #[.int .i64 x] w fun e w' => e = .returned (.bool false) ∧ w' = w := Any.cmp_isNaN_int Tryd.lays215 x w
def Tryd.lays122_ren : Go.Shelf.Ren := ⟨fun | 122 => 48 | 215 => 73 | n => n, fun | 3 => 3 | 4 => 4 | n => n, fun | n => n⟩
theorem Tryd.lays122 : Go.Proofs.Lays.n122 Tryd.prog Tryd.lays122_ren := {
  mixed := by kernel_rfl
  f122 := Tryd.func48.trans (congrArg some (by kernel_rfl))
  f215 := Tryd.func73.trans (congrArg some (by kernel_rfl))
  t3 := Tryd.underlying3
  a3 := Tryd.isAgg3
  z3 := Tryd.sizeOf3
  v3 := Tryd.zeroValue3
  t4 := Tryd.underlying4
  a4 := Tryd.isAgg4
  z4 := Tryd.sizeOf4
  v4 := Tryd.zeroValue4 }
open Go.RowKit in
/-- cmp.Compare at int: "Compare returns -1 if x is less than y, 0 if x equals y, +1 if x is greater than y.": IT RETURNS 'Lib.compareInt x y'; the world is as it was. (LAID: no walk: one application.) -/
theorem Tryd.cmp_Compare_int (x y : Int) (w : World) :
    Calls Tryd.prog 48 #[.int .i64 x, .int .i64 y] w fun e w' => e = .returned (.int .i64 (Lib.compareInt x y)) ∧ w' = w := Any.cmp_Compare_int Tryd.lays122 x y w
open Go.RowKit in
/-- (*strings.Builder).Len: "Len returns the number of accumulated bytes; b.Len() == len(b.String()).": the world is as it was. (THE FORM '_f': 'Lib.IsBuilderF'.) (LAID: no walk: one application.) -/
theorem Tryd.Builder_Len_f (B b : Nat) (bs : List Value) (w : World) (h : Lib.IsBuilderF 74 5 B b bs w) :
    Calls Tryd.prog 87 #[.pointer (some ⟨b, 0, none⟩)] w fun e w' => e = .returned (.int .i64 bs.length) ∧ w' = w := Any.Builder_Len_f Tryd.lays170 B b bs w h
open Go.RowKit in
/-- (*strings.Builder).String: "String returns the accumulated string.": OF A BUILDER THAT HOLDS AT LEAST ONE BYTE. ✋ THE MODEL FREEZES THOSE BYTES IN THE BUFFER (unsafe.String): a later write INTO them ends the model's run without an answer; a later append BEHIND them goes on. The statement's order of evaluation is drawn: one draw. THE FORM '_f': IT SAYS BESIDES THAT THE BUILDER IS A BUILDER STILL ('Lib.IsBuilderF', the same bytes): SO IT CAN BE WRITTEN ON: 'b.WriteString(b.String()[:k])'. (LAID: no walk: one application.) -/
theorem Tryd.Builder_String_f (B b : Nat) (l : List UInt8) (w : World) (h : Lib.IsBuilderF 74 5 B b (Lib.byteCells l) w) (h0 : l ≠ []) :
    Calls Tryd.prog 66 #[.pointer (some ⟨b, 0, none⟩)] w fun e w' => e = .returned (.string ⟨l.toArray⟩) ∧ (Lib.IsBuilderF 74 5 B b (Lib.byteCells l) w' ∧ Below B w w') := Any.Builder_String_f Tryd.lays169 Tryd.Builder_Extra_169 B b l w h h0
open Go.RowKit in
/-- (*strings.Builder).String OF A BUILDER THAT HOLDS NO BYTE: the empty string; THE FORM '_f': a builder still. (LAID: no walk: one application.) -/
theorem Tryd.Builder_String_empty_f (B b : Nat) (w : World) (h : Lib.IsBuilderF 74 5 B b [] w) (hBw : B ≤ w.heap.size) :
    Calls Tryd.prog 66 #[.pointer (some ⟨b, 0, none⟩)] w fun e w' => e = .returned (.string ⟨#[]⟩) ∧ (Lib.IsBuilderF 74 5 B b [] w' ∧ Below B w w') := Any.Builder_String_empty_f Tryd.lays169 Tryd.Builder_Extra_169 B b w h hBw
open Go.RowKit in
/-- (*strings.Builder).String: "String returns the accumulated string.": WHATEVER THE BUILDER HOLDS; THE FORM '_f': OF A BUILDER THAT MAY HAVE BEEN READ BEFORE; AND IT IS A BUILDER STILL, holding the same bytes: it can be written on. (LAID: no walk: one application.) -/
theorem Tryd.Builder_String_any_f (B b : Nat) (l : List UInt8) (w : World) (h : Lib.IsBuilderF 74 5 B b (Lib.byteCells l) w) (hBw : B ≤ w.heap.size) :
    Calls Tryd.prog 66 #[.pointer (some ⟨b, 0, none⟩)] w fun e w' => e = .returned (.string ⟨l.toArray⟩) ∧ (Lib.IsBuilderF 74 5 B b (Lib.byteCells l) w' ∧ Below B w w') := Any.Builder_String_any_f Tryd.lays169 Tryd.Builder_Extra_169 B b l w h hBw
open Go.RowKit in
/-- (*strings.Builder).String: "String returns the accumulated string.": OF A BUILDER THAT HOLDS AT LEAST ONE BYTE. ✋ THE MODEL FREEZES THOSE BYTES IN THE BUFFER (unsafe.String): a later write INTO them ends the model's run without an answer; a later append BEHIND them goes on. The statement's order of evaluation is drawn: one draw. THE FORM '_k': OVER 'Lib.IsBuilderF' (a builder that 'String()' may have read), AND WITH THE FRAME THAT REACHES ABOVE THE BUILDER: 'Lib.OthersKept': every block that is not b and is no row of uint8's stands as it stood: the iterator of a range among them. (LAID: no walk: one application.) -/
theorem Tryd.Builder_String_k (B b : Nat) (l : List UInt8) (w : World) (h : Lib.IsBuilderF 74 5 B b (Lib.byteCells l) w) (h0 : l ≠ []) :
    Calls Tryd.prog 66 #[.pointer (some ⟨b, 0, none⟩)] w fun e w' => e = .returned (.string ⟨l.toArray⟩) ∧ (Lib.IsBuilderF 74 5 B b (Lib.byteCells l) w' ∧ Below B w w' ∧ Lib.OthersKept 5 (some b) w w') := Any.Builder_String_k Tryd.lays169 Tryd.Builder_Extra_169 B b l w h h0
open Go.RowKit in
/-- (*strings.Builder).String OF A BUILDER THAT HOLDS NO BYTE: the empty string; THE FORM '_k': OVER 'Lib.IsBuilderF' (a builder that 'String()' may have read), AND WITH THE FRAME THAT REACHES ABOVE THE BUILDER: 'Lib.OthersKept': every block that is not b and is no row of uint8's stands as it stood: the iterator of a range among them. (LAID: no walk: one application.) -/
theorem Tryd.Builder_String_empty_k (B b : Nat) (w : World) (h : Lib.IsBuilderF 74 5 B b [] w) (hBw : B ≤ w.heap.size) :
    Calls Tryd.prog 66 #[.pointer (some ⟨b, 0, none⟩)] w fun e w' => e = .returned (.string ⟨#[]⟩) ∧ (Lib.IsBuilderF 74 5 B b [] w' ∧ Below B w w' ∧ Lib.OthersKept 5 (some b) w w') := Any.Builder_String_empty_k Tryd.lays169 Tryd.Builder_Extra_169 B b w h hBw
open Go.RowKit in
/-- (*strings.Builder).String: "String returns the accumulated string.": WHATEVER THE BUILDER HOLDS; THE FORM '_k': OVER 'Lib.IsBuilderF' (a builder that 'String()' may have read), AND WITH THE FRAME THAT REACHES ABOVE THE BUILDER: 'Lib.OthersKept': every block that is not b and is no row of uint8's stands as it stood: the iterator of a range among them. (LAID: no walk: one application.) -/
theorem Tryd.Builder_String_any_k (B b : Nat) (l : List UInt8) (w : World) (h : Lib.IsBuilderF 74 5 B b (Lib.byteCells l) w) (hBw : B ≤ w.heap.size) :
    Calls Tryd.prog 66 #[.pointer (some ⟨b, 0, none⟩)] w fun e w' => e = .returned (.string ⟨l.toArray⟩) ∧ (Lib.IsBuilderF 74 5 B b (Lib.byteCells l) w' ∧ Below B w w' ∧ Lib.OthersKept 5 (some b) w w') := Any.Builder_String_any_k Tryd.lays169 Tryd.Builder_Extra_169 B b l w h hBw
open Go.RowKit in
/-- (*strings.Builder).grow (no doc but "grow copies the buffer to a new, larger buffer so that there are at least n bytes of capacity beyond len(b.buf)."): AT A BUILDER WITHOUT A BUFFER: a new row of whatever bytes for its buffer, none of them its own yet. Three draws. (LAID: no walk: one application.) -/
theorem Tryd.Builder_grow_fresh_cap (B b n : Nat) (w : World) (hB : B ≤ b) (hbk : w.heap[b]? = some (.cells #[.pointer (some ⟨b, 0, none⟩), .slice none 0 0] 74 (0, 0))) (hBw : B ≤ w.heap.size) (hn : n ≤ 281474976710656) :
    Calls Tryd.prog 95 #[.pointer (some ⟨b, 0, none⟩), .int .i64 n] w fun e w' => e = .returned (.tuple #[]) ∧ (Lib.BuilderAt 74 5 B b (.pointer (some ⟨b, 0, none⟩)) [] w' ∧ Below B w w') ∧ ∃ p cap, w'.cell? ⟨b, 1, none⟩ = some (.slice p 0 cap) ∧ n ≤ cap := Any.Builder_grow_fresh_cap Tryd.lays241 Tryd.Builder_Extra_241 B b n w hB hbk hBw hn
open Go.RowKit in
/-- (*strings.Builder).Grow AT A BUILDER THAT HAS NOT BEEN WRITTEN ('var b strings.Builder; b.Grow(n)'): "Grow grows b's capacity, if necessary, to guarantee space for another n bytes.": it holds no byte behind it as before it. (LAID: no walk: one application.) -/
theorem Tryd.Builder_Grow_fresh_cap (B b n : Nat) (w : World) (hB : B ≤ b) (hbk : w.heap[b]? = some (.cells #[.pointer none, .slice none 0 0] 74 (0, 0))) (hBw : B ≤ w.heap.size) (hn : n ≤ 281474976710656) :
    Calls Tryd.prog 86 #[.pointer (some ⟨b, 0, none⟩), .int .i64 n] w fun e w' => e = .returned (.tuple #[]) ∧ (Lib.BuilderAt 74 5 B b (.pointer (some ⟨b, 0, none⟩)) [] w' ∧ Below B w w') ∧ ∃ p cap, w'.cell? ⟨b, 1, none⟩ = some (.slice p 0 cap) ∧ n ≤ cap := Any.Builder_Grow_fresh_cap Tryd.lays165 Tryd.Builder_Extra_165 B b n w hB hbk hBw hn
def Tryd.lays129_ren : Go.Shelf.Ren := ⟨fun | 129 => 110 | n => n, fun | 53 => 59 | 3 => 3 | 4 => 4 | 46 => 88 | 5 => 5 | 9 => 9 | n => n, fun | n => n⟩
theorem Tryd.lays129 : Go.Proofs.Lays.n129 Tryd.prog Tryd.lays129_ren := {
  mixed := by kernel_rfl
  f129 := Tryd.func110.trans (congrArg some (by kernel_rfl))
  t3 := Tryd.underlying3
  a3 := Tryd.isAgg3
  z3 := Tryd.sizeOf3
  v3 := Tryd.zeroValue3
  t4 := Tryd.underlying4
  a4 := Tryd.isAgg4
  z4 := Tryd.sizeOf4
  v4 := Tryd.zeroValue4
  t5 := Tryd.underlying5
  a5 := Tryd.isAgg5
  z5 := Tryd.sizeOf5
  v5 := Tryd.zeroValue5
  t9 := Tryd.underlying9
  a9 := Tryd.isAgg9
  z9 := Tryd.sizeOf9
  v9 := Tryd.zeroValue9
  t46 := Tryd.underlying88
  a46 := Tryd.isAgg88
  z46 := Tryd.sizeOf88
  v46 := Tryd.zeroValue88
  t53 := Tryd.underlying59
  a53 := Tryd.isAgg59
  z53 := Tryd.sizeOf59
  v53 := Tryd.zeroValue59 }
/-- bits.Len64: "Len64 returns the minimum number of bits required to represent x; the result is 0 for x == 0.": IT RETURNS 'Lib.bitLen x'; the world is as it was. ('h0', 'h1': x is a uint64.) (LAID: no walk: one application.) -/
theorem Tryd.bits_Len64 (x : Int) (w : World) (h0 : 0 ≤ x) (h1 : x ≤ 18446744073709551615) :
    Calls Tryd.prog 110 #[.int .u64 x] w fun e w' => e = .returned (.int .i64 (Lib.bitLen x.toNat)) ∧ w' = w := Any.bits_Len64 Tryd.lays129 x w h0 h1
def Tryd.lays317_ren : Go.Shelf.Ren := ⟨fun | 317 => 109 | n => n, fun | 3 => 3 | 46 => 88 | n => n, fun | n => n⟩
theorem Tryd.lays317 : Go.Proofs.Lays.n317 Tryd.prog Tryd.lays317_ren := {
  mixed := by kernel_rfl
  f317 := Tryd.func109.trans (congrArg some (by kernel_rfl))
  t3 := Tryd.underlying3
  a3 := Tryd.isAgg3
  z3 := Tryd.sizeOf3
  v3 := Tryd.zeroValue3
  t46 := Tryd.underlying88
  a46 := Tryd.isAgg88
  z46 := Tryd.sizeOf88
  v46 := Tryd.zeroValue88 }
open Go.Lib in
/-- internal/strconv.log10Pow2: "log10Pow2(x) returns ⌊log₁₀ 2**x⌋ = ⌊x * log₁₀ 2⌋.": '(x * 78913) >> 18', at an x up to 64 (a length in bits). The world is as it was. (LAID: no walk: one application.) -/
theorem Tryd.internal_strconv_log10Pow2 (x : Nat) (h : x ≤ 64) (w : World) :
    Calls Tryd.prog 109 #[.int .i64 x] w fun e w' => e = .returned (.int .i64 (Lib.l10 x)) ∧ w' = w := Any.internal_strconv_log10Pow2 Tryd.lays317 x h w
def Tryd.lays318_ren : Go.Shelf.Ren := ⟨fun | 318 => 111 | n => n, fun | 3 => 3 | 4 => 4 | n => n, fun | n => n⟩
theorem Tryd.lays318 : Go.Proofs.Lays.n318 Tryd.prog Tryd.lays318_ren := {
  mixed := by kernel_rfl
  f318 := Tryd.func111.trans (congrArg some (by kernel_rfl))
  t3 := Tryd.underlying3
  a3 := Tryd.isAgg3
  z3 := Tryd.sizeOf3
  v3 := Tryd.zeroValue3
  t4 := Tryd.underlying4
  a4 := Tryd.isAgg4
  z4 := Tryd.sizeOf4
  v4 := Tryd.zeroValue4 }
open Go.Lib in
/-- internal/strconv.bool2: "bool2 converts b to an integer: 1 for true, 0 for false." The world is as it was. (LAID: no walk: one application.) -/
theorem Tryd.internal_strconv_bool2_int (b : Bool) (w : World) :
    Calls Tryd.prog 111 #[.bool b] w fun e w' => e = .returned (.int .i64 (if b then 1 else 0)) ∧ w' = w := Any.internal_strconv_bool2_int Tryd.lays318 b w
def Tryd.lays283_ren : Go.Shelf.Ren := ⟨fun | 283 => 100 | n => n, fun | 3 => 3 | 9 => 9 | 4 => 4 | n => n, fun | n => n⟩
theorem Tryd.lays283 : Go.Proofs.Lays.n283 Tryd.prog Tryd.lays283_ren := {
  mixed := by kernel_rfl
  f283 := Tryd.func100.trans (congrArg some (by kernel_rfl))
  t3 := Tryd.underlying3
  a3 := Tryd.isAgg3
  z3 := Tryd.sizeOf3
  v3 := Tryd.zeroValue3
  t4 := Tryd.underlying4
  a4 := Tryd.isAgg4
  z4 := Tryd.sizeOf4
  v4 := Tryd.zeroValue4
  t9 := Tryd.underlying9
  a9 := Tryd.isAgg9
  z9 := Tryd.sizeOf9
  v9 := Tryd.zeroValue9 }
open Go.Lib in
/-- internal/strconv.small: "small returns the string for an i with 0 <= i < nSmalls.": i's decimal numeral. The world is as it was. (LAID: no walk: one application.) -/
theorem Tryd.internal_strconv_small (i : Nat) (h : i < 100) (w : World) :
    Calls Tryd.prog 100 #[.int .i64 i] w fun e w' => e = .returned (.string ⟨(Lib.decDigits i).toArray⟩) ∧ w' = w := Any.internal_strconv_small Tryd.lays283 i h w
def Tryd.laysM284_ren : Go.Shelf.Ren := ⟨fun | 284 => 101 | 129 => 110 | 317 => 109 | 318 => 111 | n => n, fun | 53 => 59 | 3 => 3 | 212 => 127 | 0 => 0 | 4 => 4 | 46 => 88 | 5 => 5 | 9 => 9 | n => n, fun | 17 => 0 | n => n⟩
theorem Tryd.laysM284 : Go.Proofs.LaysM.n284 Tryd.prog Tryd.laysM284_ren := {
  mixed := by kernel_rfl
  f129 := Tryd.func110.trans (congrArg some (by kernel_rfl))
  f284 := Tryd.func101.trans (congrArg some (by kernel_rfl))
  f317 := Tryd.func109.trans (congrArg some (by kernel_rfl))
  f318 := Tryd.func111.trans (congrArg some (by kernel_rfl))
  t0 := Tryd.underlying0
  a0 := Tryd.isAgg0
  z0 := Tryd.sizeOf0
  v0 := Tryd.zeroValue0
  t3 := Tryd.underlying3
  a3 := Tryd.isAgg3
  z3 := Tryd.sizeOf3
  v3 := Tryd.zeroValue3
  t4 := Tryd.underlying4
  a4 := Tryd.isAgg4
  z4 := Tryd.sizeOf4
  v4 := Tryd.zeroValue4
  t5 := Tryd.underlying5
  a5 := Tryd.isAgg5
  z5 := Tryd.sizeOf5
  v5 := Tryd.zeroValue5
  t9 := Tryd.underlying9
  a9 := Tryd.isAgg9
  z9 := Tryd.sizeOf9
  v9 := Tryd.zeroValue9
  t46 := Tryd.underlying88
  a46 := Tryd.isAgg88
  z46 := Tryd.sizeOf88
  v46 := Tryd.zeroValue88
  t53 := Tryd.underlying59
  a53 := Tryd.isAgg59
  z53 := Tryd.sizeOf59
  v53 := Tryd.zeroValue59
  t212 := Tryd.underlying127
  a212 := Tryd.isAgg127
  z212 := Tryd.sizeOf127
  v212 := Tryd.zeroValue127
  g17 := by kernel_rfl
  i0 := by kernel_rfl
  i3 := by kernel_rfl
  i4 := by kernel_rfl
  i5 := by kernel_rfl
  i9 := by kernel_rfl
  i46 := by kernel_rfl
  i53 := by kernel_rfl
  i212 := by kernel_rfl
  m17 := by kernel_rfl }
open Go.Lib in
/-- internal/strconv.numDigits, at a d that is not 0: THE NUMBER OF d's DECIMAL DIGITS. The world is as it was. (LAID: no walk: one application.) -/
theorem Tryd.internal_strconv_numDigits (u : Nat) (h1 : 1 ≤ u) (h2 : u < 18446744073709551616) (w : World) (htab : Lib.TabIs Tryd.prog w "internal/strconv.uint64pow10" .u64 Lib.pow10Tab) :
    Calls Tryd.prog 101 #[.int .u64 u] w fun e w' => e = .returned (.int .i64 (Lib.nDigits u)) ∧ w' = w := Any.internal_strconv_numDigits Tryd.laysM284 u h1 h2 w htab
def Tryd.lays285_ren : Go.Shelf.Ren := ⟨fun | 285 => 102 | n => n, fun | 37 => 72 | 53 => 59 | 3 => 3 | 4 => 4 | 51 => 67 | 9 => 9 | 5 => 5 | 0 => 0 | n => n, fun | n => n⟩
theorem Tryd.lays285 : Go.Proofs.Lays.n285 Tryd.prog Tryd.lays285_ren := {
  mixed := by kernel_rfl
  f285 := Tryd.func102.trans (congrArg some (by kernel_rfl))
  t0 := Tryd.underlying0
  a0 := Tryd.isAgg0
  z0 := Tryd.sizeOf0
  v0 := Tryd.zeroValue0
  t3 := Tryd.underlying3
  a3 := Tryd.isAgg3
  z3 := Tryd.sizeOf3
  v3 := Tryd.zeroValue3
  t4 := Tryd.underlying4
  a4 := Tryd.isAgg4
  z4 := Tryd.sizeOf4
  v4 := Tryd.zeroValue4
  t5 := Tryd.underlying5
  a5 := Tryd.isAgg5
  z5 := Tryd.sizeOf5
  v5 := Tryd.zeroValue5
  t9 := Tryd.underlying9
  a9 := Tryd.isAgg9
  z9 := Tryd.sizeOf9
  v9 := Tryd.zeroValue9
  t37 := Tryd.underlying72
  a37 := Tryd.isAgg72
  z37 := Tryd.sizeOf72
  v37 := Tryd.zeroValue72
  t51 := Tryd.underlying67
  a51 := Tryd.isAgg67
  z51 := Tryd.sizeOf67
  v51 := Tryd.zeroValue67
  t53 := Tryd.underlying59
  a53 := Tryd.isAgg59
  z53 := Tryd.sizeOf59
  v53 := Tryd.zeroValue59 }
open Go.RowKit Go.Sort Go.Lib in
/-- internal/strconv.formatBase10: "formatBase10 formats the decimal representation of u into a. The caller is responsible for ensuring that a is big enough to hold u. If a is too big, leading zeros will be filled in as needed.": THE ROW HOLDS u's DIGITS ('FmtInv .. 0 ..': every place t holds 'dg u (len - 1 - t)'); all else is as it was but for the count of draws. (LAID: no walk: one application.) -/
theorem Tryd.internal_strconv_formatBase10 (blk off cap : Nat) (u : Nat) (d : Array UInt8) (w : World) (hH : Holds (fun (b : UInt8) => Value.int .u8 (b.toNat : Int)) w blk off d) (hu : u < 10 ^ d.size) (hu64 : u < 18446744073709551616) (hsz : d.size < 4611686018427387904) :
    Calls Tryd.prog 102 #[.slice (some ⟨blk, off, none⟩) d.size cap, .int .u64 u] w fun e w' =>
      e = .returned (.tuple #[]) ∧ ∃ (n v' : Nat) (dk : Array UInt8), w' = (putRow (fun (b : UInt8) => Value.int .u8 (b.toNat : Int)) w blk off dk).drewN n ∧ FmtInv d.size u 0 v' dk := Any.internal_strconv_formatBase10 Tryd.lays285 blk off cap u d w hH hu hu64 hsz
def Tryd.lays206_ren : Go.Shelf.Ren := ⟨fun | 206 => 90 | n => n, fun | 9 => 9 | 4 => 4 | 3 => 3 | n => n, fun | n => n⟩
theorem Tryd.lays206 : Go.Proofs.Lays.n206 Tryd.prog Tryd.lays206_ren := {
  mixed := by kernel_rfl
  f206 := Tryd.func90.trans (congrArg some (by kernel_rfl))
  t3 := Tryd.underlying3
  a3 := Tryd.isAgg3
  z3 := Tryd.sizeOf3
  v3 := Tryd.zeroValue3
  t4 := Tryd.underlying4
  a4 := Tryd.isAgg4
  z4 := Tryd.sizeOf4
  v4 := Tryd.zeroValue4
  t9 := Tryd.underlying9
  a9 := Tryd.isAgg9
  z9 := Tryd.sizeOf9
  v9 := Tryd.zeroValue9 }
open Go.RowKit Go.Lib in
/-- internal/stringslite.HasPrefix (what strings.HasPrefix calls). (LAID: no walk: one application.) -/
theorem Tryd.stringslite_HasPrefix (s p : ByteArray) (w : World) :
    Calls Tryd.prog 90 #[.string s, .string p] w fun e w' => e = .returned (.bool (Lib.hasPrefix s.data.toList p.data.toList)) ∧ w' = w := Any.stringslite_HasPrefix Tryd.lays206 s p w
def Tryd.lays99_ren : Go.Shelf.Ren := ⟨fun | 99 => 85 | 206 => 90 | n => n, fun | 9 => 9 | 4 => 4 | 3 => 3 | n => n, fun | n => n⟩
theorem Tryd.lays99 : Go.Proofs.Lays.n99 Tryd.prog Tryd.lays99_ren := {
  mixed := by kernel_rfl
  f99 := Tryd.func85.trans (congrArg some (by kernel_rfl))
  f206 := Tryd.func90.trans (congrArg some (by kernel_rfl))
  t3 := Tryd.underlying3
  a3 := Tryd.isAgg3
  z3 := Tryd.sizeOf3
  v3 := Tryd.zeroValue3
  t4 := Tryd.underlying4
  a4 := Tryd.isAgg4
  z4 := Tryd.sizeOf4
  v4 := Tryd.zeroValue4
  t9 := Tryd.underlying9
  a9 := Tryd.isAgg9
  z9 := Tryd.sizeOf9
  v9 := Tryd.zeroValue9 }
open Go.RowKit Go.Lib in
/-- strings.HasPrefix: "HasPrefix reports whether the string s begins with prefix.": IT RETURNS 'Lib.hasPrefix s prefix'; the world is as it was. (LAID: no walk: one application.) -/
theorem Tryd.strings_HasPrefix (s p : ByteArray) (w : World) :
    Calls Tryd.prog 85 #[.string s, .string p] w fun e w' => e = .returned (.bool (Lib.hasPrefix s.data.toList p.data.toList)) ∧ w' = w := Any.strings_HasPrefix Tryd.lays99 s p w
def Tryd.lays264_ren : Go.Shelf.Ren := ⟨fun | 264 => 94 | n => n, fun | 53 => 59 | 46 => 88 | n => n, fun | n => n⟩
theorem Tryd.lays264 : Go.Proofs.Lays.n264 Tryd.prog Tryd.lays264_ren := {
  mixed := by kernel_rfl
  f264 := Tryd.func94.trans (congrArg some (by kernel_rfl))
  t46 := Tryd.underlying88
  a46 := Tryd.isAgg88
  z46 := Tryd.sizeOf88
  v46 := Tryd.zeroValue88
  t53 := Tryd.underlying59
  a53 := Tryd.isAgg59
  z53 := Tryd.sizeOf59
  v53 := Tryd.zeroValue59 }
open Go.RowKit Go.Lib in
theorem Tryd.bits_Mul64 (x y : Nat) (hx : x < 18446744073709551616) (hy : y < 18446744073709551616) (w : World) :
    Calls Tryd.prog 94 #[.int .u64 x, .int .u64 y] w fun e w' => e = .returned (.tuple #[.int .u64 ((x * y / 18446744073709551616 : Nat) : Int), .int .u64 ((x * y % 18446744073709551616 : Nat) : Int)]) ∧ w' = w := Any.bits_Mul64 Tryd.lays264 x y hx hy w
def Tryd.lays212_ren : Go.Shelf.Ren := ⟨fun | 212 => 84 | 263 => 93 | 264 => 94 | n => n, fun | 46 => 88 | 51 => 67 | 146 => 109 | 53 => 59 | 148 => 83 | n => n, fun | n => n⟩
theorem Tryd.lays212 : Go.Proofs.Lays.n212 Tryd.prog Tryd.lays212_ren := {
  mixed := by kernel_rfl
  f212 := Tryd.func84.trans (congrArg some (by kernel_rfl))
  f263 := Tryd.func93.trans (congrArg some (by kernel_rfl))
  f264 := Tryd.func94.trans (congrArg some (by kernel_rfl))
  t46 := Tryd.underlying88
  a46 := Tryd.isAgg88
  z46 := Tryd.sizeOf88
  v46 := Tryd.zeroValue88
  t51 := Tryd.underlying67
  a51 := Tryd.isAgg67
  z51 := Tryd.sizeOf67
  v51 := Tryd.zeroValue67
  t53 := Tryd.underlying59
  a53 := Tryd.isAgg59
  z53 := Tryd.sizeOf59
  v53 := Tryd.zeroValue59
  t146 := Tryd.underlying109
  a146 := Tryd.isAgg109
  z146 := Tryd.sizeOf109
  v146 := Tryd.zeroValue109
  t148 := Tryd.underlying83
  a148 := Tryd.isAgg83
  z148 := Tryd.sizeOf83
  v148 := Tryd.zeroValue83 }
open Go.RowKit Go.Lib in
/-- math/bits.Mul: "Mul returns the full-width product of x and y": on a machine of 64 bits: Mul64's. (LAID: no walk: one application.) -/
theorem Tryd.bits_Mul (x y : Nat) (hx : x < 18446744073709551616) (hy : y < 18446744073709551616) (w : World) :
    Calls Tryd.prog 84 #[.int .u64 x, .int .u64 y] w fun e w' => e = .returned (.tuple #[.int .u64 ((x * y / 18446744073709551616 : Nat) : Int), .int .u64 ((x * y % 18446744073709551616 : Nat) : Int)]) ∧ w' = w := Any.bits_Mul Tryd.lays212 x y hx hy w
def Tryd.lays105_ren : Go.Shelf.Ren := ⟨fun | 105 => 65 | 212 => 84 | 99 => 85 | 165 => 86 | 166 => 63 | 170 => 87 | 169 => 66 | 263 => 93 | 264 => 94 | 206 => 90 | 240 => 82 | 241 => 95 | 276 => 91 | 277 => 104 | n => n, fun | 9 => 9 | 3 => 3 | 4 => 4 | 20 => 20 | 0 => 0 | 46 => 88 | 109 => 100 | 5 => 5 | 72 => 74 | 76 => 78 | 51 => 67 | 146 => 109 | 53 => 59 | 148 => 83 | 70 => 71 | 37 => 72 | 75 => 76 | 127 => 105 | 164 => 107 | 80 => 82 | n => n, fun | n => n⟩
theorem Tryd.lays105 : Go.Proofs.Lays.n105 Tryd.prog Tryd.lays105_ren := {
  mixed := by kernel_rfl
  f99 := Tryd.func85.trans (congrArg some (by kernel_rfl))
  f105 := Tryd.func65.trans (congrArg some (by kernel_rfl))
  f165 := Tryd.func86.trans (congrArg some (by kernel_rfl))
  f166 := Tryd.func63.trans (congrArg some (by kernel_rfl))
  f169 := Tryd.func66.trans (congrArg some (by kernel_rfl))
  f170 := Tryd.func87.trans (congrArg some (by kernel_rfl))
  f206 := Tryd.func90.trans (congrArg some (by kernel_rfl))
  f212 := Tryd.func84.trans (congrArg some (by kernel_rfl))
  f240 := Tryd.func82.trans (congrArg some (by kernel_rfl))
  f241 := Tryd.func95.trans (congrArg some (by kernel_rfl))
  f263 := Tryd.func93.trans (congrArg some (by kernel_rfl))
  f264 := Tryd.func94.trans (congrArg some (by kernel_rfl))
  f276 := Tryd.func91.trans (congrArg some (by kernel_rfl))
  f277 := Tryd.func104.trans (congrArg some (by kernel_rfl))
  t0 := Tryd.underlying0
  a0 := Tryd.isAgg0
  z0 := Tryd.sizeOf0
  v0 := Tryd.zeroValue0
  t3 := Tryd.underlying3
  a3 := Tryd.isAgg3
  z3 := Tryd.sizeOf3
  v3 := Tryd.zeroValue3
  t4 := Tryd.underlying4
  a4 := Tryd.isAgg4
  z4 := Tryd.sizeOf4
  v4 := Tryd.zeroValue4
  t5 := Tryd.underlying5
  a5 := Tryd.isAgg5
  z5 := Tryd.sizeOf5
  v5 := Tryd.zeroValue5
  t9 := Tryd.underlying9
  a9 := Tryd.isAgg9
  z9 := Tryd.sizeOf9
  v9 := Tryd.zeroValue9
  t20 := Tryd.underlying20
  a20 := Tryd.isAgg20
  z20 := Tryd.sizeOf20
  v20 := Tryd.zeroValue20
  t37 := Tryd.underlying72
  a37 := Tryd.isAgg72
  z37 := Tryd.sizeOf72
  v37 := Tryd.zeroValue72
  t46 := Tryd.underlying88
  a46 := Tryd.isAgg88
  z46 := Tryd.sizeOf88
  v46 := Tryd.zeroValue88
  t51 := Tryd.underlying67
  a51 := Tryd.isAgg67
  z51 := Tryd.sizeOf67
  v51 := Tryd.zeroValue67
  t53 := Tryd.underlying59
  a53 := Tryd.isAgg59
  z53 := Tryd.sizeOf59
  v53 := Tryd.zeroValue59
  t70 := Tryd.underlying71
  a70 := Tryd.isAgg71
  z70 := Tryd.sizeOf71
  v70 := Tryd.zeroValue71
  t72 := Tryd.underlying74
  a72 := Tryd.isAgg74
  z72 := Tryd.sizeOf74
  v72 := Tryd.zeroValue74
  t75 := Tryd.underlying76
  a75 := Tryd.isAgg76
  z75 := Tryd.sizeOf76
  v75 := Tryd.zeroValue76
  t76 := Tryd.underlying78
  a76 := Tryd.isAgg78
  z76 := Tryd.sizeOf78
  v76 := Tryd.zeroValue78
  t109 := Tryd.underlying100
  a109 := Tryd.isAgg100
  z109 := Tryd.sizeOf100
  v109 := Tryd.zeroValue100
  t127 := Tryd.underlying105
  a127 := Tryd.isAgg105
  z127 := Tryd.sizeOf105
  v127 := Tryd.zeroValue105
  t146 := Tryd.underlying109
  a146 := Tryd.isAgg109
  z146 := Tryd.sizeOf109
  v146 := Tryd.zeroValue109
  t148 := Tryd.underlying83
  a148 := Tryd.isAgg83
  z148 := Tryd.sizeOf83
  v148 := Tryd.zeroValue83
  t164 := Tryd.underlying107
  a164 := Tryd.isAgg107
  z164 := Tryd.sizeOf107
  v164 := Tryd.zeroValue107 }
theorem Tryd.Builder_Extra_105 : Builder.Extra Tryd.prog Tryd.lays105_ren := {
  sizeBuilder := by kernel_rfl
  liesBuilder := by kernel_rfl
  t5 := Tryd.underlying5
  a5 := Tryd.isAgg5
  z5 := Tryd.sizeOf5
  v5 := Tryd.zeroValue5
  infoByte := by kernel_rfl
  cellsByte := by kernel_rfl
  sizeByte := by kernel_rfl
  neB5 := by decide }
open Go.RowKit Go.Lib in
/-- THE MAIN CASE: at least two copies of a string that is not empty. (LAID: no walk: one application.) -/
theorem Tryd.strings_Repeat_main (s : ByteArray) (c : Nat) (w : World) (hc2 : 2 ≤ c) (hc : c ≤ 9223372036854775807) (hlen : s.size * c ≤ 140737488355328) (h0 : 0 < s.size) :
    Calls Tryd.prog 65 #[.string s, .int .i64 c] w fun e w' => e = .returned (.string ⟨(Lib.repeatL s.data.toList c).toArray⟩) ∧ Below w.heap.size w w' := Any.strings_Repeat_main Tryd.lays105 Tryd.Builder_Extra_105 s c w hc2 hc hlen h0
open Go.RowKit Go.Lib in
theorem Tryd.strings_Repeat_zero (s : ByteArray) (w : World) :
    Calls Tryd.prog 65 #[.string s, .int .i64 0] w fun e w' => e = .returned (.string ⟨#[]⟩) ∧ w' = w := Any.strings_Repeat_zero Tryd.lays105 s w
open Go.RowKit Go.Lib in
theorem Tryd.strings_Repeat_one (s : ByteArray) (w : World) :
    Calls Tryd.prog 65 #[.string s, .int .i64 1] w fun e w' => e = .returned (.string s) ∧ w' = w := Any.strings_Repeat_one Tryd.lays105 s w
open Go.RowKit Go.Lib in
/-- Copies of the empty string. (LAID: no walk: one application.) -/
theorem Tryd.strings_Repeat_empty (s : ByteArray) (c : Nat) (w : World) (hc2 : 2 ≤ c) (hc : c ≤ 9223372036854775807) (h0 : s.size = 0) :
    Calls Tryd.prog 65 #[.string s, .int .i64 c] w fun e w' => e = .returned (.string ⟨#[]⟩) ∧ w' = w := Any.strings_Repeat_empty Tryd.lays105 s c w hc2 hc h0
open Go.RowKit Go.Lib in
/-- count < 0: "It panics if count is negative". (LAID: no walk: one application.) -/
theorem Tryd.strings_Repeat_negative (s : ByteArray) (c : Int) (w : World) (hc : c < 0) :
    Calls Tryd.prog 65 #[.string s, .int .i64 c] w fun e w' => e = .panicked [{ v := repeatPanic Tryd.lays105_ren "strings: negative Repeat count", recovered := false }] ∧ w' = w := Any.strings_Repeat_negative Tryd.lays105 s c w hc
open Go.RowKit Go.Lib in
/-- len(s) * count is no int: ".. or if the result of (len(s) * count) overflows". (LAID: no walk: one application.) -/
theorem Tryd.strings_Repeat_overflow (s : ByteArray) (c : Nat) (w : World) (hc : c ≤ 9223372036854775807) (hs : s.size ≤ 9223372036854775807) (hbig : 9223372036854775807 < s.size * c) :
    Calls Tryd.prog 65 #[.string s, .int .i64 c] w fun e w' => e = .panicked [{ v := repeatPanic Tryd.lays105_ren "strings: Repeat output length overflow", recovered := false }] ∧ w' = w := Any.strings_Repeat_overflow Tryd.lays105 s c w hc hs hbig
open Go.RowKit Go.Lib in
/-- **strings.Repeat: count ≥ 0, the result within one allocation: count copies of s.** (LAID: no walk: one application.) -/
theorem Tryd.strings_Repeat (s : ByteArray) (c : Nat) (w : World) (hc : c ≤ 9223372036854775807) (hlen : s.size * c ≤ 140737488355328) :
    Calls Tryd.prog 65 #[.string s, .int .i64 c] w fun e w' => e = .returned (.string ⟨(Lib.repeatL s.data.toList c).toArray⟩) ∧ Below w.heap.size w w' := Any.strings_Repeat Tryd.lays105 Tryd.Builder_Extra_105 s c w hc hlen
end Go.Proofs
/- whole.divideLong: the walk. -/
namespace Go.Proofs.YtippcalhcnjghaaDoor
open Go.RowKit Big

theorem Own.other {w w' : World} {base : Nat} {e : TypeId} {k : IntKind} {v : Value} {l : List Nat} {row : Option Nat} (h : Own w base e k v l) (hg : w.grownBy w' row) (hne : ∀ g, v.ownBlock = some g → some g ≠ row) : Own w' base e k v l := by
  refine ⟨h.1, ?_⟩
  rcases h.2 with hn | ⟨g, cap, cur, rfl, h1, hh, r⟩
  · exact Or.inl hn
  · exact Or.inr ⟨g, cap, cur, rfl, h1, by rw [hg.block g (Array.getElem?_eq_some_iff.1 hh).1 (hne g rfl)]; exact hh, r⟩
def RQuo (q r : Nat) (w : World) (e : Ending) (w' : World) : Prop := ∃ v v', e = .returned (.tuple #[v, v']) ∧ At w' .u32 v (dig H q) ∧ At w' .u32 v' (dig H r) ∧ Below w.heap.size w w'

set_option maxRecDepth 100000 in
set_option maxHeartbeats 3200000 in
theorem divideLong_any (v0 v1 : Value) (a b : Nat) (w : World) (h0 : At w .u32 v0 (dig H a)) (h1 : At w .u32 v1 (dig H b)) (m : Nat) (hm : (dig H b).length = m + 2) (hab : (dig H b).length ≤ (dig H a).length) (hlen : (dig H a).length ≤ 2199023255552) :
    Calls Tryd.prog 89 #[v0, v1] w (RQuo (a / b) (a % b) w) := by
  have sa := small_dig H2 a
  have sb := small_dig H2 b
  have va := val_dig H2 a
  have hb1 : H ^ (m + 1) ≤ b := by
    have h2 : sz H b = m + 2 := hm
    have hp : 0 < b := Nat.pos_of_ne_zero fun e => by rw [e] at h2; simp [sz_zero] at h2
    have := pow_sz_le H2 hp
    rwa [h2] at this
  obtain ⟨p1, c1, rfl, b1, b2, b3, b4⟩ := id h1
  obtain ⟨bb, off, rfl, hbb, hcell⟩ := b4 (by omega)
  have e0 : w.cell? ⟨bb, off + (m + 1), none⟩ = some (.int .u32 ((dig H b)[m + 1]'(by omega) : Nat)) := hcell (m + 1) (by omega)
  have t0 := small_get sb (m + 1) (by omega)
  have tpos : 0 < (dig H b)[m + 1]'(by omega) := by
    have := last_dig H2 b (by intro e; rw [e] at hm; simp at hm)
    rw [List.getLast_eq_getElem] at this
    have hi : (dig H b).length - 1 = m + 1 := by omega
    simp only [hi] at this
    omega
  obtain ⟨t, ht⟩ : ∃ t, t = (dig H b)[m + 1]'(by omega) := ⟨_, rfl⟩
  rw [← ht] at e0 t0 tpos
  obtain ⟨s, hs31, hlz, hs1, hs2⟩ := lead_ok t tpos t0
  have hdd := up_divisor rfl hm t ht hs1 hs2
  have hup0 : ∀ W', At W' .u32 v0 (dig H a) → Calls Tryd.prog 97 #[v0, .int .i64 (s : Nat)] W' (RUp (dig H a) s W') := fun W' hW => shiftUp_any v0 _ s W' hW sa hs31 (by omega)
  have hup1 := shiftUp_any _ _ s w h1 sb hs31 (by omega)
  rw [hm] at hup1
  have hlz' := Tryd.bits_LeadingZeros32 (t : Int) w (by omega) (by unfold H at t0; omega)
  rw [Int.toNat_natCast, hlz] at hlz'
  replace hlz' := hlz'.mono (R' := fun e w' => e = .returned (.int .i64 (s : Nat)) ∧ w = w') (fun e w' h => ⟨h.1, h.2.symm⟩)
  have Hup0 := hid hup0; have Hup1 := hid hup1; have Hlz := hid hlz'; have Hva := hid va; have Hdd := hid hdd; have Hb1 := hid hb1
  have A0 := hid h0
  obtain ⟨L, hL⟩ : ∃ L, L = (dig H a).length := ⟨_, rfl⟩
  have HL := hid hL
  have hLm : m + 2 ≤ L := by omega
  have hL2 : L ≤ 2199023255552 := by omega
  have Hm := hid hm
  unfold maxLen at b2
  unfold H at t0
  have hm2 : (dig H b).length = m + 2 := hm
  rw [hm2]
  rw [hm2] at b1
  clear hup0 hup1 hlz' hlz va hdd hb1 hcell b4 b3 hm hm2 hL ht hs1 hs2 h0 h1 hab hlen tpos sa sb
  go_enter Tryd.func89, Tryd.ntmps89
  go_wp2_with fail
  refine Hlz.out.mono ?_
  rintro e w' ⟨rfl, rfl⟩
  go_wp2_with fail
  refine Hup1.out.mono ?_
  rintro e w1 ⟨X1, t1, hX1, sX1, vX1, ht1, v1, rfl, ho1, hb1⟩
  have hst := strip_length (X1 ++ [t1])
  have hsd : strip (X1 ++ [t1]) = dig H (b * 2 ^ s) := by rw [strip_dig H2 sX1, vX1, val_dig H2]
  have htr := htrim_val _ _ w1 ho1.at
  obtain ⟨q1, k1, rfl, -⟩ := id ho1.at
  have ho1' := ho1.take (strip (X1 ++ [t1])).length hst
  rw [← strip_is_take, hsd] at ho1'
  rw [hsd, show (dig H (b * 2 ^ s)).length = m + 2 from Hdd.out.1] at htr
  rw [show (dig H (b * 2 ^ s)).length = m + 2 from Hdd.out.1] at ho1'
  have Htr := hid htr
  clear hst hsd htr ho1 vX1 sX1 hX1 ht1
  simp only [cutTo] at Htr
  generalize (X1 ++ [t1]).length = n1 at *
  go_wp2_with fail
  refine Htr.out.mono ?_
  rintro e wt ⟨rfl, rfl⟩
  go_wp2_with fail
  refine (Hup0.out _ (A0.out.below hb1)).mono ?_
  rintro e w2 ⟨X2, t2, hX2, sX2, vX2, ht2, v2, rfl, ho2, hb2⟩
  have sh7 := ho1'.shape (by rw [Hdd.out.1]; omega)
  obtain ⟨g7, cap7, e7, hB7, hl7, hc7, hc7'⟩ := sh7
  injection e7 with e71 e72 e73
  subst e71
  subst e73
  have sh8 := ho2.shape (by simp)
  obtain ⟨g8, cap8, e8, hB8, hl8, hc8, hc8'⟩ := sh8
  subst e8
  obtain ⟨K, hK⟩ : ∃ K, L = K + (m + 1) := ⟨L - (m + 1), by omega⟩
  have hN : (X2 ++ [t2]).length = K + m + 2 := by rw [List.length_append, hX2, ← HL.out, hK]; simp; omega
  rw [hN] at hc8 ho2 ⊢
  rw [Hdd.out.1] at hc7
  have hXK : X2.length = K + (m + 1) := by rw [hX2, ← HL.out, hK]
  have start := hid (up_rest (b := b) sX2 ht2 hXK Hb1.out)
  rw [Hva.out] at vX2
  have HvX := hid vX2
  have HN := hid hN
  have hK1 : 1 ≤ K := by omega
  have hKl : K ≤ 2199023255552 := by omega
  have hml : m ≤ 2199023255552 := by omega
  have hKm : K + m + 2 ≤ 4398046511104 := by omega
  have bel2 := hid (Below.go hb2 hb1)
  have o7 := hid (ho1'.kept hb2)
  have hg78 : g7 ≠ g8 := by omega
  have hg7w : g7 < w2.heap.size := by have := hb2.size; omega
  have hg7 : w.heap.size ≤ g7 := hB7
  have hg8 : w.heap.size ≤ g8 := Nat.le_trans hb1.size hB8
  have z2 : g8 < w2.heap.size := hl8
  unfold maxLen at hc7' hc8'
  clear e72 ho1' Hlz Hup0 Hup1 Htr A0 hX2 vX2 hN hXK hK hLm hL2 HL hB7 hB8 hb1 hb2 hl7 hl8 e0 t0 ht2
  generalize X2 ++ [t2] = R0 at *
  go_wp2_with (first
    | (at_make; refine wpList_full_at rfl _ _ 65 rfl elemHalves w2.heap.size _ _ _ _ K rfl rfl (by first | rfl | omega | (simp; done)) (by first | rfl | omega | (simp; done)) (by omega) (by simp [maxLen]; omega) (Nat.le_refl _) ?_; intro vo w3 ho3 hb3 hs3 hvo; subst hvo))
  have o8 := ho2.kept hb3
  have o7' := hid (o7.out.kept hb3)
  have bel3 : Below w.heap.size w w3 := Below.go hb3 bel2.out
  have zq : w2.heap.size < w3.heap.size := by
    rcases ho3.2 with ⟨h, _⟩ | ⟨g, cp, cur, h, _, hh, _⟩
    · injection h with h _ _; cases h
    · injection h with h _ _
      injection h with h
      injection h with h
      subst h
      exact (Array.getElem?_eq_some_iff.1 hh).1
  have hvs : a * 2 ^ s = val H R0 + b * 2 ^ s * H ^ K * val H ((List.replicate K 0).drop K) := by rw [HvX.out]; simp [val]
  have Hvs := hid hvs
  have hD := lt_pow_sz H2 (b * 2 ^ s)
  rw [show sz H (b * 2 ^ s) = m + 2 from Hdd.out.1] at hD
  have HD := hid hD
  obtain ⟨D, hDd⟩ : ∃ D, D = b * 2 ^ s := ⟨_, rfl⟩
  have HDd := hid hDd
  have sD := small_dig H2 (b * 2 ^ s)
  rw [← hDd] at Hvs HD Hdd sD start o7'
  have vD : val H (dig H D) = D := val_dig H2 D
  have HvD := hid vD
  clear hvs hD hDd vD hb3 ho2 o7 bel2 HvX
  have hgq : w2.heap.size ≠ g8 := by omega
  have hgq7 : w2.heap.size ≠ g7 := by omega
  go_loopw [10] (fun i wr => ∃ (k : Nat) (R Z : List Nat), k ≤ K ∧ i = .int .i64 ((k : Int) - 1) ∧ Own wr wt.heap.size 67 .u32 (.slice (some ⟨g8, 0, none⟩) (K + m + 2) cap8) R ∧ Hid (R.length = K + m + 2) ∧ Small H R ∧
      Own wr w2.heap.size 67 .u32 (.slice (some ⟨w2.heap.size, 0, none⟩) K K) Z ∧ Hid (Z.length = K) ∧ Small H Z ∧ Own wr w.heap.size 67 .u32 (.slice (some ⟨g7, 0, none⟩) (m + 2) k1) (dig H D) ∧
      Hid (val H (R.drop k) < D) ∧ Hid (a * 2 ^ s = val H R + D * H ^ k * val H (Z.drop k)) ∧ Below w.heap.size w wr) (fun i _ => (intOf i + 1).toNat)
  case atStart => exact ⟨K, R0, List.replicate K 0, Nat.le_refl _, by go_num, o8, HN.out, sX2, ho3, by simp [Hid], small_zeros (by decide) _, o7'.out, start.out, Hvs.out, bel3⟩
  case round =>
    obtain ⟨k, R, Z, hk, rfl, o8', hR, sR, oq, hZ, sZ, o7'', hlt, hv, hbel⟩ := hrel
    by_cases hk0 : 0 < k
    · obtain ⟨k, rfl⟩ : ∃ k', k = k' + 1 := ⟨k - 1, by omega⟩
      have hMl : m + 2 ≤ k1 := hc7
      have hwin : Win wr g7 0 (dig H D) := fun j hj => by
        have := (o7''.cell j hj).1
        rw [Nat.zero_add]; exact this
      have hL := long_lt sR HD.out (by rw [hR.out]; omega) hlt.out
      have hqlt : val H ((R.drop k).take (m + 2 + 1)) / D < H := by
        rw [Nat.div_lt_iff_lt_mul (by have := hlt.out; omega), Nat.mul_comm]; exact hL
      have htk := takeOff_any wt.heap.size g8 (K + m + 2) cap8 k m (cap8 - k) g7 0 k1 R _ (dig H D) wr o8' hR.out (by omega) rfl Hdd.out.1 hwin hg78 sR sD (Hdd.out.2 _) (by rw [HvD.out]; exact hL) (by omega) hMl hc7'
      have Htk := hid htk; have Hql := hid hqlt
      clear htk hwin hL hqlt
      go_wp2_with fail
      rw [show k + (m + 2) + 1 - k = m + 2 + 1 by omega]
      refine Htk.out.mono ?_
      rintro e w4 ⟨X, hX, sX, rfl, hXv, o84, hgr⟩
      rw [HvD.out] at hXv ⊢
      have hst := long_step (k := k) (Z := Z) sR HD.out (by rw [hR.out]; omega) (by rw [hZ.out]; omega) hlt.out hv.out hX hXv
      have oq4 := oq.other hgr (by intro g hg; simp [Value.ownBlock] at hg; subst hg; simp; omega)
      have o74 := o7''.other hgr (by intro g hg; simp [Value.ownBlock] at hg; subst hg; simp; omega)
      obtain ⟨q, hq⟩ : ∃ q, q = val H ((R.drop k).take (m + 2 + 1)) / D := ⟨_, rfl⟩
      rw [← hq] at hst Hql ⊢
      obtain ⟨-, hst2, hst3⟩ := hst
      have Hst2 := hid hst2; have Hst3 := hid hst3; have HX := hid hX; have Hq := hid hq
      have hkZ : k < Z.length := by rw [hZ.out]; omega
      have cq := oq4.cell k hkZ
      obtain ⟨cq0, cq1⟩ := cq
      generalize Z[k] = zk at cq0
      have oqs := oq4.set k q
      have o85 := o84.other oqs.2 (by intro g hg; simp [Value.ownBlock] at hg; subst hg; simp; omega)
      have o75 := o74.other oqs.2 (by intro g hg; simp [Value.ownBlock] at hg; subst hg; simp; omega)
      have hR' : (R.take k ++ X ++ R.drop (k + (m + 2) + 1)).length = K + m + 2 := by have := hR.out; simp; omega
      have sR' : Small H (R.take k ++ X ++ R.drop (k + (m + 2) + 1)) := small_append (small_append (small_take sR _) sX) (small_drop sR _)
      have bel5 : Below w.heap.size w (w4.setCell ⟨w2.heap.size, k, none⟩ (.int .u32 (q : Nat))) :=
        (hbel.grown hgr hbel.size (by intro g hg; injection hg with hg; omega)).setCell (p := ⟨w2.heap.size, k, none⟩) (by show w.heap.size ≤ w2.heap.size; omega) _
      have HR' := hid hR'
      clear hst2 hst3 hX hq hXv hgr hR' hkZ oq4 o74 o84 oq o7'' o8' hbel
      go_wp2_with fail
      go_roundw
      case rel => exact ⟨k, _, Z.set k q, by omega, by go_num, o85, HR'.out, sR', oqs.1, by have := hZ.out; simp [Hid, this], small_set sZ _ Hql.out, o75, Hst2.out, Hst3.out, bel5⟩
      case measure => (simp [intOf] <;> omega)
    · obtain rfl : k = 0 := by omega
      have hend := long_end (r := val H R) (q := val H Z) (a := a) (b := b) (s := s) (by have := hv.out; rw [HDd.out] at this; simpa using this) (by have := hlt.out; rw [HDd.out] at this; simpa using this)
      obtain ⟨he1, he2⟩ := hend
      have htz := htrim_val _ Z wr oq.at
      have hsZ : strip Z = dig H (a / b) := by rw [strip_dig H2 sZ, he1]
      have oqt := (oq.take (strip Z).length (strip_length Z)).at
      rw [← strip_is_take] at oqt
      rw [hsZ] at htz oqt
      have hsd := shiftDown_any _ R s wr o8'.at sR hs31 (by rw [hR.out]; omega)
      rw [he2] at hsd
      have Htz := hid htz; have Hsd := hid hsd
      clear htz hsd hsZ he1 he2 hv hlt o7'' o8' oq
      simp only [cutTo] at Htz
      go_wp2_with fail
      refine Htz.out.mono ?_
      rintro e w' ⟨rfl, rfl⟩
      go_wp2_with fail
      refine Hsd.out.mono ?_
      rintro e w6 ⟨v6, rfl, ho6, hb6⟩
      go_wp2_with fail
      go_ret2
      exact ⟨_, _, rfl, oqt.below hb6, ho6.at, Below.go hb6 hbel⟩
end Go.Proofs.YtippcalhcnjghaaDoor
/- elenchusref01.parts: quotient and rest, bit by bit. -/
namespace Go.Proofs.YtippcalhcnjghaaDoor
open Go.RowKit Big

/-- one bit more -/
theorem bit_step {pre b t r q h bit : Nat} (hb : 0 < b) (hr : r = pre % b) (hq : q * h + t = pre / b) (hbit : bit ≤ 1) :
    (2 * r + bit < b → 2 * r + bit = (2 * pre + bit) % b ∧ q * (2 * h) + 2 * t = (2 * pre + bit) / b) ∧
    (b ≤ 2 * r + bit → 2 * r + bit - b = (2 * pre + bit) % b ∧ q * (2 * h) + (2 * t + 1) = (2 * pre + bit) / b) := by
  have e := Nat.div_add_mod pre b
  rw [← hr, ← hq] at e
  have hrb : r < b := by rw [hr]; exact Nat.mod_lt _ hb
  have e2 : q * (2 * h) = 2 * (q * h) := Nat.mul_left_comm ..
  have e3 : b * (2 * (q * h + t)) = 2 * (b * (q * h + t)) := Nat.mul_left_comm ..
  refine ⟨fun hlt => ?_, fun hge => ?_⟩
  · have e4 : 2 * pre + bit = b * (2 * (q * h + t)) + (2 * r + bit) := by omega
    rw [e4, Nat.mul_add_mod, Nat.mod_eq_of_lt hlt, Nat.mul_add_div hb, Nat.div_eq_of_lt hlt, e2]
    exact ⟨rfl, by omega⟩
  · have e4 : 2 * pre + bit = b * (2 * (q * h + t) + 1) + (2 * r + bit - b) := by rw [Nat.mul_add]; omega
    have hlt : 2 * r + bit - b < b := by omega
    rw [e4, Nat.mul_add_mod, Nat.mod_eq_of_lt hlt, Nat.mul_add_div hb, Nat.div_eq_of_lt hlt, e2]
    exact ⟨rfl, by omega⟩
theorem bit_pre (P x k : Nat) (hk : k ≤ 15) : 2 * (P * 2 ^ (16 - (k + 1)) + x / 2 ^ (k + 1)) + x / 2 ^ k % 2 = P * 2 ^ (16 - k) + x / 2 ^ k := by
  have e : x / 2 ^ (k + 1) = x / 2 ^ k / 2 := by rw [Nat.pow_succ, Nat.div_div_eq_div_mul]
  have e2 : 2 ^ (16 - k) = 2 * 2 ^ (16 - (k + 1)) := by
    rw [show 16 - k = (16 - (k + 1)) + 1 by omega, Nat.pow_succ, Nat.mul_comm]
  rw [e, e2, Nat.mul_left_comm]
  omega
theorem digit_lt {q t P b h x k : Nat} (hb : 0 < b) (hq : q = P / b) (h1 : q * h + t = (P * h + x / 2 ^ k) / b) (hx : x / 2 ^ k < h) : t < h := by
  have e : P < (q + 1) * b := by rw [hq, Nat.mul_comm]; exact Nat.lt_mul_div_succ P hb
  have e1 : P * h + x / 2 ^ k < (q + 1) * h * b := by
    have : (P + 1) * h ≤ (q + 1) * b * h := Nat.mul_le_mul_right _ e
    rw [Nat.add_mul] at this
    have e2 : (q + 1) * b * h = (q + 1) * h * b := Nat.mul_right_comm ..
    omega
  have e3 : (P * h + x / 2 ^ k) / b < (q + 1) * h := by rw [Nat.div_lt_iff_lt_mul hb]; exact e1
  rw [← h1, Nat.add_mul] at e3
  omega
theorem bits_left (x k : Nat) (hx : x < 65536) (hk : k ≤ 16) : x / 2 ^ k < 2 ^ (16 - k) := by
  rw [Nat.div_lt_iff_lt_mul (Nat.two_pow_pos k), ← Nat.pow_add, show 16 - k + k = 16 by omega]; exact hx

def RParts (q r : Nat) (w : World) (e : Ending) (w' : World) : Prop := ∃ v v', e = .returned (.tuple #[v, v']) ∧ At w' .i64 v (dig D q) ∧ At w' .i64 v' (dig D r) ∧ Below w.heap.size w w'

theorem wrap64_bit (z p : Nat) (hz : z ≤ 65536) (hp : p ≤ 65536) : wrap64 ((z : Int) + wrap64 ((p : Nat) : Int)) = ((z + p : Nat) : Int) := by
  have e : wrap64 ((p : Nat) : Int) = (p : Int) := by unfold wrap64; omega
  rw [e]
  unfold wrap64; omega
set_option maxRecDepth 100000 in
set_option maxHeartbeats 6400000 in
theorem rparts_any (v0 v1 : Value) (l0 : List Nat) (m : Nat) (w : World) (h0 : At w .i64 v0 l0) (h1 : At w .i64 v1 (dig D m)) (s0 : Small D l0) (hm : 0 < m)
    (hl0 : l0.length ≤ 4398046511104) (hl1 : sz D m ≤ 2199023255552) : Calls Tryd.prog 54 #[v0, v1] w (RParts (val D l0 / m) (val D l0 % m) w) := by
  have hadd : ∀ (r : Nat) (W : World) (u : Value), At W .i64 u (dig D r) → r < m → Calls Tryd.prog 44 #[u, u] W (RAt .i64 (dig D (r + r)) W) := fun r W u hu hr => by
    have hz : sz D r ≤ 2199023255552 := Nat.le_trans (sz_mono D2 (Nat.le_of_lt hr)) hl1
    have := rplus_any u u (dig D r) (dig D r) W hu hu (small_dig D2 r) (small_dig D2 r) (by show sz D r ≤ _; omega) (by show sz D r ≤ _; omega)
    rwa [val_dig D2] at this
  have hadd2 : ∀ (r b : Nat) (W : World) (u u' : Value), At W .i64 u (dig D (r + r)) → At W .i64 u' (dig D b) → r < m → b ≤ 1 → Calls Tryd.prog 44 #[u, u'] W (RAt .i64 (dig D (r + r + b)) W) := fun r b W u u' hu hu' hr hb => by
    have hz : sz D r ≤ 2199023255552 := Nat.le_trans (sz_mono D2 (Nat.le_of_lt hr)) hl1
    have hz2 : sz D (r + r) ≤ 2199023255552 + 1 := sz_add D2 hz hz
    have hz3 : sz D b ≤ 1 := sz_le_of_lt D2 (by unfold D; omega)
    have := rplus_any u u' (dig D (r + r)) (dig D b) W hu hu' (small_dig D2 _) (small_dig D2 _) (by show sz D (r + r) ≤ _; omega) (by show sz D b ≤ _; omega)
    rwa [val_dig D2, val_dig D2] at this
  have hcmp : ∀ (r : Nat) (W : World) (u : Value), At W .i64 u (dig D r) → Below w.heap.size w W → Calls Tryd.prog 72 #[u, v1] W (ROrd (ord r m) W) := fun r W u hu hb => rcompare_any u v1 r m W hu (h1.below hb)
  have hless : ∀ (r : Nat) (W : World) (u : Value), At W .i64 u (dig D r) → Below w.heap.size w W → m ≤ r → r < m + m → Calls Tryd.prog 47 #[u, v1] W (ROwn 3 .i64 (dig D (r - m)) W) := fun r W u hu hb hmr hr => by
    have hz : sz D r ≤ 2199023255552 + 1 := Nat.le_trans (sz_mono D2 (Nat.le_of_lt hr)) (sz_add D2 hl1 hl1)
    have := rless_own u v1 (dig D r) (dig D m) W hu (h1.below hb) (small_dig D2 r) (small_dig D2 m) (by show sz D r ≤ _; omega) (sz_mono D2 hmr) (by rw [val_dig D2, val_dig D2]; exact hmr)
    rwa [val_dig D2, val_dig D2] at this
  have Hadd := hid hadd; have Hadd2 := hid hadd2; have Hcmp := hid hcmp; have Hless := hid hless
  clear hadd hadd2 hcmp hless
  obtain ⟨p0, c0, rfl, a1, a2, a3, a4⟩ := h0
  unfold maxLen at a2
  clear h1 hl1
  go_enter Tryd.func54, Tryd.ntmps54
  go_wp2_with (first
    | (at_make; refine wpList_full_at rfl _ _ 53 rfl elemInts w.heap.size _ _ _ _ l0.length rfl rfl (by first | rfl | omega | (simp; done)) (by first | rfl | omega | (simp; done)) (by omega) (by simp [maxLen]; omega) (Nat.le_refl _) ?_; intro vo w1 ho hb1 hs1 hvo; subst hvo))
  have hstart : Hid (val D ((List.replicate l0.length 0).drop l0.length) = val D (l0.drop l0.length) / m) := by unfold Hid; simp [val]
  have hstart2 : Hid (val D (l0.drop l0.length) % m = 0) := by unfold Hid; simp [val]
  go_loopw [7, 8] (fun rest i wr => ∃ (k : Nat) (Z : List Nat), k ≤ l0.length ∧ i = .int .i64 ((k : Int) - 1) ∧ At wr .i64 rest (dig D (val D (l0.drop k) % m)) ∧ Own wr w.heap.size 3 .i64 (.slice (some ⟨w.heap.size, 0, none⟩) l0.length l0.length) Z ∧ Hid (Z.length = l0.length) ∧ Small D Z ∧
      Hid (val D (Z.drop k) = val D (l0.drop k) / m) ∧ Hid (∀ j, j < k → Z[j]?.getD 0 = 0) ∧ Below w.heap.size w wr ∧ w.heap.size ≤ wr.heap.size) (fun _ i _ => (intOf i + 1).toNat)
  case atStart => exact ⟨l0.length, List.replicate l0.length 0, Nat.le_refl _, rfl, by rw [hstart2.out]; exact At.nil _ _, ho, by simp [Hid], small_zeros (by decide) _, hstart.out, by intro j _; simp [List.getElem?_replicate]; split <;> rfl, hb1, hs1⟩
  case round =>
    obtain ⟨k, Z, hk, rfl, hrest, hown, hZ, hsZ, hv, hz, hbel, hsz⟩ := hrel
    by_cases hk0 : 0 < k
    · obtain ⟨k, rfl⟩ : ∃ k', k = k' + 1 := ⟨k - 1, by omega⟩
      obtain ⟨b, off, rfl, hbb, hcell⟩ := a4 (by omega)
      have x0 := small_get s0 k (by omega)
      obtain ⟨x, hx⟩ : ∃ x, x = l0[k]'(by omega) := ⟨_, rfl⟩
      have hcx := hcell k (by omega)
      rw [← hx] at x0 hcx
      have hdrop := val_drop_succ D l0 k (by omega)
      rw [← hx] at hdrop
      have Hdrop := hid hdrop; have Hcx := hid hcx; clear hx hcell a4 hcx hdrop
      unfold D at x0
      obtain ⟨P, hP⟩ : ∃ P, P = val D (l0.drop (k + 1)) := ⟨_, rfl⟩
      rw [← hP] at Hdrop hrest hv
      clear hP
      obtain ⟨q, hq⟩ : ∃ q, q = val D (Z.drop (k + 1)) := ⟨_, rfl⟩
      have Hq := hid hq
      rw [← hq] at hv
      clear hq
      have hkZ : k < Z.length := by rw [hZ.out]; omega
      have zk : Z[k] = 0 := by have := hz.out k (by omega); simpa [hkZ] using this
      have hset0 : Z.set k (2 ^ 16 * 0) = Z := by rw [Nat.mul_zero]; rw [← zk]; exact List.set_getElem_self ..
      have hpre : P * 2 ^ (16 - 16) + x / 2 ^ 16 = P := by rw [show 2 ^ 16 = 65536 from rfl, Nat.div_eq_of_lt x0]; simp
      have hst1 : Hid (q * 2 ^ (16 - 16) + 0 = (P * 2 ^ (16 - 16) + x / 2 ^ 16) / m) := by unfold Hid; rw [hpre, ← hv.out]; simp
      have HZk := hid hkZ
      have Hset0 := hid hset0; have Hpre := hid hpre
      clear zk hkZ hset0 hpre
      go_wp2_with fail
      rw [show (((k + 1 : Nat) : Int) - 1) = (k : Int) by omega]
      go_loopw [7, 9] (fun rest j wq => ∃ (kk t : Nat), kk ≤ 16 ∧ j = .int .i64 ((kk : Int) - 1) ∧ At wq .i64 rest (dig D ((P * 2 ^ (16 - kk) + x / 2 ^ kk) % m)) ∧ Own wq w.heap.size 3 .i64 (.slice (some ⟨w.heap.size, 0, none⟩) l0.length l0.length) (Z.set k (2 ^ kk * t)) ∧
        Hid (q * 2 ^ (16 - kk) + t = (P * 2 ^ (16 - kk) + x / 2 ^ kk) / m) ∧ Below w.heap.size w wq ∧ w.heap.size ≤ wq.heap.size) (fun _ j _ => (intOf j + 1).toNat)
      case atStart => exact ⟨16, 0, by omega, rfl, by rw [Hpre.out]; exact hrest, by rw [Hset0.out]; exact hown, hst1, hbel, hsz⟩
      case round =>
        obtain ⟨kk, t, hkk, rfl, hrest', hown', ht, hbel', hsz'⟩ := hrel
        by_cases hk1 : 0 < kk
        · obtain ⟨kk, rfl⟩ : ∃ k', kk = k' + 1 := ⟨kk - 1, by omega⟩
          have e0 : wr.cell? ⟨b, off + k, none⟩ = some (.int .i64 (x : Nat)) := (hbel'.cell (p := ⟨b, off + k, none⟩) hbb).trans Hcx.out
          obtain ⟨r, hr⟩ : ∃ r, r = (P * 2 ^ (16 - (kk + 1)) + x / 2 ^ (kk + 1)) % m := ⟨_, rfl⟩
          have hrm : r < m := by rw [hr]; exact Nat.mod_lt _ hm
          rw [← hr] at hrest'
          have Hr := hid hr
          clear hr
          go_wp2_with fail
          refine (Hadd.out r _ _ hrest' hrm).mono ?_
          rintro e w2 ⟨u2, rfl, hu2, hb2⟩
          have e2 : w2.cell? ⟨b, off + k, none⟩ = some (.int .i64 (x : Nat)) := (hb2.cell (p := ⟨b, off + k, none⟩) (Nat.lt_of_lt_of_le hbb hbel'.size)).trans e0
          have own2 := hown'.kept hb2
          have bel2 := Below.go hb2 hbel'
          clear e0 hb2 hown' hbel' hrest'
          obtain ⟨bit, hbit⟩ : ∃ b, b = x / 2 ^ kk % 2 := ⟨_, rfl⟩
          have hb1' : bit ≤ 1 := by omega
          have hbi : ((x : Int) / 2 ^ kk).tmod 2 = (bit : Int) := by
            have e : ((x : Int) / 2 ^ kk) = ((x / 2 ^ kk : Nat) : Int) := by simp
            rw [e, hbit]; rfl
          have Hbit := hid hbit; have Hbi := hid hbi
          clear hbit hbi
          go_wp2_with fail
          rw [Hbi.out]
          have hone := At.one w2 .i64 bit 3
          have hstr : strip [bit] = dig D bit := by
            have := strip_dig D2 (small_cons (show bit < D by unfold D; omega) (small_nil D))
            simpa [val] using this
          have htr := rtrim_any _ [bit] _ hone
          rw [hstr] at htr
          have Htr := hid htr
          clear hone hstr htr
          have b3 := below1 w2 (.cells #[.int .i64 (bit : Nat)] 3)
          have hu3 := hu2.below b3
          have e3 := (b3.cell (p := ⟨b, off + k, none⟩) (Nat.lt_of_lt_of_le hbb bel2.size)).trans e2
          have own3 := own2.kept b3
          have bel3 := Below.go b3 bel2
          clear b3 hu2 e2 own2 bel2
          generalize World.alloc w2 _ = w3 at *
          refine Htr.out.mono ?_
          rintro e w3' ⟨u4, rfl, hu4, rfl⟩
          go_wp2_with fail
          refine (Hadd2.out r bit _ _ _ hu3 hu4 hrm hb1').mono ?_
          rintro e w5 ⟨u5, rfl, hu5, hb5⟩
          have e5 := (hb5.cell (p := ⟨b, off + k, none⟩) (Nat.lt_of_lt_of_le hbb bel3.size)).trans e3
          have own5 := own3.kept hb5
          have bel5 := Below.go hb5 bel3
          clear hb5 own3 bel3 e3 hu3 hu4 Htr
          go_wp2_with fail
          have hc := Hcmp.out _ _ _ hu5 bel5
          have hbs := bit_step (pre := P * 2 ^ (16 - (kk + 1)) + x / 2 ^ (kk + 1)) (h := 2 ^ (16 - (kk + 1))) (q := q) (t := t) (bit := bit) hm Hr.out ht.out hb1'
          have h2h : 2 * 2 ^ (16 - (kk + 1)) = 2 ^ (16 - kk) := by
            rw [show 16 - kk = (16 - (kk + 1)) + 1 by omega, Nat.pow_succ, Nat.mul_comm]
          have hpre' := bit_pre P x kk (by omega)
          rw [← Hbit.out] at hpre'
          rw [hpre', h2h, show 2 * r + bit = r + r + bit by omega] at hbs
          have htl : t < 2 ^ (16 - (kk + 1)) := digit_lt hm hv.out ht.out (bits_left x (kk + 1) x0 (by omega))
          have hp2 : 2 ^ (kk + 1) * 2 ^ (16 - (kk + 1)) = 65536 := by rw [← Nat.pow_add, show kk + 1 + (16 - (kk + 1)) = 16 by omega]
          have hval : 2 ^ (kk + 1) * t + 2 ^ (kk + 1) ≤ 65536 := by
            have := Nat.mul_le_mul_left (2 ^ (kk + 1)) (show t + 1 ≤ 2 ^ (16 - (kk + 1)) from htl)
            rw [hp2, Nat.mul_add] at this; omega
          have hpw : 2 ^ (kk + 1) = 2 * 2 ^ kk := by rw [Nat.pow_succ, Nat.mul_comm]
          have hpp : 0 < 2 ^ kk := Nat.two_pow_pos kk
          have hst0 : 2 ^ (kk + 1) * t = 2 ^ kk * (2 * t) := by rw [Nat.pow_succ, Nat.mul_assoc]
          by_cases hlt : r + r + bit < m
          · rw [ord_lt (by omega)] at hc
            obtain ⟨g1, g2⟩ := hbs.1 hlt
            have Hc := hid hc; have G1 := hid g1; have G2 := hid g2; have Hst0 := hid hst0
            clear hc g1 g2 hbs h2h hpre' htl hp2 hval hpw hst0 hpp hlt
            go_wp2_with fail
            refine Hc.out.mono ?_
            rintro e w6 ⟨rfl, nn, rfl⟩
            go_wp2_with fail
            go_roundw
            case rel => exact ⟨kk, 2 * t, by omega, by go_num, by rw [← G1.out]; exact hu5.drewN nn, by rw [← Hst0.out]; exact own5.kept (below_drewN (Below.refl _ _) nn), G2.out, below_drewN bel5 nn, bel5.size⟩
            case measure => (simp [intOf] <;> omega)
          · obtain ⟨o, ho⟩ : ∃ o : Int, o = ord ((r + r + bit : Nat) : Int) m := ⟨_, rfl⟩
            have ho0 : 0 ≤ o := by
              rw [ho]
              rcases Nat.lt_or_ge m (r + r + bit) with h | h
              · rw [ord_gt (by omega)]; decide
              · rw [show r + r + bit = m by omega, ord_eq]; decide
            rw [← ho] at hc
            obtain ⟨g1, g2⟩ := hbs.2 (by omega)
            have hls := fun (W' : World) (hh : At W' .i64 u5 (dig D (r + r + bit))) (hb : Below w.heap.size w W') => Hless.out _ W' u5 hh hb (by omega) (by omega)
            have Hc := hid hc; have G1 := hid g1; have G2 := hid g2; have Hls := hid hls
            have hval' : 2 ^ (kk + 1) * t + 2 ^ kk = 2 ^ kk * (2 * t + 1) := by rw [hst0, Nat.mul_add, Nat.mul_one]
            have hv1 : 2 ^ (kk + 1) * t ≤ 65536 := by omega
            have hv2 : 2 ^ kk ≤ 65536 := by omega
            obtain ⟨z0, hz0⟩ : ∃ z, z = 2 ^ (kk + 1) * t := ⟨_, rfl⟩
            rw [← hz0] at own5 hval' hv1
            obtain ⟨pk, hpk⟩ : ∃ z, z = 2 ^ kk := ⟨_, rfl⟩
            have hv2' := hv2
            rw [← hpk] at hval' hv2'
            have Hval := hid hval'; have Hpk := hid hpk
            clear hc g1 g2 hbs h2h hpre' htl hp2 hval hpw hst0 hpp hls ho hz0 hval' hpk
            go_wp2_with fail
            refine Hc.out.mono ?_
            rintro e w6 ⟨rfl, nn, rfl⟩
            go_wp2_with fail
            refine (Hls.out _ (hu5.drewN nn) (below_drewN bel5 nn)).mono ?_
            rintro e w7 ⟨u7, rfl, hu7, hb7⟩
            have own7 := (own5.kept (below_drewN (Below.refl _ _) nn)).kept hb7
            have bel7 := Below.go hb7 (below_drewN bel5 nn)
            have hkl : k < (Z.set k z0).length := by rw [List.length_set]; exact HZk.out
            have hq5 := (own5.cell k hkl).1
            obtain ⟨cc0, f0⟩ := own7.cell k hkl
            rw [List.getElem_set_self] at cc0
            have HK := hid hkl
            clear hb7 own5 bel5 e5 hu5
            go_wp2_with fail
            have hpi : ((2 : Int) ^ kk) = ((pk : Nat) : Int) := by rw [Hpk.out]; simp
            rw [hpi, wrap64_bit z0 pk hv1 hv2']
            have hset := own7.set k (z0 + pk)
            rw [List.set_set, Hval.out, Hpk.out] at hset
            have hu8 := (hu7.other hset.2 (by intro g hg; have := hu7.row g hg; have := World.block_lt_of_cell? w5 _ hq5; simp at *; omega)).at
            rw [G1.out] at hu8
            have hvv : z0 + pk = 2 ^ kk * (2 * t + 1) := by rw [Hval.out, Hpk.out]
            rw [hvv]
            go_roundw
            case rel => exact ⟨kk, 2 * t + 1, by omega, by go_num, hu8, hset.1, G2.out, bel7.setCell (p := ⟨w.heap.size, k, none⟩) (Nat.le_refl _) _, by have := bel7.size; simpa [World.setCell] using this⟩
            case measure => (simp [intOf] <;> omega)
        · obtain rfl : kk = 0 := by omega
          have htl : t < 65536 := digit_lt (k := 0) hm hv.out ht.out (by simpa using x0)
          have hkl := HZk.out
          have hdrop := Hdrop.out
          have hv' : Hid (val D ((Z.set k t).drop k) = val D (l0.drop k) / m) := by
            unfold Hid
            rw [val_drop_succ D _ k (by rw [List.length_set]; exact hkl), List.getElem_set_self, List.drop_set_of_lt (by omega), ← Hq.out, hdrop]
            have := ht.out
            simp only [Nat.sub_zero, Nat.pow_zero, Nat.div_one] at this
            rw [show x + D * P = P * 2 ^ 16 + x by rw [Nat.mul_comm D P, Nat.add_comm]; rfl, ← this, Nat.mul_comm D q, Nat.add_comm]; rfl
          have hr' : (P * 2 ^ (16 - 0) + x / 2 ^ 0) % m = val D (l0.drop k) % m := by
            rw [hdrop]
            simp only [Nat.sub_zero, Nat.pow_zero, Nat.div_one]
            rw [Nat.mul_comm D P, Nat.add_comm]; rfl
          rw [hr'] at hrest'
          rw [Nat.pow_zero, Nat.one_mul] at hown'
          have hz' : Hid (∀ j, j < k → (Z.set k t)[j]?.getD 0 = 0) := fun j hj => by rw [List.getElem?_set_ne (by omega)]; exact hz.out j (by omega)
          have HZ' : Hid ((Z.set k t).length = l0.length) := by unfold Hid; rw [List.length_set]; exact hZ.out
          have sZ' := small_set hsZ k (show t < D from htl)
          clear hr' hkl hdrop ht htl hv hz
          go_wp2_with fail
          go_roundw
          case rel => exact ⟨k, Z.set k t, by omega, by go_num, hrest', hown', HZ', sZ', hv'.out, hz'.out, hbel', hsz'⟩
          case measure => (simp [intOf] <;> omega)
    · obtain rfl : k = 0 := by omega
      have hv' : Hid (strip Z = dig D (val D l0 / m)) := by
        have := hv.out
        simp only [List.drop_zero] at this
        unfold Hid
        rw [← this, strip_dig D2 hsZ]
      simp only [List.drop_zero] at hrest
      have htr := rtrim_any _ Z _ hown.at
      rw [hv'.out] at htr
      have Htr := hid htr
      clear a4 htr
      go_wp2_with fail
      refine Htr.out.mono ?_
      rintro e w' ⟨v', rfl, hv'', rfl⟩
      go_wp2_with fail
      go_ret2
      exact ⟨_, _, rfl, hv'', hrest, hbel⟩
end Go.Proofs.YtippcalhcnjghaaDoor
/- A region that draws its order: each operation is shown once to give its own fact, which lasts; the stores come last, one by one. -/
namespace Go.Proofs.YtippcalhcnjghaaDoor
open Go.RowKit

/-- a fact of a slot's value that lasts while memory grows -/
structure SFact where
  P : Value → World → Prop
  st : ∀ v w w', P v w → Below w.heap.size w w' → P v w'
def putAll (a : Act) : List Tmp → List Value → Act
  | d :: ds, v :: vs => putAll (a.put (some d) v) ds vs
  | _, _ => a
/-- i waits for j, by at most so many steps -/
def reach (md : Region.Mode) (ops : Array Oper) : Nat → Nat → Nat → Bool
  | 0, _, _ => false
  | f + 1, i, j => (ops[i]?).any fun o => (o.after.any fun e => Region.binds md e && e.on == j) || (o.after.any fun e => Region.binds md e && reach md ops f e.on j)
def storesWait (md : Region.Mode) (ops : Array Oper) (n : Nat) : Bool := (List.range ops.size).all fun i => decide (i < n) || (List.range n).all fun j => reach md ops 6 i j
def Closed (md : Region.Mode) (ops : Array Oper) (L : Array Bool) : Prop := ∀ j o, ops[j]? = some o → L.getD j false = true → ∀ e ∈ o.after, Region.binds md e = true → L.getD e.on false = true
theorem reach_listed {md : Region.Mode} {ops : Array Oper} {L : Array Bool} (hc : Closed md ops L) : ∀ (f i : Nat) (o : Oper) (j : Nat), ops[i]? = some o → (∀ e ∈ o.after, Region.binds md e = true → L.getD e.on false = true) → reach md ops f i j = true → L.getD j false = true
  | 0, _, _, _, _, _, h => by cases h
  | f + 1, i, o, j, ho, hall, h => by
    simp only [reach, ho, Option.any_some, Bool.or_eq_true] at h
    rcases h with h | h
    · obtain ⟨e, he, hb⟩ := Array.any_eq_true'.1 h
      simp only [Bool.and_eq_true, beq_iff_eq] at hb
      rw [← hb.2]; exact hall e he hb.1
    · obtain ⟨e, he, hb⟩ := Array.any_eq_true'.1 h
      simp only [Bool.and_eq_true] at hb
      have hl := hall e he hb.1
      cases hoe : ops[e.on]? with
      | none =>
        exfalso
        have h2 := hb.2
        cases f with
        | zero => cases h2
        | succ f => simp [reach, hoe] at h2
      | some o' => exact reach_listed hc f e.on o' j hoe (hc e.on o' hoe hl) hb.2
theorem getD_put {a : Act} {ds : List Tmp} {vs : List Value} {d : Tmp} {v : Value} (hd : d ∉ ds) : putAll (a.put (some d) v) ds vs = (putAll a ds vs).put (some d) v := by
  induction ds generalizing a vs with
  | nil => rfl
  | cons d' ds ih =>
    cases vs with
    | nil => rfl
    | cons v' vs =>
      simp only [putAll]
      have hne : d' ≠ d := fun e => hd (by simp [e])
      rw [Act.put_comm a v v' (x := some d) (y := some d') (by intro x hx hy; cases hx; cases hy; exact hne rfl)]
      exact ih (fun h => hd (by simp [h]))
theorem putAll_set {a : Act} {ds : List Tmp} {vs : List Value} {i : Nat} {d : Tmp} {v : Value} (hn : ds.Nodup) (hi : ds[i]? = some d) (hl : vs.length = ds.length) : (putAll a ds vs).put (some d) v = putAll a ds (vs.set i v) := by
  induction ds generalizing a vs i with
  | nil => simp at hi
  | cons d' ds ih =>
    cases vs with
    | nil => simp at hl
    | cons v' vs =>
      rw [List.nodup_cons] at hn
      cases i with
      | zero =>
        simp at hi; subst hi
        simp only [putAll, List.set_cons_zero]
        rw [← getD_put hn.1]
        congr 1
        unfold Act.put
        simp [Array.setIfInBounds_setIfInBounds]
      | succ i =>
        simp only [putAll, List.set_cons_succ]
        exact ih hn.2 (by simpa using hi) (by simpa using hl)

def dstsAre (ops : Array Oper) (n : Nat) (ds : List Tmp) : Bool := (List.range n).all fun i => (ops[i]?).all fun o => o.dst == ds[i]?
theorem getD_set_list {l : List Value} {i j : Nat} {v : Value} (h : i ≠ j) : (l.set i v).getD j undef = l.getD j undef := by
  simp [List.getD, List.getElem?_set_ne h]
theorem getD_set_list_self {l : List Value} {i : Nat} {v : Value} (h : i < l.length) : (l.set i v).getD i undef = v := by
  simp [List.getD, h]

theorem wpAny_facts {P : Program} {ops : Array Oper} {Q : Exit → Act → World → Prop} {a0 : Act} {w0 : World} (n s : Nat) (hsize : ops.size = n + s) (ds : List Tmp) (f : Nat → SFact) (al : List Nat)
    (hd : edgesDown .any ops = true) (hsw : storesWait .any ops n = true) (hdn : ds.Nodup) (hlen : ds.length = n) (hds : dstsAre ops n ds = true)
    (hal : ∀ i ∈ al, ∀ v w, (f i).P v w → ∃ g, v = .pointer (some ⟨g, 0, none⟩) ∧ g < w.heap.size)
    (hstep : ∀ i o, i < n → ops[i]? = some o → ∀ vs w, vs.length = n → Below w0.heap.size w0 w → (∀ e ∈ o.after, Region.binds .any e = true → (f e.on).P (vs.getD e.on undef) w) →
      ∀ K : Act → World → Prop, Shut (∀ v w', (f i).P v w' → Below w.heap.size w w' → (i ∈ al → v = .pointer (some ⟨w.heap.size, 0, none⟩)) → K ((putAll a0 ds vs).put o.dst v) w') →
        if Region.wanted o (yielded ops (putAll a0 ds vs).tmps) = true then Oper.wp P o (putAll a0 ds vs) w K Q else K ((putAll a0 ds vs).put o.dst undef) w)
    (hend : ∀ vs w, vs.length = n → Below w0.heap.size w0 w → (∀ i, i < n → (f i).P (vs.getD i undef) w) → (∀ i ∈ al, ∀ j ∈ al, i ≠ j → vs.getD i undef ≠ vs.getD j undef) →
      wpAny P .any ops Q s ((List.replicate n true ++ List.replicate s false).toArray) (putAll a0 ds vs) w) :
    ∀ (c : Nat) (L : Array Bool) (vs : List Value) (w : World), (L.toList.take n).count false = c → L.size = n + s → (∀ j, n ≤ j → j < n + s → L.getD j true = false) → Closed .any ops L → vs.length = n → Below w0.heap.size w0 w →
      (∀ i, i < n → L.getD i false = true → (f i).P (vs.getD i undef) w) → (∀ i ∈ al, ∀ j ∈ al, i < n → j < n → i ≠ j → L.getD i false = true → L.getD j false = true → vs.getD i undef ≠ vs.getD j undef) →
      (∀ i ∈ al, i < n) → wpAny P .any ops Q (c + s) L (putAll a0 ds vs) w := by
  intro c
  induction c with
  | zero =>
    intro L vs w hc hs hst hcl hvl hb hf hdist haln
    have hall : ∀ i, i < n → L.getD i false = true := fun i hi => by
      have hil : i < L.size := by omega
      cases hb : L[i] with
      | true => simp [Array.getD, hil, hb]
      | false =>
        exfalso
        have hmem : false ∈ L.toList.take n := by
          rw [List.mem_take_iff_getElem]
          exact ⟨i, by simp; omega, by simpa using hb⟩
        have := List.count_pos_iff.2 hmem
        omega
    have hL : L = (List.replicate n true ++ List.replicate s false).toArray := by
      apply Array.ext
      · simp [hs]
      · intro i hi hi2
        by_cases h : i < n
        · have := hall i h
          simp only [Array.getD, hi] at this
          simp [h]
          simpa using this
        · have := hst i (by omega) (by omega)
          simp only [Array.getD, hi] at this
          simp [List.getElem_append, h]
          simpa using this
    rw [Nat.zero_add, hL]
    exact hend vs w hvl hb (fun i hi => hf i hi (hall i hi)) (fun i hi j hj hne => hdist i hi j hj (haln i hi) (haln j hj) hne (hall i (haln i hi)) (hall j (haln j hj)))
  | succ c ih =>
    intro L vs w hc hs hst hcl hvl hb hf hdist haln
    have hnot : ¬ ∀ i, i < n → L.getD i false = true := fun hall => by
      have : (L.toList.take n).count false = 0 := by
        rw [List.count_eq_zero]
        intro hmem
        rw [List.mem_take_iff_getElem] at hmem
        obtain ⟨i, hi, hif⟩ := hmem
        have hi' : i < L.size := by simp at hi; omega
        have := hall i (by simp at hi; omega)
        have h2 : L.getD i false = L[i] := by simp [Array.getD, hi']
        rw [h2] at this
        rw [Array.getElem_toList] at hif
        rw [hif] at this
        cases this
      omega
    rw [show c + 1 + s = (c + s) + 1 by omega]
    refine ⟨fun hr => ?_, fun i hi => ?_⟩
    · exfalso
      apply hnot
      intro i hi
      have := all_listed hd (by rw [hs, hsize]) hr i (by omega)
      have hil : i < L.size := by omega
      simpa [Array.getD, hil] using this
    · obtain ⟨hun, o, ho, hall⟩ := mem_ready.1 hi
      have hio : i < ops.size := (Array.getElem?_eq_some_iff.1 ho).1
      have hil : i < L.size := by omega
      have hin : i < n := by
        rcases Nat.lt_or_ge i n with h | h
        · exact h
        · exfalso
          apply hnot
          intro j hj
          have h1 := List.all_eq_true.1 hsw i (by simpa using hio)
          simp only [Bool.or_eq_true, decide_eq_true_eq] at h1
          rcases h1 with h1 | h1
          · omega
          · exact reach_listed hcl 6 i o j ho hall (List.all_eq_true.1 h1 j (by simpa using hj))
      have hdst : o.dst = ds[i]? := by
        have h1 := List.all_eq_true.1 hds i (by simpa using hin)
        rw [ho] at h1
        simpa using h1
      have hdi : ds[i]? = some (ds[i]'(by omega)) := by simp
      refine wpOp_step ho (fun K hK => hstep i o hin ho vs w hvl hb (fun e he hbd => ?_) K (fun v w' hv hb' hp => ?_))
      · have hl := hall e he hbd
        have hlt : e.on < n := by
          rcases Nat.lt_or_ge e.on n with h | h
          · exact h
          · exfalso
            rcases Nat.lt_or_ge e.on (n + s) with h2 | h2
            · have := hst e.on h h2
              have hl2 : e.on < L.size := by omega
              simp only [Array.getD, hl2] at this hl
              simp at this hl
              rw [this] at hl; cases hl
            · have : ¬ e.on < L.size := by omega
              simp [Array.getD, this] at hl
        exact hf e.on hlt hl
      · apply hK
        rw [hdst, hdi, putAll_set hdn hdi (by omega)]
        have hset : ∀ j, i ≠ j → (L.setIfInBounds i true).getD j false = L.getD j false := fun j h => getD_set_ne false h
        refine ih (L.setIfInBounds i true) (vs.set i v) w' ?_ (by simpa using hs) ?_ ?_ (by simpa using hvl) (hb.trans (hb'.mono hb.size)) ?_ ?_ haln
        · have hf' : (L.toList.take n)[i]'(by simp; omega) = false := by
            simp only [List.getElem_take]
            simpa [Array.getD, hil] using hun
          have := count_false_set (L.toList.take n) i (by simp; omega) hf'
          rw [Array.toList_setIfInBounds, ← List.take_set] at *
          omega
        · intro j hj hj2
          rw [getD_set_ne true (by omega)]
          exact hst j hj hj2
        · intro j o' hjo hjl e he hbd
          by_cases hji : i = j
          · subst hji
            rw [ho] at hjo
            cases hjo
            exact getD_set_true (hall e he hbd)
          · rw [hset j hji] at hjl
            exact getD_set_true (hcl j o' hjo hjl e he hbd)
        · intro j hj hjl
          by_cases hji : i = j
          · subst hji
            rw [getD_set_list_self (by omega)]
            exact hv
          · rw [hset j hji] at hjl
            rw [getD_set_list hji]
            exact (f j).st _ _ _ (hf j hj hjl) hb'
        · intro j hj k hk hjn hkn hjk hjl hkl
          have old : ∀ x, x ∈ al → x < n → i ≠ x → (L.setIfInBounds i true).getD x false = true → vs.getD x undef ≠ .pointer (some ⟨w.heap.size, 0, none⟩) := fun x hx hxn hix hxl => by
            rw [hset x hix] at hxl
            obtain ⟨g, hg, hgl⟩ := hal x hx _ _ (hf x hxn hxl)
            rw [hg]
            intro e
            injection e with e
            injection e with e
            injection e with e
            omega
          by_cases hji : i = j
          · subst hji
            rw [getD_set_list_self (by omega), getD_set_list hjk, hp hj]
            exact (old k hk hkn hjk hkl).symm
          · by_cases hki : i = k
            · subst hki
              rw [getD_set_list_self (by omega), getD_set_list hji, hp hk]
              exact old j hj hjn hji hjl
            · rw [getD_set_list hji, getD_set_list hki]
              rw [hset j hji] at hjl
              rw [hset k hki] at hkl
              exact hdist j hj k hk hjn hkn hjk hjl hkl

theorem wp_region_facts {P : Program} {ops : Array Oper} {Q : Exit → Act → World → Prop} {id : Nat} {a0 : Act} {w0 : World} (n s : Nat) (ds : List Tmp) (vs0 : List Value) (f : Nat → SFact) (al : List Nat) (hm : P.follows .mixedOrders = true)
    (hsize : ops.size = n + s) (hd : edgesDown .any ops = true) (hsw : storesWait .any ops n = true) (hdn : ds.Nodup) (hlen : ds.length = n) (hds : dstsAre ops n ds = true) (hv0 : vs0.length = n) (haln : ∀ i ∈ al, i < n)
    (he : a0 = putAll a0 ds vs0) (hal : ∀ i ∈ al, ∀ v w, (f i).P v w → ∃ g, v = .pointer (some ⟨g, 0, none⟩) ∧ g < w.heap.size)
    (hstep : ∀ i o, i < n → ops[i]? = some o → ∀ vs w, vs.length = n → Below w0.heap.size w0 w → (∀ e ∈ o.after, Region.binds .any e = true → (f e.on).P (vs.getD e.on undef) w) →
      ∀ K : Act → World → Prop, Shut (∀ v w', (f i).P v w' → Below w.heap.size w w' → (i ∈ al → v = .pointer (some ⟨w.heap.size, 0, none⟩)) → K ((putAll a0 ds vs).put o.dst v) w') →
        if Region.wanted o (yielded ops (putAll a0 ds vs).tmps) = true then Oper.wp P o (putAll a0 ds vs) w K Q else K ((putAll a0 ds vs).put o.dst undef) w)
    (hend : ∀ vs w, vs.length = n → Below w0.heap.size w0 w → (∀ i, i < n → (f i).P (vs.getD i undef) w) → (∀ i ∈ al, ∀ j ∈ al, i ≠ j → vs.getD i undef ≠ vs.getD j undef) →
      wpAny P .any ops Q s ((List.replicate n true ++ List.replicate s false).toArray) (putAll a0 ds vs) w) : (Code.region id ops true).wp P Q a0 w0 := by
  refine wp_region_any hm ?_
  have := wpAny_facts (a0 := a0) (w0 := w0) n s hsize ds f al hd hsw hdn hlen hds hal hstep hend n (Array.replicate ops.size false) vs0 w0.drew
    (by rw [hsize]; simp [List.take_replicate, Nat.min_eq_left (Nat.le_add_right n s)]) (by simp [hsize]) (by intro j hj hj2; simp [Array.getD, hsize, hj2]) (by intro j o _ h; simp [Array.getD] at h) hv0 ((Below.refl _ _).drew)
    (by intro i _ h; simp [Array.getD] at h) (by intro i _ j _ _ _ _ h; simp [Array.getD] at h) haln
  rw [← he, ← hsize] at this
  exact this
theorem wpAny_one {P : Program} {ops : Array Oper} {Q : Exit → Act → World → Prop} {md : Region.Mode} {i fuel : Nat} {o : Oper} {listed : Array Bool} {a : Act} {w : World} (hr : Region.ready md ops listed = [i]) (ho : ops[i]? = some o)
    (h : ∀ K : Act → World → Prop, Shut (∀ a w, wpAny P md ops Q fuel (listed.setIfInBounds i true) a w → K a w) → if Region.wanted o (yielded ops a.tmps) = true then Oper.wp P o a w K Q else K (a.put o.dst undef) w) : wpAny P md ops Q (fuel + 1) listed a w := by
  refine ⟨fun h0 => (by rw [hr] at h0; cases h0), ?_⟩
  rw [hr]
  intro j hj
  obtain rfl : j = i := by simpa using hj
  exact wpOp_step ho (fun K hK => h K hK)
end Go.Proofs.YtippcalhcnjghaaDoor
