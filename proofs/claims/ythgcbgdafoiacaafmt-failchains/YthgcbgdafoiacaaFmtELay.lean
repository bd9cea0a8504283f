/-
  The library's contracts on strings.Builder (WriteString, String) as contracts of this program.
-/
import Derived.Shelf.Strings.Builder1
import Derived.Test.YthgcbgdafoiacaaFmtProg
namespace Go.Proofs.YthgcbgdafoiacaaFmt
open Go.Shelf Go.RowKit
def lays166_ren : Go.Shelf.Ren := ⟨fun | 240 => 56 | 276 => 58 | 166 => 53 | n => n, fun | 70 => 107 | 9 => 9 | 0 => 0 | 72 => 110 | 37 => 108 | 164 => 62 | 3 => 3 | 5 => 5 | 20 => 20 | 4 => 4 | 75 => 26 | 80 => 40 | n => n, fun | n => n⟩
theorem lays166 : Go.Proofs.Lays.n166 Tryf.prog lays166_ren := {
  mixed := by kernel_rfl
  f166 := Tryf.func53.trans (congrArg some (by kernel_rfl))
  f240 := Tryf.func56.trans (congrArg some (by kernel_rfl))
  f276 := Tryf.func58.trans (congrArg some (by kernel_rfl))
  t0 := Tryf.underlying0
  a0 := Tryf.isAgg0
  z0 := Tryf.sizeOf0
  v0 := Tryf.zeroValue0
  t3 := Tryf.underlying3
  a3 := Tryf.isAgg3
  z3 := Tryf.sizeOf3
  v3 := Tryf.zeroValue3
  t4 := Tryf.underlying4
  a4 := Tryf.isAgg4
  z4 := Tryf.sizeOf4
  v4 := Tryf.zeroValue4
  t9 := Tryf.underlying9
  a9 := Tryf.isAgg9
  z9 := Tryf.sizeOf9
  v9 := Tryf.zeroValue9
  t20 := Tryf.underlying20
  a20 := Tryf.isAgg20
  z20 := Tryf.sizeOf20
  v20 := Tryf.zeroValue20
  t37 := Tryf.underlying108
  a37 := Tryf.isAgg108
  z37 := Tryf.sizeOf108
  v37 := Tryf.zeroValue108
  t70 := Tryf.underlying107
  a70 := Tryf.isAgg107
  z70 := Tryf.sizeOf107
  v70 := Tryf.zeroValue107
  t72 := Tryf.underlying110
  a72 := Tryf.isAgg110
  z72 := Tryf.sizeOf110
  v72 := Tryf.zeroValue110
  t75 := Tryf.underlying26
  a75 := Tryf.isAgg26
  z75 := Tryf.sizeOf26
  v75 := Tryf.zeroValue26
  t164 := Tryf.underlying62
  a164 := Tryf.isAgg62
  z164 := Tryf.sizeOf62
  v164 := Tryf.zeroValue62 }
theorem extra166 : Builder.Extra Tryf.prog lays166_ren := {
  sizeBuilder := by kernel_rfl
  liesBuilder := by kernel_rfl
  t5 := Tryf.underlying5
  a5 := Tryf.isAgg5
  z5 := Tryf.sizeOf5
  v5 := Tryf.zeroValue5
  infoByte := by kernel_rfl
  cellsByte := by kernel_rfl
  sizeByte := by kernel_rfl
  neB5 := by decide }
def lays169_ren : Go.Shelf.Ren := ⟨fun | 169 => 55 | n => n, fun | 70 => 107 | 9 => 9 | 0 => 0 | 72 => 110 | 37 => 108 | 127 => 102 | 3 => 3 | 5 => 5 | n => n, fun | n => n⟩
theorem lays169 : Go.Proofs.Lays.n169 Tryf.prog lays169_ren := {
  mixed := by kernel_rfl
  f169 := Tryf.func55.trans (congrArg some (by kernel_rfl))
  t0 := Tryf.underlying0
  a0 := Tryf.isAgg0
  z0 := Tryf.sizeOf0
  v0 := Tryf.zeroValue0
  t3 := Tryf.underlying3
  a3 := Tryf.isAgg3
  z3 := Tryf.sizeOf3
  v3 := Tryf.zeroValue3
  t9 := Tryf.underlying9
  a9 := Tryf.isAgg9
  z9 := Tryf.sizeOf9
  v9 := Tryf.zeroValue9
  t37 := Tryf.underlying108
  a37 := Tryf.isAgg108
  z37 := Tryf.sizeOf108
  v37 := Tryf.zeroValue108
  t70 := Tryf.underlying107
  a70 := Tryf.isAgg107
  z70 := Tryf.sizeOf107
  v70 := Tryf.zeroValue107
  t72 := Tryf.underlying110
  a72 := Tryf.isAgg110
  z72 := Tryf.sizeOf110
  v72 := Tryf.zeroValue110
  t127 := Tryf.underlying102
  a127 := Tryf.isAgg102
  z127 := Tryf.sizeOf102
  v127 := Tryf.zeroValue102 }
theorem extra169 : Builder.Extra Tryf.prog lays169_ren := {
  sizeBuilder := by kernel_rfl
  liesBuilder := by kernel_rfl
  t5 := Tryf.underlying5
  a5 := Tryf.isAgg5
  z5 := Tryf.sizeOf5
  v5 := Tryf.zeroValue5
  infoByte := by kernel_rfl
  cellsByte := by kernel_rfl
  sizeByte := by kernel_rfl
  neB5 := by decide }

theorem writeString (B b : Nat) (bs : List Value) (s : ByteArray) (w : World) (h : Lib.IsBuilder 110 5 B b bs w) (hlen : bs.length + s.size ≤ 140737488355328) (hBw : B ≤ w.heap.size) :
    Calls Tryf.prog 53 #[.pointer (some ⟨b, 0, none⟩), .string s] w fun e w' => e = .returned (.tuple #[.int .i64 s.size, .nilIface]) ∧ (Lib.BuilderAt 110 5 B b (.pointer (some ⟨b, 0, none⟩)) (bs ++ Lib.strCells s) w' ∧ Below B w w') := Any.Builder_WriteString lays166 extra166 B b bs s w h hlen hBw
theorem builderString (B b : Nat) (l : List UInt8) (w : World) (h : Lib.IsBuilder 110 5 B b (Lib.byteCells l) w) (hBw : B ≤ w.heap.size) :
    Calls Tryf.prog 55 #[.pointer (some ⟨b, 0, none⟩)] w fun e w' => e = .returned (.string ⟨l.toArray⟩) ∧ Below B w w' := Any.Builder_String_any lays169 extra169 B b l w h hBw
end Go.Proofs.YthgcbgdafoiacaaFmt
