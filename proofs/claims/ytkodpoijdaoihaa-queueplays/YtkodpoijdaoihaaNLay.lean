/-
  The library's contracts as contracts of this program: the numbers of its functions and types.
-/
import Derived.Test.YtkodpoijdaoihaaProg
import Derived.Shelf.Slices.Turned
import Derived.Shelf.Slices.Clone
import Derived.Shelf.Slices.Cells
import Derived.Shelf.Spec.SlicesInsert
import Derived.Shelf.Spec.SlicesInsertGrow
namespace Go.Proofs
open Go.Shelf
def Ytkodpoijdaoihaa.lays108_ren : Go.Shelf.Ren := ⟨fun | 108 => 21 | n => n, fun | 28 => 32 | 3 => 3 | 0 => 0 | 4 => 4 | n => n, fun | n => n⟩
theorem Ytkodpoijdaoihaa.lays108 : Go.Proofs.Lays.n108 Try.prog Ytkodpoijdaoihaa.lays108_ren := {
  mixed := by kernel_rfl
  f108 := Try.func21.trans (congrArg some (by kernel_rfl))
  t0 := Try.underlying0
  a0 := Try.isAgg0
  z0 := Try.sizeOf0
  v0 := Try.zeroValue0
  t3 := Try.underlying3
  a3 := Try.isAgg3
  z3 := Try.sizeOf3
  v3 := Try.zeroValue3
  t4 := Try.underlying4
  a4 := Try.isAgg4
  z4 := Try.sizeOf4
  v4 := Try.zeroValue4
  t28 := Try.underlying32
  a28 := Try.isAgg32
  z28 := Try.sizeOf32
  v28 := Try.zeroValue32 }
def Ytkodpoijdaoihaa.lays15_ren : Go.Shelf.Ren := ⟨fun | 15 => 22 | n => n, fun | 22 => 32 | 3 => 3 | 4 => 4 | n => n, fun | n => n⟩
theorem Ytkodpoijdaoihaa.lays15 : Go.Proofs.Lays2.n15 Try.prog Ytkodpoijdaoihaa.lays15_ren := {
  mixed := by kernel_rfl
  f15 := Try.func22.trans (congrArg some (by kernel_rfl))
  t3 := Try.underlying3
  a3 := Try.isAgg3
  z3 := Try.sizeOf3
  v3 := Try.zeroValue3
  t4 := Try.underlying4
  a4 := Try.isAgg4
  z4 := Try.sizeOf4
  v4 := Try.zeroValue4
  t22 := Try.underlying32
  a22 := Try.isAgg32
  z22 := Try.sizeOf32
  v22 := Try.zeroValue32
  i3 := by kernel_rfl }
def Ytkodpoijdaoihaa.lays23_ren : Go.Shelf.Ren := ⟨fun | 23 => 20 | n => n, fun | 22 => 32 | 3 => 3 | 4 => 4 | 0 => 0 | n => n, fun | n => n⟩
theorem Ytkodpoijdaoihaa.lays23 : Go.Proofs.Lays2.n23 Try.prog Ytkodpoijdaoihaa.lays23_ren := {
  mixed := by kernel_rfl
  f23 := Try.func20.trans (congrArg some (by kernel_rfl))
  t0 := Try.underlying0
  a0 := Try.isAgg0
  z0 := Try.sizeOf0
  v0 := Try.zeroValue0
  t3 := Try.underlying3
  a3 := Try.isAgg3
  z3 := Try.sizeOf3
  v3 := Try.zeroValue3
  t4 := Try.underlying4
  a4 := Try.isAgg4
  z4 := Try.sizeOf4
  v4 := Try.zeroValue4
  t22 := Try.underlying32
  a22 := Try.isAgg32
  z22 := Try.sizeOf32
  v22 := Try.zeroValue32
  i3 := by kernel_rfl }
def Ytkodpoijdaoihaa.lays21_ren : Go.Shelf.Ren := ⟨fun | 21 => 19 | 27 => 44 | 28 => 45 | 35 => 55 | 39 => 57 | n => n, fun | 22 => 32 | 3 => 3 | 4 => 4 | 0 => 0 | n => n, fun | n => n⟩
theorem Ytkodpoijdaoihaa.lays21 : Go.Proofs.Lays2.n21 Try.prog Ytkodpoijdaoihaa.lays21_ren := {
  mixed := by kernel_rfl
  f21 := Try.func19.trans (congrArg some (by kernel_rfl))
  f27 := Try.func44.trans (congrArg some (by kernel_rfl))
  f28 := Try.func45.trans (congrArg some (by kernel_rfl))
  f35 := Try.func55.trans (congrArg some (by kernel_rfl))
  f39 := Try.func57.trans (congrArg some (by kernel_rfl))
  t0 := Try.underlying0
  a0 := Try.isAgg0
  z0 := Try.sizeOf0
  v0 := Try.zeroValue0
  t3 := Try.underlying3
  a3 := Try.isAgg3
  z3 := Try.sizeOf3
  v3 := Try.zeroValue3
  t4 := Try.underlying4
  a4 := Try.isAgg4
  z4 := Try.sizeOf4
  v4 := Try.zeroValue4
  t22 := Try.underlying32
  a22 := Try.isAgg32
  z22 := Try.sizeOf32
  v22 := Try.zeroValue32
  i3 := by kernel_rfl }
end Go.Proofs
