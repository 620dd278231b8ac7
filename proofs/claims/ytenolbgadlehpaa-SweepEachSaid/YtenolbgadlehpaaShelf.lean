/-
  The library's proved contract of the insertion sort of slices.SortStableFunc at places, laid at this program's own numbers. No condition but those that the theorem names.
-/
import Derived.Test.YtenolbgadlehpaaProg
import Derived.Shelf.SlSortCmp.Insertion
namespace Go.Proofs
open Go.Shelf
def Try.srt_ren : Go.Shelf.Ren := ⟨fun | 20 => 44 | n => n, fun | 22 => 60 | 24 => 3 | 25 => 80 | n => n, fun n => n⟩
theorem Try.srt : Go.Proofs.SlLaysF.n20 Try.prog Try.srt_ren := {
  mixed := by kernel_rfl
  f20 := ⟨"slices.insertionSortCmpFunc[int]", by kernel_rfl, Try.func44.trans (congrArg some (by kernel_rfl))⟩
  t0 := Try.underlying0
  a0 := Try.isAgg0
  z0 := Try.sizeOf0
  v0 := Try.zeroValue0
  t3 := Try.underlying3
  a3 := Try.isAgg3
  z3 := Try.sizeOf3
  v3 := Try.zeroValue3
  t4 := Try.underlying4
  a4 := Try.isAgg4
  z4 := Try.sizeOf4
  v4 := Try.zeroValue4
  t22 := Try.underlying60
  a22 := Try.isAgg60
  z22 := Try.sizeOf60
  v22 := Try.zeroValue60
  a24 := Try.isAgg3
  z24 := Try.sizeOf3
  t25 := Try.underlying80
  a25 := Try.isAgg80
  z25 := Try.sizeOf80
  v25 := Try.zeroValue80 }
end Go.Proofs
