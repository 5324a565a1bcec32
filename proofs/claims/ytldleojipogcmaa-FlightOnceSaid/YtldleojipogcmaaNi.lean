/- The library's contracts for a map's keys, sorted, at this program. -/
import Derived.Shelf.SlIterI.Nil
import Derived.Shelf.SlGeneric
import Derived.Test.YtldleojipogcmaaShelf
namespace Go.Proofs
open Go.Shelf
def Try.keys19_ren : Go.Shelf.Ren := ⟨fun | 7 => 19 | 10 => 23 | n => n, fun | 23 => 50 | 26 => 3 | 3 => 55 | 28 => 61 | 0 => 0 | 27 => 60 | 33 => 40 | 4 => 4 | n => n, fun | n => n⟩
theorem Try.keys19 : Go.Proofs.SlLaysZI.n7 Try.prog Try.keys19_ren := {
  mixed := by kernel_rfl
  f7 := ⟨Try.f19.name, by decide, Try.func19.trans (congrArg some (by kernel_rfl))⟩
  f10 := ⟨Try.f23.name, by decide, Try.func23.trans (congrArg some (by kernel_rfl))⟩
  t0 := Try.underlying0
  a0 := Try.isAgg0
  z0 := Try.sizeOf0
  v0 := Try.zeroValue0
  t4 := Try.underlying4
  a4 := Try.isAgg4
  z4 := Try.sizeOf4
  v4 := Try.zeroValue4
  t23 := Try.underlying50
  a23 := Try.isAgg50
  z23 := Try.sizeOf50
  v23 := Try.zeroValue50
  t26 := Try.underlying3
  a26 := Try.isAgg3
  z26 := Try.sizeOf3
  v26 := Try.zeroValue3
  t27 := Try.underlying60
  a27 := Try.isAgg60
  z27 := Try.sizeOf60
  v27 := Try.zeroValue60
  t28 := Try.underlying61
  a28 := Try.isAgg61
  z28 := Try.sizeOf61
  v28 := Try.zeroValue61
  t33 := Try.underlying40
  a33 := Try.isAgg40
  z33 := Try.sizeOf40
  v33 := Try.zeroValue40 }
def Try.sorted18_ren : Go.Shelf.Ren := ⟨fun | 6 => 18 | 8 => 21 | 9 => 22 | 11 => 24 | 13 => 26 | 12 => 25 | 23 => 36 | 24 => 37 | 14 => 27 | 15 => 28 | 16 => 29 | 17 => 30 | 18 => 31 | 19 => 32 | 20 => 33 | 21 => 34 | 22 => 35 | 25 => 38 | 26 => 39 | 27 => 40 | 28 => 41 | 29 => 42 | 30 => 43 | 31 => 44 | n => n, fun | 26 => 3 | 28 => 61 | 24 => 34 | 0 => 0 | 3 => 3 | 37 => 68 | 48 => 78 | 50 => 80 | 4 => 4 | 40 => 71 | 39 => 70 | 45 => 33 | 5 => 5 | 9 => 9 | 51 => 81 | 55 => 85 | 57 => 87 | 58 => 88 | 33 => 40 | n => n, fun | n => n⟩
theorem Try.sorted18 : Go.Proofs.SlLaysZI.n6 Try.prog Try.sorted18_ren := {
  mixed := by kernel_rfl
  f6 := ⟨Try.f18.name, by decide, Try.func18.trans (congrArg some (by kernel_rfl))⟩
  f8 := ⟨Try.f21.name, by decide, Try.func21.trans (congrArg some (by kernel_rfl))⟩
  f11 := ⟨Try.f24.name, by decide, Try.func24.trans (congrArg some (by kernel_rfl))⟩
  t0 := Try.underlying0
  a0 := Try.isAgg0
  z0 := Try.sizeOf0
  v0 := Try.zeroValue0
  t24 := Try.underlying34
  a24 := Try.isAgg34
  z24 := Try.sizeOf34
  v24 := Try.zeroValue34
  t26 := Try.underlying3
  a26 := Try.isAgg3
  z26 := Try.sizeOf3
  v26 := Try.zeroValue3
  t28 := Try.underlying61
  a28 := Try.isAgg61
  z28 := Try.sizeOf61
  v28 := Try.zeroValue61
  i26 := by kernel_rfl }
end Go.Proofs
