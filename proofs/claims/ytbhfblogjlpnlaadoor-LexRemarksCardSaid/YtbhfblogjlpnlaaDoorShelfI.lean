/-
  The library's strings.IndexByte and bytes.Split at this program: what the library's contracts ask of its text: the tables of numbers, and that each body is the library's, each fact the program's own or the kernel's comparison. Condition: none.
-/
import Derived.Shelf.Small.Strs
import Derived.Shelf.Bytes.SlSplit
import Derived.Shelf.Bytes.SlSplitNil
import Derived.Test.YtbhfblogjlpnlaaDoorProg
namespace Go.Proofs.YtbhfblogjlpnlaaDoor
open Go.Shelf
def Tryd.laysIB_ren : Go.Shelf.Ren := ⟨fun | 137 => 106 | 217 => 110 | 266 => 112 | n => n, fun | 9 => 9 | 5 => 5 | 3 => 3 | n => n, fun | n => n⟩
theorem Tryd.laysIB : Go.Proofs.Lays.n137 Tryd.prog Tryd.laysIB_ren := {
  mixed := by kernel_rfl
  f137 := Tryd.func106.trans (congrArg some (by kernel_rfl))
  f217 := Tryd.func110.trans (congrArg some (by kernel_rfl))
  f266 := Tryd.func112.trans (congrArg some (by kernel_rfl))
  t3 := Tryd.underlying3
  a3 := Tryd.isAgg3
  z3 := Tryd.sizeOf3
  v3 := Tryd.zeroValue3
  t5 := Tryd.underlying5
  a5 := Tryd.isAgg5
  z5 := Tryd.sizeOf5
  v5 := Tryd.zeroValue5
  t9 := Tryd.underlying9
  a9 := Tryd.isAgg9
  z9 := Tryd.sizeOf9
  v9 := Tryd.zeroValue9 }
def Tryd.laysSplit_ren : Go.Shelf.Ren := ⟨fun | 7 => 23 | 11 => 34 | 14 => 47 | 15 => 48 | 16 => 49 | 17 => 68 | 19 => 69 | 20 => 70 | 21 => 71 | 22 => 72 | 23 => 73 | 24 => 74 | 25 => 75 | 26 => 92 | 29 => 93 | 30 => 94 | 31 => 95 | n => n, fun | 22 => 22 | 23 => 57 | 3 => 3 | 4 => 4 | 0 => 0 | 34 => 140 | 21 => 21 | 5 => 5 | 45 => 144 | 9 => 9 | 58 => 154 | 38 => 37 | 28 => 164 | 62 => 167 | 61 => 166 | n => n, fun | 2 => 1 | 3 => 2 | 4 => 3 | n => n⟩
theorem Tryd.laysSplit : Go.Proofs.SlLaysP.n7 Tryd.prog Tryd.laysSplit_ren := {
  mixed := by kernel_rfl
  f7 := Tryd.func23.trans (congrArg some (by kernel_rfl))
  f11 := Tryd.func34.trans (congrArg some (by kernel_rfl))
  f15 := Tryd.func48.trans (congrArg some (by kernel_rfl))
  f16 := Tryd.func49.trans (congrArg some (by kernel_rfl))
  f20 := Tryd.func70.trans (congrArg some (by kernel_rfl))
  f21 := Tryd.func71.trans (congrArg some (by kernel_rfl))
  f22 := Tryd.func72.trans (congrArg some (by kernel_rfl))
  f23 := Tryd.func73.trans (congrArg some (by kernel_rfl))
  f24 := Tryd.func74.trans (congrArg some (by kernel_rfl))
  f25 := Tryd.func75.trans (congrArg some (by kernel_rfl))
  f30 := Tryd.func94.trans (congrArg some (by kernel_rfl))
  f31 := Tryd.func95.trans (congrArg some (by kernel_rfl))
  t0 := Tryd.underlying0
  a0 := Tryd.isAgg0
  z0 := Tryd.sizeOf0
  v0 := Tryd.zeroValue0
  t3 := Tryd.underlying3
  a3 := Tryd.isAgg3
  z3 := Tryd.sizeOf3
  v3 := Tryd.zeroValue3
  t4 := Tryd.underlying4
  a4 := Tryd.isAgg4
  z4 := Tryd.sizeOf4
  v4 := Tryd.zeroValue4
  t5 := Tryd.underlying5
  a5 := Tryd.isAgg5
  z5 := Tryd.sizeOf5
  v5 := Tryd.zeroValue5
  t9 := Tryd.underlying9
  a9 := Tryd.isAgg9
  z9 := Tryd.sizeOf9
  v9 := Tryd.zeroValue9
  t22 := Tryd.underlying22
  a22 := Tryd.isAgg22
  z22 := Tryd.sizeOf22
  v22 := Tryd.zeroValue22
  t23 := Tryd.underlying57
  a23 := Tryd.isAgg57
  z23 := Tryd.sizeOf57
  v23 := Tryd.zeroValue57
  t38 := Tryd.underlying37
  a38 := Tryd.isAgg37
  z38 := Tryd.sizeOf37
  v38 := Tryd.zeroValue37
  t45 := Tryd.underlying144
  a45 := Tryd.isAgg144
  z45 := Tryd.sizeOf144
  v45 := Tryd.zeroValue144
  t58 := Tryd.underlying154
  a58 := Tryd.isAgg154
  z58 := Tryd.sizeOf154
  v58 := Tryd.zeroValue154
  g2 := by kernel_rfl
  i22 := by kernel_rfl }
end Go.Proofs.YtbhfblogjlpnlaaDoor
