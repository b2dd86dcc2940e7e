/-
  DERIVED: THE SHELF's CONTRACTS AT THIS DUMP, IN PLAIN WORDS (tools/lay-plain.mjs out of 'YtoabedkcieindaaGreatDoorLayI0.lean', which tools/lay-shelf.mjs wrote): THE SAME DECLARATIONS UNDER THE SAME NAMES: 'import', 'namespace', 'open', 'def', 'theorem' AND NOTHING ELSE: no command of the shelf's: FOR A HAND-IN. Each laying: the table of numbers ('.._ren') and one theorem, a field a fact of the dump's own or the kernel's comparison; each contract: ONE APPLICATION.
-/
import Derived.Shelf.SlGeneric
import Derived.Shelf.SortM.Plain
import Derived.Shelf.SortM.SortNone
import Derived.Ground.SlgmProg
import Derived.Test.YtoabedkcieindaaGreatDoorProg
namespace Go.Proofs
open Go.Shelf
def Tryz.sortI237_ren : Go.Shelf.Ren := ⟨fun | 5 => 237 | 8 => 254 | 7 => 294 | 19 => 313 | 20 => 300 | 10 => 339 | 11 => 340 | 12 => 341 | 13 => 342 | 14 => 343 | 15 => 344 | 16 => 345 | 17 => 346 | 18 => 347 | 30 => 369 | 31 => 351 | 32 => 352 | 33 => 370 | 34 => 371 | 35 => 372 | 40 => 378 | n => n, fun | 23 => 27 | 25 => 3 | 3 => 3 | 32 => 213 | 22 => 27 | 0 => 0 | 44 => 263 | 46 => 260 | 4 => 4 | 36 => 360 | 35 => 359 | 41 => 229 | 5 => 5 | 9 => 9 | 53 => 391 | 57 => 394 | 63 => 411 | 64 => 230 | n => n, fun | n => n⟩
theorem Tryz.sortI237 : Go.Proofs.SlLaysM.n5 Tryz.prog Tryz.sortI237_ren := {
  mixed := by kernel_rfl
  f5 := ⟨Tryz.f237.name, by decide, Tryz.func237.trans (congrArg some (by kernel_rfl))⟩
  f7 := ⟨Tryz.f294.name, by decide, Tryz.func294.trans (congrArg some (by kernel_rfl))⟩
  f8 := Tryz.func254.trans (congrArg some (by kernel_rfl))
  f10 := ⟨Tryz.f339.name, by decide, Tryz.func339.trans (congrArg some (by kernel_rfl))⟩
  f11 := ⟨Tryz.f340.name, by decide, Tryz.func340.trans (congrArg some (by kernel_rfl))⟩
  f12 := ⟨Tryz.f341.name, by decide, Tryz.func341.trans (congrArg some (by kernel_rfl))⟩
  f13 := ⟨Tryz.f342.name, by decide, Tryz.func342.trans (congrArg some (by kernel_rfl))⟩
  f14 := ⟨Tryz.f343.name, by decide, Tryz.func343.trans (congrArg some (by kernel_rfl))⟩
  f15 := ⟨Tryz.f344.name, by decide, Tryz.func344.trans (congrArg some (by kernel_rfl))⟩
  f16 := ⟨Tryz.f345.name, by decide, Tryz.func345.trans (congrArg some (by kernel_rfl))⟩
  f17 := ⟨Tryz.f346.name, by decide, Tryz.func346.trans (congrArg some (by kernel_rfl))⟩
  f18 := ⟨Tryz.f347.name, by decide, Tryz.func347.trans (congrArg some (by kernel_rfl))⟩
  f19 := Tryz.func313.trans (congrArg some (by kernel_rfl))
  f20 := Tryz.func300.trans (congrArg some (by kernel_rfl))
  f30 := ⟨Tryz.f369.name, by decide, Tryz.func369.trans (congrArg some (by kernel_rfl))⟩
  f31 := Tryz.func351.trans (congrArg some (by kernel_rfl))
  f32 := Tryz.func352.trans (congrArg some (by kernel_rfl))
  f33 := ⟨Tryz.f370.name, by decide, Tryz.func370.trans (congrArg some (by kernel_rfl))⟩
  f34 := ⟨Tryz.f371.name, by decide, Tryz.func371.trans (congrArg some (by kernel_rfl))⟩
  f35 := ⟨Tryz.f372.name, by decide, Tryz.func372.trans (congrArg some (by kernel_rfl))⟩
  f40 := ⟨Tryz.f378.name, by decide, Tryz.func378.trans (congrArg some (by kernel_rfl))⟩
  t0 := Tryz.underlying0
  a0 := Tryz.isAgg0
  z0 := Tryz.sizeOf0
  v0 := Tryz.zeroValue0
  t3 := Tryz.underlying3
  a3 := Tryz.isAgg3
  z3 := Tryz.sizeOf3
  v3 := Tryz.zeroValue3
  t4 := Tryz.underlying4
  a4 := Tryz.isAgg4
  z4 := Tryz.sizeOf4
  v4 := Tryz.zeroValue4
  t5 := Tryz.underlying5
  a5 := Tryz.isAgg5
  z5 := Tryz.sizeOf5
  v5 := Tryz.zeroValue5
  t9 := Tryz.underlying9
  a9 := Tryz.isAgg9
  z9 := Tryz.sizeOf9
  v9 := Tryz.zeroValue9
  t22 := Tryz.underlying27
  a22 := Tryz.isAgg27
  z22 := Tryz.sizeOf27
  v22 := Tryz.zeroValue27
  t23 := Tryz.underlying27
  a23 := Tryz.isAgg27
  z23 := Tryz.sizeOf27
  v23 := Tryz.zeroValue27
  t25 := Tryz.underlying3
  a25 := Tryz.isAgg3
  z25 := Tryz.sizeOf3
  v25 := Tryz.zeroValue3
  t32 := Tryz.underlying213
  a32 := Tryz.isAgg213
  z32 := Tryz.sizeOf213
  v32 := Tryz.zeroValue213
  t35 := Tryz.underlying359
  a35 := Tryz.isAgg359
  z35 := Tryz.sizeOf359
  v35 := Tryz.zeroValue359
  t36 := Tryz.underlying360
  a36 := Tryz.isAgg360
  z36 := Tryz.sizeOf360
  v36 := Tryz.zeroValue360
  t41 := Tryz.underlying229
  a41 := Tryz.isAgg229
  z41 := Tryz.sizeOf229
  v41 := Tryz.zeroValue229
  t44 := Tryz.underlying263
  a44 := Tryz.isAgg263
  z44 := Tryz.sizeOf263
  v44 := Tryz.zeroValue263
  t46 := Tryz.underlying260
  a46 := Tryz.isAgg260
  z46 := Tryz.sizeOf260
  v46 := Tryz.zeroValue260
  t53 := Tryz.underlying391
  a53 := Tryz.isAgg391
  z53 := Tryz.sizeOf391
  v53 := Tryz.zeroValue391
  t57 := Tryz.underlying394
  a57 := Tryz.isAgg394
  z57 := Tryz.sizeOf394
  v57 := Tryz.zeroValue394
  t63 := Tryz.underlying411
  a63 := Tryz.isAgg411
  z63 := Tryz.sizeOf411
  v63 := Tryz.zeroValue411
  t64 := Tryz.underlying230
  a64 := Tryz.isAgg230
  z64 := Tryz.sizeOf230
  v64 := Tryz.zeroValue230 }
end Go.Proofs
