/-
  What the library's strings.HasPrefix, TrimPrefix, CutPrefix and CutSuffix answer. For every two texts. No condition.
-/
import Derived.Shelf.Strings.Prefix
import Derived.Shelf.Small.Wraps
import Derived.Test.YtldddecaeloohaaDoorELib
namespace Go.Proofs.YtldddecaeloohaaDoor
open Go.RowKit Go.Shelf

def lays101_ren : Go.Shelf.Ren := ⟨fun | 101 => 59 | 206 => 55 | 208 => 75 | n => n, fun | 3 => 3 | 4 => 4 | 9 => 9 | n => n, fun | n => n⟩
theorem lays101 : Go.Proofs.Lays.n101 Tryd.prog lays101_ren := {
  mixed := by kernel_rfl
  f101 := Tryd.func59.trans (congrArg some (by kernel_rfl))
  f206 := Tryd.func55.trans (congrArg some (by kernel_rfl))
  f208 := Tryd.func75.trans (congrArg some (by kernel_rfl))
  t3 := Tryd.underlying3
  a3 := Tryd.isAgg3
  z3 := Tryd.sizeOf3
  v3 := Tryd.zeroValue3
  t4 := Tryd.underlying4
  a4 := Tryd.isAgg4
  z4 := Tryd.sizeOf4
  v4 := Tryd.zeroValue4
  t9 := Tryd.underlying9
  a9 := Tryd.isAgg9
  z9 := Tryd.sizeOf9
  v9 := Tryd.zeroValue9 }

def lays103_ren : Go.Shelf.Ren := ⟨fun | 103 => 60 | 206 => 55 | 210 => 76 | n => n, fun | 3 => 3 | 4 => 4 | 9 => 9 | 24 => 90 | n => n, fun | n => n⟩
theorem lays103 : Go.Proofs.Lays.n103 Tryd.prog lays103_ren := {
  mixed := by kernel_rfl
  f103 := Tryd.func60.trans (congrArg some (by kernel_rfl))
  f206 := Tryd.func55.trans (congrArg some (by kernel_rfl))
  f210 := Tryd.func76.trans (congrArg some (by kernel_rfl))
  t3 := Tryd.underlying3
  a3 := Tryd.isAgg3
  z3 := Tryd.sizeOf3
  v3 := Tryd.zeroValue3
  t4 := Tryd.underlying4
  a4 := Tryd.isAgg4
  z4 := Tryd.sizeOf4
  v4 := Tryd.zeroValue4
  t9 := Tryd.underlying9
  a9 := Tryd.isAgg9
  z9 := Tryd.sizeOf9
  v9 := Tryd.zeroValue9
  t24 := Tryd.underlying90
  a24 := Tryd.isAgg90
  z24 := Tryd.sizeOf90
  v24 := Tryd.zeroValue90 }

def lays104_ren : Go.Shelf.Ren := ⟨fun | 104 => 61 | 207 => 93 | 211 => 77 | n => n, fun | 3 => 3 | 4 => 4 | 9 => 9 | 24 => 90 | n => n, fun | n => n⟩
theorem lays104 : Go.Proofs.Lays.n104 Tryd.prog lays104_ren := {
  mixed := by kernel_rfl
  f104 := Tryd.func61.trans (congrArg some (by kernel_rfl))
  f207 := Tryd.func93.trans (congrArg some (by kernel_rfl))
  f211 := Tryd.func77.trans (congrArg some (by kernel_rfl))
  t3 := Tryd.underlying3
  a3 := Tryd.isAgg3
  z3 := Tryd.sizeOf3
  v3 := Tryd.zeroValue3
  t4 := Tryd.underlying4
  a4 := Tryd.isAgg4
  z4 := Tryd.sizeOf4
  v4 := Tryd.zeroValue4
  t9 := Tryd.underlying9
  a9 := Tryd.isAgg9
  z9 := Tryd.sizeOf9
  v9 := Tryd.zeroValue9
  t24 := Tryd.underlying90
  a24 := Tryd.isAgg90
  z24 := Tryd.sizeOf90
  v24 := Tryd.zeroValue90 }
theorem hasPrefix_any (s p : ByteArray) (w : World) : Calls Tryd.prog 42 #[.string s, .string p] w fun e w' => e = .returned (.bool (p.data.toList.isPrefixOf s.data.toList)) ∧ w' = w :=
  Any.strings_HasPrefix lays99 s p w
theorem trimPrefix_any (s p : ByteArray) (w : World) : Calls Tryd.prog 59 #[.string s, .string p] w fun e w' => e = .returned (.string (txt (Lib.trimPrefix s.data.toList p.data.toList))) ∧ w' = w :=
  Any.strings_TrimPrefix lays101 s p w
theorem cutPrefix_any (s p : ByteArray) (w : World) : Calls Tryd.prog 60 #[.string s, .string p] w fun e w' => e = .returned (.tuple #[.string (txt (Lib.trimPrefix s.data.toList p.data.toList)), .bool (Lib.hasPrefix s.data.toList p.data.toList)]) ∧ w' = w :=
  Any.strings_CutPrefix lays103 s p w
theorem cutSuffix_any (s p : ByteArray) (hs : s.size ≤ 9223372036854775807) (w : World) : Calls Tryd.prog 61 #[.string s, .string p] w fun e w' => e = .returned (.tuple #[.string (txt (Lib.trimSuffix s.data.toList p.data.toList)), .bool (Lib.hasSuffix s.data.toList p.data.toList)]) ∧ w' = w :=
  Any.strings_CutSuffix lays104 s p w hs

end Go.Proofs.YtldddecaeloohaaDoor
