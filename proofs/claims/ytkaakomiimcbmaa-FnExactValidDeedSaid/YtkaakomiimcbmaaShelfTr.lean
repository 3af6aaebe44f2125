/- The library's contracts at this program. -/
import Derived.Shelf.Strings.Trim
import Derived.Shelf.Small.Utf8
import Derived.Shelf.Small.Strs
import Derived.Shelf.Strings.Search1
import Derived.Shelf.Unicode.Decode
import Derived.Shelf.Strings.Runes
import Derived.Shelf.Strings.AsciiSet
import Derived.Shelf.Unicode.DecodeSlow
import Derived.Shelf.Unicode.DecodeAny
import Derived.Shelf.Unicode.DecodeLast
import Derived.Test.YtkaakomiimcbmaaProg
namespace Go.Proofs
open Go.Shelf
def Try.lays160_ren : Go.Shelf.Ren := ⟨fun | 160 => 69 | 232 => 71 | 231 => 70 | 227 => 72 | 234 => 74 | 233 => 73 | 236 => 76 | 235 => 75 | 228 => 77 | 271 => 80 | 151 => 79 | 197 => 78 | 120 => 83 | 152 => 82 | 260 => 81 | 137 => 84 | 119 => 85 | 224 => 86 | 225 => 87 | 217 => 88 | 266 => 89 | n => n, fun | 9 => 9 | 4 => 4 | 3 => 3 | 5 => 5 | 117 => 111 | 116 => 110 | 0 => 0 | 124 => 114 | 21 => 21 | 105 => 116 | 46 => 121 | 119 => 120 | 139 => 124 | 138 => 123 | n => n, fun | 3 => 0 | 4 => 1 | n => n⟩
theorem Try.lays160 : Go.Proofs.Lays.n160 Try.prog Try.lays160_ren := {
  mixed := by kernel_rfl
  f119 := Try.func85.trans (congrArg some (by kernel_rfl))
  f120 := Try.func83.trans (congrArg some (by kernel_rfl))
  f137 := Try.func84.trans (congrArg some (by kernel_rfl))
  f151 := Try.func79.trans (congrArg some (by kernel_rfl))
  f152 := Try.func82.trans (congrArg some (by kernel_rfl))
  f160 := Try.func69.trans (congrArg some (by kernel_rfl))
  f197 := Try.func78.trans (congrArg some (by kernel_rfl))
  f217 := Try.func88.trans (congrArg some (by kernel_rfl))
  f224 := Try.func86.trans (congrArg some (by kernel_rfl))
  f225 := Try.func87.trans (congrArg some (by kernel_rfl))
  f227 := Try.func72.trans (congrArg some (by kernel_rfl))
  f228 := Try.func77.trans (congrArg some (by kernel_rfl))
  f231 := Try.func70.trans (congrArg some (by kernel_rfl))
  f232 := Try.func71.trans (congrArg some (by kernel_rfl))
  f233 := Try.func73.trans (congrArg some (by kernel_rfl))
  f234 := Try.func74.trans (congrArg some (by kernel_rfl))
  f235 := Try.func75.trans (congrArg some (by kernel_rfl))
  f236 := Try.func76.trans (congrArg some (by kernel_rfl))
  f260 := Try.func81.trans (congrArg some (by kernel_rfl))
  f266 := Try.func89.trans (congrArg some (by kernel_rfl))
  f271 := Try.func80.trans (congrArg some (by kernel_rfl))
  t0 := Try.underlying0
  a0 := Try.isAgg0
  z0 := Try.sizeOf0
  v0 := Try.zeroValue0
  t3 := Try.underlying3
  a3 := Try.isAgg3
  z3 := Try.sizeOf3
  v3 := Try.zeroValue3
  t4 := Try.underlying4
  a4 := Try.isAgg4
  z4 := Try.sizeOf4
  v4 := Try.zeroValue4
  t5 := Try.underlying5
  a5 := Try.isAgg5
  z5 := Try.sizeOf5
  v5 := Try.zeroValue5
  t9 := Try.underlying9
  a9 := Try.isAgg9
  z9 := Try.sizeOf9
  v9 := Try.zeroValue9
  t21 := Try.underlying21
  a21 := Try.isAgg21
  z21 := Try.sizeOf21
  v21 := Try.zeroValue21
  t46 := Try.underlying121
  a46 := Try.isAgg121
  z46 := Try.sizeOf121
  v46 := Try.zeroValue121
  t105 := Try.underlying116
  a105 := Try.isAgg116
  z105 := Try.sizeOf116
  v105 := Try.zeroValue116
  t116 := Try.underlying110
  a116 := Try.isAgg110
  z116 := Try.sizeOf110
  t117 := Try.underlying111
  a117 := Try.isAgg111
  z117 := Try.sizeOf111
  v117 := Try.zeroValue111
  t119 := Try.underlying120
  a119 := Try.isAgg120
  z119 := Try.sizeOf120
  t124 := Try.underlying114
  a124 := Try.isAgg114
  z124 := Try.sizeOf114
  v124 := Try.zeroValue114
  t138 := Try.underlying123
  a138 := Try.isAgg123
  z138 := Try.sizeOf123
  v138 := Try.zeroValue123
  t139 := Try.underlying124
  a139 := Try.isAgg124
  z139 := Try.sizeOf124
  v139 := Try.zeroValue124
  g3 := by kernel_rfl
  g4 := by kernel_rfl }
open Go.RowKit in
theorem Try.strings_Trim_one (s : ByteArray) (c : UInt8) (hc : c.toNat < 128) (w : World) (hs : s.size ≤ 9223372036854775807) :
    Calls Try.prog 69 #[.string s, .string ⟨#[c]⟩] w fun e w' => e = .returned (.string ⟨(Lib.trimB s.data.toList c).toArray⟩) ∧ (w' = w ∨ w' = w.drew) := Any.strings_Trim_one Try.lays160 s c hc w hs
end Go.Proofs
