/- Decimals of the program by contracts, and the law on Decimal, walked. -/
import Derived.Test.YtoppbeojmkbmcaaDoorDec
import Derived.Lib.LaidTab
import Derived.Lib.AppendIntMem
import Derived.WalkSmall
namespace Go.Proofs.YtoppbeojmkbmcaaDoor
open Go.ChangeShapes Go.WideShapes Go.ChangeAt Go.RowKit
/-- The library's table of powers of ten is laid. -/
def PowT (w : World) : Prop := Lib.TabIs Tryd.prog w "internal/strconv.uint64pow10" .u64 Lib.pow10Tab
theorem powG : Tryd.prog.globalNamed "internal/strconv.uint64pow10" = some 1 := by kernel_rfl
theorem PowT.lt {w : World} (h : PowT w) : 1 < w.heap.size := by
  have c := Lib.TabIs.cell h powG 0 (by rw [Lib.pow10Tab_length]; omega)
  exact World.block_lt_of_cell? w _ c
theorem PowT.below {w w' : World} (h : PowT w) (hb : Below w.heap.size w w') : PowT w' := var?_below hb powG h.lt h
theorem fmt_any (n : Int) (w : World) (h1 : -9223372036854775808 ≤ n) (h2 : n ≤ 9223372036854775807) (hp : PowT w) :
    Calls Tryd.prog 45 #[.int .i64 n, .int .i64 10] w fun e w' => e = .returned (strOf (Lib.itoa n)) ∧ Below w.heap.size w w' := by
  have HC := Lib.hid (Tryd.internal_strconv_FormatInt_10 n h1 h2 w hp)
  clear h1 h2 hp
  go_enter Tryd.func45, Tryd.ntmps45
  go_wp2_with fail
  refine HC.out.mono ?_
  rintro e w' ⟨rfl, k, os, rfl⟩
  have b := Lib.below_grow w.heap.size w (Nat.le_refl _) k os
  go_wp2
  go_ret
  exact ⟨rfl, b⟩
theorem idec (n : Int) (w : World) (h1 : -9223372036854775808 ≤ n) (h2 : n ≤ 9223372036854775807) (hp : PowT w) :
    Calls Tryd.prog 16 #[.int .i64 n] w fun e w' => e = .returned (strOf (Lib.itoa n)) ∧ Below w.heap.size w w' := by
  have HC := Lib.hid (fmt_any n w h1 h2 hp)
  clear h1 h2 hp
  go_enter Tryd.func16, Tryd.ntmps16
  go_wp2_with fail
  refine HC.out.mono ?_
  rintro e w' ⟨rfl, b⟩
  go_wp2
  go_ret
  exact ⟨rfl, b⟩
theorem lawDecimal (n : Int) (w : World) (hw : (Lit.int .i64 n).wf = true) (hp : PowT w) :
    Calls Tryd.prog 3 #[.int .i64 n] w fun e w' => e = .returned (.bool true) ∧ Below w.heap.size w w' := by
  have hbd : -9223372036854775808 ≤ n ∧ n ≤ 9223372036854775807 := by simpa [Lit.wf, IntKind.min, IntKind.max, IntKind.signed, IntKind.bits] using hw
  obtain ⟨h1, h2⟩ := hbd
  have HS := Lib.hid (sdec n w h1 h2)
  have HI := Lib.hid (fun w => idec n w h1 h2)
  have HP := Lib.hid hp
  clear h1 h2 hp hw
  unfold strOf at HS HI
  generalize (⟨(Lib.itoa n).toArray⟩ : ByteArray) = s at HS HI
  go_enter Tryd.func3, Tryd.ntmps3
  go_wp2_with fail
  go_in
  go_wp2_with fail
  refine HS.out.mono ?_
  rintro e w1 ⟨rfl, b1⟩
  go_wp2_with fail
  refine (HI.out _ (HP.out.below b1)).mono ?_
  rintro e w2 ⟨rfl, b2⟩
  go_wp2
  go_ret
  exact ⟨rfl, b1.trans (b2.mono b1.size)⟩
end Go.Proofs.YtoppbeojmkbmcaaDoor
