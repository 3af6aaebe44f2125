/- The texts of numbers, joined: textOfEach at numbers. -/
import Derived.Test.YtikgaaaehoekaaaDoorDecI
import Derived.Test.YtikgaaaehoekaaaDoorShelf
import Derived.Test.YtikgaaaehoekaaaDoorTx0
import Derived.Test.YtikgaaaehoekaaaDoorK1
namespace Go.Proofs.YtikgaaaehoekaaaDoor
open Go.ChangeShapes Go.WideShapes Go.ChangeAt Go.RowKit Go.Deep
set_option linter.unusedSimpArgs false
set_option linter.unusedVariables false
theorem dec_len9 (k : Nat) : ∀ e, k < 10 ^ e → 0 < e → (Lib.decDigits k).length ≤ e := by
  intro e h he
  by_cases hk : 0 < k
  · rw [← digs_pos hk]; exact digs_len e k h
  · have : k = 0 := by omega
    subst this
    rw [Lib.decDigits, dif_pos (by decide)]
    simp; omega
theorem itoa_len9 {n : Int} (h1 : -1000000000 ≤ n) (h2 : n ≤ 1000000000) : (Lib.itoa n).length ≤ 11 := by
  unfold Lib.itoa
  split
  · have := dec_len9 n.natAbs 10 (by omega) (by omega)
    simp; omega
  · have := dec_len9 n.toNat 10 (by omega) (by omega)
    omega
set_option maxRecDepth 100000 in
theorem infoStr : (Tryd.prog.info? 9).map (fun i => (i.zero, i.size, i.bytes)) = some (some (.string ⟨#[]⟩), 1, 16) := by kernel_rfl
/-- The first k words of n lie in a row. -/
def wrd (T : Nat → List UInt8) (k : Nat) : Nat → Value := fun j => if j < k then strOf (T j) else .string ⟨#[]⟩
theorem wrd_step (T : Nat → List UInt8) (k j : Nat) : (if j = k then strOf (T k) else wrd T k j) = wrd T (k + 1) j := by
  unfold wrd
  by_cases e : j = k
  · subst e; simp
  · rw [if_neg e]
    by_cases h : j < k
    · rw [if_pos h, if_pos (by omega)]
    · rw [if_neg h, if_neg (by omega)]
def bytesOf (l : List UInt8) : ByteArray := ⟨l.toArray⟩
theorem dec_val (n : Int) (w : World) (h1 : -1000000000 ≤ n) (h2 : n ≤ 1000000000) (hp : PowT w) :
    Calls Tryd.prog 29 #[.int .i64 n] w fun e w' => e = .returned (strOf (Lib.itoa n)) ∧ Below w.heap.size w w' := idec n w (by omega) (by omega) hp
end Go.Proofs.YtikgaaaehoekaaaDoor
