/- The marks of texts: markText by its contract. -/
import Derived.Test.YtkaakomiimcbmaaDoorK2v
import Derived.Lib.ItoaNum
import Derived.Laws.IdiomStrings
namespace Go.Proofs.YtkaakomiimcbmaaDoor
open Go.ChangeShapes Go.WideShapes Go.ChangeAt Go.RowKit Go.Deep
set_option linter.unusedSimpArgs false
set_option linter.unusedVariables false
/-- The digits of k, none for 0. -/
def mdg (k : Nat) : List UInt8 := if k = 0 then [] else Lib.decDigits k
def mdt (k : Nat) : UInt8 := UInt8.ofNat (48 + k % 10)
theorem mdt_nat (k : Nat) : (mdt k).toNat = 48 + k % 10 := by
  unfold mdt
  rw [UInt8.toNat_ofNat']
  omega
theorem mdg_step {k : Nat} (h : 0 < k) : mdg k = mdg (k / 10) ++ [mdt k] := by
  unfold mdg mdt
  rw [if_neg (by omega)]
  by_cases h9 : k < 10
  · rw [Lib.decDigits, dif_pos h9, if_pos (by omega), Nat.mod_eq_of_lt h9]; rfl
  · rw [Lib.decDigits, dif_neg h9, if_neg (by omega)]
theorem mdg_len : ∀ (e k : Nat), k < 10 ^ e → (mdg k).length ≤ e := by
  intro e
  induction e with
  | zero =>
    intro k h
    have : k = 0 := by simpa using h
    subst this; simp [mdg]
  | succ e ih =>
    intro k h
    by_cases hk : 0 < k
    · rw [mdg_step hk]
      have := ih (k / 10) (by rw [Nat.pow_succ] at h; omega)
      simp; omega
    · have : k = 0 := by omega
      subst this; simp [mdg]
def mbt (l : List UInt8) : ByteArray := ⟨l.toArray⟩
theorem mbt_app (a b : List UInt8) : mbt a ++ mbt b = mbt (a ++ b) := by
  apply ByteArray.ext
  simp [mbt, ByteArray.data_append]
/-- The text of the mark k. -/
def mtx (k : Int) : ByteArray := if k ≤ 0 then mbt [109, 48] else mbt (109 :: mdg k.toNat)
theorem mtx_conv (W : World) (j : Nat) : Sem.run Tryd.prog (Go.convert 96 9 (.slice (some ⟨W.heap.size, 0, none⟩) 1 1)) (W.alloc (.cells #[.int .u8 (48 + (j : Int) % 10)] 5)) = .ok (.string (mbt [mdt j])) (W.alloc (.cells #[.int .u8 (48 + (j : Int) % 10)] 5)) := by
  have e : (48 + (j : Int) % 10 : Int) = ((mdt j).toNat : Int) := by rw [mdt_nat]; omega
  rw [e]
  refine run_convert_bytes_back (P := Tryd.prog) _ _ _ 5 _ _ [mdt j] Tryd.underlying96 Tryd.underlying5 Tryd.underlying9 ?_
  intro i hi
  obtain rfl : i = 0 := by simpa using hi
  show (World.alloc W _).cell? ⟨W.heap.size, 0, none⟩ = _
  simp
set_option maxHeartbeats 1000000 in
set_option maxRecDepth 100000 in
theorem mtext (k : Int) (w : World) (h2 : k ≤ 8000000000000) :
    Calls Tryd.prog 44 #[.int .i64 k] w fun e w' => e = .returned (.string (mtx k)) ∧ Below w.heap.size w w' := by
  by_cases h0 : k ≤ 0
  · have e : mtx k = mbt [109, 48] := by unfold mtx; rw [if_pos h0]
    rw [e]
    go_enter Tryd.func44, Tryd.ntmps44
    go_wp2
    go_ret
    exact ⟨rfl, Below.refl _ _⟩
  · obtain ⟨n, rfl⟩ : ∃ n : Nat, k = n := ⟨k.toNat, by omega⟩
    have e : mtx (n : Int) = mbt (109 :: mdg n) := by unfold mtx; rw [if_neg h0]; rfl
    rw [e]
    have HL := Lib.hid (mdg_len 13 n (by omega))
    clear e
    go_enter Tryd.func44, Tryd.ntmps44
    go_wp2
    go_loopg [0, 3] n (fun g m o wr => ∃ (j : Nat) (l : List UInt8), g = j ∧ j ≤ n ∧ m = .int .i64 j ∧ o = .string (mbt l) ∧ Hid (mdg n = mdg j ++ l) ∧ Below w.heap.size w wr)
    case atStart => exact ⟨n, [], rfl, Nat.le_refl _, rfl, rfl, Lib.hid (by simp), Below.refl _ _⟩
    case round =>
      obtain ⟨j, l, hg, hj, rfl, rfl, H, hb⟩ := hrel
      have hg := hg.symm
      subst hg
      have l1 : l.length ≤ 40 := by
        have hh := congrArg List.length H.out
        have hl := HL.out
        rw [List.length_append] at hh
        omega
      by_cases h0 : 0 < j
      · have hcv := mtx_conv wr j
        have r1 : 0 ≤ (j : Int) % 10 ∧ (j : Int) % 10 ≤ 9 := by omega
        have r2 : 0 ≤ (j : Int) / 10 ∧ (j : Int) / 10 ≤ 8000000000000 := by omega
        have Q : Hid (((j / 10 : Nat) : Int) = (j : Int) / 10) := Lib.hid (by omega)
        have H2 : Hid (mdg n = mdg (j / 10) ++ ([mdt j] ++ l)) := by
          show _ = _
          rw [H.out, mdg_step h0]
          simp
        unfold mbt at hcv ⊢
        go_wp2
        go_roundg (j / 10)
        case measure => omega
        case rel => exact ⟨j / 10, [mdt j] ++ l, rfl, by omega, by rw [Q.out], by rw [← mbt_app]; rfl, H2, hb.alloc hb.size _⟩
      · obtain rfl : j = 0 := by omega
        have H3 : Hid (mbt (109 :: mdg n) = mbt [109] ++ mbt l) := by
          show _ = _
          rw [mbt_app, H.out]
          rfl
        unfold mbt
        go_wp2
        go_ret
        refine ⟨?_, hb⟩
        rw [H3.out]
        rfl
end Go.Proofs.YtkaakomiimcbmaaDoor
