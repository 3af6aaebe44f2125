/- Decimals by contracts. -/
import Derived.Test.YtlpidgdlbannbabDoorVb
import Derived.Test.YtlpidgdlbannbabDoorShelf
import Derived.Lib.ItoaNum
import Derived.Laws.IdiomStrings
namespace Go.Proofs.YtlpidgdlbannbabDoor
open Go.ChangeShapes Go.WideShapes Go.ChangeAt Go.RowKit
/-- The digits of k, none for 0. -/
def digs (k : Nat) : List UInt8 := if k = 0 then [] else Lib.decDigits k
def dgt (k : Nat) : UInt8 := UInt8.ofNat (48 + k % 10)
theorem dgt_nat (k : Nat) : (dgt k).toNat = 48 + k % 10 := by
  unfold dgt
  rw [UInt8.toNat_ofNat']
  omega
theorem digs_step {k : Nat} (h : 0 < k) : digs k = digs (k / 10) ++ [dgt k] := by
  unfold digs dgt
  rw [if_neg (by omega)]
  by_cases h9 : k < 10
  · rw [Lib.decDigits, dif_pos h9, if_pos (by omega), Nat.mod_eq_of_lt h9]; rfl
  · rw [Lib.decDigits, dif_neg h9, if_neg (by omega)]
theorem digs_pos {k : Nat} (h : 0 < k) : digs k = Lib.decDigits k := by unfold digs; rw [if_neg (by omega)]
theorem digs_len : ∀ (e k : Nat), k < 10 ^ e → (digs k).length ≤ e := by
  intro e
  induction e with
  | zero =>
    intro k h
    have : k = 0 := by simpa using h
    subst this; simp [digs]
  | succ e ih =>
    intro k h
    by_cases hk : 0 < k
    · rw [digs_step hk]
      have := ih (k / 10) (by rw [Nat.pow_succ] at h; omega)
      simp; omega
    · have : k = 0 := by omega
      subst this; simp [digs]
theorem digs_len20 {n : Int} (h : -9223372036854775808 ≤ -(n.natAbs : Int)) : (digs n.natAbs).length ≤ 20 := by
  apply digs_len
  have e : (10 : Nat) ^ 20 = 100000000000000000000 := by decide
  rw [e]
  omega
def strOf (l : List UInt8) : Value := .string ⟨l.toArray⟩
theorem neg_rem {z : Int} (h : z ≤ 0) : z.tmod 10 = -((z.natAbs % 10 : Nat) : Int) := by
  obtain ⟨k, rfl⟩ : ∃ k : Nat, z = -(k : Int) := ⟨z.natAbs, by omega⟩
  rw [Int.neg_tmod, Int.natAbs_neg, Int.natAbs_natCast]; rfl
theorem neg_quo {z : Int} (h : z ≤ 0) : z.tdiv 10 = -((z.natAbs / 10 : Nat) : Int) := by
  obtain ⟨k, rfl⟩ : ∃ k : Nat, z = -(k : Int) := ⟨z.natAbs, by omega⟩
  rw [Int.neg_tdiv, Int.natAbs_neg, Int.natAbs_natCast]; rfl
def decBound (z : Int) : Prop := -9223372036854775808 ≤ z
theorem conv1 (W : World) (z : Int) (h : z ≤ 0) : Sem.run Tryd.prog (Go.convert 52 9 (.slice (some ⟨W.heap.size, 0, none⟩) 1 1)) (W.alloc (.cells #[.int .u8 (48 - z.tmod 10)] 5)) = .ok (strOf [dgt z.natAbs]) (W.alloc (.cells #[.int .u8 (48 - z.tmod 10)] 5)) := by
  have e : (48 - z.tmod 10 : Int) = ((dgt z.natAbs).toNat : Int) := by rw [neg_rem h, dgt_nat]; omega
  rw [e]
  refine run_convert_bytes_back (P := Tryd.prog) _ _ _ 5 _ _ [dgt z.natAbs] Tryd.underlying52 Tryd.underlying5 Tryd.underlying9 ?_
  intro j hj
  obtain rfl : j = 0 := by simpa using hj
  show (World.alloc W _).cell? ⟨W.heap.size, 0, none⟩ = _
  simp
theorem itoa_zero : Lib.itoa 0 = [48] := by
  unfold Lib.itoa
  rw [if_neg (by omega), Lib.decDigits, dif_pos (by decide)]
  rfl
theorem itoa_neg {n : Int} (h : n < 0) (l : List UInt8) (hl : digs n.natAbs = digs (0 : Int).natAbs ++ l) : Lib.itoa n = 45 :: l := by
  unfold Lib.itoa
  rw [if_pos h, ← digs_pos (by omega), hl]
  simp [digs]
theorem itoa_pos {n : Int} (h : 0 < n) (l : List UInt8) (hl : digs n.natAbs = digs (0 : Int).natAbs ++ l) : Lib.itoa n = l := by
  unfold Lib.itoa
  rw [if_neg (by omega), show n.toNat = n.natAbs by omega, ← digs_pos (by omega), hl]
  simp [digs]
theorem str_app (a b : List UInt8) : (⟨a.toArray⟩ : ByteArray) ++ ⟨b.toArray⟩ = ⟨(a ++ b).toArray⟩ := by
  apply ByteArray.ext
  simp [ByteArray.data_append]
set_option maxHeartbeats 1000000 in
theorem sdec (n : Int) (w : World) (h1 : -9223372036854775808 ≤ n) (h2 : n ≤ 9223372036854775807) :
    Calls Tryd.prog 20 #[.int .i64 n] w fun e w' => e = .returned (strOf (Lib.itoa n)) ∧ Below w.heap.size w w' := by
  by_cases h0 : n = 0
  · subst h0
    rw [itoa_zero]
    clear h1 h2
    go_enter Tryd.func20, Tryd.ntmps20
    go_wp2
    go_ret
    exact ⟨rfl, Below.refl _ _⟩
  · have c1 : (n == 0) = false := by simp [h0]
    have hz : -9223372036854775808 ≤ -(n.natAbs : Int) := by omega
    rcases (show n < 0 ∨ 0 < n by omega) with hn | hn
    all_goals
      have W1 : Hid (wrap64 (-n) = -n ∨ n < 0) := by
        show _ ∨ _
        first
          | exact .inr hn
          | exact .inl (by unfold wrap64; omega)
      have HZ : Hid (decBound (-(n.natAbs : Int))) := hz
      have HL := Lib.hid (digs_len20 hz)
      clear h1 h2 hz h0
      go_enter Tryd.func20, Tryd.ntmps20
      go_wp2
      go_loopw [3, 4] (fun m o wr => ∃ (z : Int) (l : List UInt8), z ≤ 0 ∧ Hid (decBound z) ∧ m = .int .i64 z ∧ o = strOf l ∧ Hid (digs n.natAbs = digs z.natAbs ++ l) ∧ Below w.heap.size w wr) (fun m _ _ => (intOf m).natAbs)
      case atStart =>
        refine ⟨_, [], ?_, ?_, rfl, rfl, ?_, Below.refl _ _⟩
        · first
            | omega
            | (rcases W1.out with e | e
               · rw [e]; omega
               · omega)
        · have hz := HZ.out
          show _ ≤ _
          have hz' : -9223372036854775808 ≤ -(n.natAbs : Int) := hz
          first
            | omega
            | (rcases W1.out with e | e
               · rw [e]; omega
               · omega)
        · show _ = _
          first
            | (rcases W1.out with e | e
               · rw [e]; simp
               · omega)
            | simp
      case round =>
        obtain ⟨z, l, z0, z1, rfl, rfl, H, hb⟩ := hrel
        have l1 : l.length ≤ 40 := by
          have hh := congrArg List.length H.out
          have hl := HL.out
          rw [List.length_append] at hh
          omega
        have r1 : -9 ≤ z.tmod 10 ∧ z.tmod 10 ≤ 0 := by rw [neg_rem z0]; omega
        have r2 : -4000000000000000000 ≤ z.tdiv 10 ∧ z.tdiv 10 ≤ 0 := by have k2 : -9223372036854775808 ≤ z := z1.out; rw [neg_quo z0]; omega
        have q := neg_quo z0
        have Q := Lib.hid q
        clear q
        have hcv := conv1 wr z z0
        unfold strOf at hcv
        by_cases hk : z < 0
        · have H2 : Hid (digs n.natAbs = digs (z.tdiv 10).natAbs ++ ([dgt z.natAbs] ++ l)) := by
            show _ = _
            have qn : (z.tdiv 10).natAbs = z.natAbs / 10 := by rw [Q.out]; omega
            rw [H.out, digs_step (k := z.natAbs) (by omega), qn]
            simp
          have Z2 : Hid (decBound (z.tdiv 10)) := by show _ ≤ _; omega
          have M : Hid ((z.tdiv 10).natAbs < z.natAbs) := by show _ < _; rw [Q.out]; omega
          unfold strOf
          go_wp2
          refine ⟨⟨z.tdiv 10, [dgt z.natAbs] ++ l, r2.2, Z2, rfl, ?_, H2, ?_⟩, ?_⟩
          · rw [← str_app]
          · exact hb.alloc hb.size _
          · simpa [intOf] using M.out
        · obtain rfl : z = 0 := by omega
          unfold strOf
          have H3 : Hid (Lib.itoa n = (if n < 0 then [45] else []) ++ l) := by
            show _ = _
            first
              | (rw [if_pos hn]; exact itoa_neg hn l H.out)
              | (rw [if_neg (by omega)]; exact itoa_pos hn l H.out)
          clear hcv r1 r2 Q
          go_wp2
          go_ret
          refine ⟨?_, hb⟩
          rw [H3.out]
          unfold strOf
          first
            | (rw [if_pos hn, ← str_app]; rfl)
            | (rw [if_neg (by omega)]; rfl)
end Go.Proofs.YtlpidgdlbannbabDoor
