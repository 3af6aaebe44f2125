/- The program's graph: setOf. -/
import Derived.Test.YthffhllkfadejaaGr5
namespace Go.Proofs.Ythffhllkfadejaa
open Go.ChangeShapes Go.WideShapes Go.ChangeAt Go.RowKit Go.Deep Go.Maps
set_option linter.unusedSimpArgs false
set_option linter.unusedVariables false
theorem setof_no (n m : Nat) (v : Value) (l : List Int) (w : World) (hv : RowV w v l) (hl : l.length ≤ 1048576) (hn : n ≤ 10) (hr : risB l 0 ((n : Int) - 1) = false) :
    Calls Try.prog 31 #[.agg #[.int .i64 (n : Int), .map (some m)], v] w fun e w' => Panics e ∧ Below w.heap.size w w' := by
  have b0 := (Below.refl w.heap.size w).alloc (Nat.le_refl _) (.cells #[.int .i64 (n : Int), .map (some m)] 42)
  have HI := isetb v l (n : Int) _ (hv.below b0) (by omega)
  rw [hr] at HI
  clear hv
  go_enter Try.func31, Try.ntmps31
  go_wp2_with fail
  refine HI.mono ?_
  rintro e w1 ⟨rfl, rfl⟩
  go_wp2_with fail
  refine (req_no _).mono ?_
  rintro e w1 ⟨rfl, rfl⟩
  go_wp2
  exact ⟨rfl, ⟨_, _, rfl⟩, b0⟩
theorem ris_mem {l : List Int} {n : Nat} (h : ris l 0 ((n : Int) - 1)) : ∀ x ∈ l, 0 ≤ x ∧ x < (n : Int) := by
  intro x hx
  obtain ⟨k, hk, e⟩ := List.getElem_of_mem hx
  have := h k hk
  unfold ris1 at this
  have eg : l.getD k 0 = l[k] := by simp [List.getD, hk]
  rw [eg, e] at this
  omega
theorem setL_take (l : List Int) (k : Nat) (hk : k < l.length) : setL (l.take (k + 1)) = setL (l.take k) ||| 2 ^ (l.getD k 0).toNat := by
  have e : l.take (k + 1) = l.take k ++ [l.getD k 0] := by
    rw [List.take_succ_eq_append_getElem hk]
    simp [List.getD, hk]
  rw [e, setL_snoc]
set_option maxHeartbeats 1000000 in
set_option maxRecDepth 100000 in
theorem setof_yes (n m : Nat) (v : Value) (l : List Int) (w : World) (hv : RowV w v l) (hl : l.length ≤ 1048576) (hn : n ≤ 10) (hr : risB l 0 ((n : Int) - 1) = true) :
    Calls Try.prog 31 #[.agg #[.int .i64 (n : Int), .map (some m)], v] w fun e w' => e = .returned (.int .u16 (setL l : Int)) ∧ Below w.heap.size w w' := by
  have b0 := (Below.refl w.heap.size w).alloc (Nat.le_refl _) (.cells #[.int .i64 (n : Int), .map (some m)] 42)
  have HI := isetb v l (n : Int) _ (hv.below b0) (by omega)
  rw [hr] at HI
  have HM := Lib.hid (ris_mem (risB_iff.1 hr))
  clear hr
  by_cases e : l = []
  · subst e
    obtain ⟨a, cap, rfl⟩ := hv.shape
    clear hv
    go_enter Try.func31, Try.ntmps31
    go_wp2_with fail
    refine HI.mono ?_
    rintro e w1 ⟨rfl, rfl⟩
    go_wp2_with fail
    refine (req_yes _).mono ?_
    rintro e w1 ⟨rfl, rfl⟩
    go_wp2
    go_loopg [5, 15] 0 (fun g s i wr => s = .int .u16 0 ∧ i = .int .i64 0 ∧ Below w.heap.size w wr)
    case atStart => exact ⟨rfl, rfl, b0⟩
    case round =>
      obtain ⟨rfl, rfl, hb⟩ := hrel
      go_wp2
      go_ret
      exact ⟨rfl, hb⟩
  · obtain ⟨x, cap, rfl, hx, hc⟩ := hv.cons e
    have HC := Lib.hid hc
    clear hv hc
    go_enter Try.func31, Try.ntmps31
    go_wp2_with fail
    refine HI.mono ?_
    rintro e w1 ⟨rfl, rfl⟩
    go_wp2_with fail
    refine (req_yes _).mono ?_
    rintro e w1 ⟨rfl, rfl⟩
    go_wp2
    go_loopg [5, 15] l.length (fun g s i wr => ∃ k : Nat, k ≤ l.length ∧ g = l.length - k ∧ s = .int .u16 (setL (l.take k) : Int) ∧ i = .int .i64 (k : Int) ∧ Below w.heap.size w wr)
    case atStart => exact ⟨0, Nat.zero_le _, rfl, rfl, rfl, b0⟩
    case round =>
      clear b0 HI
      obtain ⟨k, hk, rfl, rfl, rfl, hb⟩ := hrel
      by_cases hlt : k < l.length
      · have c1 := (hb.cell (p := x.add k) (by rw [block_add]; exact hx)).trans (HC.out k hlt)
        have hs := setL_take l k hlt
        have hm := HM.out (l.getD k 0) (by have eg : l.getD k 0 = l[k] := by simp [List.getD, hlt]
                                           rw [eg]; exact List.getElem_mem hlt)
        have hsl : setL (l.take k) < 65536 := Nat.lt_of_lt_of_le (setL_lt (l.take k) n (fun y hy => HM.out y (List.mem_of_mem_take hy))) (Nat.le_trans (pow10 hn) (by decide))
        obtain ⟨y, hy⟩ : ∃ y, l.getD k 0 = y := ⟨_, rfl⟩
        rw [hy] at c1 hs hm
        have HW := fun w' => with_any (setL (l.take k)) y w' hsl hm.1 (by omega)
        rw [← hs] at HW
        clear hs hy hsl
        go_wp2_with fail
        refine (HW _).mono ?_
        rintro e w2 ⟨rfl, rfl⟩
        go_wp2
        go_roundg (l.length - (k + 1))
        case measure => omega
        case rel => exact ⟨k + 1, by omega, rfl, rfl, by simp, hb⟩
      · obtain rfl : k = l.length := by omega
        have e : l.take l.length = l := List.take_length
        rw [e]
        go_wp2
        go_ret
        exact ⟨rfl, hb⟩
end Go.Proofs.Ythffhllkfadejaa
