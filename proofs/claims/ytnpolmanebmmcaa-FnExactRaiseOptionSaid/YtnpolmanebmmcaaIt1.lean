/- pairsIn: the iterator over the pairs of a list: its contract. -/
import Derived.RangeFuncNested
import Derived.RangeFuncBound
import Derived.RangeFuncCalls
import Derived.RangeFuncLeaves
import Derived.Shelf.Abstract
import Derived.Shelf.RegionOpen
import Derived.WalkKit
import Derived.OwnWalkIn
import Derived.TacticsInMore
import Derived.LoopNIn
import Derived.LoopIn
import Derived.Test.YtnpolmanebmmcaaKJ
namespace Go.Proofs.Ytnpolmanebmmcaa
open Go.RowKit Go.Shelf
set_option linter.unusedSimpArgs false
set_option linter.unusedVariables false
attribute [local go_sem] Oper.semAt_some
/-- The pairs that begin with element i. -/
def prR {β : Type} (d : β) (l : List β) (i : Nat) : List (β × β) := (l.drop (i + 1)).map fun y => (l.getD i d, y)
/-- The pairs that begin with one of the first i elements. -/
def prU {β : Type} (d : β) (l : List β) (i : Nat) : List (β × β) := (List.range i).flatMap (prR d l)
/-- All pairs of a list, the one that stands before first. -/
def prs {β : Type} (d : β) (l : List β) : List (β × β) := prU d l l.length
theorem prU_zero {β : Type} (d : β) (l : List β) : prU d l 0 = [] := rfl
theorem prU_succ {β : Type} (d : β) (l : List β) (i : Nat) : prU d l (i + 1) = prU d l i ++ prR d l i := by simp [prU, List.range_succ]
theorem prR_take {β : Type} (d : β) (l : List β) (i j : Nat) (h : i + 1 + j < l.length) : (prR d l i).take (j + 1) = (prR d l i).take j ++ [(l.getD i d, l.getD (i + 1 + j) d)] := by
  rw [List.take_add_one]
  congr 1
  simp [prR, List.getD, h]
theorem prU_mono {β : Type} (d : β) (l : List β) {i k : Nat} (h : i ≤ k) : prU d l i <+: prU d l k := by
  induction h with
  | refl => exact List.prefix_refl _
  | step _ ih => exact ih.trans (by rw [prU_succ]; exact List.prefix_append _ _)
theorem prs_pre {β : Type} (d : β) (l : List β) {i j : Nat} (h : i < l.length) : prU d l i ++ (prR d l i).take j <+: prs d l :=
  (List.prefix_append_right_inj _).2 (List.take_prefix _ _) |>.trans (by rw [← prU_succ]; exact prU_mono d l h)
theorem prR_len {β : Type} (d : β) (l : List β) (i : Nat) : (prR d l i).length = l.length - (i + 1) := by simp [prR]
/-- What a round keeps: what lies below n₀, and block B. -/
def Kb (n₀ B : Nat) (W W' : World) : Prop := Below n₀ W W' ∧ (B < W.heap.size → W'.heap[B]? = W.heap[B]?)
theorem Kb.refl (n₀ B : Nat) (W : World) : Kb n₀ B W W := ⟨Below.refl _ _, fun _ => rfl⟩
theorem Kb.trans {n₀ B : Nat} {X Y Z : World} (h : Kb n₀ B X Y) (k : Kb n₀ B Y Z) : Kb n₀ B X Z := ⟨h.1.trans k.1, fun q => (k.2 (Nat.lt_of_lt_of_le q h.1.size)).trans (h.2 q)⟩
theorem Kb.t {n₀ B : Nat} : ∀ {X Y Z : World}, Kb n₀ B X Y → Kb n₀ B Y Z → Kb n₀ B X Z := fun h k => h.trans k
theorem Kb.b {n₀ B : Nat} {w : World} (hn : n₀ ≤ w.heap.size) (hB : B < w.heap.size) (W : World) (l : Nat) (o o' : Obj) (hl : w.heap.size ≤ l) (h : W.heap[l]? = some o) (h1 : o.isCells = false) (h2 : o.isWalk = false) : Kb n₀ B W (W.putObj l o') :=
  ⟨belowK_b hn W l o o' hl h h1 h2, fun _ => World.putObj_heap_other (by omega)⟩
theorem Kb.cell {n₀ B : Nat} {W W' : World} (h : Kb n₀ B W W') {v : Value} (hc : W.cell? ⟨B, 0, none⟩ = some v) : W'.cell? ⟨B, 0, none⟩ = some v :=
  (World.cell?_of_block (h.2 (World.block_lt_of_cell? _ _ hc))).trans hc
set_option maxRecDepth 100000 in
set_option maxHeartbeats 4000000 in
theorem pairs1_in (F : Fence) (n : Nat) (h80 : F.fn 72) (hro : F.round = none) (hn : 1 ≤ n) {β : Type} (e : β → Int) (d : β) (rl : List β) (hlen : rl.length ≤ 1048576) (l Bn n₀ c cap : Nat) (hcap : rl.length ≤ cap) (hcn : c < n₀) (J Jx : List (β × β) → World → Prop)
    (hY : ∀ pre x W, J pre W → pre.length < (prs d rl).length → YieldAt F (n - 1) Try.prog l #[.int .i64 (e x.1), .int .i64 (e x.2)] W fun r W' =>
      (r = .returned (.bool true) ∧ J (pre ++ [x]) W' ∧ Kb n₀ Bn W W') ∨ (r = .returned (.bool false) ∧ Jx (pre ++ [x]) W'))
    (W : World) (hBn : W.cell? ⟨Bn, 0, none⟩ = some (.slice (some ⟨c, 0, none⟩) rl.length cap)) (hL : ∀ k, k < rl.length → W.cell? ⟨c, k, none⟩ = some (.int .i64 (e (rl.getD k d)))) (h0 : J [] W) :
    CallsIn F n Try.prog 72 #[.func (.yield l) #[] #[], .pointer (some ⟨Bn, 0, none⟩)] W fun r W' => (∃ v, r = .returned v) ∧
      ((∃ ys, ys = prs d rl ∧ J ys W') ∨ (∃ pre, pre <+: prs d rl ∧ Jx pre W')) := by
  refine callsIn_of_wp Try.func72 rfl h80 ?_ hro
  simp only [Try.ntmps72, List.size_toArray, List.length_cons, List.length_nil, Nat.reduceAdd, Nat.reduceSub, Array.replicate_succ, Array.replicate_zero, List.push_toArray, List.append_toArray, List.nil_append, List.cons_append]
  have hBlt := World.block_lt_of_cell? _ _ hBn
  gi_wp2
  gi_loopw [9] (fun i wr => ∃ k : Nat, k ≤ rl.length ∧ i = .int .i64 k ∧ J (prU d rl k) wr ∧ Kb n₀ Bn W wr)
    (fun i _ => rl.length - (intOf i).toNat)
  case atStart => exact ⟨0, Nat.zero_le _, rfl, h0, Kb.refl _ _ _⟩
  case round =>
    obtain ⟨k, hk, rfl, hJs, hnx⟩ := hrel
    by_cases hlt : k < rl.length
    · have hcx : wr.cell? ⟨c, k, none⟩ = some (.int .i64 (e (rl.getD k d))) := (hnx.1.cell (p := ⟨c, k, none⟩) hcn).trans (hL k hlt)
      have hbx := hnx.cell hBn
      obtain ⟨x, hx⟩ : ∃ x, rl.getD k d = x := ⟨_, rfl⟩
      rw [hx] at hcx
      by_cases hc1 : cap = k + 1
      · subst hc1
        have hkl : rl.length = k + 1 := by omega
        have hnil : prR d rl k = [] := List.eq_nil_of_length_eq_zero (by rw [prR_len]; omega)
        gi_wp2
        gi_loopw [19] (fun i wr => i = .int .i64 0 ∧ J (prU d rl k) wr ∧ Kb n₀ Bn W wr) (fun _ _ => 0)
        case atStart => exact ⟨rfl, hJs, hnx⟩
        case round =>
          obtain ⟨rfl, hJs, hnx⟩ := hrel
          have hz : rl.length - (k + 1) = 0 := by omega
          gi_wp2
          go_roundw
          case rel => exact ⟨k + 1, by omega, by simp, by rw [prU_succ, hnil, List.append_nil]; exact hJs, hnx⟩
          case measure => simp [intOf]; omega
      · gi_wp2
        gi_loopw [19] (fun i wr => ∃ j : Nat, j ≤ rl.length - (k + 1) ∧ i = .int .i64 j ∧ J (prU d rl k ++ (prR d rl k).take j) wr ∧ Kb n₀ Bn W wr)
          (fun i _ => rl.length - (k + 1) - (intOf i).toNat)
        case atStart => exact ⟨0, Nat.zero_le _, rfl, by simpa using hJs, hnx⟩
        case round =>
          clear hJs hnx hcx hbx
          obtain ⟨j, hj, rfl, hJs, hnx⟩ := hrel
          by_cases hjl : j < rl.length - (k + 1)
          · have hcx : wr.cell? ⟨c, k + 1 + j, none⟩ = some (.int .i64 (e (rl.getD (k + 1 + j) d))) := (hnx.1.cell (p := ⟨c, k + 1 + j, none⟩) hcn).trans (hL (k + 1 + j) (by omega))
            have hpre := prs_pre d rl (i := k) (j := j + 1) hlt
            have hplen : (prU d rl k ++ (prR d rl k).take j).length < (prs d rl).length := by
              have h1 := hpre.length_le
              have h2 := prR_len d rl k
              simp only [List.length_append, List.length_take] at h1 ⊢
              omega
            have htk := prR_take d rl k j (by omega)
            rw [hx] at htk
            obtain ⟨y, hy⟩ : ∃ y, rl.getD (k + 1 + j) d = y := ⟨_, rfl⟩
            rw [hy] at hcx htk
            have hsn : prU d rl k ++ (prR d rl k).take (j + 1) = prU d rl k ++ (prR d rl k).take j ++ [(x, y)] := by rw [htk, List.append_assoc]
            obtain ⟨fn, tmps, assign, body, hy, hR⟩ := hY _ (x, y) wr hJs hplen
            dsimp only at hy
            rw [hsn] at hpre
            have HP := Lib.hid hpre
            clear hplen htk hpre
            gi_wp2
            refine hR.mono ?_
            rintro r W3 (⟨rfl, hJ3, hk3⟩ | ⟨rfl, hJx3⟩)
            · gi_wp2
              go_roundw
              case rel => exact ⟨j + 1, by omega, by simp, by rw [hsn]; exact hJ3, hnx.trans hk3⟩
              case measure => simp [intOf]; omega
            · gi_wp2
              refine bodyPost_ret (results_none rfl _ _ _) rfl ?_
              exact ⟨⟨_, rfl⟩, .inr ⟨_, HP.out, hJx3⟩⟩
          · obtain rfl : j = rl.length - (k + 1) := by omega
            have hfull : prU d rl k ++ (prR d rl k).take (rl.length - (k + 1)) = prU d rl (k + 1) := by rw [prU_succ, List.take_of_length_le (by rw [prR_len]; omega)]
            rw [hfull] at hJs
            gi_wp2
            go_roundw
            case rel => exact ⟨k + 1, by omega, by simp, hJs, hnx⟩
            case measure => simp [intOf]; omega
    · obtain rfl : k = rl.length := by omega
      gi_wp2
      go_end0
      exact ⟨⟨_, rfl⟩, .inl ⟨_, rfl, hJs⟩⟩
end Go.Proofs.Ytnpolmanebmmcaa
