/- slices.Concat of one number and a list of two: walked. -/
import Derived.Test.YtjfkkmfbgmejbaaBk3
import Derived.Test.YtjfkkmfbgmejbaaShelfG
import Derived.Lib.SliceRun
namespace Go.Proofs.Ytjfkkmfbgmejbaa
open Go.ChangeShapes Go.WideShapes Go.ChangeAt Go.RowKit Go.Deep
set_option linter.unusedSimpArgs false
set_option linter.unusedVariables false
theorem grow9 (n : Nat) (w : World) (hn : n ≤ 4000000) (h0 : 0 < n) : Calls Try.prog 128 #[.slice none 0 0, .int .i64 (n : Int)] w fun e w' => (∃ v, e = .returned v ∧ w'.ownsRow w.heap.size 2 1 v 0 (([] : List Int).map (Value.int .i64))) ∧ Below w.heap.size w w' := by
  obtain ⟨i0, hi, hz0, hz1, hz2⟩ := info_parts infoI
  have h := Any8.slices_Grow_grow Try.laysGrow i0 (.int .i64 0) hi hz0 (by rw [hz1]; omega) none 0 0 n [] w (Nat.le_refl _) (by omega) (by rw [hz2]; omega) (by omega) (by simp) (fun _ => rfl) (fun a ha => by cases ha)
  refine h.mono fun e w' ⟨he, hw⟩ => ⟨⟨_, he, ?_⟩, ?_⟩
  · rw [hw]
    have hG1 := grownCap_ge w (0 + n) 0 (Try.laysGrow_ren.t 25)
    have hG2 := grownCap_le_maxLen w (0 + n) 0 (Try.laysGrow_ren.t 25) (by unfold maxLen; omega)
    refine World.ownsRow_made w.drew _ _ (Nat.le_refl _) hG2 ?_
    simp only [Nat.zero_add] at hG1 ⊢
    have hz : (Value.int .i64 0).cells.size = 1 := rfl
    simp only [Array.size_append, size_zeroCells, hz]
    simp
    omega
  · rw [hw]
    exact (Below.refl _ _).drew.alloc (Nat.le_refl _) _
/-- The lists that are joined, and what has been joined of them. -/
def ls9 (s m0 m1 : Int) (k : Nat) : List Int := if k = 0 then [s] else [m0, m1]
def ct9 (s m0 m1 : Int) (k : Nat) : List Int := if k = 0 then [] else if k = 1 then [s] else [s, m0, m1]
theorem ct9_step (s m0 m1 : Int) {k : Nat} (h : k < 2) : ct9 s m0 m1 (k + 1) = ct9 s m0 m1 k ++ ls9 s m0 m1 k := by
  match k, h with
  | 0, _ => rfl
  | 1, _ => rfl
theorem ls9_len (s m0 m1 : Int) (k : Nat) : 1 ≤ (ls9 s m0 m1 k).length ∧ (ls9 s m0 m1 k).length ≤ 2 := by unfold ls9; split <;> simp
theorem ct9_len (s m0 m1 : Int) (k : Nat) : (ct9 s m0 m1 k).length ≤ 3 := by unfold ct9; split <;> (try split) <;> simp
theorem map_app9 (l m : List Int) : (l ++ m).map (Value.int .i64) = l.map (Value.int .i64) ++ m.map (Value.int .i64) := by simp
set_option maxHeartbeats 2000000 in
set_option maxRecDepth 100000 in
theorem concat9 (ba : Nat) (bk ck : Nat → Nat) (s m0 m1 : Int) (w : World) (hba : ba < w.heap.size) (hbk : ∀ k, k < 2 → bk k < w.heap.size) (hcell : ∀ k, k < 2 → w.cell? ⟨ba, k, none⟩ = some (.slice (some ⟨bk k, 0, none⟩) (ls9 s m0 m1 k).length (ck k)))
    (hrow : ∀ k, k < 2 → ∀ j, j < (ls9 s m0 m1 k).length → w.cell? ⟨bk k, j, none⟩ = some (.int .i64 ((ls9 s m0 m1 k).getD j 0))) :
    Calls Try.prog 109 #[.slice (some ⟨ba, 0, none⟩) 2 2] w fun e w' => (∃ v, e = .returned v ∧ OwI w' w.heap.size w'.heap.size v [s, m0, m1]) ∧ Below w.heap.size w w' := by
  obtain ⟨i0, hi, hz0, hz1, hz2⟩ := info_parts infoI
  have HC := Lib.hid hcell
  have HR := Lib.hid hrow
  have HB := Lib.hid hbk
  clear hcell hrow hbk
  go_enter Try.func109, Try.ntmps109
  go_wp2
  go_loopg [3, 5, 11] 2 (fun g z _ i wr => ∃ k : Nat, k ≤ 2 ∧ g = 2 - k ∧ z = .int .i64 ((ct9 s m0 m1 k).length : Int) ∧ i = .int .i64 k ∧ w = wr)
  case atStart => exact ⟨0, by omega, rfl, rfl, rfl, rfl⟩
  case round =>
    obtain ⟨k, hk, rfl, rfl, rfl, rfl⟩ := hrel
    have hck := ct9_len s m0 m1 k
    by_cases hlt : k < 2
    · have c1 := HC.out k hlt
      have hs : (ct9 s m0 m1 (k + 1)).length = (ct9 s m0 m1 k).length + (ls9 s m0 m1 k).length := by rw [ct9_step s m0 m1 hlt, List.length_append]
      have hn := (ls9_len s m0 m1 k).2
      have HS := Lib.hid hs
      clear hs
      obtain ⟨n, hnn⟩ : ∃ n, (ls9 s m0 m1 k).length = n := ⟨_, rfl⟩
      obtain ⟨m, hmm⟩ : ∃ m, (ct9 s m0 m1 k).length = m := ⟨_, rfl⟩
      rw [hnn] at c1 hn HS
      rw [hmm] at hck HS
      simp only [hmm]
      clear hnn hmm
      go_wp2
      go_roundg (2 - (k + 1))
      case measure => omega
      case rel => exact ⟨k + 1, by omega, rfl, by rw [HS.out]; simp, by simp, rfl⟩
    · obtain rfl : k = 2 := by omega
      have HG := grow9 3 w (by omega) (by omega)
      have hl : (ct9 s m0 m1 2).length = 3 := rfl
      simp only [hl]
      clear hl hck
      go_wp2_with fail
      refine HG.mono ?_
      rintro e w1 ⟨⟨v1, rfl, hown0⟩, hb1⟩
      have hO0 := Lib.hid hown0
      clear HG hown0
      go_wp2
      go_loopg [6, 8, 27] 2 (fun g v _ i wr => ∃ k : Nat, k ≤ 2 ∧ g = 2 - k ∧ i = .int .i64 k ∧ Hid (wr.ownsRow w.heap.size 2 1 v (ct9 s m0 m1 k).length ((ct9 s m0 m1 k).map (Value.int .i64))) ∧ Below w.heap.size w wr)
      case atStart => exact ⟨0, by omega, rfl, rfl, hO0, hb1⟩
      case round =>
        clear hb1
        obtain ⟨k, hk, rfl, rfl, HO, hb⟩ := hrel
        have hsx := hb.size
        have hck := ct9_len s m0 m1 k
        by_cases hlt : k < 2
        · have c1 := (hb.cell (p := ⟨ba, k, none⟩) hba).trans (HC.out k hlt)
          have hnews : ∀ j u, ((ls9 s m0 m1 k).map (Value.int .i64))[j]? = some u → wr.cell? ((⟨bk k, 0, none⟩ : Addr).add j) = some u := fun j u hu => by
            rw [List.getElem?_map] at hu
            obtain ⟨x, hx, rfl⟩ := Option.map_eq_some_iff.1 hu
            have hj : j < (ls9 s m0 m1 k).length := (List.getElem?_eq_some_iff.1 hx).1
            rw [Addr.add_lit, Nat.zero_add]
            refine ((hb.cell (p := ⟨bk k, j, none⟩) (HB.out k hlt)).trans (HR.out k hlt j hj)).trans ?_
            simp [List.getD, hx]
          have hstep := ct9_step s m0 m1 hlt
          have hl1 := (ls9_len s m0 m1 k)
          have HST := Lib.hid hstep
          obtain ⟨n, hnn⟩ : ∃ n, (ls9 s m0 m1 k).length = n := ⟨_, rfl⟩
          rw [hnn] at c1 hl1
          have HN := Lib.hid hnn
          have HNW := Lib.hid hnews
          obtain ⟨hl1, hl2⟩ := hl1
          have how := HO.out
          clear hstep hnn hnews
          go_wp2_with (first
            | (at_builtin; refine wpList_append_own _ rfl _ _ 22 rfl w.heap.size 2 i0 (.int .i64 0) 1 8 Try.underlying22 hi hz0 hz1 hz2 rfl (by decide) _ _ _ rfl how ⟨bk k, 0, none⟩ n (ck k) ((ls9 s m0 m1 k).map (Value.int .i64)) rfl (by rw [List.length_map, HN.out, Nat.mul_one]) ?c1 ?c2 ?c3 ?c4 ?c5 ?_))
          case c1 => exact HNW.out
          case c2 => intro u hu; obtain ⟨x, -, rfl⟩ := List.mem_map.1 hu; rfl
          case c3 => unfold maxLen; omega
          case c4 => omega
          case c5 => exact hsx
          intro v' w3 hown3 hgrow _
          have hb3 := hb.grown hgrow hsx (fun x e => (how.lt x e).1)
          have HO3 : Hid (w3.ownsRow w.heap.size 2 1 v' (ct9 s m0 m1 (k + 1)).length ((ct9 s m0 m1 (k + 1)).map (Value.int .i64))) := by
            show w3.ownsRow w.heap.size 2 1 v' (ct9 s m0 m1 (k + 1)).length ((ct9 s m0 m1 (k + 1)).map (Value.int .i64))
            rw [HST.out, map_app9, List.length_append, HN.out]; exact hown3
          clear hown3 hgrow how
          go_wp2
          go_roundg (2 - (k + 1))
          case measure => omega
          case rel => exact ⟨k + 1, by omega, rfl, by simp, HO3, hb3⟩
        · obtain rfl : k = 2 := by omega
          have hb' := Lib.hid hb
          go_wp2
          go_ret
          exact ⟨⟨_, rfl, ow_of_own (l := [s, m0, m1]) HO.out (Nat.le_refl _) (by simp)⟩, hb'.out⟩
end Go.Proofs.Ytjfkkmfbgmejbaa
