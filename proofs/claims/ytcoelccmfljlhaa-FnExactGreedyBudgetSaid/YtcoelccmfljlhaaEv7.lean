/- The cost of a set of projects: the specification's sum and the program's. -/
import Derived.Test.YtcoelccmfljlhaaEv4
import Derived.Test.YtcoelccmfljlhaaPo8a
namespace Go.Proofs.Ytcoelccmfljlhaa
open Go.ChangeShapes Go.WideShapes Go.ChangeAt Go.RowKit Go.Deep
set_option linter.unusedSimpArgs false
set_option linter.unusedVariables false
/-- The costs of the first k projects of a list together. -/
def costK (C t : List Int) (k : Nat) : Int := ((t.take k).map fun p => C.getD p.toNat 0).sum
theorem costK_succ (C t : List Int) (k : Nat) (h : k < t.length) : costK C t (k + 1) = costK C t k + C.getD (t.getD k 0).toNat 0 := by
  unfold costK
  rw [List.take_add_one, List.getElem?_eq_getElem h, List.map_append, List.sum_append]
  simp [List.getD, h]
def projs (n : Nat) (t : List Int) : Prop := ∀ i, i < t.length → 0 ≤ t.getD i 0 ∧ t.getD i 0 < (n : Int)
theorem projs.at {n : Nat} {t : List Int} (h : projs n t) {k : Nat} (hk : k < t.length) : ∃ j : Nat, t.getD k 0 = (j : Int) ∧ j < n := by
  obtain ⟨h1, h2⟩ := h k hk
  exact ⟨(t.getD k 0).toNat, by omega, by omega⟩
theorem ris_projs {t : List Int} {n : Nat} (h : ris t 0 ((n : Int) - 1)) : projs n t := fun i hi => by
  have := h i hi
  unfold ris1 at this
  omega
theorem costK_bd {C t : List Int} (hC : ∀ k, k < C.length → costOk C k) (ht : projs C.length t) {k : Nat} (hk : k ≤ t.length) : 0 ≤ costK C t k ∧ costK C t k ≤ 60 * k := by
  induction k with
  | zero => simp [costK]
  | succ k ih =>
    obtain ⟨a, b⟩ := ih (by omega)
    obtain ⟨j, hj, hjn⟩ := ht.at (show k < t.length by omega)
    rw [costK_succ C t k (by omega), hj]
    have := hC j hjn
    unfold costOk at this
    simp only [Int.toNat_natCast]
    omega
set_option maxHeartbeats 1000000 in
set_option maxRecDepth 100000 in
theorem scost (X : El) (c b hi p : Nat) (t : List Int) (tv : Value) (w : World) (h : ElR w c b hi X) (hp : ElAt w p X.1 (.slice (some ⟨c, 0, none⟩) X.2.1.length X.2.1.length) (.slice (some ⟨b, 0, none⟩) X.2.2.length X.2.2.length))
    (hC : ∀ k, k < X.2.1.length → costOk X.2.1 k) (hT : projs X.2.1.length t) (ht : RowV w tv t) (htl : t.length ≤ 1048576) :
    Calls Try.prog 48 #[.pointer (some ⟨p, 0, none⟩), tv] w fun e w' => e = .returned (.int .i64 (costK X.2.1 t t.length)) ∧ Drw w w' := by
  have hcr := h.costs
  have hfl := h.fits.1
  obtain ⟨M, C, A⟩ := X
  simp only at hp hC hT hcr hfl ⊢
  obtain ⟨p0, p1, p2, pl⟩ := hp
  have HC := Lib.hid hC
  have HT := Lib.hid hT
  have hcl := World.rowIs.lt hcr
  clear h hC hT
  by_cases e : t = []
  · subst e
    obtain ⟨a, cap, rfl⟩ := ht.shape
    clear ht
    go_enter Try.func48, Try.ntmps48
    go_wp2
    go_loopg [5, 6] 0 (fun g s i wr => s = .int .i64 0 ∧ i = .int .i64 0 ∧ w = wr)
    case atStart => exact ⟨rfl, rfl, rfl⟩
    case round =>
      obtain ⟨rfl, rfl, rfl⟩ := hrel
      go_wp2
      go_ret
      exact ⟨by simp [costK], Drw.refl _⟩
  · obtain ⟨x, cap, rfl, hx, hc⟩ := ht.cons e
    clear ht
    go_enter Try.func48, Try.ntmps48
    go_wp2
    go_loopg [5, 6] t.length (fun g s i wr => ∃ (k : Nat) (z : Int), k ≤ t.length ∧ g = t.length - k ∧ s = .int .i64 z ∧ i = .int .i64 k ∧ Drw w wr ∧ 0 ≤ z ∧ z ≤ 60 * k ∧ Hid (z = costK C t k))
    case atStart => exact ⟨0, 0, Nat.zero_le _, rfl, rfl, rfl, Drw.refl _, by omega, by omega, Lib.hid (by simp [costK])⟩
    case round =>
      obtain ⟨k, z, hk, rfl, rfl, rfl, hd, z1, z2, HZ⟩ := hrel
      have hb := hd.below
      by_cases hlt : k < t.length
      · have c1 := (hb.cell (p := x.add k) (by rw [block_add]; exact hx)).trans (hc k hlt)
        obtain ⟨j, hj, hjn⟩ := HT.out.at hlt
        have hs := costK_succ C t k hlt
        have hcj := HC.out j hjn
        unfold costOk at hcj
        have c2 := (hb.cell (p := ⟨c, j, none⟩) hcl).trans (World.rowIs.cell hcr (i := j) hjn)
        have c3 := (hb.cell (p := ⟨p, 1, none⟩) pl).trans p1
        rw [hj] at c1 hs
        simp only [Int.toNat_natCast] at hs
        obtain ⟨y, hy⟩ : ∃ y, C.getD j 0 = y := ⟨_, rfl⟩
        rw [hy] at hs hcj
        simp only [hy] at c2
        obtain ⟨s, hss⟩ : ∃ s, z + y = s := ⟨_, rfl⟩
        have ws : IntKind.i64.wrap (z + y) = s := by rw [IntKind.wrap_i64]; omega
        have hsk : costK C t (k + 1) = s := by rw [hs, ← HZ.out, hss]
        have HS := Lib.hid hsk
        have s1 : 0 ≤ s := by omega
        have s2 : s ≤ 60 * ((k : Int) + 1) := by omega
        clear hs hy hj hsk hcj hc
        go_wp2_with fail
        go_quiet (fail)
        go_wp2
        go_roundg (t.length - (k + 1))
        case measure => omega
        case rel => exact ⟨k + 1, s, by omega, rfl, by first | rfl | rw [ws], by simp, hd.drewN _, by omega, by simp; omega, HS.out.symm⟩
      · have e : k = t.length := by omega
        subst e
        go_wp2
        go_ret
        exact ⟨by rw [HZ.out]; rfl, hd⟩
set_option maxHeartbeats 1000000 in
set_option maxRecDepth 100000 in
theorem icosts (X : El) (c b hi : Nat) (t : List Int) (tv : Value) (w : World) (h : ElR w c b hi X)
    (hC : ∀ k, k < X.2.1.length → costOk X.2.1 k) (hT : projs X.2.1.length t) (ht : RowV w tv t) (htl : t.length ≤ 1048576) :
    Calls Try.prog 50 #[.agg #[.int .i64 X.1, .slice (some ⟨c, 0, none⟩) X.2.1.length X.2.1.length, .slice (some ⟨b, 0, none⟩) X.2.2.length X.2.2.length], tv] w fun e w' => e = .returned (.int .i64 (costK X.2.1 t t.length)) ∧ Below w.heap.size w w' := by
  have hcr := h.costs
  have hfl := h.fits.1
  have b1 := (Below.refl w.heap.size w).alloc (Nat.le_refl _) (.cells #[.int .i64 X.1, .slice (some ⟨c, 0, none⟩) X.2.1.length X.2.1.length, .slice (some ⟨b, 0, none⟩) X.2.2.length X.2.2.length] 28)
  have hpa := el_at w X.1 (.slice (some ⟨c, 0, none⟩) X.2.1.length X.2.1.length) (.slice (some ⟨b, 0, none⟩) X.2.2.length X.2.2.length)
  obtain ⟨M, C, A⟩ := X
  simp only at hC hT hcr hfl hpa b1 ⊢
  have HC := Lib.hid hC
  have HT := Lib.hid hT
  have B := Lib.hid b1
  have HP := Lib.hid hpa
  have hcl := World.rowIs.lt hcr
  clear h hC hT b1 hpa
  by_cases e : t = []
  · subst e
    obtain ⟨a, cap, rfl⟩ := ht.shape
    clear ht
    go_enter Try.func50, Try.ntmps50
    go_wp2
    go_loopg [5, 10] 0 (fun g s i wr => s = .int .i64 0 ∧ i = .int .i64 0 ∧ Below w.heap.size w wr)
    case atStart => exact ⟨rfl, rfl, B.out⟩
    case round =>
      obtain ⟨rfl, rfl, hb⟩ := hrel
      go_wp2
      go_ret
      exact ⟨by simp [costK], hb⟩
  · obtain ⟨x, cap, rfl, hx, hc⟩ := ht.cons e
    clear ht
    go_enter Try.func50, Try.ntmps50
    go_wp2
    go_loopg [5, 10] t.length (fun g s i wr => ∃ (k : Nat) (z : Int), k ≤ t.length ∧ g = t.length - k ∧ s = .int .i64 z ∧ i = .int .i64 k ∧ wr = w.alloc (.cells #[.int .i64 M, .slice (some ⟨c, 0, none⟩) C.length C.length, .slice (some ⟨b, 0, none⟩) A.length A.length] 28) ∧ 0 ≤ z ∧ z ≤ 60 * k ∧ Hid (z = costK C t k))
    case atStart => exact ⟨0, 0, Nat.zero_le _, rfl, rfl, rfl, rfl, by omega, by omega, Lib.hid (by simp [costK])⟩
    case round =>
      obtain ⟨k, z, hk, rfl, rfl, rfl, hwr, z1, z2, HZ⟩ := hrel
      have hb : Below w.heap.size w wr := by rw [hwr]; exact B.out
      have hpx : ElAt wr w.heap.size M (.slice (some ⟨c, 0, none⟩) C.length C.length) (.slice (some ⟨b, 0, none⟩) A.length A.length) := by rw [hwr]; exact HP.out
      have HW := Lib.hid hwr
      obtain ⟨p0, p1, p2, pl⟩ := hpx
      clear hwr
      by_cases hlt : k < t.length
      · have c1 := (hb.cell (p := x.add k) (by rw [block_add]; exact hx)).trans (hc k hlt)
        obtain ⟨j, hj, hjn⟩ := HT.out.at hlt
        have hs := costK_succ C t k hlt
        have hcj := HC.out j hjn
        unfold costOk at hcj
        have c2 := (hb.cell (p := ⟨c, j, none⟩) hcl).trans (World.rowIs.cell hcr (i := j) hjn)
        rw [hj] at c1 hs
        simp only [Int.toNat_natCast] at hs
        obtain ⟨y, hy⟩ : ∃ y, C.getD j 0 = y := ⟨_, rfl⟩
        rw [hy] at hs hcj
        simp only [hy] at c2
        obtain ⟨s, hss⟩ : ∃ s, z + y = s := ⟨_, rfl⟩
        have ws : IntKind.i64.wrap (z + y) = s := by rw [IntKind.wrap_i64]; omega
        have hsk : costK C t (k + 1) = s := by rw [hs, ← HZ.out, hss]
        have HS := Lib.hid hsk
        have s1 : 0 ≤ s := by omega
        have s2 : s ≤ 60 * ((k : Int) + 1) := by omega
        have HSS := Lib.hid hss
        clear hs hy hj hsk hcj hc hss
        go_wp2
        go_roundg (t.length - (k + 1))
        case measure => omega
        case rel => exact ⟨k + 1, s, by omega, rfl, by first | rfl | rw [ws] | (rw [← HSS.out]), by simp, HW.out, by omega, by simp; omega, HS.out.symm⟩
      · have e : k = t.length := by omega
        subst e
        go_wp2
        go_ret
        exact ⟨by rw [HZ.out]; rfl, hb⟩
end Go.Proofs.Ytcoelccmfljlhaa
