/- Disagreement: what both sides reckon; the specification's and the program's sum. -/
import Derived.Test.YtnpolmanebmmcaaBo1
namespace Go.Proofs.Ytnpolmanebmmcaa
open Go.ChangeShapes Go.WideShapes Go.ChangeAt Go.RowKit Go.Deep
set_option linter.unusedSimpArgs false
set_option linter.unusedVariables false
/-- The sum of [j, i] over some pairs i, j. -/
def dis (M : List (List Int)) (ps : List (Int × Int)) : Int := ps.foldl (fun s p => s + mg M p.2.toNat p.1.toNat) 0
theorem dis_snoc (M : List (List Int)) (ps : List (Int × Int)) (p : Int × Int) : dis M (ps ++ [p]) = dis M ps + mg M p.2.toNat p.1.toNat := by simp [dis]
theorem dis_bd {M : List (List Int)} (h : Bd 1000000 M) (ps : List (Int × Int)) : 0 ≤ dis M ps ∧ dis M ps ≤ 1000000 * ps.length := by
  have key : ∀ (ps : List (Int × Int)) (s : Int), s ≤ ps.foldl (fun s p => s + mg M p.2.toNat p.1.toNat) s ∧ ps.foldl (fun s p => s + mg M p.2.toNat p.1.toNat) s ≤ s + 1000000 * ps.length := by
    intro ps
    induction ps with
    | nil => intro s; simp
    | cons p ps ih =>
      intro s
      have h1 := h p.2.toNat p.1.toNat
      have h2 := ih (s + mg M p.2.toNat p.1.toNat)
      have hc : (((p :: ps).length : Nat) : Int) = (ps.length : Int) + 1 := by simp
      rw [hc]
      show s ≤ ps.foldl _ (s + mg M p.2.toNat p.1.toNat) ∧ ps.foldl _ (s + mg M p.2.toNat p.1.toNat) ≤ _
      omega
  have := key ps 0
  show 0 ≤ ps.foldl _ 0 ∧ ps.foldl _ 0 ≤ _
  omega
theorem prs_len36 {n : Nat} (h6 : n ≤ 6) {l : List Int} (hl : l.length = n) : (prs (0 : Int) l).length ≤ 36 := by
  have h1 := prU_len (0 : Int) l l.length
  have h4 : l.length * l.length ≤ 6 * 6 := Nat.mul_le_mul (by omega) (by omega)
  unfold prs
  omega
set_option maxHeartbeats 4000000 in
set_option maxRecDepth 100000 in
theorem sdis (M : List (List Int)) (n lo hi b cap : Nat) (l : List Int) (cl lc : Nat) (w : World) (hO : OwJ w lo hi (.slice (some ⟨b, 0, none⟩) n cap) M) (hsq : Sq n M) (hbd : Bd 1000000 M) (hn : n ≤ 6) (hl : OwnI w cl l) (hk : rkOk n l) :
    Calls Try.prog 62 #[.slice (some ⟨b, 0, none⟩) n cap, .slice (some ⟨cl, 0, none⟩) n lc] w fun e w' => e = .returned (.int .i64 (dis M (prs 0 l))) ∧ Below w.heap.size w w' := by
  have HO := Lib.hid hO
  have HSQ := Lib.hid hsq
  have HBD := Lib.hid hbd
  have HLI := Lib.hid hl
  obtain ⟨hll, hdf⟩ := hk
  have HLM := Lib.hid (allDiff_mem hdf)
  have hcl := World.rowIs.lt hl
  have hp36 := prs_len36 hn hll
  clear hO hsq hbd hl hdf
  go_enter Try.func62, Try.ntmps62
  go_wp2
  go_loopg [5, 6] n (fun g s i wr => ∃ (k : Nat) (z : Int), k ≤ n ∧ g = n - k ∧ s = .int .i64 z ∧ i = .int .i64 k ∧ Below w.heap.size w wr ∧ z = dis M (prU 0 l k))
  case atStart => exact ⟨0, 0, Nat.zero_le _, rfl, rfl, rfl, Below.refl _ _, rfl⟩
  case round =>
    obtain ⟨k, z, hk, rfl, rfl, rfl, hb, hz⟩ := hrel
    by_cases hkl : k < n
    · have hxl : 0 ≤ l.getD k 0 ∧ l.getD k 0 < (n : Int) := HLM.out _ (by simp [List.getD, show k < l.length by omega])
      obtain ⟨x, hx⟩ : ∃ x, l.getD k 0 = x := ⟨_, rfl⟩
      rw [hx] at hxl
      obtain ⟨xn, rfl⟩ : ∃ xn : Nat, x = xn := ⟨x.toNat, by omega⟩
      have hxm : xn < n := by omega
      have HXX := Lib.hid hx
      clear hx hxl
      go_wp2
      go_loopg [5, 7] (n - (k + 1)) (fun g s i wi => ∃ (j : Nat) (z : Int), j ≤ n - (k + 1) ∧ g = n - (k + 1) - j ∧ s = .int .i64 z ∧ i = .int .i64 ((k : Int) + 1 + j) ∧ Below w.heap.size w wi ∧ z = dis M (prU 0 l k ++ (prR 0 l k).take j))
      case atStart => exact ⟨0, z, Nat.zero_le _, rfl, rfl, by simp, hb, by simpa using hz⟩
      case round =>
        clear hb hz
        obtain ⟨j, z, hj, rfl, rfl, rfl, hb, hz⟩ := hrel
        by_cases hjl : j < n - (k + 1)
        · have hq : (((k + 1 + j : Nat) : Int)) = (k : Int) + 1 + j := by omega
          have c1 := ((hb.cell (p := ⟨cl, k, none⟩) hcl)).trans (HLI.out.cell (i := k) (by omega))
          have c2 := ((hb.cell (p := ⟨cl, k + 1 + j, none⟩) hcl)).trans (HLI.out.cell (i := k + 1 + j) (by omega))
          have hpre := prs_pre (0 : Int) l (i := k) (j := j) (by omega)
          have htk := prR_take (0 : Int) l k j (by omega)
          have hzb := dis_bd HBD.out (prU 0 l k ++ (prR 0 l k).take j)
          have hpl := hpre.length_le
          simp only [HXX.out] at c1 htk
          obtain ⟨u, hu⟩ : ∃ u, l.getD (k + 1 + j) 0 = u := ⟨_, rfl⟩
          have hul : 0 ≤ u ∧ u < (n : Int) := HLM.out u (by rw [← hu]; simp [List.getD, show k + 1 + j < l.length by omega])
          simp only [hu] at c2 htk
          obtain ⟨un, rfl⟩ : ∃ un : Nat, u = un := ⟨u.toNat, by omega⟩
          have hum : un < n := by omega
          have hsn : dis M (prU 0 l k ++ (prR 0 l k).take (j + 1)) = z + mg M un xn := by
            rw [htk, ← List.append_assoc, dis_snoc, ← hz]
            simp
          obtain ⟨c', cp, d1, d2, d3, d4⟩ := (HO.out.below hb).rdAt HSQ.out hum
          have d5 := d4 xn hxm
          have hqb := HBD.out un xn
          obtain ⟨q, hq2⟩ : ∃ q, mg M un xn = q := ⟨_, rfl⟩
          rw [hq2] at d5 hqb hsn
          rw [← hz] at hzb
          have wq : IntKind.i64.wrap (z + q) = z + q := by rw [IntKind.wrap_i64]; omega
          have HSN := Lib.hid hsn
          have HBB := Lib.hid hb
          clear hsn htk hpre hu hul hb hq2 d4 hz
          rw [← hq]
          go_wp2
          go_region
          all_goals go_wp2
          all_goals go_roundg (n - (k + 1) - (j + 1))
          case measure => omega
          case rel => exact ⟨j + 1, z + q, by omega, rfl, by first | rfl | rw [wq], by first | rfl | (congr 1; omega) | simp, HBB.out.drew, HSN.out.symm⟩
        · obtain rfl : j = n - (k + 1) := by omega
          have hfull : prU 0 l k ++ (prR 0 l k).take (n - (k + 1)) = prU 0 l (k + 1) := by rw [prU_succ, List.take_of_length_le (by rw [prR_len]; omega)]
          rw [hfull] at hz
          go_wp2
          go_roundg (n - (k + 1))
          case measure => omega
          case rel => exact ⟨k + 1, z, by omega, rfl, rfl, by simp, hb, hz⟩
    · obtain rfl : k = n := by omega
      have hfull : prU 0 l k = prs 0 l := by unfold prs; rw [hll]
      rw [hfull] at hz
      have HZ := Lib.hid hz
      clear hz
      go_wp2
      go_ret
      exact ⟨by rw [← HZ.out]; rfl, hb⟩
end Go.Proofs.Ytnpolmanebmmcaa
