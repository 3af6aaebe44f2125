/- What the program's calls answer for drawn fractions; the law on fractions. -/
import Derived.Test.YtcmhdjoajkljfabGreatDoorFr4
import Derived.Deep.Slices
import Derived.OpenShut
import Derived.ChangeOld
namespace Go.Proofs.YtcmhdjoajkljfabGreatDoor
open Go.ChangeShapes Go.WideShapes Go.ChangeAt Go.RowKit
set_option linter.unusedSimpArgs false
set_option linter.unusedVariables false
set_option maxRecDepth 100000
theorem frP_of {b : Bool} {n d : Int} {w : World} {f : FuncId} {args : Array Value} (hd : d ≠ 0) (h1 : -1000000000 ≤ n) (h2 : n ≤ 1000000000) (h3 : -1000000000 ≤ d) (h4 : d ≤ 1000000000) (hb : b = true)
    (h : Calls Tryz.prog f args w (frP (gB b n d) (gN b n d) (gD b n d) w)) : Calls Tryz.prog f args w (frP true (rN n d) (rD n d) w) := by
  subst hb
  have hg : gB true n d = true := by unfold gB; rw [okB_yes (r_ok hd h1 h2 h3 h4)]; rfl
  rw [(g_yes hg).1, (g_yes hg).2, hg] at h
  exact h
theorem ok_both {an ad bn bd : Int} (h : okF an ad) (k : okF bn bd) : (okB an ad && okB bn bd) = true := by rw [okB_yes h, okB_yes k]; rfl
theorem answers (an ad bn bd : Int) (ha : small an ad) (hb : small bn bd) : ∃ sn sd dn dd pn pd c fl t, Ans an ad bn bd sn sd dn dd pn pd c fl t := by
  obtain ⟨ka, a1, a2, a3⟩ := ha
  obtain ⟨kb, b1, b2, b3⟩ := hb
  have a4 := ka.1
  have b4 := kb.1
  have m1 := mulB (a := an) (b := bd) (A := 300) (B := 300) (by omega) (by omega) (by omega) (by omega)
  have m2 := mulB (a := bn) (b := ad) (A := 300) (B := 300) (by omega) (by omega) (by omega) (by omega)
  have m3 := mul_pos1 (a := ad) (b := bd) (A := 300) (B := 300) a4 a3 b4 b3
  have m4 := mulB (a := an) (b := bn) (A := 300) (B := 300) (by omega) (by omega) (by omega) (by omega)
  -- the sum and the way back
  have s0 : ad * bd ≠ 0 := by omega
  have sk := r_ok (n := an * bd + bn * ad) (d := ad * bd) s0 (by omega) (by omega) (by omega) (by omega)
  have sc := r_cross (n := an * bd + bn * ad) (d := ad * bd)
  have sb := r_num_bd (an * bd + bn * ad) (ad * bd)
  have se := r_den_bd (an * bd + bn * ad) (ad * bd)
  obtain ⟨sn, hsn⟩ : ∃ x, rN (an * bd + bn * ad) (ad * bd) = x := ⟨_, rfl⟩
  obtain ⟨sd, hsd⟩ : ∃ x, rD (an * bd + bn * ad) (ad * bd) = x := ⟨_, rfl⟩
  rw [hsn, hsd] at sk sc
  rw [hsn] at sb
  rw [hsd] at se
  have sd1 := sk.1
  have m5 := mulB (a := sn) (b := bd) (A := 180000) (B := 300) (by omega) (by omega) (by omega) (by omega)
  have m6 := mulB (a := bn) (b := sd) (A := 300) (B := 90000) (by omega) (by omega) (by omega) (by omega)
  have m7 := mul_pos1 (a := sd) (b := bd) (A := 90000) (B := 300) sd1 (by omega) b4 b3
  have t0 : sd * bd ≠ 0 := by omega
  have back := r_same (n := sn * bd - bn * sd) (d := sd * bd) (a := an) (b := ad) t0 ka (by
    have e1 : (sn * bd - bn * sd) * ad = sn * (ad * bd) - bn * ad * sd := by
      rw [Int.sub_mul, Int.mul_assoc sn bd ad, Int.mul_comm bd ad, Int.mul_assoc bn sd ad, Int.mul_comm sd ad, ← Int.mul_assoc bn ad sd]
    rw [e1, sc, Int.add_mul, Int.add_sub_cancel, Int.mul_assoc, Int.mul_comm bd sd])
  -- the product and the way back
  have pk := r_ok (n := an * bn) (d := ad * bd) s0 (by omega) (by omega) (by omega) (by omega)
  have pc := r_cross (n := an * bn) (d := ad * bd)
  have pb := r_num_bd (an * bn) (ad * bd)
  have pe := r_den_bd (an * bn) (ad * bd)
  obtain ⟨pn, hpn⟩ : ∃ x, rN (an * bn) (ad * bd) = x := ⟨_, rfl⟩
  obtain ⟨pd, hpd⟩ : ∃ x, rD (an * bn) (ad * bd) = x := ⟨_, rfl⟩
  rw [hpn, hpd] at pk pc
  rw [hpn] at pb
  rw [hpd] at pe
  have pd1 := pk.1
  have m8 := mulB (a := pn) (b := bd) (A := 90000) (B := 300) (by omega) (by omega) (by omega) (by omega)
  have m9 := mulB (a := pd) (b := bn) (A := 90000) (B := 300) (by omega) (by omega) (by omega) (by omega)
  have dk := r_sign (n := an * bd - bn * ad) (d := ad * bd) (by omega)
  have ed := Int.emod_add_mul_ediv an ad
  have en := Int.emod_nonneg an (by omega : ad ≠ 0)
  have el := Int.emod_lt_of_pos an (by omega : 0 < ad)
  have fb : -1000 ≤ an / ad ∧ an / ad ≤ 1000 := by
    have h1 : an / ad ≤ 300 := Int.le_trans (Int.ediv_le_ediv (by omega) a2) (Int.ediv_le_self _ (by omega))
    have h2 : -300 / ad ≤ an / ad := Int.ediv_le_ediv (by omega) a1
    have h3 : -300 ≤ -300 / ad := by
      rw [Int.le_ediv_iff_mul_le (by omega)]
      have := mulB (a := (-300 : Int)) (b := ad) (A := 300) (B := 300) (by omega) (by omega) (by omega) (by omega)
      omega
    omega
  refine ⟨sn, sd, rN (an * bd - bn * ad) (ad * bd), rD (an * bd - bn * ad) (ad * bd), pn, pd, cmpI (an * bd) (bn * ad), an / ad, ⟨(ftext an ad).toArray⟩,
    ⟨fun w g => ?_, fun w g => ?_, fun w g => ?_, fun w g => ?_, fun w g => ?_, fun w g => fr_text ka w g, fun w g => ?_, fun hne w g => ?_, fun w g => ?_, ?_, ?_, ?_, ⟨fb.1, fb.2, a4, a3⟩⟩⟩
  · have := frP_of s0 (by omega) (by omega) (by omega) (by omega) (ok_both ka kb) (IAdd_any an ad bn bd w g)
    rwa [hsn, hsd] at this
  · have := frP_of t0 (by omega) (by omega) (by omega) (by omega) (ok_both sk kb) (ISub_any sn sd bn bd (by omega) (by omega) w g)
    rwa [back.1, back.2] at this
  · exact frP_of s0 (by omega) (by omega) (by omega) (by omega) (ok_both ka kb) (ISub_any an ad bn bd (by omega) (by omega) w g)
  · have := ICmp_any an ad bn bd w g
    rw [ok_both ka kb] at this
    exact this
  · have := IText_any an ad w g.1 g.2.2.1
    unfold tP strOf at this
    rw [okB_yes ka, gT_yes ka] at this
    exact this
  · have := frP_of s0 (by omega) (by omega) (by omega) (by omega) (ok_both ka kb) (IMul_any an ad bn bd w g)
    rwa [hpn, hpd] at this
  · have q0 : pd * bn ≠ 0 := fun e => by
      rcases Int.mul_eq_zero.1 e with h | h
      · omega
      · exact hne h
    have hq : (okB pn pd && okB bn bd && decide (bn ≠ 0)) = true := by rw [okB_yes pk, okB_yes kb, decide_eq_true hne]; rfl
    have qs := r_same (n := pn * bd) (d := pd * bn) (a := an) (b := ad) q0 ka (by
      rw [Int.mul_assoc, Int.mul_comm bd ad, pc, Int.mul_assoc, Int.mul_comm bn pd])
    have := frP_of q0 (by omega) (by omega) (by omega) (by omega) hq (IDiv_any pn pd bn bd w g)
    rwa [qs.1, qs.2] at this
  · have := IFloor_any an ad w g
    rw [okB_yes ka] at this
    exact this
  · rcases Int.lt_trichotomy (an * bd) (bn * ad) with h | h | h
    · exact .inl ⟨by rw [cmpI_lt h]; omega, dk.2.1.2 (by omega)⟩
    · exact .inr (.inl ⟨by rw [h, cmpI_eq], dk.2.2.2 (by omega)⟩)
    · exact .inr (.inr ⟨by rw [cmpI_gt h]; omega, dk.1.2 (by omega)⟩)
  · rw [Int.mul_comm]; omega
  · rw [Int.add_mul, Int.one_mul, Int.mul_comm]; omega
theorem lawFractions (u : Value) (l1 : Nat) (v : Value) (l2 : Nat) (w : World) (hu : ByteV w.heap.size w u l1) (hv : ByteV w.heap.size w v l2) (hg : L4 w) :
    Calls Tryz.prog 3 #[u, v] w fun e w' => e = .returned (.bool true) ∧ Below w.heap.size w w' := by
  by_cases h : 1048576 < l1 ∨ 1048576 < l2
  · obtain ⟨a1, c1, rfl⟩ := hu.shape
    obtain ⟨a2, c2, rfl⟩ := hv.shape
    have HL := fun w => long_any a1 a2 l1 l2 c1 c2 w
    rw [decide_eq_true h] at HL
    clear hu hv hg
    go_enter Tryz.func3, Tryz.ntmps3
    go_wp2_with fail
    refine (HL _).mono ?_
    rintro e w1 ⟨rfl, rfl⟩
    go_wp2
    go_ret
    exact ⟨rfl, Below.refl _ _⟩
  · exact lawFr_core u v l1 l2 w hg hu hv (by omega) (by omega) answers
section
variable {H : Type} {enc : TypeId × Value → H} {w : World} {base : Nat} {spare : Nat → Bool} {held : Bool}
theorem bytes_of {b0 : Nat} {v : Value} {d : DataW H} {p : List MemPlace}
    (hv : Value.okWide Tryz.prog w .any b0 22 v) (h : DataW.Trod enc Tryz.prog w base spare held 22 v d p) : ∃ len, ByteV w.heap.size w v len := by
  obtain ⟨a0, len0, cap0, rfl⟩ := okWide_slice Tryz.underlying22 hv
  obtain ⟨fuel, hf⟩ := h
  rcases open_ints Tryz.underlying22 Tryz.underlying5 (by kernel_rfl) hf with ⟨hcs, _⟩ | ⟨a, len, cap, zs, hcs, _, hl, hm, hz, _, hcell, hwz⟩
  · simp [Value.cells] at hcs
    obtain ⟨rfl, rfl, rfl⟩ := hcs
    exact ⟨0, .inl ⟨rfl, rfl⟩⟩
  · simp [Value.cells] at hcs
    obtain ⟨rfl, rfl, rfl⟩ := hcs
    have hle : len0 ≤ zs.length := by rw [hz]; split <;> omega
    refine ⟨len0, .inr ⟨a, cap0, rfl, fun q => ?_, fun i hi => ?_⟩⟩
    · have := World.block_lt_of_cell? _ _ (hcell 0 (by omega))
      rwa [block_add] at this
    · have hi' : i < zs.length := by omega
      have hmem : zs.getD i 0 ∈ zs := by simp [List.getD, hi']
      have hw := hwz _ hmem
      have hbd : 0 ≤ zs.getD i 0 ∧ zs.getD i 0 ≤ 255 := by simpa [Lit.wf, IntKind.min, IntKind.max, IntKind.signed, IntKind.bits] using hw
      exact ⟨zs.getD i 0, hcell i hi', hbd⟩
end
end Go.Proofs.YtcmhdjoajkljfabGreatDoor
