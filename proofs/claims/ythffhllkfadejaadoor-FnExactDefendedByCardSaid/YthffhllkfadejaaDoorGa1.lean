/- The specification's AttackersOf and DefendedBy. -/
import Derived.Test.YthffhllkfadejaaDoorGs4
import Derived.Test.YthffhllkfadejaaDoorGzc
namespace Go.Proofs.YthffhllkfadejaaDoor
open Go.ChangeShapes Go.WideShapes Go.ChangeAt Go.RowKit Go.Deep Go.Maps
set_option linter.unusedSimpArgs false
set_option linter.unusedVariables false
noncomputable def mHasA (X : Fm) (a : Int) : Bool := fOkB X && inB a 0 (X.1 - 1)
noncomputable def mAtk (X : Fm) (a : Int) : List Int × Bool := if mHasA X a = true then (listB (byF X.2 a), true) else ([], false)
noncomputable def mDef (X : Fm) (l : List Int) : List Int × Bool := if mFits X l = true then (listB (defB X.1.toNat X.2 (setL l)), true) else ([], false)
theorem mHasA_iff {X : Fm} {a : Int} : mHasA X a = true ↔ fOk X ∧ 0 ≤ a ∧ a < X.1 := by
  unfold mHasA inB
  rw [Bool.and_eq_true, fOkB_iff]
  simp
  intro _ _
  omega
theorem OwI.rdI {w : World} {lo hi : Nat} {v : Value} {l : List Int} (h : OwI w lo hi v l) : RdI w lo hi v l := h.rd
set_option maxHeartbeats 1000000 in
theorem shas8 (X : Fm) (a : Int) (b hi p : Nat) (w : World) (h : FmR w b hi X) (hp : FmAt w p X.1 (.slice (some ⟨b, 0, none⟩) X.2.length X.2.length)) :
    Calls Tryd.prog 28 #[.pointer (some ⟨p, 0, none⟩), .int .i64 a] w fun e w' => e = .returned (.bool (mHasA X a)) ∧ Below w.heap.size w w' := by
  have HS := sfok X b hi p w h hp
  obtain ⟨p0, p1, pl⟩ := hp
  unfold mHasA
  by_cases ok : fOk X
  · have e1 := fOkB_yes ok
    have n0 := ok.1
    have n1 := ok.2.1
    rw [e1] at HS ⊢
    obtain ⟨P', hP'⟩ : ∃ P' : Int, X.1 - 1 = P' := ⟨_, rfl⟩
    have wq1 : IntKind.i64.wrap (X.1 - 1) = P' := by rw [IntKind.wrap_i64]; omega
    have HR := fun w' => in_val a 0 P' w'
    rw [hP', Bool.true_and]
    generalize inB a 0 P' = z at HR ⊢
    clear hP' h e1 ok
    go_enter Tryd.func28, Tryd.ntmps28
    go_wp2_with fail
    refine HS.mono ?_
    rintro e w1 ⟨rfl, hd1⟩
    have b1 := hd1.below
    have c0 := (b1.cell (p := ⟨p, 0, none⟩) pl).trans p0
    clear hd1
    go_wp2_with fail
    refine (HR _).mono ?_
    rintro e w2 ⟨rfl, rfl⟩
    go_wp2
    go_ret
    exact ⟨rfl, b1⟩
  · have e1 := fOkB_no ok
    rw [e1] at HS ⊢
    rw [Bool.false_and]
    clear h e1 ok
    go_enter Tryd.func28, Tryd.ntmps28
    go_wp2_with fail
    refine HS.mono ?_
    rintro e w1 ⟨rfl, hd1⟩
    go_wp2
    go_ret
    exact ⟨rfl, hd1.below⟩
set_option maxHeartbeats 2000000 in
theorem sAtk (X : Fm) (a : Int) (w : World) (lo hi : Nat) (u : Value) (h : CpG w lo hi u X) (wf : (Lit.int .i64 a).wf = true) : Calls Tryd.prog 9 #[u, .int .i64 a] w (PIb (mAtk X a) w) := by
  obtain ⟨b, rfl, -, h⟩ := h
  have b0 := (Below.refl w.heap.size w).alloc (Nat.le_refl _) (.cells #[.int .i64 X.1, .slice (some ⟨b, 0, none⟩) X.2.length X.2.length] 29)
  have hp := fm_at w X.1 (.slice (some ⟨b, 0, none⟩) X.2.length X.2.length)
  have HF := shas8 X a b hi w.heap.size _ (h.below b0) hp
  unfold mAtk
  by_cases hm : mHasA X a = true
  · obtain ⟨ok, a0, a1⟩ := mHasA_iff.1 hm
    rw [hm] at HF
    rw [if_pos hm]
    have n0 := ok.1
    have n1 := ok.2.1
    obtain ⟨k, rfl⟩ : ∃ k : Nat, a = (k : Int) := ⟨a.toNat, by omega⟩
    have HO := fun w' (hb : Below _ _ w') => sof_any X b hi w.heap.size w' ((h.below b0).below hb) ok (hp.below hb)
    have hk : k < X.1.toNat := by omega
    have hlt : byF X.2 (k : Int) < 1024 := by
      have := byF_lt (L := X.2) (n := X.1.toNat) (fun l hl => by have := fOk.mem ok l hl; rwa [show ((X.1.toNat : Nat) : Int) = X.1 by omega]) k
      exact Nat.lt_of_lt_of_le this (pow_10 (by omega))
    have HL := fun w' => slist (byF X.2 (k : Int)) w' hlt
    have hN : (X.1.toNat : Int) ≤ 10 := by omega
    clear hm ok h hp
    go_enter Tryd.func9, Tryd.ntmps9
    go_wp2_with fail
    refine HF.mono ?_
    rintro e w1 ⟨rfl, hb1⟩
    have HO1 := HO _ hb1
    go_wp2_with fail
    refine HO1.mono ?_
    rintro e w2 ⟨⟨q, hh, cc, rfl, HG⟩, hb2⟩
    have hb3 := hb1.trans (hb2.mono hb1.size)
    have c2 := HG.c2
    have y := HG.bys.cell (i := k) hk
    (try simp only at y)
    have HL1 := HL w2
    clear HG HO HL
    generalize byF X.2 (k : Int) = B at *
    go_wp2_with fail
    refine HL1.mono ?_
    rintro e w3 ⟨⟨v, rfl, ho⟩, hb4⟩
    go_wp2
    go_ret2
    have b3 := b0.trans (hb3.mono b0.size)
    exact ⟨v, rfl, (ho.mono b3.size (Nat.le_refl _)).rd, b3.trans (hb4.mono b3.size)⟩
  · have hm' : mHasA X a = false := by simpa using hm
    rw [hm'] at HF
    rw [if_neg hm]
    clear hm hm' h hp
    go_enter Tryd.func9, Tryd.ntmps9
    go_wp2_with fail
    refine HF.mono ?_
    rintro e w1 ⟨rfl, hb1⟩
    go_wp2
    go_ret2
    exact ⟨_, rfl, (OwI.nil _ _ _).rd, b0.trans (hb1.mono b0.size)⟩
set_option maxHeartbeats 2000000 in
theorem sDef (X : Fm) (l : List Int) (w : World) (lo hi : Nat) (u : Value) (h : CpG w lo hi u X) (lo1 hi1 : Nat) (v : Value) (hc : CpI w lo1 hi1 v l) : Calls Tryd.prog 17 #[u, v] w (PIb (mDef X l) w) := by
  obtain ⟨b, rfl, -, h⟩ := h
  obtain ⟨rfl, hc1, hc2, hc3⟩ := hc
  have hv := hc1.row l.length
  have b0 := (Below.refl w.heap.size w).alloc (Nat.le_refl _) (.cells #[.int .i64 X.1, .slice (some ⟨b, 0, none⟩) X.2.length X.2.length] 29)
  have hp := fm_at w X.1 (.slice (some ⟨b, 0, none⟩) X.2.length X.2.length)
  have HF := sfits X b hi w.heap.size _ l _ (h.below b0) hp (hv.below b0) hc3
  unfold mDef
  by_cases hm : mFits X l = true
  · obtain ⟨hn, hmem⟩ := fits_mem hm
    have ok := (mFits_iff.1 hm).1
    have hsl := set_small hn hmem
    rw [hm] at HF
    rw [if_pos hm]
    have HO := fun w' (hb : Below _ _ w') => sof_any X b hi w.heap.size w' ((h.below b0).below hb) ok (hp.below hb)
    have HS := fun w' (hb : Below _ _ w') => sset_any _ l X.1.toNat w' ((hv.below b0).below hb) hc3 hn hmem
    have HM := fun w' q hh cc (H : SgIs w' q hh cc X.1.toNat X.2) => sdef_any q hh cc X.1.toNat X.2 (setL l) w' H hsl
    have hlt : defB X.1.toNat X.2 (setL l) < 1024 := Nat.lt_of_lt_of_le (defB_lt _ _ _) (pow_10 hn)
    have HL := fun w' => slist (defB X.1.toNat X.2 (setL l)) w' hlt
    generalize defB X.1.toNat X.2 (setL l) = D at HM HL hlt ⊢
    generalize setL l = S at HS HM hsl
    clear hm hmem ok h hc1 hp hv
    go_enter Tryd.func17, Tryd.ntmps17
    go_wp2_with fail
    refine HF.mono ?_
    rintro e w1 ⟨rfl, hb1⟩
    have HO1 := HO _ hb1
    go_wp2_with fail
    refine HO1.mono ?_
    rintro e w2 ⟨⟨q, hh, cc, rfl, HG⟩, hb2⟩
    have hb3 := hb1.trans (hb2.mono hb1.size)
    have HS1 := HS _ hb3
    go_wp2_with fail
    refine HS1.mono ?_
    rintro e w3 ⟨rfl, rfl⟩
    have HM1 := HM _ _ _ _ HG
    go_wp2_with fail
    refine HM1.mono ?_
    rintro e w3 ⟨rfl, rfl⟩
    go_wp2_with fail
    refine (HL _).mono ?_
    rintro e w3 ⟨⟨v, rfl, ho⟩, hb4⟩
    go_wp2
    go_ret2
    have b3 := b0.trans (hb3.mono b0.size)
    exact ⟨v, rfl, (ho.mono b3.size (Nat.le_refl _)).rd, b3.trans (hb4.mono b3.size)⟩
  · have hm' : mFits X l = false := by simpa using hm
    rw [hm'] at HF
    rw [if_neg hm]
    clear hm hm' h hc1 hp hv
    go_enter Tryd.func17, Tryd.ntmps17
    go_wp2_with fail
    refine HF.mono ?_
    rintro e w1 ⟨rfl, hb1⟩
    go_wp2
    go_ret2
    exact ⟨_, rfl, (OwI.nil _ _ _).rd, b0.trans (hb1.mono b0.size)⟩
end Go.Proofs.YthffhllkfadejaaDoor
