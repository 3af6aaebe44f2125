/- The program's AttackersOf and DefendedBy. -/
import Derived.Test.YthffhllkfadejaaDoorGa3
namespace Go.Proofs.YthffhllkfadejaaDoor
open Go.ChangeShapes Go.WideShapes Go.ChangeAt Go.RowKit Go.Deep Go.Maps
set_option linter.unusedSimpArgs false
set_option linter.unusedVariables false
theorem CpI.kept {w w' : World} {lo hi : Nat} {v : Value} {l : List Int} {S : Nat → Prop} (h : CpI w lo hi v l) (hk : Kept w w' S) (hs : ∀ b, lo ≤ b → b < hi → ¬ S b) : CpI w' lo hi v l := ⟨h.1, hk.row h.2.1 (hs lo (Nat.le_refl _) h.2.2.1), h.2.2⟩
set_option maxHeartbeats 1000000 in
theorem iAtk (X : Fm) (a : Int) (w : World) (lo hi : Nat) (u : Value) (h : CpG w lo hi u X) (wf : (Lit.int .i64 a).wf = true) (hT : DBT w) : Calls Tryd.prog 11 #[u, .int .i64 a] w (QIb (mAtk X a) w) := by
  obtain ⟨b, rfl, -, h⟩ := h
  have b0 := ((Below.refl w.heap.size w).alloc (Nat.le_refl _) (.cells #[.int .i64 X.1, .slice (some ⟨b, 0, none⟩) X.2.length X.2.length] 29)).alloc (by simp) (.cells #[.int .i64 a] 2)
  have hp := (fm_at w X.1 (.slice (some ⟨b, 0, none⟩) X.2.length X.2.length)).below ((Below.refl _ _).alloc (Nat.le_refl _) (.cells #[.int .i64 a] 2))
  have hr : ((w.alloc (.cells #[.int .i64 X.1, .slice (some ⟨b, 0, none⟩) X.2.length X.2.length] 29)).alloc (.cells #[.int .i64 a] 2)).cell? ⟨w.heap.size + 1, 0, none⟩ = some (.int .i64 a) := by go_simp
  unfold mAtk
  by_cases hm : mHasA X a = true
  · obtain ⟨ok, a0, a1⟩ := mHasA_iff.1 hm
    rw [if_pos hm]
    obtain ⟨k, rfl⟩ : ∃ k : Nat, a = (k : Int) := ⟨a.toNat, by omega⟩
    have HV := att_yes_ints 33 (fun _ _ => rfl) #[.pointer (some ⟨w.heap.size, 0, none⟩), .pointer (some ⟨w.heap.size + 1, 0, none⟩)] _ _
      (ak1_ok X b hi w.heap.size (w.heap.size + 1) k _ (h.below b0) hp hr ok a1 (hT.below b0))
    generalize listB (byF X.2 (k : Int)) = z at HV ⊢
    clear h hp hr hm ok hT
    go_enter Tryd.func11, Tryd.ntmps11
    go_wp2_with fail
    refine HV.mono ?_
    rintro e w1 ⟨⟨v, rfl, ho⟩, hb1⟩
    go_wp2
    go_ret2
    exact ⟨v, rfl, ho.mono b0.size (Nat.le_refl _), b0.trans (hb1.mono b0.size)⟩
  · have HV := att_no_ints 33 (fun _ _ => rfl) #[.pointer (some ⟨w.heap.size, 0, none⟩), .pointer (some ⟨w.heap.size + 1, 0, none⟩)] _
      (ak1_bad X a b hi w.heap.size (w.heap.size + 1) _ (h.below b0) hp hr (fun q => hm (mHasA_iff.2 q)))
    rw [if_neg hm]
    clear h hp hr hm hT
    go_enter Tryd.func11, Tryd.ntmps11
    go_wp2_with fail
    refine HV.mono ?_
    rintro e w1 ⟨rfl, hb1⟩
    go_wp2
    go_ret2
    exact ⟨_, rfl, OwI.nil _ _ _, b0.trans (hb1.mono b0.size)⟩
set_option maxHeartbeats 1000000 in
theorem iDef (X : Fm) (l : List Int) (w : World) (lo hi : Nat) (u : Value) (h : CpG w lo hi u X) (lo1 hi1 : Nat) (v : Value) (hc : CpI w lo1 hi1 v l) (hT : DBT w) : Calls Tryd.prog 19 #[u, v] w (QIb (mDef X l) w) := by
  obtain ⟨b, rfl, -, h⟩ := h
  obtain ⟨rfl, hc1, hc2, hc3⟩ := hc
  have hv := hc1.row l.length
  have b0 := ((Below.refl w.heap.size w).alloc (Nat.le_refl _) (.cells #[.int .i64 X.1, .slice (some ⟨b, 0, none⟩) X.2.length X.2.length] 29)).alloc (by simp) (.cells #[.slice (some ⟨lo1, 0, none⟩) l.length l.length] 26)
  have hp := (fm_at w X.1 (.slice (some ⟨b, 0, none⟩) X.2.length X.2.length)).below ((Below.refl _ _).alloc (Nat.le_refl _) (.cells #[.slice (some ⟨lo1, 0, none⟩) l.length l.length] 26))
  have hr : ((w.alloc (.cells #[.int .i64 X.1, .slice (some ⟨b, 0, none⟩) X.2.length X.2.length] 29)).alloc (.cells #[.slice (some ⟨lo1, 0, none⟩) l.length l.length] 26)).cell? ⟨w.heap.size + 1, 0, none⟩ = some (.slice (some ⟨lo1, 0, none⟩) l.length l.length) := by go_simp
  unfold mDef
  by_cases hm : mFits X l = true
  · have HV := att_yes_ints 44 (fun _ _ => rfl) #[.pointer (some ⟨w.heap.size, 0, none⟩), .pointer (some ⟨w.heap.size + 1, 0, none⟩)] _ _
      (df1_ok X b hi w.heap.size (w.heap.size + 1) _ l _ (h.below b0) hp hr (hv.below b0) hc3 hm (hT.below b0))
    rw [if_pos hm]
    generalize listB (defB X.1.toNat X.2 (setL l)) = z at HV ⊢
    clear h hp hr hc1 hv hm hT
    go_enter Tryd.func19, Tryd.ntmps19
    go_wp2_with fail
    refine HV.mono ?_
    rintro e w1 ⟨⟨v, rfl, ho⟩, hb1⟩
    go_wp2
    go_ret2
    exact ⟨v, rfl, ho.mono b0.size (Nat.le_refl _), b0.trans (hb1.mono b0.size)⟩
  · have hm' : mFits X l = false := by simpa using hm
    have HV := att_no_ints 44 (fun _ _ => rfl) #[.pointer (some ⟨w.heap.size, 0, none⟩), .pointer (some ⟨w.heap.size + 1, 0, none⟩)] _
      (df1_bad X b hi w.heap.size (w.heap.size + 1) _ l _ (h.below b0) hp hr (hv.below b0) hc3 hm')
    rw [if_neg hm]
    clear h hp hr hc1 hv hm hm' hT
    go_enter Tryd.func19, Tryd.ntmps19
    go_wp2_with fail
    refine HV.mono ?_
    rintro e w1 ⟨rfl, hb1⟩
    go_wp2
    go_ret2
    exact ⟨_, rfl, OwI.nil _ _ _, b0.trans (hb1.mono b0.size)⟩
end Go.Proofs.YthffhllkfadejaaDoor
