/- Whether a proof is one for a seal: the program's answer for every proof; the law's model. -/
import Derived.Test.YtjfkkmfbgmejbaaBi2x
namespace Go.Proofs.Ytjfkkmfbgmejbaa
open Go.ChangeShapes Go.WideShapes Go.ChangeAt Go.RowKit Go.Deep
set_option linter.unusedSimpArgs false
set_option linter.unusedVariables false
set_option maxHeartbeats 4000000 in
theorem iholds (s : Int) (M C A : List Int) (a b c : Nat) (w : World) (h : BfR w a b c (M, C, A)) :
    Calls Try.prog 63 #[.agg #[.int .i64 s, .slice (some ⟨a, 0, none⟩) M.length M.length, .slice (some ⟨b, 0, none⟩) C.length C.length, .slice (some ⟨c, 0, none⟩) A.length A.length]] w fun e w' => e = .returned (.bool (bpB s (M, C, A))) ∧ Below w.heap.size w w' := by
  have bb := ((Below.refl w.heap.size w).alloc (Nat.le_refl _) (.cells #[.int .i64 s, .slice (some ⟨a, 0, none⟩) M.length M.length, .slice (some ⟨b, 0, none⟩) C.length C.length, .slice (some ⟨c, 0, none⟩) A.length A.length] 88)).alloc (by simp) (.cells #[.slice (some ⟨a, 0, none⟩) M.length M.length, .slice (some ⟨b, 0, none⟩) C.length C.length, .slice (some ⟨c, 0, none⟩) A.length A.length] 24)
  by_cases l1 : M.length = 2
  case neg =>
    have hl : ¬ (M.length : Int) = 2 := by omega
    have hl2 : ((M.length : Int) == 2) = false := by simp; omega
    rw [bpB_no (fun ho => l1 ho.2.1.2)]
    clear h l1
    go_enter Try.func63, Try.ntmps63
    go_wp2
    go_ret
    exact ⟨rfl, bb⟩
  by_cases l2 : C.length = 2
  case neg =>
    have hl : ¬ (C.length : Int) = 2 := by omega
    have hl2 : ((C.length : Int) == 2) = false := by simp; omega
    rw [bpB_no (fun ho => l2 ho.2.2.1.2)]
    rw [l1] at bb ⊢
    clear h l1 l2
    go_enter Try.func63, Try.ntmps63
    go_wp2
    go_ret
    exact ⟨rfl, bb⟩
  by_cases l3 : A.length = 2
  case neg =>
    have hl : ¬ (A.length : Int) = 2 := by omega
    have hl2 : ((A.length : Int) == 2) = false := by simp; omega
    rw [bpB_no (fun ho => l3 ho.2.2.2.1.2)]
    rw [l1, l2] at bb ⊢
    clear h l1 l2 l3
    go_enter Try.func63, Try.ntmps63
    go_wp2
    go_ret
    exact ⟨rfl, bb⟩
  have HS := fun w' => isl_any s w'
  have HCX := fun w' (hw : Below w.heap.size w w') => iexk (.slice (some ⟨b, 0, none⟩) C.length C.length) C w' ((h.below hw).rows.2.1) (by omega)
  have HAX := fun w' (hw : Below w.heap.size w w') => iexk (.slice (some ⟨c, 0, none⟩) A.length A.length) A w' ((h.below hw).rows.2.2) (by omega)
  cases e1 : isSl s with
  | false =>
    rw [e1] at HS
    rw [bpB_no (fun ho => by have := ho.1; rw [e1] at this; cases this)]
    rw [l1, l2, l3] at bb ⊢
    clear h HCX HAX l1 l2 l3
    go_enter Try.func63, Try.ntmps63
    go_wp2_with fail
    refine (HS _).mono ?_
    rintro e w1 ⟨rfl, rfl⟩
    go_wp2
    go_ret
    exact ⟨rfl, bb⟩
  | true =>
    rw [e1] at HS
    obtain ⟨W2, hW2⟩ : ∃ W2, W2 = (w.alloc (.cells #[.int .i64 s, .slice (some ⟨a, 0, none⟩) 2 2, .slice (some ⟨b, 0, none⟩) 2 2, .slice (some ⟨c, 0, none⟩) 2 2] 88)).alloc (.cells #[.slice (some ⟨a, 0, none⟩) 2 2, .slice (some ⟨b, 0, none⟩) 2 2, .slice (some ⟨c, 0, none⟩) 2 2] 24) := ⟨_, rfl⟩
    have p2 : W2.cell? ⟨w.heap.size + 1, 2, none⟩ = some (.slice (some ⟨c, 0, none⟩) 2 2) := by rw [hW2]; go_simp
    have q2 : w.heap.size + 1 < W2.heap.size := by rw [hW2]; simp
    rw [l1, l2, l3] at bb
    have HC1 := HCX _ bb
    rw [← hW2] at bb
    have HA1 := fun w' (hw : Below W2.heap.size W2 w') => HAX w' (bb.trans (hw.mono bb.size))
    rw [l2] at HC1
    rw [l3] at HA1
    cases e2 : C.all isEx with
    | false =>
      rw [e2] at HC1
      rw [bpB_no (fun ho => by have := ho.2.2.1.1; simp only at this; rw [e2] at this; cases this)]
      rw [l1, l2, l3]
      have HW := Lib.hid hW2
      clear h HCX HAX HA1 l1 l2 l3 hW2
      go_enter Try.func63, Try.ntmps63
      go_wp2_with fail
      refine (HS _).mono ?_
      rintro e w1 ⟨rfl, rfl⟩
      go_wp2_with fail
      refine HC1.mono ?_
      rw [← HW.out]
      rintro e w1 ⟨rfl, hb1⟩
      go_wp2
      go_ret
      exact ⟨rfl, bb.trans (hb1.mono bb.size)⟩
    | true =>
      rw [e2] at HC1
      cases e3 : A.all isEx with
      | false =>
        rw [e3] at HA1
        rw [bpB_no (fun ho => by have := ho.2.2.2.1.1; simp only at this; rw [e3] at this; cases this)]
        rw [l1, l2, l3]
        have HW := Lib.hid hW2
        clear h HCX HAX l1 l2 l3 hW2
        go_enter Try.func63, Try.ntmps63
        go_wp2_with fail
        refine (HS _).mono ?_
        rintro e w1 ⟨rfl, rfl⟩
        go_wp2_with fail
        refine HC1.mono ?_
        rw [← HW.out]
        rintro e w1 ⟨rfl, hb1⟩
        have y2 := (hb1.cell (p := ⟨w.heap.size + 1, 2, none⟩) q2).trans p2
        have HA2 := HA1 _ hb1
        have b3 := bb.trans (hb1.mono bb.size)
        clear HA1 HC1 p2 hb1
        go_wp2_with fail
        refine HA2.mono ?_
        rintro e w2 ⟨rfl, hb2⟩
        go_wp2
        go_ret
        exact ⟨rfl, b3.trans (hb2.mono b3.size)⟩
      | true =>
        have q := iholds2 s M C A a b c w e1 h l1 l2 l3 e2 e3
        rw [l1, l2, l3]
        exact q
theorem iIsB (s : Int) (X : Bq) (a b c : Nat) (w : World) (h : BfR w a b c X) :
    Calls Try.prog 22 #[.int .i64 s, bpV a b c X] w (Pb (bpB s X) w) := by
  obtain ⟨M, C, A⟩ := X
  have b0 := (Below.refl w.heap.size w).alloc (Nat.le_refl _) (.cells #[.slice (some ⟨a, 0, none⟩) M.length M.length, .slice (some ⟨b, 0, none⟩) C.length C.length, .slice (some ⟨c, 0, none⟩) A.length A.length] 24)
  have HP := iholds s M C A a b c _ (h.below b0)
  generalize bpB s (M, C, A) = z at HP ⊢
  clear h
  go_enter Try.func22, Try.ntmps22
  go_wp2_with fail
  refine HP.mono ?_
  rintro e w1 ⟨rfl, hb⟩
  go_wp2
  go_ret
  exact ⟨rfl, b0.trans (hb.mono b0.size)⟩
end Go.Proofs.Ytjfkkmfbgmejbaa
