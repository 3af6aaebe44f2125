/- CostOf: both calls by their contracts. -/
import Derived.Test.YtcoelccmfljlhaaEv7
namespace Go.Proofs.Ytcoelccmfljlhaa
open Go.ChangeShapes Go.WideShapes Go.ChangeAt Go.RowKit Go.Deep
set_option linter.unusedSimpArgs false
set_option linter.unusedVariables false
/-- What a call answers: a number and a bool. -/
def Pnb (m : Int × Bool) (w : World) (e : Ending) (w' : World) : Prop := e = .returned (.tuple #[.int .i64 m.1, .bool m.2]) ∧ Below w.heap.size w w'
theorem Pnb.out {n : Int} {z : Bool} {w w' : World} {e : Ending} (h : Pnb (n, z) w e w') : e = .returned (.tuple #[.int .i64 n, .bool z]) ∧ Below w.heap.size w w' := h
abbrev Qnb := Pnb
theorem CpI.out {w : World} {lo hi : Nat} {v : Value} {l : List Int} (h : CpI w lo hi v l) : RowV w v l ∧ l.length ≤ 1048576 := by
  obtain ⟨rfl, h1, h2, h3⟩ := h
  exact ⟨h1.row _, h3⟩
theorem sset (M : Int) (n cap : Nat) (x : Option Addr) (a tv : Value) (t : List Int) (p : Nat) (w : World) (hn : n ≤ 1048576) (hp : ElAt w p M (.slice x n cap) a) (ht : RowV w tv t) (htl : t.length ≤ 1048576) :
    Calls Try.prog 47 #[.pointer (some ⟨p, 0, none⟩), tv] w fun e w' => e = .returned (.bool (risB t 0 ((n : Int) - 1))) ∧ Drw w w' := by
  obtain ⟨p0, p1, p2, pl⟩ := hp
  obtain ⟨P', hP'⟩ : ∃ P' : Int, (n : Int) - 1 = P' := ⟨_, rfl⟩
  have wq1 : IntKind.i64.wrap ((n : Int) - 1) = P' := by rw [IntKind.wrap_i64]; omega
  rw [hP']
  have HI := srises tv t 0 P' w ht (by omega)
  generalize risB t 0 P' = z at HI ⊢
  clear ht
  go_enter Try.func47, Try.ntmps47
  go_wp2_with fail
  refine HI.mono ?_
  rintro e w1 ⟨rfl, hd⟩
  go_wp2
  go_ret
  exact ⟨rfl, hd⟩
set_option maxHeartbeats 1000000 in
theorem ihasset (X : El) (c b hi : Nat) (v : Value) (l : List Int) (w : World) (h : ElR w c b hi X) (hv : RowV w v l) (hl : l.length ≤ 1048576) :
    Calls Try.prog 49 #[.agg #[.int .i64 X.1, .slice (some ⟨c, 0, none⟩) X.2.1.length X.2.1.length, .slice (some ⟨b, 0, none⟩) X.2.2.length X.2.2.length], v] w fun e w' => e = .returned (.bool (eOkB X && risB l 0 ((X.2.1.length : Int) - 1))) ∧ Below w.heap.size w w' := by
  have b1 := (Below.refl w.heap.size w).alloc (Nat.le_refl _) (.cells #[.int .i64 X.1, .slice (some ⟨c, 0, none⟩) X.2.1.length X.2.1.length, .slice (some ⟨b, 0, none⟩) X.2.2.length X.2.2.length] 28)
  have HV := ielok X c b hi _ (h.below b1)
  have HD := fun w' (hw : Below w.heap.size w w') => isetb v l X.2.1.length w' (hv.below hw) (by omega)
  have hpa := el_at w X.1 (.slice (some ⟨c, 0, none⟩) X.2.1.length X.2.1.length) (.slice (some ⟨b, 0, none⟩) X.2.2.length X.2.2.length)
  obtain ⟨y, hy⟩ : ∃ y, eOkB X = y := ⟨_, rfl⟩
  obtain ⟨z, hz⟩ : ∃ z, risB l 0 ((X.2.1.length : Int) - 1) = z := ⟨_, rfl⟩
  rw [hy] at HV ⊢
  rw [hz] at HD ⊢
  have HPA := Lib.hid hpa
  have hfl := h.fits.1
  clear h hv hy hz hpa
  cases y with
  | false =>
    go_enter Try.func49, Try.ntmps49
    go_wp2_with fail
    refine HV.mono ?_
    rintro e w1 ⟨rfl, hb1⟩
    go_wp2
    go_ret
    exact ⟨rfl, b1.trans (hb1.mono b1.size)⟩
  | true =>
    go_enter Try.func49, Try.ntmps49
    go_wp2_with fail
    refine HV.mono ?_
    rintro e w1 ⟨rfl, hb1⟩
    obtain ⟨p0, p1, p2, pl⟩ := HPA.out.below hb1
    have b2 := b1.trans (hb1.mono b1.size)
    clear hb1
    go_wp2_with fail
    refine (HD _ b2).mono ?_
    rintro e w2 ⟨rfl, rfl⟩
    go_wp2
    go_ret
    exact ⟨by first | rfl | (cases z <;> rfl), b2⟩
noncomputable def mCost (X : El) (t : List Int) : Int × Bool := if (eOkB X && risB t 0 ((X.2.1.length : Int) - 1)) = true then (costK X.2.1 t t.length, true) else (0, false)
set_option maxHeartbeats 1000000 in
theorem sCost (X : El) (t : List Int) (w : World) (lo hi : Nat) (u : Value) (h : CpE w lo hi u X) (lo1 hi1 : Nat) (v : Value) (ht : CpI w lo1 hi1 v t) : Calls Try.prog 21 #[u, v] w (Pnb (mCost X t) w) := by
  obtain ⟨ht, htl⟩ := ht.out
  obtain ⟨c, b, rfl, -, h⟩ := h
  obtain ⟨W1, hW1⟩ : ∃ W1, W1 = w.alloc (.cells #[.int .i64 X.1, .slice (some ⟨c, 0, none⟩) X.2.1.length X.2.1.length, .slice (some ⟨b, 0, none⟩) X.2.2.length X.2.2.length] 28) := ⟨_, rfl⟩
  have b1 : Below w.heap.size w W1 := by rw [hW1]; exact (Below.refl w.heap.size w).alloc (Nat.le_refl _) _
  have he : ElAt W1 w.heap.size X.1 (.slice (some ⟨c, 0, none⟩) X.2.1.length X.2.1.length) (.slice (some ⟨b, 0, none⟩) X.2.2.length X.2.2.length) := by rw [hW1]; exact el_at w _ _ _
  have HS := selok X c b hi w.heap.size _ (h.below b1) he
  have HP := fun w' (hw : Drw W1 w') => sset X.1 X.2.1.length X.2.1.length (some ⟨c, 0, none⟩) _ v t w.heap.size w' h.fits.1 (he.below hw.below) ((ht.below b1).below hw.below) htl
  have HU := Lib.hid (fun w' (hw : Drw W1 w') (hok : eOkB X = true) (hr : risB t 0 ((X.2.1.length : Int) - 1) = true) => scost X c b hi w.heap.size t v w' ((h.below b1).below hw.below) (he.below hw.below) (eOkB_iff.1 hok).2.2.2.2.2.2.1 (ris_projs (risB_iff.1 hr)) ((ht.below b1).below hw.below) htl)
  rw [hW1] at HS
  have HW1 := Lib.hid hW1
  have B := Lib.hid b1
  unfold Pnb mCost
  obtain ⟨y, hy⟩ : ∃ y, eOkB X = y := ⟨_, rfl⟩
  obtain ⟨z, hz⟩ : ∃ z, risB t 0 ((X.2.1.length : Int) - 1) = z := ⟨_, rfl⟩
  rw [hy, hz] at HU
  rw [hy] at HS ⊢
  rw [hz] at HP ⊢
  generalize costK X.2.1 t t.length = n at HU ⊢
  clear hW1 b1 he h hy hz ht
  cases y with
  | false =>
    go_enter Try.func21, Try.ntmps21
    go_wp2_with fail
    refine HS.mono ?_
    rintro e w1 ⟨rfl, hb1⟩
    rw [← HW1.out] at hb1
    have b2 := B.out.trans (hb1.below.mono B.out.size)
    go_wp2
    go_ret2
    exact ⟨rfl, b2⟩
  | true =>
    cases z with
    | false =>
      go_enter Try.func21, Try.ntmps21
      go_wp2_with fail
      refine HS.mono ?_
      rintro e w1 ⟨rfl, hb1⟩
      rw [← HW1.out] at hb1
      go_wp2_with fail
      refine (HP _ hb1).mono ?_
      rintro e w2 ⟨rfl, hb2⟩
      have b2 := B.out.trans ((hb1.trans hb2).below.mono B.out.size)
      go_wp2
      go_ret2
      exact ⟨rfl, b2⟩
    | true =>
      go_enter Try.func21, Try.ntmps21
      go_wp2_with fail
      refine HS.mono ?_
      rintro e w1 ⟨rfl, hb1⟩
      rw [← HW1.out] at hb1
      go_wp2_with fail
      refine (HP _ hb1).mono ?_
      rintro e w2 ⟨rfl, hb2⟩
      go_wp2_with fail
      refine (HU.out _ (hb1.trans hb2) (by first | exact rfl | trivial) (by first | exact rfl | trivial)).mono ?_
      rintro e w3 ⟨rfl, hb3⟩
      have b2 := B.out.trans (((hb1.trans hb2).trans hb3).below.mono B.out.size)
      go_wp2
      go_ret2
      exact ⟨rfl, b2⟩
set_option maxHeartbeats 1000000 in
theorem iCost (X : El) (t : List Int) (w : World) (lo hi : Nat) (u : Value) (h : CpE w lo hi u X) (lo1 hi1 : Nat) (v : Value) (ht : CpI w lo1 hi1 v t) : Calls Try.prog 23 #[u, v] w (Qnb (mCost X t) w) := by
  obtain ⟨ht, htl⟩ := ht.out
  obtain ⟨c, b, rfl, -, h⟩ := h
  have b1 := (Below.refl w.heap.size w).alloc (Nat.le_refl _) (.cells #[.int .i64 X.1, .slice (some ⟨c, 0, none⟩) X.2.1.length X.2.1.length, .slice (some ⟨b, 0, none⟩) X.2.2.length X.2.2.length] 28)
  have he := el_at w X.1 (.slice (some ⟨c, 0, none⟩) X.2.1.length X.2.1.length) (.slice (some ⟨b, 0, none⟩) X.2.2.length X.2.2.length)
  have HS := ihasset X c b hi v t _ (h.below b1) (ht.below b1) htl
  have HU := Lib.hid (fun w' (hw : Below w.heap.size w w') (hok : (eOkB X && risB t 0 ((X.2.1.length : Int) - 1)) = true) => icosts X c b hi t v w' (h.below hw) (eOkB_iff.1 (by simp only [Bool.and_eq_true] at hok; exact hok.1)).2.2.2.2.2.2.1 (ris_projs (risB_iff.1 (by simp only [Bool.and_eq_true] at hok; exact hok.2))) (ht.below hw) htl)
  have HE := Lib.hid he
  have B := Lib.hid b1
  unfold Qnb Pnb mCost
  obtain ⟨y, hy⟩ : ∃ y, (eOkB X && risB t 0 ((X.2.1.length : Int) - 1)) = y := ⟨_, rfl⟩
  rw [hy] at HS HU ⊢
  generalize costK X.2.1 t t.length = n at HU ⊢
  clear b1 he h hy ht
  cases y with
  | false =>
    go_enter Try.func23, Try.ntmps23
    go_wp2_with fail
    refine HS.mono ?_
    rintro e w1 ⟨rfl, hb1⟩
    have b2 := B.out.trans (hb1.mono B.out.size)
    go_wp2
    go_ret2
    exact ⟨rfl, b2⟩
  | true =>
    go_enter Try.func23, Try.ntmps23
    go_wp2_with fail
    refine HS.mono ?_
    rintro e w1 ⟨rfl, hb1⟩
    have b2 := B.out.trans (hb1.mono B.out.size)
    obtain ⟨p0, p1, p2, pl⟩ := HE.out.below hb1
    go_wp2_with fail
    refine (HU.out _ b2 (by first | exact rfl | trivial)).mono ?_
    rintro e w3 ⟨rfl, hb3⟩
    go_wp2
    go_ret2
    exact ⟨rfl, b2.trans (hb3.mono b2.size)⟩
end Go.Proofs.Ytcoelccmfljlhaa
