/- Projects and orders of a valid election. -/
import Derived.Test.YtcoelccmfljlhaaEv3
import Derived.Test.YtcoelccmfljlhaaDf1
namespace Go.Proofs.Ytcoelccmfljlhaa
open Go.ChangeShapes Go.WideShapes Go.ChangeAt Go.RowKit Go.Deep
set_option linter.unusedSimpArgs false
set_option linter.unusedVariables false
theorem sproj (M : Int) (n cap : Nat) (x : Option Addr) (a : Value) (q : Int) (p : Nat) (w : World) (hn : n ≤ 1048576) (hp : ElAt w p M (.slice x n cap) a) :
    Calls Try.prog 42 #[.pointer (some ⟨p, 0, none⟩), .int .i64 q] w fun e w' => e = .returned (.bool (inB q 0 ((n : Int) - 1))) ∧ w = w' := by
  obtain ⟨p0, p1, p2, pl⟩ := hp
  obtain ⟨P', hP'⟩ : ∃ P' : Int, (n : Int) - 1 = P' := ⟨_, rfl⟩
  have wq1 : IntKind.i64.wrap ((n : Int) - 1) = P' := by rw [IntKind.wrap_i64]; omega
  rw [hP']
  have HI := in_val q 0 P' w
  go_enter Try.func42, Try.ntmps42
  go_wp2_with fail
  refine HI.mono ?_
  rintro e w1 ⟨rfl, rfl⟩
  go_wp2
  go_ret
  exact ⟨rfl, rfl⟩
set_option maxHeartbeats 1000000 in
theorem ihasorder (X : El) (c b hi : Nat) (v : Value) (l : List Int) (w : World) (h : ElR w c b hi X) (hv : RowV w v l) (hl : l.length ≤ 1048576) :
    Calls Try.prog 44 #[.agg #[.int .i64 X.1, .slice (some ⟨c, 0, none⟩) X.2.1.length X.2.1.length, .slice (some ⟨b, 0, none⟩) X.2.2.length X.2.2.length], v] w fun e w' => e = .returned (.bool (eOkB X && allDiffB X.2.1.length l)) ∧ Below w.heap.size w w' := by
  have b1 := (Below.refl w.heap.size w).alloc (Nat.le_refl _) (.cells #[.int .i64 X.1, .slice (some ⟨c, 0, none⟩) X.2.1.length X.2.1.length, .slice (some ⟨b, 0, none⟩) X.2.2.length X.2.2.length] 28)
  have HV := ielok X c b hi _ (h.below b1)
  have HD := fun w' (hw : Below w.heap.size w w') => diffI (some ⟨c, 0, none⟩) X.2.1.length X.2.1.length v l w' (hv.below hw) hl h.fits.1
  have hpa := el_at w X.1 (.slice (some ⟨c, 0, none⟩) X.2.1.length X.2.1.length) (.slice (some ⟨b, 0, none⟩) X.2.2.length X.2.2.length)
  obtain ⟨y, hy⟩ : ∃ y, eOkB X = y := ⟨_, rfl⟩
  obtain ⟨z, hz⟩ : ∃ z, allDiffB X.2.1.length l = z := ⟨_, rfl⟩
  rw [hy] at HV ⊢
  rw [hz] at HD ⊢
  have HPA := Lib.hid hpa
  clear h hv hy hz hpa
  cases y with
  | false =>
    go_enter Try.func44, Try.ntmps44
    go_wp2_with fail
    refine HV.mono ?_
    rintro e w1 ⟨rfl, hb1⟩
    go_wp2
    go_ret
    exact ⟨rfl, b1.trans (hb1.mono b1.size)⟩
  | true =>
    go_enter Try.func44, Try.ntmps44
    go_wp2_with fail
    refine HV.mono ?_
    rintro e w1 ⟨rfl, hb1⟩
    obtain ⟨p0, p1, p2, pl⟩ := HPA.out.below hb1
    have b2 := b1.trans (hb1.mono b1.size)
    clear hb1
    go_wp2_with fail
    refine (HD _ b2).mono ?_
    rintro e w2 ⟨rfl, hb2⟩
    go_wp2
    go_ret
    exact ⟨by first | rfl | (cases z <;> rfl), b2.trans (hb2.mono b2.size)⟩
end Go.Proofs.Ytcoelccmfljlhaa
