/- Profiles as results: read, compared, marked. -/
import Derived.Test.YtnpolmanebmmcaaRp5
namespace Go.Proofs.Ytnpolmanebmmcaa
open Go.ChangeShapes Go.WideShapes Go.ChangeAt Go.RowKit Go.Deep
set_option linter.unusedSimpArgs false
set_option linter.unusedVariables false
/-- A profile to be read: its rankings at a, its weights at c. -/
structure RdR (w : World) (lo hi : Nat) (a c : Value) (X : Pr) : Prop where
  rows : RdJ w lo hi a X.1
  wts : RdI w lo hi c X.2
theorem RdR.at {w w' : World} {lo hi : Nat} {a c : Value} {X : Pr} (h : RdR w lo hi a c X) (hb : Below w.heap.size w w') : RdR w' lo hi a c X := ⟨h.rows.below hb, h.wts.below hb⟩
theorem RdR.below {w w' : World} {lo hi : Nat} {a c : Value} {X : Pr} (h : RdR w lo hi a c X) (hb : Below w.heap.size w w') : RdR w' lo hi a c X := ⟨h.rows.below hb, h.wts.below hb⟩
theorem RdR.kept {w w' : World} {lo hi : Nat} {a c : Value} {X : Pr} {S : Nat → Prop} (h : RdR w lo hi a c X) (hk : Kept w w' S) (hs : ∀ b, lo ≤ b → b < hi → ¬ S b) : RdR w' lo hi a c X := ⟨h.rows.kept hk hs, h.wts.kept hk hs⟩
/-- A profile in memory of its own: its rankings in blocks before its weights'. -/
structure OwR (w : World) (lo hi : Nat) (a c : Value) (X : Pr) : Prop where
  ex : ∃ md, lo ≤ md ∧ md ≤ hi ∧ OwJ w lo md a X.1 ∧ OwI w md hi c X.2
theorem OwR.below {w w' : World} {lo hi : Nat} {a c : Value} {X : Pr} (h : OwR w lo hi a c X) (hb : Below w.heap.size w w') : OwR w' lo hi a c X := by
  obtain ⟨md, h1, h2, h3, h4⟩ := h
  exact ⟨md, h1, h2, h3.below hb, h4.below hb⟩
theorem OwR.kept {w w' : World} {lo hi : Nat} {a c : Value} {X : Pr} {S : Nat → Prop} (h : OwR w lo hi a c X) (hk : Kept w w' S) (hs : ∀ b, lo ≤ b → b < hi → ¬ S b) : OwR w' lo hi a c X := by
  obtain ⟨md, h1, h2, h3, h4⟩ := h
  exact ⟨md, h1, h2, h3.kept hk (fun b q1 q2 => hs b q1 (by omega)), h4.kept hk (fun b q1 q2 => hs b (by omega) q2)⟩
theorem OwR.rd {w : World} {lo hi : Nat} {a c : Value} {X : Pr} (h : OwR w lo hi a c X) : RdR w lo hi a c X := by
  obtain ⟨md, h1, h2, h3, h4⟩ := h
  exact ⟨h3.rd.mono (Nat.le_refl _) h2, (h4.mono h1 (Nat.le_refl _)).rd⟩
theorem OwR.nil (w : World) {lo hi : Nat} (h : lo ≤ hi) : OwR w lo hi (.slice none 0 0) (.slice none 0 0) ([], []) := ⟨lo, Nat.le_refl _, h, OwJ.nil _ _ _, OwI.nil _ _ _⟩
theorem RdR.nil (w : World) (lo hi : Nat) : RdR w lo hi (.slice none 0 0) (.slice none 0 0) ([], []) := ⟨RdJ.nil _ _ _, RdI.nil _ _ _⟩
theorem eqRdR {a c a' c' : Value} {X : Pr} {w : World} {lo hi lo' hi' : Nat} (h : RdR w lo hi a c X) (h' : RdR w lo' hi' a' c' X) :
    Calls Try.prog 14 #[.agg #[a, c], .agg #[a', c']] w fun e w' => e = .returned (.bool true) ∧ Below w.heap.size w w' :=
  eqPr a c a' c' X.1 X.2 w h.rows.list h.wts.1 h'.rows.list h'.wts.1 h.rows.2 h.wts.2.2
/-- Marks from k to below r lie in the rankings, then in the weights. -/
def MkR (w : World) (lo hi : Nat) (a c : Value) (k r : Int) : Prop := ∃ md m, lo ≤ md ∧ md ≤ hi ∧ MrJ w lo md a k m ∧ MkI w md hi c m r ∧ k ≤ m ∧ m ≤ k + 3000000000000
theorem MkR.below {w w' : World} {lo hi : Nat} {a c : Value} {k r : Int} (h : MkR w lo hi a c k r) (hb : Below w.heap.size w w') : MkR w' lo hi a c k r := by
  obtain ⟨md, m, h1, h2, h3, h4, h5⟩ := h
  exact ⟨md, m, h1, h2, h3.below hb, h4.below hb, h5⟩
theorem MkR.kept {w w' : World} {lo hi : Nat} {a c : Value} {k r : Int} {S : Nat → Prop} (h : MkR w lo hi a c k r) (hk : Kept w w' S) (hs : ∀ b, lo ≤ b → b < hi → ¬ S b) : MkR w' lo hi a c k r := by
  obtain ⟨md, m, h1, h2, h3, h4, h5⟩ := h
  exact ⟨md, m, h1, h2, h3.kept hk (fun b q1 q2 => hs b q1 (by omega)), h4.block (fun d _ a1 a2 hc => hk.block d hc (hs d (by omega) a2)), h5⟩
set_option maxHeartbeats 1000000 in
theorem markOwR {a c : Value} {X : Pr} {w : World} {lo hi : Nat} (k : Int) (h : OwR w lo hi a c X) (hh : hi ≤ w.heap.size) (h1 : 0 ≤ k) (h2 : k ≤ 400000000000) :
    Calls Try.prog 18 #[.agg #[a, c], .int .i64 k] w fun e w' => (∃ r, e = .returned (.int .i64 r) ∧ k ≤ r ∧ r ≤ k + 3000002097152 ∧ MkR w' lo hi a c k r) ∧ Kept w w' (fun x => lo ≤ x ∧ x < hi) := by
  obtain ⟨md, q1, q2, hJ, hI⟩ := h
  have b1 := (Below.refl w.heap.size w).alloc (Nat.le_refl _) (.cells #[a, c] 28)
  have HM := markOwJ k (hJ.below b1) h1 h2
  have HO := hI.below b1
  have K : (w.alloc (.cells #[a, c] 28)).cell? ⟨w.heap.size, 1, none⟩ = some c := by go_simp
  have K' := Lib.hid K
  clear hI hJ K
  go_enter Try.func18, Try.ntmps18
  go_wp2_with fail
  refine HM.mono ?_
  rintro e w1 ⟨⟨m, rfl, k1, k2, hmr⟩, hk1⟩
  have a1 : w1.cell? ⟨w.heap.size, 1, none⟩ = some c := (hk1.cell (p := ⟨w.heap.size, 1, none⟩) (by simp) (by simp; omega)).trans K'.out
  have HI := markOwI m (HO.kept hk1 (fun x z1 z2 z3 => by omega)) (by omega) (by omega)
  have kk : Kept w w1 (fun x => lo ≤ x ∧ x < hi) := (Kept.ofBelow b1).trans (hk1.mono (fun x q => by omega))
  have HMR := Lib.hid hmr
  clear hk1 HO HM hmr
  go_wp2_with fail
  refine HI.mono ?_
  rintro e w2 ⟨⟨r, rfl, r1, r2, hmi⟩, hk2⟩
  have hfin : MkR w2 lo hi a c k r := ⟨md, m, q1, q2, HMR.out.kept hk2 (fun x z1 z2 z3 => by omega), hmi, k1, k2⟩
  have HF := Lib.hid hfin
  have kk2 := kk.trans (hk2.mono (fun x q => by omega))
  clear hmi hk2 hfin HI
  go_wp2
  go_ret
  exact ⟨⟨r, rfl, by omega, by omega, HF.out⟩, kk2⟩
set_option maxHeartbeats 1000000 in
theorem heldMkR {a c : Value} {w : World} {lo hi : Nat} {k r : Int} (h : MkR w lo hi a c k r) (h1 : 0 ≤ k) (h2 : k ≤ 400000000000) :
    Calls Try.prog 28 #[.agg #[a, c], .int .i64 k] w fun e w' => e = .returned (.int .i64 r) ∧ Below w.heap.size w w' := by
  obtain ⟨md, m, q1, q2, hJ, hI, m1, m2⟩ := h
  have b1 := (Below.refl w.heap.size w).alloc (Nat.le_refl _) (.cells #[a, c] 28)
  have HM := heldMkJ (hJ.below b1) h1 h2
  have HI := heldMkI (hI.below b1) (by omega) (by omega)
  have K : (w.alloc (.cells #[a, c] 28)).cell? ⟨w.heap.size, 1, none⟩ = some c := by go_simp
  have hr : 0 ≤ r := by
    rcases hI with ⟨a', cap, -, rfl⟩ | ⟨_, n, _, _, _, _, _, _, _, _, _, _, rfl⟩ <;> omega
  clear hI hJ
  go_enter Try.func28, Try.ntmps28
  go_wp2_with fail
  refine HM.mono ?_
  rintro e w1 ⟨rfl, rfl⟩
  have hm0 : ¬ m < 0 := by omega
  go_wp2_with fail
  refine HI.mono ?_
  rintro e w1 ⟨rfl, rfl⟩
  have hr0 : ¬ r < 0 := by omega
  go_wp2
  go_ret
  exact ⟨rfl, b1⟩
/-- What a call answers: a profile to be read, and a bool. -/
def PRb (m : Pr × Bool) (w : World) (e : Ending) (w' : World) : Prop := ∃ a c, e = .returned (.tuple #[.agg #[a, c], .bool m.2]) ∧ RdR w' w.heap.size w'.heap.size a c m.1 ∧ Below w.heap.size w w'
theorem PRb.out {X : Pr} {z : Bool} {w w' : World} {e : Ending} (h : PRb (X, z) w e w') : ∃ a c, e = .returned (.tuple #[.agg #[a, c], .bool z]) ∧ RdR w' w.heap.size w'.heap.size a c X ∧ Below w.heap.size w w' := h
/-- A profile in memory of the call's own, and a bool. -/
def QRb (m : Pr × Bool) (w : World) (e : Ending) (w' : World) : Prop := ∃ a c, e = .returned (.tuple #[.agg #[a, c], .bool m.2]) ∧ OwR w' w.heap.size w'.heap.size a c m.1 ∧ Below w.heap.size w w'
theorem QRb.out {X : Pr} {z : Bool} {w w' : World} {e : Ending} (h : QRb (X, z) w e w') : ∃ a c, e = .returned (.tuple #[.agg #[a, c], .bool z]) ∧ OwR w' w.heap.size w'.heap.size a c X ∧ Below w.heap.size w w' := h
end Go.Proofs.Ytnpolmanebmmcaa
