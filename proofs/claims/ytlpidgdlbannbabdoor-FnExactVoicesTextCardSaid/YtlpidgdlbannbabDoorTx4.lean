/- VoicesText: both calls by their contracts. -/
import Derived.Test.YtlpidgdlbannbabDoorTx3
import Derived.Test.YtlpidgdlbannbabDoorVo9
namespace Go.Proofs.YtlpidgdlbannbabDoor
open Go.ChangeShapes Go.WideShapes Go.ChangeAt Go.RowKit Go.Deep
set_option linter.unusedSimpArgs false
set_option linter.unusedVariables false
theorem okLB_of {L : List Vc} (h : okLB L = true) : okL L := by unfold okLB at h; exact @of_decide_eq_true _ (Classical.propDecidable _) h
theorem ok_small {L : List Vc} (h : okL L) : L.length ≤ 12 ∧ ∀ k, k < L.length → smallI (L.getD k (false, [])).2 := by
  refine ⟨h.2.1, fun k hk => ?_⟩
  obtain ⟨h1, h2⟩ := h.2.2 k hk
  refine ⟨by omega, fun x hx => ?_⟩
  obtain ⟨j, hj, e⟩ := List.mem_iff_getElem.1 hx
  have h3 := h2 j hj
  have e2 : (L.getD k (false, [])).2.getD j 0 = x := (getD_of hj).trans e
  unfold elOk at h3
  rw [e2] at h3
  have := h.2.1
  omega
/-- A text and a bool. -/
def Psb (m : ByteArray × Bool) (w : World) (e : Ending) (w' : World) : Prop := e = .returned (.tuple #[.string m.1, .bool m.2]) ∧ Below w.heap.size w w'
theorem Psb.out {s : ByteArray} {z : Bool} {w w' : World} {e : Ending} (h : Psb (s, z) w e w') : e = .returned (.tuple #[.string s, .bool z]) ∧ Below w.heap.size w w' := h
abbrev Qsb := Psb
noncomputable def mVText (L : List Vc) : ByteArray × Bool := if okLB L then (bytesOf (Lib.join (L.map vtext) [32]), true) else (⟨#[]⟩, false)
set_option maxHeartbeats 1000000 in
theorem sVText (L : List Vc) (w : World) (lo hi : Nat) (u : Value) (c : CpV w lo hi u L) : Calls Tryd.prog 5 #[u] w (Psb (mVText L) w) := by
  obtain ⟨rfl, h, -, hf⟩ := c
  have HS := sok_any L lo lo L.length w h hf
  unfold Psb mVText
  obtain ⟨z, hz⟩ : ∃ z, okLB L = z := ⟨_, rfl⟩
  rw [hz] at HS ⊢
  cases z with
  | false =>
    clear h
    go_enter Tryd.func5, Tryd.ntmps5
    go_wp2_with fail
    refine HS.mono ?_
    rintro e w1 ⟨rfl, hb1⟩
    go_wp2
    go_ret2
    exact ⟨rfl, hb1⟩
  | true =>
    obtain ⟨k1, k2⟩ := ok_small (okLB_of hz)
    have HT := fun w' (hw : Below w.heap.size w w') => svtext L lo lo L.length w' (h.below hw) k1 k2
    rw [if_pos rfl]
    generalize bytesOf (Lib.join (L.map vtext) [32]) = s at HT ⊢
    clear h k2
    go_enter Tryd.func5, Tryd.ntmps5
    go_wp2_with fail
    refine HS.mono ?_
    rintro e w1 ⟨rfl, hb1⟩
    go_wp2_with fail
    refine (HT _ hb1).mono ?_
    rintro e w2 ⟨rfl, hb2⟩
    go_wp2
    go_ret2
    exact ⟨rfl, hb1.trans (hb2.mono hb1.size)⟩
set_option maxHeartbeats 1000000 in
theorem iVText (L : List Vc) (w : World) (lo hi : Nat) (u : Value) (c : CpV w lo hi u L) (hp : PowT w) : Calls Tryd.prog 7 #[u] w (Psb (mVText L) w) := by
  obtain ⟨rfl, h, -, hf⟩ := c
  have HS := iok_any L lo lo L.length w h hf
  unfold Psb mVText
  obtain ⟨z, hz⟩ : ∃ z, okLB L = z := ⟨_, rfl⟩
  rw [hz] at HS ⊢
  cases z with
  | false =>
    clear h hp
    go_enter Tryd.func7, Tryd.ntmps7
    go_wp2_with fail
    refine HS.mono ?_
    rintro e w1 ⟨rfl, hb1⟩
    go_wp2
    go_ret2
    exact ⟨rfl, hb1⟩
  | true =>
    obtain ⟨k1, k2⟩ := ok_small (okLB_of hz)
    have HT := fun w' (hw : Below w.heap.size w w') => toe_voice L lo lo L.length w' (h.below hw) k1 k2 (hp.below hw)
    rw [if_pos rfl]
    unfold strOf at HT
    have eb : (⟨(Lib.join (L.map vtext) [32]).toArray⟩ : ByteArray) = bytesOf (Lib.join (L.map vtext) [32]) := rfl
    rw [eb] at HT
    generalize bytesOf (Lib.join (L.map vtext) [32]) = s at HT ⊢
    clear h k2 hp eb
    go_enter Tryd.func7, Tryd.ntmps7
    go_wp2_with fail
    refine HS.mono ?_
    rintro e w1 ⟨rfl, hb1⟩
    go_wp2_with fail
    refine (HT _ hb1).mono ?_
    rintro e w2 ⟨rfl, hb2⟩
    go_wp2
    go_ret2
    exact ⟨rfl, hb1.trans (hb2.mono hb1.size)⟩
end Go.Proofs.YtlpidgdlbannbabDoor
