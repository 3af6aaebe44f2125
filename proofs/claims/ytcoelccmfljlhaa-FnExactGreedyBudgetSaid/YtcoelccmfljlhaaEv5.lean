/- The supporters of a project: the specification's list and the program's. -/
import Derived.Test.YtcoelccmfljlhaaEv4
namespace Go.Proofs.Ytcoelccmfljlhaa
open Go.ChangeShapes Go.WideShapes Go.ChangeAt Go.RowKit Go.Deep
set_option linter.unusedSimpArgs false
set_option linter.unusedVariables false
/-- Voter k approves project q. -/
def appr (A : List (List Int)) (q : Int) (k : Nat) : Bool := decide (q ∈ A.getD k [])
def supL (A : List (List Int)) (q : Int) : List Int := selN A.length (appr A q)
set_option maxHeartbeats 1000000 in
set_option maxRecDepth 100000 in
theorem ssup (X : El) (c b hi p : Nat) (q : Int) (w : World) (h : ElR w c b hi X) (hp : ElAt w p X.1 (.slice (some ⟨c, 0, none⟩) X.2.1.length X.2.1.length) (.slice (some ⟨b, 0, none⟩) X.2.2.length X.2.2.length)) :
    Calls Try.prog 43 #[.pointer (some ⟨p, 0, none⟩), .int .i64 q] w fun e w' => (∃ v, e = .returned v ∧ OwI w' w.heap.size w'.heap.size v (supL X.2.2 q)) ∧ Below w.heap.size w w' := by
  obtain ⟨i0, hi, hz0, hz1, hz2⟩ := info_parts infoI
  have hf := h.fits
  have hf2 := hf.2.1.1
  have HF := Lib.hid hf.2.1.2
  obtain ⟨M, C, A⟩ := X
  simp only at hp hf2 HF ⊢
  obtain ⟨p0, p1, p2, pl⟩ := hp
  have hr := h.rows
  simp only at hr
  have hown0 : (w.alloc (.cells #[] 2)).ownsRow w.heap.size 2 1 (.slice (some ⟨w.heap.size, 0, none⟩) 0 0) 0 (([] : List Int).map (Value.int .i64)) := World.ownsRow_lit w #[] 0 (Nat.le_refl _) (by unfold maxLen; omega) rfl
  have hb0 := (Below.refl w.heap.size w).alloc (Nat.le_refl _) (.cells #[] 2)
  clear h hf
  go_enter Try.func43, Try.ntmps43
  go_wp2
  go_loopg [5, 6] A.length (fun g v i wr => ∃ (k : Nat) (l : List Int), k ≤ A.length ∧ g = A.length - k ∧ i = .int .i64 k ∧ l.length ≤ k ∧ Hid (l = selN k (appr A q)) ∧ wr.ownsRow w.heap.size 2 1 v l.length (l.map (Value.int .i64)) ∧ Below w.heap.size w wr)
  case atStart => exact ⟨0, [], Nat.zero_le _, rfl, rfl, Nat.le_refl _, rfl, hown0, hb0⟩
  case round =>
    clear hown0 hb0
    obtain ⟨k, l, hk, rfl, rfl, hll, HL, hown, hb⟩ := hrel
    have z2 := (hb.cell (p := ⟨p, 2, none⟩) pl).trans p2
    by_cases hkn : k < A.length
    · obtain ⟨c', a1, a2⟩ := (hr.below hb).at hkn
      have hlen := HF.out k hkn
      have HH := has_any (.slice (some ⟨c', 0, none⟩) (A.getD k []).length (A.getD k []).length) (A.getD k []) q wr (a2.row _) (by omega)
      have hs := selN_succ k (appr A q)
      obtain ⟨z, hz⟩ : ∃ z, appr A q k = z := ⟨_, rfl⟩
      have hz' : decide (q ∈ A.getD k []) = z := hz
      rw [hz'] at HH
      rw [hz] at hs
      have HS := Lib.hid hs
      have sw := hb.size
      generalize A.getD k [] = t at a1 a2 HH hlen hz'
      clear hz hs a2 hlen hz'
      cases z with
      | true =>
        have HE : Hid (l ++ [(k : Int)] = selN (k + 1) (appr A q)) := by show l ++ [(k : Int)] = _; rw [HS.out, ← HL.out]; simp
        go_wp2_with fail
        refine HH.mono ?_
        rintro e w2 ⟨rfl, rfl⟩
        go_wp2_with (first
          | (at_builtin; refine wpList_append_own _ rfl _ _ 22 rfl w.heap.size 2 i0 (.int .i64 0) 1 8 Try.underlying22 hi hz0 hz1 hz2 rfl (by decide) _ _ _ rfl (hown.alloc _) ⟨wr.heap.size, 0, none⟩ 1 1 [.int .i64 (k : Int)] rfl rfl ?c1 ?c2 ?c3 ?c4 ?c5 ?_))
        case c1 => exact World.news_of_block (cs := #[.int .i64 (k : Int)]) (t := 2) (fr := (0, 0)) (heap_alloc_new wr _)
        case c2 => simp [Value.oneCell']
        case c3 => unfold maxLen; omega
        case c4 => omega
        case c5 => simp; omega
        intro v' w3 hown3 hgrow _
        have hb3 := (hb.alloc (by omega) _).grown hgrow (by simp; omega) (fun x e => (hown.lt x e).1)
        have HO : Hid (w3.ownsRow w.heap.size 2 1 v' (l ++ [(k : Int)]).length ((l ++ [(k : Int)]).map (Value.int .i64))) := by rw [snoc_len', snoc_map']; exact hown3
        have HLN := Lib.hid (snoc_len' l (k : Int))
        clear hown3 hgrow
        go_wp2
        go_roundg (A.length - (k + 1))
        case measure => omega
        case rel => exact ⟨k + 1, l ++ [(k : Int)], by omega, rfl, by simp, by rw [HLN.out]; omega, HE, HO.out, hb3⟩
      | false =>
        have HE : Hid (l = selN (k + 1) (appr A q)) := by show l = _; rw [HS.out, ← HL.out]; simp
        go_wp2_with fail
        refine HH.mono ?_
        rintro e w2 ⟨rfl, rfl⟩
        go_wp2
        go_roundg (A.length - (k + 1))
        case measure => omega
        case rel => exact ⟨k + 1, l, by omega, rfl, by simp, by omega, HE, hown, hb⟩
    · have e : k = A.length := by omega
      subst e
      go_wp2
      go_ret
      refine ⟨⟨_, rfl, ?_⟩, hb⟩
      unfold supL
      rw [← HL.out]
      exact ow_of_own hown (Nat.le_refl _) (by omega)
theorem iappr (X : El) (c b hi k : Nat) (q : Int) (w : World) (h : ElR w c b hi X) (hk : k < X.2.2.length) :
    Calls Try.prog 69 #[.agg #[.int .i64 X.1, .slice (some ⟨c, 0, none⟩) X.2.1.length X.2.1.length, .slice (some ⟨b, 0, none⟩) X.2.2.length X.2.2.length], .int .i64 (k : Int), .int .i64 q] w fun e w' => e = .returned (.bool (appr X.2.2 q k)) ∧ Below w.heap.size w w' := by
  have b1 := (Below.refl w.heap.size w).alloc (Nat.le_refl _) (.cells #[.int .i64 X.1, .slice (some ⟨c, 0, none⟩) X.2.1.length X.2.1.length, .slice (some ⟨b, 0, none⟩) X.2.2.length X.2.2.length] 28)
  have hbw := World.rowIs.lt h.costs
  obtain ⟨c', a1, a2⟩ := (h.rows.below b1).at hk
  have hl := h.fits.2.1.2 k hk
  have hbl := h.rows.lt
  have HH := cont_any (.slice (some ⟨c', 0, none⟩) (X.2.2.getD k []).length (X.2.2.getD k []).length) (X.2.2.getD k []) q _ (a2.row _) (by omega)
  unfold appr
  generalize X.2.2.getD k [] = t at a1 a2 HH hl ⊢
  generalize decide (q ∈ t) = z at HH ⊢
  clear h a2 hl
  go_enter Try.func69, Try.ntmps69
  go_wp2_with fail
  refine HH.mono ?_
  rintro e w1 ⟨rfl, rfl⟩
  go_wp2
  go_ret
  exact ⟨rfl, b1⟩
theorem isup1 (X : El) (c b hi k pe pq : Nat) (q : Int) (w : World) (h : ElR w c b hi X) (hk : k < X.2.2.length) (he : ElAt w pe X.1 (.slice (some ⟨c, 0, none⟩) X.2.1.length X.2.1.length) (.slice (some ⟨b, 0, none⟩) X.2.2.length X.2.2.length)) (hq : w.cell? ⟨pq, 0, none⟩ = some (.int .i64 q)) :
    Calls Try.prog 68 (#[.int .i64 (k : Int)] ++ #[.pointer (some ⟨pe, 0, none⟩), .pointer (some ⟨pq, 0, none⟩)]) w fun e w' => e = .returned (.bool (appr X.2.2 q k)) ∧ Below w.heap.size w w' := by
  show Calls Try.prog 68 #[.int .i64 (k : Int), .pointer (some ⟨pe, 0, none⟩), .pointer (some ⟨pq, 0, none⟩)] w _
  have HH := iappr X c b hi k q w h hk
  obtain ⟨p0, p1, p2, pl⟩ := he
  generalize appr X.2.2 q k = z at HH ⊢
  clear h
  go_enter Try.func68, Try.ntmps68
  go_wp2_with fail
  refine HH.mono ?_
  rintro e w1 ⟨rfl, hb1⟩
  go_wp2
  go_ret
  exact ⟨rfl, hb1⟩
set_option maxHeartbeats 1000000 in
theorem isup (X : El) (c b hi : Nat) (q : Int) (w : World) (h : ElR w c b hi X) :
    Calls Try.prog 45 #[.agg #[.int .i64 X.1, .slice (some ⟨c, 0, none⟩) X.2.1.length X.2.1.length, .slice (some ⟨b, 0, none⟩) X.2.2.length X.2.2.length], .int .i64 q] w fun e w' => (∃ v, e = .returned v ∧ OwI w' w.heap.size w'.heap.size v (supL X.2.2 q)) ∧ Below w.heap.size w w' := by
  obtain ⟨W1, hW1⟩ : ∃ W1, W1 = w.alloc (.cells #[.int .i64 X.1, .slice (some ⟨c, 0, none⟩) X.2.1.length X.2.1.length, .slice (some ⟨b, 0, none⟩) X.2.2.length X.2.2.length] 28) := ⟨_, rfl⟩
  have b1 : Below w.heap.size w W1 := by rw [hW1]; exact (Below.refl w.heap.size w).alloc (Nat.le_refl _) _
  have he : ElAt W1 w.heap.size X.1 (.slice (some ⟨c, 0, none⟩) X.2.1.length X.2.1.length) (.slice (some ⟨b, 0, none⟩) X.2.2.length X.2.2.length) := by rw [hW1]; exact el_at w _ _ _
  have s1 : W1.heap.size = w.heap.size + 1 := by rw [hW1]; simp
  have b2 := (Below.refl W1.heap.size W1).alloc (Nat.le_refl _) (.cells #[.int .i64 q] 2)
  have hq : (W1.alloc (.cells #[.int .i64 q] 2)).cell? ⟨W1.heap.size, 0, none⟩ = some (.int .i64 q) := by go_simp
  have he2 := he.below b2
  have h2 := (h.below b1).below b2
  have hfa := h.fits.2.1.1
  have HW := whoJ 68 (fun _ _ => rfl) #[.pointer (some ⟨w.heap.size, 0, none⟩), .pointer (some ⟨W1.heap.size, 0, none⟩)] X.2.2.length (appr X.2.2 q) (some ⟨b, 0, none⟩) X.2.2.length _ hfa
    (fun k w' hk hw => isup1 X c b hi k w.heap.size W1.heap.size q w' (h2.below hw) hk (he2.below hw) ((hw.cell (p := ⟨W1.heap.size, 0, none⟩) (by simp)).trans hq))
  have hbb := b1.trans (b2.mono b1.size)
  have B := Lib.hid hbb
  rw [s1] at HW
  rw [hW1] at HW
  have HW1 := Lib.hid hW1
  clear h he he2 h2 hq b1 b2 hW1 hbb
  unfold supL
  generalize selN X.2.2.length (appr X.2.2 q) = L at HW ⊢
  go_enter Try.func45, Try.ntmps45
  go_wp2_with fail
  refine HW.mono ?_
  rintro e w1 ⟨⟨v, rfl, hv⟩, hb1⟩
  have B1 := Lib.hid hb1
  have V := Lib.hid hv
  clear hb1 hv
  go_wp2
  go_ret
  have hbb := B.out
  rw [HW1.out] at hbb
  exact ⟨⟨v, rfl, V.out.mono (by simp; omega) (Nat.le_refl _)⟩, hbb.trans (B1.out.mono hbb.size)⟩
end Go.Proofs.Ytcoelccmfljlhaa
