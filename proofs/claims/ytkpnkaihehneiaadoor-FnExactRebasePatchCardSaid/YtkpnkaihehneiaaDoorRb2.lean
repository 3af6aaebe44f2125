/- What is left of a patch behind another one: the program's answer. -/
import Derived.Test.YtkpnkaihehneiaaDoorRb1
namespace Go.Proofs.YtkpnkaihehneiaaDoor
open Go.ChangeShapes Go.WideShapes Go.ChangeAt Go.RowKit Go.Deep
set_option linter.unusedSimpArgs false
set_option linter.unusedVariables false
theorem ec_one (L : List Ed) (j : Nat) : (ec L j).oneCell' = true := by
  unfold ec
  split
  · rfl
  · split
    · rfl
    · split <;> rfl
theorem Es.cells {w : World} {b : Nat} {L : List Ed} (h : Es w b L) {j : Nat} (hj : j < L.length * 4) : w.cell? ⟨b, j, none⟩ = some (ec L j) := by
  rw [World.rowIs.cell h hj]
  have : j / 4 < L.length := by omega
  simp [ef, ec, this]
set_option maxHeartbeats 1000000 in
set_option maxRecDepth 100000 in
theorem clone7 (b cap : Nat) (L : List Ed) (w : World) (h : Es w b L) (hl : L.length ≤ 1048576) :
    Calls Tryd.prog 62 #[.slice (some ⟨b, 0, none⟩) L.length cap] w fun e w' => (∃ (g cp N : Nat) (f : Nat → Value), e = .returned (.slice (some ⟨g, 0, none⟩) L.length cp) ∧ w.heap.size ≤ g ∧ g < w'.heap.size ∧ w'.rowIs g 70 N f ∧ L.length * 4 ≤ N ∧ L.length ≤ cp ∧ ∀ j, j < L.length * 4 → f j = ec L j) ∧ Below w.heap.size w w' := by
  have heq : ∀ w : World, Sem.run Tryd.prog (binOp BinOp.eql 32 (.slice (some ⟨b, 0, none⟩) L.length cap) (.slice none 0 0)) w = .ok (.bool false) w := fun w => by
    first | rfl | kernel_rfl | (unfold binOp; simp [Tryd.underlying32, go_sem]; done)
  obtain ⟨i0, hi, hz0, hz1, hz2⟩ := info_parts7 infoE
  have hown0 : (w.alloc (.cells #[] 70)).ownsRow w.heap.size 70 4 (.slice (some ⟨w.heap.size, 0, none⟩) 0 0) 0 [] := World.ownsRow_lit w #[] 0 (Nat.le_refl _) (by unfold maxLen; omega) rfl
  have hb0 : Below w.heap.size w (w.alloc (.cells #[] 70)) := (Below.refl _ _).alloc (Nat.le_refl _) _
  have hnews : ∀ j u, (fl L)[j]? = some u → (w.alloc (.cells #[] 70)).cell? ((⟨b, 0, none⟩ : Addr).add j) = some u := by
    intro j u hj
    have hlen : j < L.length * 4 := by
      have := (List.getElem?_eq_some_iff.1 hj).1
      simpa [fl_len] using this
    rw [Addr.add_lit, Nat.zero_add, (h.below hb0).cells hlen]
    simpa [fl, hlen] using hj
  have hone : ∀ u ∈ fl L, u.oneCell' = true := by
    intro u hu
    obtain ⟨j, _, rfl⟩ := List.mem_map.1 hu
    exact ec_one L j
  have HN := Lib.hid hnews
  have HO := Lib.hid hone
  clear hnews hone h
  go_enter Tryd.func62, Tryd.ntmps62
  go_wp2_with (first
    | (at_builtin; refine wpList_append_own _ rfl _ _ 32 rfl w.heap.size 70 i0 _ 4 48 Tryd.underlying32 hi hz0 hz1 hz2 rfl (by decide) _ _ _ rfl hown0 ⟨b, 0, none⟩ L.length cap (fl L) rfl ?c1 HN.out HO.out ?c3 ?c4 ?c5 ?_)
    | go_in)
  case c1 => rw [fl_len]
  case c3 => unfold maxLen; omega
  case c4 => omega
  case c5 => simp
  · intro v' w2 hown' hgrow hnil
    have hb2 := hb0.grown hgrow (by simp) (fun k hk => by cases hk; exact Nat.le_refl _)
    have hC : ∃ (g cp N : Nat) (f : Nat → Value), v' = .slice (some ⟨g, 0, none⟩) L.length cp ∧ w.heap.size ≤ g ∧ g < w2.heap.size ∧ w2.rowIs g 70 N f ∧ L.length * 4 ≤ N ∧ L.length ≤ cp ∧ ∀ j, j < L.length * 4 → f j = ec L j := by
      obtain ⟨_, h | ⟨g, cp, cur, e, hg, hc, hn, hcap, hs, ht⟩⟩ := hown'
      · exact absurd h.1 hnil
      · (try rw [Nat.zero_add] at e)
        (try rw [Nat.zero_add] at hn)
        (try rw [Nat.zero_add] at ht)
        (try rw [Nat.zero_add] at hcap)
        refine ⟨g, cp, cur.size, fun i => (cur[i]?).getD (.bool false), e, hg, (Array.getElem?_eq_some_iff.1 hc).1, ⟨cur, hc, rfl, fun i hi => by simp [hi]⟩, by omega, by omega, fun j hj => ?_⟩
        have h1 : (cur.toList.take (L.length * 4))[j]? = (fl L)[j]? := by rw [ht]; try rfl
        rw [List.getElem?_take_of_lt hj, Array.getElem?_toList] at h1
        show (cur[j]?).getD (.bool false) = _
        rw [h1]
        simp [fl, hj]
    clear hown' hgrow hnil hown0
    obtain ⟨g, cp, N, f, rfl, hC⟩ := hC
    go_wp2
    go_ret
    exact ⟨⟨g, cp, N, f, rfl, hC⟩, hb2⟩
/-- What the program's condition of RebasePatch reads: the box that it has captured, and the patch. -/
def Rbs (p b : Nat) (P : List Ed) (w : World) : Prop := w.cell? ⟨p, 0, none⟩ = some (.slice (some ⟨b, 0, none⟩) P.length P.length) ∧ Es w b P ∧ p < w.heap.size
theorem Rbs.kept {p b c : Nat} {P : List Ed} {w w' : World} (h : Rbs p b P w) (hk : Kept w w' (fun x => x = c)) (hp : p ≠ c) (hb : b ≠ c) : Rbs p b P w' :=
  ⟨(hk.cell (p := ⟨p, 0, none⟩) h.2.2 hp).trans h.1, hk.row h.2.1 hb, Nat.lt_of_lt_of_le h.2.2 hk.size⟩
set_option maxHeartbeats 1000000 in
theorem ireb1 (p b : Nat) (P : List Ed) (x : Ed) (w : World) (h : Rbs p b P w) (hl : P.length ≤ 1048576) :
    Calls Tryd.prog 63 (#[vE x] ++ #[.pointer (some ⟨p, 0, none⟩)]) w fun e w' => e = .returned (.bool (memE P x)) ∧ Below w.heap.size w w' := by
  show Calls Tryd.prog 63 #[vE x, .pointer (some ⟨p, 0, none⟩)] w _
  obtain ⟨h1, h2, h3⟩ := h
  have b1 := (Below.refl w.heap.size w).alloc (Nat.le_refl _) (.cells #[.int .i64 x.1, .int .i64 x.2.1, .string x.2.2.1, .string x.2.2.2] 70)
  have HI := contains7 P b P.length x _ (h2.below b1) hl
  obtain ⟨z, hz⟩ : ∃ z, memE P x = z := ⟨_, rfl⟩
  rw [hz] at HI ⊢
  obtain ⟨kx, ix, ax, bx⟩ := x
  unfold vE at HI ⊢
  simp only at HI b1 ⊢
  clear h2 hz
  go_enter Tryd.func63, Tryd.ntmps63
  go_wp2_with fail
  refine HI.mono ?_
  rintro e w1 ⟨rfl, hb1⟩
  go_wp2
  go_ret
  exact ⟨rfl, b1.trans (hb1.mono b1.size)⟩
end Go.Proofs.YtkpnkaihehneiaaDoor
