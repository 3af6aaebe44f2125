/- Edits: whether they are valid: the specification's look. -/
import Derived.Test.YtkaakomiimcbmaaEd3
import Derived.Test.YtkaakomiimcbmaaPo3
namespace Go.Proofs.Ytkaakomiimcbmaa
open Go.ChangeShapes Go.WideShapes Go.ChangeAt Go.RowKit Go.Deep
set_option linter.unusedSimpArgs false
set_option linter.unusedVariables false
theorem EdAt.below {w w' : World} {b o : Nat} {e : Ed} (h : EdAt w b o e) (hb : Below w.heap.size w w') : EdAt w' b o e := by
  obtain ⟨h1, h2, h3, h4⟩ := h
  have q : ∀ {o : Nat} {v : Value}, w.cell? ⟨b, o, none⟩ = some v → w'.cell? ⟨b, o, none⟩ = some v := fun {o v} hc => (hb.cell (p := ⟨b, o, none⟩) (World.block_lt_of_cell? _ _ hc)).trans hc
  exact ⟨q h1, q h2, q h3, q h4⟩
theorem ssenN (s : ByteArray) (w : World) (n : Nat) (z : Bool) (hs : s.size ≤ 9223372036854775807) (hz : senB s = z) :
    Calls Try.prog 33 #[.string s] (w.drewN n) fun e w' => e = .returned (.bool z) ∧ (w.drewN n) = w' := hz ▸ ssen s _ hs
set_option maxHeartbeats 4000000 in
set_option maxRecDepth 100000 in
theorem sedit (b o : Nat) (e : Ed) (w : World) (h : EdAt w b o e) (l1 : e.2.2.1.size ≤ 1048576) (l2 : e.2.2.2.size ≤ 1048576) :
    Calls Try.prog 32 #[.pointer (some ⟨b, o, none⟩)] w fun r w' => r = .returned (.bool (edB e)) ∧ Drw w w' := by
  obtain ⟨h1, h2, h3, h4⟩ := h
  have HN := Lib.hid (fun hn => edB_no (e := e) hn)
  have HY := Lib.hid (fun hy => edB_yes (e := e) hy)
  obtain ⟨k, i, a, c⟩ := e
  simp only at h1 h2 h3 h4 l1 l2
  obtain ⟨y, hy⟩ : ∃ y, senB a = y := ⟨_, rfl⟩
  obtain ⟨z, hz⟩ : ∃ z, senB c = z := ⟨_, rfl⟩
  have HA := fun n => ssenN a w n y (by omega) hy
  have HC := fun n => ssenN c w n z (by omega) hz
  have HYY := Lib.hid hy
  have HZZ := Lib.hid hz
  clear hy hz
  by_cases k1 : k = 1
  · subst k1
    by_cases ea : a = ⟨#[]⟩
    · subst ea
      clear HA
      go_enter Try.func32, Try.ntmps32
      go_wp2_with (go_at_call 33; refine (HC 0).mono ?_; rintro e w1 ⟨rfl, rfl⟩)
      go_ret
      refine ⟨?_, Drw.refl _⟩
      cases z with
      | true => rw [HY.out (.inl ⟨rfl, rfl, senB_iff.1 HZZ.out⟩)]; rfl
      | false => rw [HN.out (fun h => by rcases h with h | h | h; have := senB_yes h.2.2; rw [HZZ.out] at this; cases this; exact absurd h.1 (by simp); exact absurd h.1 (by simp))]; rfl
    · have ta := str_em ea
      clear HA HC
      have EA := Lib.hid ea
      clear ea
      go_enter Try.func32, Try.ntmps32
      go_wp2
      go_ret
      refine ⟨?_, Drw.refl _⟩
      rw [HN.out (fun h => by rcases h with h | h | h; exact EA.out h.2.1; exact absurd h.1 (by simp); exact absurd h.1 (by simp))]; rfl
  · have n1 : ((k : Int) == 1) = false := by simpa using k1
    by_cases k2 : k = 2
    · subst k2
      clear HC
      cases y with
      | true =>
        by_cases ec : c = ⟨#[]⟩
        · subst ec
          go_enter Try.func32, Try.ntmps32
          go_wp2_with (go_at_call 33; refine (HA 0).mono ?_; rintro e w1 ⟨rfl, rfl⟩)
          go_ret
          refine ⟨?_, Drw.refl _⟩
          rw [HY.out (.inr (.inl ⟨rfl, senB_iff.1 HYY.out, rfl⟩))]; rfl
        · have tc := str_em ec
          have EC := Lib.hid ec
          clear ec
          go_enter Try.func32, Try.ntmps32
          go_wp2_with (go_at_call 33; refine (HA 0).mono ?_; rintro e w1 ⟨rfl, rfl⟩)
          go_ret
          refine ⟨?_, Drw.refl _⟩
          rw [HN.out (fun h => by rcases h with h | h | h; exact absurd h.1 (by simp); exact EC.out h.2.2; exact absurd h.1 (by simp))]; simp [tc]
      | false =>
        go_enter Try.func32, Try.ntmps32
        go_wp2_with (go_at_call 33; refine (HA 0).mono ?_; rintro e w1 ⟨rfl, rfl⟩)
        go_ret
        refine ⟨?_, Drw.refl _⟩
        rw [HN.out (fun h => by rcases h with h | h | h; exact absurd h.1 (by simp); have := senB_yes h.2.1; rw [HYY.out] at this; cases this; exact absurd h.1 (by simp))]; rfl
    · have n2 : ((k : Int) == 2) = false := by simpa using k2
      by_cases k3 : k = 3
      · subst k3
        by_cases hac : a = c
        · subst hac
          cases y with
          | false =>
            clear HC
            go_enter Try.func32, Try.ntmps32
            go_wp2_with fail
            go_quiet ((first | (go_at_call 33; exact quiet_left (HA _))))
            go_wp2
            go_ret
            refine ⟨?_, ⟨_, rfl⟩⟩
            rw [HN.out (fun h => by rcases h with h | h | h; exact absurd h.1 (by simp); exact absurd h.1 (by simp); exact h.2.2.2 rfl)]; rfl
          | true =>
            clear HC
            go_enter Try.func32, Try.ntmps32
            go_wp2_with fail
            go_quiet ((first | (go_at_call 33; exact quiet_left (HA _))))
            go_wp2
            go_ret
            refine ⟨?_, ⟨_, rfl⟩⟩
            rw [HN.out (fun h => by rcases h with h | h | h; exact absurd h.1 (by simp); exact absurd h.1 (by simp); exact h.2.2.2 rfl)]; rfl
        · have tac := str_ne hac
          have HAC := Lib.hid hac
          clear hac
          cases y with
          | false =>
            clear HC
            go_enter Try.func32, Try.ntmps32
            go_wp2_with fail
            go_quiet ((first | (go_at_call 33; exact quiet_left (HA _))))
            go_wp2
            go_ret
            refine ⟨?_, ⟨_, rfl⟩⟩
            rw [HN.out (fun h => by rcases h with h | h | h; exact absurd h.1 (by simp); exact absurd h.1 (by simp); have := senB_yes h.2.1; rw [HYY.out] at this; cases this)]; rfl
          | true =>
            cases z with
            | false =>
              go_enter Try.func32, Try.ntmps32
              go_wp2_with fail
              go_quiet ((first | (go_at_call 33; first | with_reducible exact quiet_left (HA _) | with_reducible exact quiet_left (HC _))))
              go_wp2
              go_ret
              refine ⟨?_, ⟨_, rfl⟩⟩
              rw [HN.out (fun h => by rcases h with h | h | h; exact absurd h.1 (by simp); exact absurd h.1 (by simp); have := senB_yes h.2.2.1; rw [HZZ.out] at this; cases this)]; rfl
            | true =>
              go_enter Try.func32, Try.ntmps32
              go_wp2_with fail
              go_quiet ((first | (go_at_call 33; first | with_reducible exact quiet_left (HA _) | with_reducible exact quiet_left (HC _))))
              go_wp2
              go_ret
              refine ⟨?_, ⟨_, rfl⟩⟩
              rw [HY.out (.inr (.inr ⟨rfl, senB_iff.1 HYY.out, senB_iff.1 HZZ.out, HAC.out⟩))]; rfl
      · have n3 : ((k : Int) == 3) = false := by simpa using k3
        have K := Lib.hid (And.intro k1 (And.intro k2 k3))
        clear HA HC k1 k2 k3
        go_enter Try.func32, Try.ntmps32
        go_wp2
        go_ret
        refine ⟨?_, Drw.refl _⟩
        rw [HN.out (fun h => by rcases h with h | h | h; exact K.out.1 h.1; exact K.out.2.1 h.1; exact K.out.2.2 h.1)]; rfl
end Go.Proofs.Ytkaakomiimcbmaa
