/- Edits: whether one is valid: the program's look. -/
import Derived.Test.YtkaakomiimcbmaaEd5
namespace Go.Proofs.Ytkaakomiimcbmaa
open Go.ChangeShapes Go.WideShapes Go.ChangeAt Go.RowKit Go.Deep
set_option linter.unusedSimpArgs false
set_option linter.unusedVariables false
/-- No text, or a sentence. -/
def txt (a : ByteArray) : Prop := a = ⟨#[]⟩ ∨ senF a
theorem txt_no {a : ByteArray} (h : a ≠ ⟨#[]⟩) (h' : senB a = false) : ¬ txt a := by
  rintro (q | q)
  · exact h q
  · rw [senB_yes q] at h'; cases h'
/-- What the last comparison of an edit reads. -/
def Bd (w0 : World) (p : Nat) (e : Ed) (w' : World) : Prop := w'.cell? ⟨p, 0, none⟩ = some (.int .i64 e.1) ∧ w'.cell? ⟨p, 1, none⟩ = some (.int .i64 e.2.1) ∧ w'.cell? ⟨p, 2, none⟩ = some (.string e.2.2.1) ∧ w'.cell? ⟨p, 3, none⟩ = some (.string e.2.2.2) ∧ Hid (Below w0.heap.size w0 w')
theorem Bd.drew {w0 w' : World} {p : Nat} {e : Ed} (h : Bd w0 p e w') : Bd w0 p e w'.drew := ⟨h.1, h.2.1, h.2.2.1, h.2.2.2.1, Lib.hid h.2.2.2.2.out.drew⟩
theorem Bd.bel {w0 w' : World} {p : Nat} {e : Ed} (h : Bd w0 p e w') : Below w0.heap.size w0 w' := h.2.2.2.2.out
theorem Bd.below {w0 w' w'' : World} {p : Nat} {e : Ed} (h : Bd w0 p e w') (hb : Below w'.heap.size w' w'') : Bd w0 p e w'' := by
  obtain ⟨a1, a2, a3, a4, g⟩ := h
  have q : ∀ {b : Nat} {o : Nat} {v : Value}, w'.cell? ⟨b, o, none⟩ = some v → w''.cell? ⟨b, o, none⟩ = some v := fun {b o v} hc => (hb.cell (p := ⟨b, o, none⟩) (World.block_lt_of_cell? _ _ hc)).trans hc
  exact ⟨q a1, q a2, q a3, q a4, Lib.hid (g.out.trans (hb.mono g.out.size))⟩
set_option maxHeartbeats 4000000 in
set_option maxRecDepth 100000 in
theorem iedit (e : Ed) (w : World) (l1 : e.2.2.1.size ≤ 1048576) (l2 : e.2.2.2.size ≤ 1048576) :
    Calls Try.prog 49 #[.agg #[.int .i64 e.1, .int .i64 e.2.1, .string e.2.2.1, .string e.2.2.2]] w fun r w' => r = .returned (.bool (edB e)) ∧ Below w.heap.size w w' := by
  have HN := Lib.hid (fun hn => edB_no (e := e) hn)
  have HY := Lib.hid (fun hy => edB_yes (e := e) hy)
  have HALT := Lib.hid (edF_alt e)
  obtain ⟨k, i, a, c⟩ := e
  simp only at l1 l2 ⊢
  obtain ⟨W1, hW1⟩ : ∃ W1, W1 = w.alloc (.cells #[.int .i64 k, .int .i64 i, .string a, .string c] 54) := ⟨_, rfl⟩
  obtain ⟨W2, hW2⟩ : ∃ W2, W2 = W1.alloc (.cells #[.string a, .string c] 9) := ⟨_, rfl⟩
  have p0 : W2.cell? ⟨w.heap.size, 0, none⟩ = some (.int .i64 k) := by rw [hW2, hW1]; go_simp
  have p1 : W2.cell? ⟨w.heap.size, 1, none⟩ = some (.int .i64 i) := by rw [hW2, hW1]; go_simp
  have p2 : W2.cell? ⟨w.heap.size, 2, none⟩ = some (.string a) := by rw [hW2, hW1]; go_simp
  have p3 : W2.cell? ⟨w.heap.size, 3, none⟩ = some (.string c) := by rw [hW2, hW1]; go_simp
  have s0 : W2.cell? ⟨w.heap.size + 1, 0, none⟩ = some (.string a) := by rw [hW2, hW1]; go_simp
  have s1 : W2.cell? ⟨w.heap.size + 1, 1, none⟩ = some (.string c) := by rw [hW2, hW1]; go_simp
  have b2 : Below w.heap.size w W2 := by rw [hW2, hW1]; exact ((Below.refl w.heap.size w).alloc (Nat.le_refl _) _).alloc (by simp) _
  have PP : Hid (Bd W2 w.heap.size (k, i, a, c) W2) := Lib.hid ⟨p0, p1, p2, p3, Lib.hid (Below.refl _ _)⟩
  have SS := Lib.hid (And.intro s0 s1)
  have HW := Lib.hid (And.intro hW1 hW2)
  have hsz : w.heap.size + 1 < W2.heap.size := by rw [hW2, hW1]; simp
  clear p0 p1 p2 p3 s0 s1
  have HS := Lib.hid (fun (x : ByteArray) (hx : x.size ≤ 1048576) w' => isen x w' (by omega))
  go_enter Try.func49, Try.ntmps49
  go_wp2
  simp only [← hW1, ← hW2]
  go_loopg [4, 11] 2 (fun g _ i wr => ∃ j : Nat, j ≤ 2 ∧ g = 2 - j ∧ i = .int .i64 j ∧ Below W2.heap.size W2 wr ∧ Hid ((0 < j → txt a) ∧ (1 < j → txt c)))
  case atStart => exact ⟨0, by omega, rfl, rfl, Below.refl _ _, fun h => absurd h (by omega), fun h => absurd h (by omega)⟩
  case round =>
    obtain ⟨j, hj, rfl, rfl, hb, H⟩ := hrel
    have t0 := (hb.cell (p := ⟨w.heap.size + 1, 0, none⟩) hsz).trans SS.out.1
    have t1 := (hb.cell (p := ⟨w.heap.size + 1, 1, none⟩) hsz).trans SS.out.2
    have hbw := b2.trans (hb.mono b2.size)
    by_cases hlt : j < 2
    · obtain ⟨x, hx, hxl, hxa, hxc⟩ : ∃ x : ByteArray, wr.cell? ⟨w.heap.size + 1, j, none⟩ = some (.string x) ∧ x.size ≤ 1048576 ∧ (j = 0 → x = a) ∧ (j = 1 → x = c) := by
        by_cases e : j = 0
        · subst e; exact ⟨a, t0, l1, fun _ => rfl, fun h => absurd h (by omega)⟩
        · obtain rfl : j = 1 := by omega
          exact ⟨c, t1, l2, fun h => absurd h (by omega), fun _ => rfl⟩
      have HXA := Lib.hid (And.intro hxa hxc)
      clear t0 t1 hxa hxc
      have key : Hid (txt x → ((0 < j + 1 → txt a) ∧ (1 < j + 1 → txt c))) := by
        intro ht
        by_cases e : j = 0
        · exact ⟨fun _ => by rw [← HXA.out.1 e]; exact ht, fun h => absurd h (by omega)⟩
        · have e1 : j = 1 := by omega
          exact ⟨fun _ => H.out.1 (by omega), fun _ => by rw [← HXA.out.2 e1]; exact ht⟩
      have keyN : Hid (¬ txt x → edB (k, i, a, c) = false) := by
        intro ht
        refine HN.out (fun he => ht ?_)
        have h4 := HALT.out.1 he
        by_cases e : j = 0
        · rw [HXA.out.1 e]; exact h4.1
        · rw [HXA.out.2 (by omega)]; exact h4.2.1
      by_cases hxe : x = ⟨#[]⟩
      · subst hxe
        go_wp2
        go_roundg (2 - (j + 1))
        case measure => omega
        case rel => exact ⟨j + 1, by omega, rfl, by simp, hb, key.out (.inl rfl)⟩
      · have tx := str_em hxe
        have HC := HS.out x hxl
        obtain ⟨z, hz⟩ : ∃ z, senB x = z := ⟨_, rfl⟩
        rw [hz] at HC
        have HZ := Lib.hid hz
        have HXE := Lib.hid hxe
        clear hz hxe
        go_wp2_with fail
        refine (HC _).mono ?_
        rintro e w1 ⟨rfl, hb1⟩
        cases z with
        | false =>
          go_wp2
          go_ret
          exact ⟨by rw [keyN.out (txt_no HXE.out HZ.out)]; rfl, hbw.trans (hb1.mono hbw.size)⟩
        | true =>
          go_wp2
          go_roundg (2 - (j + 1))
          case measure => omega
          case rel => exact ⟨j + 1, by omega, rfl, by simp, hb.trans (hb1.mono hb.size), key.out (.inr (senB_iff.1 HZ.out))⟩
    · obtain rfl : j = 2 := by omega
      have HTA := Lib.hid (H.out.1 (by omega))
      have HTC := Lib.hid (H.out.2 (by omega))
      have PW := PP.out.below hb
      have HBW := Lib.hid hbw
      clear t0 t1 hb PP
      by_cases hac : a = c
      · subst hac
        obtain ⟨p0, p1, p2, p3, -⟩ := PW
        clear HS hbw
        go_wp2_with fail
        go_region
        all_goals
          go_wp2
          go_ret
          refine ⟨?_, by first | exact HBW.out.drew | exact HBW.out⟩
          rw [HN.out (fun he => (HALT.out.1 he).2.2.1 rfl)]; rfl
      · have tac := str_ne hac
        have HAC := Lib.hid hac
        obtain ⟨kk, hkk⟩ : ∃ kk, kindE a c = kk := ⟨_, rfl⟩
        have HE := Lib.hid (fun w' => iefrom i a c w')
        rw [hkk] at HE
        have HKK := Lib.hid hkk
        clear hkk hac HS
        by_cases hk : k = kk
        · have hk' : (k == kk) = true := by simpa using hk
          have HYY : Hid (edB (k, i, a, c) = true) := HY.out (HALT.out.2 ⟨HTA.out, HTC.out, HAC.out, by rw [hk]; exact HKK.out.symm⟩)
          clear hk
          go_wp2_with fail
          go_region_held3 (fun w' => w'.cell? ⟨w.heap.size, 0, none⟩ = some (.int .i64 k) ∧ w'.cell? ⟨w.heap.size, 1, none⟩ = some (.int .i64 i) ∧ w'.cell? ⟨w.heap.size, 2, none⟩ = some (.string a) ∧ w'.cell? ⟨w.heap.size, 3, none⟩ = some (.string c) ∧ Hid (Below W2.heap.size W2 w'))
            (first | exact PW.drew | exact Bd.below (w0 := W2) (p := w.heap.size) (e := (k, i, a, c)) (by assumption) (by assumption))
            (first
              | (go_at_call 68; refine (HE.out _).mono ?_; rintro e w2 ⟨rfl, hb9⟩))
          all_goals
            go_wp2
            go_ret
            refine ⟨?_, ?_⟩
            · rw [HYY.out]; rfl
            · have := (show Bd W2 w.heap.size (k, i, a, c) _ from by assumption).bel
              exact b2.trans (this.mono b2.size)
        · have hk' : (k == kk) = false := by simpa using hk
          have HNN : Hid (edB (k, i, a, c) = false) := HN.out (fun he => hk ((HALT.out.1 he).2.2.2.trans HKK.out))
          clear hk
          go_wp2_with fail
          go_region_held3 (fun w' => w'.cell? ⟨w.heap.size, 0, none⟩ = some (.int .i64 k) ∧ w'.cell? ⟨w.heap.size, 1, none⟩ = some (.int .i64 i) ∧ w'.cell? ⟨w.heap.size, 2, none⟩ = some (.string a) ∧ w'.cell? ⟨w.heap.size, 3, none⟩ = some (.string c) ∧ Hid (Below W2.heap.size W2 w'))
            (first | exact PW.drew | exact Bd.below (w0 := W2) (p := w.heap.size) (e := (k, i, a, c)) (by assumption) (by assumption))
            (first
              | (go_at_call 68; refine (HE.out _).mono ?_; rintro e w2 ⟨rfl, hb9⟩))
          all_goals
            go_wp2
            go_ret
            refine ⟨?_, ?_⟩
            · rw [HNN.out]; rfl
            · have := (show Bd W2 w.heap.size (k, i, a, c) _ from by assumption).bel
              exact b2.trans (this.mono b2.size)
end Go.Proofs.Ytkaakomiimcbmaa
