/- Statutes: the edits that make one of an empty one; whether a list of articles is one: the program's look. -/
import Derived.Test.YteioilnelmnndaaDoorSt1
namespace Go.Proofs.YteioilnelmnndaaDoor
open Go.ChangeShapes Go.WideShapes Go.ChangeAt Go.RowKit Go.Deep
set_option linter.unusedSimpArgs false
set_option linter.unusedVariables false
set_option maxHeartbeats 4000000 in
set_option maxRecDepth 100000 in
theorem iadd (L : List Ar) (b cap : Nat) (w : World) (h : As w b L) (hn : L.length ≤ 1048576) :
    Calls Tryd.prog 21 #[.slice (some ⟨b, 0, none⟩) L.length cap] w fun e w' => e = .returned (.slice (some ⟨w.heap.size, 0, none⟩) L.length L.length) ∧ Es w' w.heap.size (adds L) ∧ Below w.heap.size w w' := by
  have hmk := run_make4 (P := Tryd.prog) 45 57 _ _ _ _ 48 Tryd.underlying45 infoE rfl .i64 .i64 L.length (by omega) (by omega)
  have HX := Lib.hid h
  have HE : Hid (∀ (i : Int) (c : ByteArray) w', Calls Tryd.prog 27 #[.int .i64 i, .string ⟨#[]⟩, .string c] w' fun e w'' => e = .returned (.agg #[.int .i64 1, .int .i64 i, .string ⟨#[]⟩, .string c]) ∧ Below w'.heap.size w' w'') := fun i c w' => by
    have := iefrom i ⟨#[]⟩ c w'
    rwa [kindE_1] at this
  clear h
  go_enter Tryd.func21, Tryd.ntmps21
  go_wp2
  go_loopg [4, 5, 11] L.length (fun g _ _ i wr => ∃ k : Nat, k ≤ L.length ∧ g = L.length - k ∧ i = .int .i64 k ∧ Below w.heap.size w wr ∧ w.heap.size < wr.heap.size ∧ wr.rowIs w.heap.size 57 (L.length * 4) (ef (adds L) k))
  case atStart => exact ⟨0, Nat.zero_le _, rfl, rfl, (Below.refl _ _).alloc (Nat.le_refl _) _, by simp, (rowIs_made4 _ _ _ _ _ _ _).congr (fun j _ => by simp [ef])⟩
  case round =>
    obtain ⟨k, hk, rfl, rfl, hb, hsz, hC⟩ := hrel
    clear hmk
    by_cases hlt : k < L.length
    · have ha := (HX.out.below hb).at hlt
      have lb := (HX.out.below hb).lt
      have hga := adds_get L hlt
      obtain ⟨q, hq⟩ : ∃ q, L.getD k a0 = q := ⟨_, rfl⟩
      rw [hq] at ha hga
      obtain ⟨n, t⟩ := q
      obtain ⟨a1, a2⟩ := ha
      simp only at a1 a2 hga
      have s1 : wr.cell? ⟨w.heap.size, k * 4, none⟩ = some (ef (adds L) k (k * 4)) := hC.cell (by omega)
      have s2 : wr.cell? ⟨w.heap.size, k * 4 + 1, none⟩ = some (ef (adds L) k (k * 4 + 1)) := hC.cell (by omega)
      have s3 : wr.cell? ⟨w.heap.size, k * 4 + 2, none⟩ = some (ef (adds L) k (k * 4 + 2)) := hC.cell (by omega)
      have s4 : wr.cell? ⟨w.heap.size, k * 4 + 3, none⟩ = some (ef (adds L) k (k * 4 + 3)) := hC.cell (by omega)
      have f1 : wr.frozen? ⟨w.heap.size, k * 4, none⟩ = false := hC.frozen _
      have f2 : wr.frozen? ⟨w.heap.size, k * 4 + 1, none⟩ = false := hC.frozen _
      have f3 : wr.frozen? ⟨w.heap.size, k * 4 + 2, none⟩ = false := hC.frozen _
      have f4 : wr.frozen? ⟨w.heap.size, k * 4 + 3, none⟩ = false := hC.frozen _
      have HG := Lib.hid hga
      have ba := (Below.refl wr.heap.size wr).alloc (Nat.le_refl _) (.cells #[.int .i64 n, .string t] 35)
      have BA := Lib.hid ba
      clear hq hga ba
      go_wp2_with fail
      refine (HE.out n t _).mono ?_
      rintro e w1 ⟨rfl, hb1'⟩
      have hb1 := BA.out.trans (hb1'.mono BA.out.size)
      obtain ⟨hc1, hf1⟩ := bcell hb1
      rw [← hc1 _ _ hsz] at s1 s2 s3 s4
      rw [← hf1 _ _ hsz] at f1 f2 f3 f4
      clear hc1 hf1 a1 a2 hb1'
      go_wp2
      go_roundg (L.length - (k + 1))
      case measure => omega
      case rel =>
        refine ⟨k + 1, by omega, rfl, by simp, ((((hb.trans (hb1.mono (by omega))).setCell (Nat.le_refl _) _).setCell (Nat.le_refl _) _).setCell (Nat.le_refl _) _).setCell (Nat.le_refl _) _, by have := hb1.size; simp [World.setCell]; omega, ?_⟩
        refine (((((hC.of_block (hb1.block _ hsz)).set (k * 4) _).set (k * 4 + 1) _).set (k * 4 + 2) _).set (k * 4 + 3) _).congr (fun j _ => ?_)
        rw [← ef_step (adds L) k j, HG.out]
    · have e : k = L.length := by omega
      subst e
      go_wp2
      go_ret
      refine ⟨rfl, ?_, hb⟩
      unfold Es
      rw [adds_len]
      exact hC
set_option maxHeartbeats 1000000 in
theorem istat (L : List Ar) (b cap : Nat) (w : World) (h : As w b L) (hf : FitsA L) :
    Calls Tryd.prog 13 #[.slice (some ⟨b, 0, none⟩) L.length cap] w fun e w' => e = .returned (.bool (staB L)) ∧ Below w.heap.size w w' := by
  obtain ⟨hf1, hf2⟩ := hf
  by_cases h8 : L.length ≤ 8
  · have HA := iadd L b cap w h hf1
    have HP : Hid (∀ w', Es w' w.heap.size (adds L) → Calls Tryd.prog 20 #[.slice (some ⟨w.heap.size, 0, none⟩) L.length L.length] w' fun e w'' => e = .returned (.bool (staB L)) ∧ Below w'.heap.size w' w'') := fun w' hw => by
      have := ipatch (adds L) w.heap.size L.length w' hw (fun k hk => by
        rw [adds_len] at hk
        rw [adds_get L hk]
        exact ⟨by simp [ByteArray.size], hf2 k hk⟩) (by rw [adds_len]; exact hf1)
      rw [adds_len] at this
      have e : patB (adds L) = staB L := by
        by_cases q : staF L
        · rw [staB_yes q, patB_yes ((sta_adds L).1 q).2]
        · rw [staB_no q, patB_no (fun hp => q ((sta_adds L).2 ⟨h8, hp⟩))]
      rwa [e] at this
    obtain ⟨z, hz⟩ : ∃ z, staB L = z := ⟨_, rfl⟩
    rw [hz] at HP ⊢
    clear h hf2 hz
    have h8' : (L.length : Int) ≤ 8 := by omega
    go_enter Tryd.func13, Tryd.ntmps13
    go_wp2_with fail
    refine HA.mono ?_
    rintro e w1 ⟨rfl, hE, hb1⟩
    have HP1 := HP.out w1 hE
    clear HA HP hE
    go_wp2_with fail
    refine HP1.mono ?_
    rintro e w2 ⟨rfl, hb2⟩
    go_wp2
    go_ret
    exact ⟨by simp, hb1.trans (hb2.mono hb1.size)⟩
  · have HNN := Lib.hid (staB_no (L := L) (fun h => h8 h.1))
    clear h hf2
    go_enter Tryd.func13, Tryd.ntmps13
    go_wp2
    go_ret
    exact ⟨by rw [HNN.out]; exact ret_bool (by first | (simp; done) | (simp; omega)), Below.refl _ _⟩
theorem iVS (L : List Ar) (w : World) (lo hi : Nat) (u : Value) (h : CpA w lo hi u L) : Calls Tryd.prog 13 #[u] w (Pb (staB L) w) := by
  obtain ⟨rfl, h1, -, hf⟩ := h
  exact istat L lo L.length w h1 hf
end Go.Proofs.YteioilnelmnndaaDoor
