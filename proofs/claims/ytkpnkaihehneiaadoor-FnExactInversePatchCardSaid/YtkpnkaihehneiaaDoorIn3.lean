/- The inverse of a patch: the program's; both answers. -/
import Derived.Test.YtkpnkaihehneiaaDoorIn2
namespace Go.Proofs.YtkpnkaihehneiaaDoor
open Go.ChangeShapes Go.WideShapes Go.ChangeAt Go.RowKit Go.Deep
set_option linter.unusedSimpArgs false
set_option linter.unusedVariables false
set_option maxHeartbeats 4000000 in
set_option maxRecDepth 100000 in
theorem iinv (L : List Ed) (b cap : Nat) (w : World) (h : Es w b L) (hn : L.length ≤ 1048576) :
    Calls Tryd.prog 55 #[.slice (some ⟨b, 0, none⟩) L.length cap] w fun e w' => e = .returned (.slice (some ⟨w.heap.size, 0, none⟩) L.length L.length) ∧ Es w' w.heap.size (invs L) ∧ Below w.heap.size w w' := by
  have hmk := run_make4 (P := Tryd.prog) 32 70 _ _ _ _ 48 Tryd.underlying32 infoE rfl .i64 .i64 L.length (by omega) (by omega)
  have HX := Lib.hid h
  have HE := Lib.hid (fun (i : Int) (a c : ByteArray) w' => iefrom i a c w')
  clear h
  go_enter Tryd.func55, Tryd.ntmps55
  go_wp2
  go_loopg [4, 5, 11] L.length (fun g _ _ i wr => ∃ k : Nat, k ≤ L.length ∧ g = L.length - k ∧ i = .int .i64 k ∧ Below w.heap.size w wr ∧ w.heap.size < wr.heap.size ∧ wr.rowIs w.heap.size 70 (L.length * 4) (ef (invs L) k))
  case atStart => exact ⟨0, Nat.zero_le _, rfl, rfl, (Below.refl _ _).alloc (Nat.le_refl _) _, by simp, (rowIs_made4 _ _ _ _ _ _ _).congr (fun j _ => by simp [ef])⟩
  case round =>
    obtain ⟨k, hk, rfl, rfl, hb, hsz, hC⟩ := hrel
    clear hmk
    by_cases hlt : k < L.length
    · have ha := (HX.out.below hb).at hlt
      have lb := (HX.out.below hb).lt
      have hga := invs_get L hlt
      obtain ⟨q, hq⟩ : ∃ q, L.getD k e0 = q := ⟨_, rfl⟩
      rw [hq] at ha hga
      obtain ⟨m, n, sa, sb⟩ := q
      obtain ⟨a1, a2, a3, a4⟩ := ha
      unfold invE at hga
      simp only at a1 a2 a3 a4 hga
      obtain ⟨kk, hkk⟩ : ∃ kk, kindE sb sa = kk := ⟨_, rfl⟩
      rw [hkk] at hga
      have HE1 := fun w' => HE.out n sb sa w'
      rw [hkk] at HE1
      have s1 : wr.cell? ⟨w.heap.size, k * 4, none⟩ = some (ef (invs L) k (k * 4)) := hC.cell (by omega)
      have s2 : wr.cell? ⟨w.heap.size, k * 4 + 1, none⟩ = some (ef (invs L) k (k * 4 + 1)) := hC.cell (by omega)
      have s3 : wr.cell? ⟨w.heap.size, k * 4 + 2, none⟩ = some (ef (invs L) k (k * 4 + 2)) := hC.cell (by omega)
      have s4 : wr.cell? ⟨w.heap.size, k * 4 + 3, none⟩ = some (ef (invs L) k (k * 4 + 3)) := hC.cell (by omega)
      have f1 : wr.frozen? ⟨w.heap.size, k * 4, none⟩ = false := hC.frozen _
      have f2 : wr.frozen? ⟨w.heap.size, k * 4 + 1, none⟩ = false := hC.frozen _
      have f3 : wr.frozen? ⟨w.heap.size, k * 4 + 2, none⟩ = false := hC.frozen _
      have f4 : wr.frozen? ⟨w.heap.size, k * 4 + 3, none⟩ = false := hC.frozen _
      have HG := Lib.hid hga
      have ba := (Below.refl wr.heap.size wr).alloc (Nat.le_refl _) (.cells #[.int .i64 m, .int .i64 n, .string sa, .string sb] 70)
      have BA := Lib.hid ba
      clear hq hga ba hkk
      go_wp2_with fail
      refine (HE1 _).mono ?_
      rintro e w1 ⟨rfl, hb1'⟩
      have hb1 := BA.out.trans (hb1'.mono BA.out.size)
      obtain ⟨hc1, hf1⟩ := bcell hb1
      rw [← hc1 _ _ hsz] at s1 s2 s3 s4
      rw [← hf1 _ _ hsz] at f1 f2 f3 f4
      clear hc1 hf1 a1 a2 a3 a4 hb1' HE1
      go_wp2
      go_roundg (L.length - (k + 1))
      case measure => omega
      case rel =>
        refine ⟨k + 1, by omega, rfl, by simp, ((((hb.trans (hb1.mono (by omega))).setCell (Nat.le_refl _) _).setCell (Nat.le_refl _) _).setCell (Nat.le_refl _) _).setCell (Nat.le_refl _) _, by have := hb1.size; simp [World.setCell]; omega, ?_⟩
        refine (((((hC.of_block (hb1.block _ hsz)).set (k * 4) _).set (k * 4 + 1) _).set (k * 4 + 2) _).set (k * 4 + 3) _).congr (fun j _ => ?_)
        rw [← ef_step (invs L) k j, HG.out]
    · have e : k = L.length := by omega
      subst e
      go_wp2
      go_ret
      refine ⟨rfl, ?_, hb⟩
      unfold Es
      rw [invs_len]
      exact hC
noncomputable def mInv (L : List Ed) : List Ed × Bool := if patB L then (invs L, true) else ([], false)
set_option maxHeartbeats 1000000 in
theorem sIP (L : List Ed) (w : World) (lo hi : Nat) (u : Value) (h : CpD w lo hi u L) : Calls Tryd.prog 21 #[u] w (PDb (mInv L) w) := by
  obtain ⟨rfl, h1, -, hf⟩ := h
  have HS := spatch L lo L.length w h1 hf
  unfold PDb mInv
  cases hz : patB L with
  | false =>
    rw [hz] at HS
    simp only [Bool.false_eq_true, if_false]
    clear hz h1
    go_enter Tryd.func21, Tryd.ntmps21
    go_wp2_with fail
    refine HS.mono ?_
    rintro e w1 ⟨rfl, hd⟩
    have hb := hd.below
    go_wp2
    go_ret2
    exact ⟨_, rfl, RdD.nil _ _ _, hb⟩
  | true =>
    rw [hz] at HS
    simp only [if_true]
    have hok := (patB_iff.1 hz).2
    have HI := Lib.hid (fun w' (hw : Below w.heap.size w w') => sinv L lo L.length w' (h1.below hw) hf.1 (fun k hk => (hok k hk).2.1))
    clear hz h1 hok
    go_enter Tryd.func21, Tryd.ntmps21
    go_wp2_with fail
    refine HS.mono ?_
    rintro e w1 ⟨rfl, hd⟩
    have hb := hd.below
    have HI1 := HI.out w1 hb
    go_wp2_with fail
    refine HI1.mono ?_
    rintro e w2 ⟨⟨v, rfl, hv⟩, hb2⟩
    have hv' := (hv.mono hb.size (Nat.le_refl _)).rd
    go_wp2
    go_ret2
    exact ⟨_, rfl, hv', hb.trans (hb2.mono hb.size)⟩
set_option maxHeartbeats 1000000 in
theorem iIP (L : List Ed) (w : World) (lo hi : Nat) (u : Value) (h : CpD w lo hi u L) : Calls Tryd.prog 22 #[u] w (QDb (mInv L) w) := by
  obtain ⟨rfl, h1, -, hf⟩ := h
  have HS := ipatch L lo L.length w h1 hf.2 hf.1
  unfold QDb mInv
  cases hz : patB L with
  | false =>
    rw [hz] at HS
    simp only [Bool.false_eq_true, if_false]
    clear hz h1
    go_enter Tryd.func22, Tryd.ntmps22
    go_wp2_with fail
    refine HS.mono ?_
    rintro e w1 ⟨rfl, hb⟩
    go_wp2
    go_ret2
    exact ⟨_, rfl, OwD.nil _ _ _, hb⟩
  | true =>
    rw [hz] at HS
    simp only [if_true]
    have HI := Lib.hid (fun w' (hw : Below w.heap.size w w') => iinv L lo L.length w' (h1.below hw) hf.1)
    clear hz h1
    go_enter Tryd.func22, Tryd.ntmps22
    go_wp2_with fail
    refine HS.mono ?_
    rintro e w1 ⟨rfl, hb⟩
    have HI1 := HI.out w1 hb
    go_wp2_with fail
    refine HI1.mono ?_
    rintro e w2 ⟨rfl, hv, hb2⟩
    have hl := invs_len L
    have hv' : OwD w2 w.heap.size w2.heap.size (.slice (some ⟨w1.heap.size, 0, none⟩) L.length L.length) (invs L) := by
      have := hv.ow L.length w.heap.size w2.heap.size hb.size hv.lt (by rw [hl]; exact hf.1)
      rwa [hl] at this
    go_wp2
    go_ret2
    exact ⟨_, rfl, hv', hb.trans (hb2.mono hb.size)⟩
end Go.Proofs.YtkpnkaihehneiaaDoor
