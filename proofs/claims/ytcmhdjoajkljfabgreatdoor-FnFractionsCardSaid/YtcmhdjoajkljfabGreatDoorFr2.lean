/- A drawn fraction, by its contract. -/
import Derived.Test.YtcmhdjoajkljfabGreatDoorFr1
import Derived.Test.YtcmhdjoajkljfabGreatDoorMth
namespace Go.Proofs.YtcmhdjoajkljfabGreatDoor
open Go.ChangeShapes Go.WideShapes Go.ChangeAt Go.RowKit
set_option linter.unusedSimpArgs false
set_option linter.unusedVariables false
theorem pick_any (B b len k : Nat) (v : Value) (s : Int) (n : Int) (w : World) (hB : B ≤ b) (hs : Src w b v k s) (hv : ByteV B w v len) (hk2 : k ≤ 900) (hl : len ≤ 1048576) (hn : 200 < n) (hn2 : n ≤ 1000) :
    Calls Tryz.prog 16 #[.pointer (some ⟨b, 0, none⟩), .int .i64 n] w fun e w' => ∃ x s', e = .returned (.int .i64 x) ∧ 0 ≤ x ∧ x < n ∧ Src w' b v (k + 2) s' ∧ Below B w w' := by
  have HN := Lib.hid (fun k s w (hs : Src w b v k s) (hv : ByteV B w v len) (hk : k ≤ 1000) => next_any B b len k v s w hB hs hv hk hl)
  have HS := Lib.hid hs
  have hn0 : (n == 0) = false := by simp; omega
  clear hs
  go_enter Tryz.func16, Tryz.ntmps16
  go_wp2_with fail
  refine (HN.out k s _ HS.out hv (by omega)).mono ?_
  rintro e w1 ⟨x1, s1, rfl, p1, p2, hs1, hb1⟩
  have HS1 := Lib.hid hs1
  clear hs1
  go_wp2_with fail
  refine (HN.out (k + 1) s1 _ HS1.out (hv.below hb1) (by omega)).mono ?_
  rintro e w2 ⟨x2, s2, rfl, p3, p4, hs2, hb2⟩
  have wx1 : IntKind.i64.wrap (x1 * 256) = x1 * 256 := by rw [IntKind.wrap_i64]; omega
  have wx2 : IntKind.i64.wrap (x1 * 256 + x2) = x1 * 256 + x2 := by rw [IntKind.wrap_i64]; omega
  have HS2 := Lib.hid hs2
  clear hs2
  go_wp2
  go_ret
  exact ⟨_, _, rfl, Int.emod_nonneg _ (by omega), Int.emod_lt_of_pos _ (by omega), HS2.out, hb1.trans hb2⟩
theorem from_any (a : Option Addr) (len cap : Nat) (w : World) :
    Calls Tryz.prog 14 #[.slice a len cap] w fun e w' => e = .returned (.pointer (some ⟨w.heap.size, 0, none⟩)) ∧ Src w' w.heap.size (.slice a len cap) 0 0 ∧ Below w.heap.size w w' := by
  go_enter Tryz.func14, Tryz.ntmps14
  go_wp2
  go_ret
  refine ⟨rfl, ⟨?_, ?_, ?_, ?_, ?_⟩, (Below.refl _ _).alloc (Nat.le_refl _) _⟩
  all_goals go_simp
set_option maxHeartbeats 1000000 in
theorem b10_any (v : Value) (len : Nat) (w : World) (hv : ByteV w.heap.size w v len) (hl : len ≤ 1048576) :
    Calls Tryz.prog 5 #[v] w fun e w' => (∃ n d, e = .returned (.agg #[.int .i64 n, .int .i64 d]) ∧ small n d) ∧ Below w.heap.size w w' := by
  obtain ⟨a, cap, rfl⟩ := hv.shape
  have HV := Lib.hid hv
  clear hv
  have b0 := (Below.refl w.heap.size w).alloc (Nat.le_refl _) (.cells #[.int .i64 0, .int .i64 0] 25)
  go_enter Tryz.func5, Tryz.ntmps5
  go_wp2_with fail
  refine (from_any a len cap _).mono ?_
  rintro e w1 ⟨rfl, hs1, hb1⟩
  obtain ⟨hc1, hf1⟩ := bcell hb1
  have R01 : w1.cell? ⟨w.heap.size, 0, none⟩ = some (.int .i64 0) := by rw [hc1 _ _ (by first | omega | (simp <;> omega))]; go_simp
  have ZR01 : w1.frozen? ⟨w.heap.size, 0, none⟩ = false := by rw [hf1 _ _ (by first | omega | (simp <;> omega))]; go_simp
  have R11 : w1.cell? ⟨w.heap.size, 1, none⟩ = some (.int .i64 0) := by rw [hc1 _ _ (by first | omega | (simp <;> omega))]; go_simp
  have ZR11 : w1.frozen? ⟨w.heap.size, 1, none⟩ = false := by rw [hf1 _ _ (by first | omega | (simp <;> omega))]; go_simp
  have b1 := b0.trans (hb1.mono (by have := b0.size; first | omega | (simp <;> omega)))
  have hb1' : Below (w.heap.size + 1) (w.alloc (.cells #[.int .i64 0, .int .i64 0] 25)) w1 := hb1.mono (by simp)
  have z1 : w.heap.size < w1.heap.size := by have := hb1.size; (try simp at this); omega
  have e1 : (w.alloc (.cells #[.int .i64 0, .int .i64 0] 25)).heap.size = w.heap.size + 1 := by simp
  rw [e1] at hs1
  have HS1 := Lib.hid hs1
  clear hc1 hf1 hs1 e1 hb1
  have HP := Lib.hid (fun k s n w' (hs : Src w' (w.heap.size + 1) (.slice a len cap) k s) (hv : ByteV (w.heap.size + 1) w' (.slice a len cap) len) (hk : k ≤ 900) (h1 : 200 < n) (h2 : n ≤ 1000) => pick_any (w.heap.size + 1) (w.heap.size + 1) len k _ s n w' (Nat.le_refl _) hs hv hk hl h1 h2)
  have hv0 : ByteV (w.heap.size + 1) (w.alloc (.cells #[.int .i64 0, .int .i64 0] 25)) (.slice a len cap) len := by
    rcases HV.out.below b0 with h | ⟨x, c, h, hx, hc⟩
    · exact .inl h
    · exact .inr ⟨x, c, h, fun q => by have := hx q; omega, hc⟩
  have HV1 := Lib.hid (hv0.below hb1')
  clear hv0
  go_wp2_with fail
  refine (HP.out 0 0 400 _ HS1.out HV1.out (by omega) (by omega) (by omega)).mono ?_
  rintro e w2 ⟨x1, s1, rfl, p1, p2, hs2, hb2⟩
  have wn : IntKind.i64.wrap (x1 - 150) = x1 - 150 := by rw [IntKind.wrap_i64]; omega
  have R02 := (hb2.cell (p := ⟨w.heap.size, 0, none⟩) (by show w.heap.size < _; omega)).trans R01
  have R12 := (hb2.cell (p := ⟨w.heap.size, 1, none⟩) (by show w.heap.size < _; omega)).trans R11
  have ZR02 := (hb2.frozen (p := ⟨w.heap.size, 0, none⟩) (by show w.heap.size < _; omega)).trans ZR01
  have ZR12 := (hb2.frozen (p := ⟨w.heap.size, 1, none⟩) (by show w.heap.size < _; omega)).trans ZR11
  have b2 := b1.trans (hb2.mono (by omega))
  have HS2 := Lib.hid hs2
  have HV2 := Lib.hid (HV1.out.below hb2)
  have z2 := hb2.size
  clear R01 R11 ZR01 ZR11 hs2
  go_wp2_with fail
  refine (HP.out 2 s1 300 _ HS2.out HV2.out (by omega) (by omega) (by omega)).mono ?_
  rintro e w3 ⟨x2, s2, rfl, p3, p4, hs3, hb3⟩
  have wd : IntKind.i64.wrap (1 + x2) = 1 + x2 := by rw [IntKind.wrap_i64]; omega
  have R03 := (hb3.cell (p := ⟨w.heap.size, 0, none⟩) (by show w.heap.size < _; omega)).trans R02
  have R13 := (hb3.cell (p := ⟨w.heap.size, 1, none⟩) (by show w.heap.size < _; omega)).trans R12
  have ZR03 := (hb3.frozen (p := ⟨w.heap.size, 0, none⟩) (by show w.heap.size < _; omega)).trans ZR02
  have ZR13 := (hb3.frozen (p := ⟨w.heap.size, 1, none⟩) (by show w.heap.size < _; omega)).trans ZR12
  have b3 := b2.trans (hb3.mono (by omega))
  have z3 := hb3.size
  clear R02 R12 ZR02 ZR12 hs3
  have hk := r_ok (n := x1 - 150) (d := 1 + x2) (by omega) (by omega) (by omega) (by omega) (by omega)
  have hg : gB true (x1 - 150) (1 + x2) = true := by unfold gB; rw [okB_yes hk]; rfl
  have hnb := r_num_bd (x1 - 150) (1 + x2)
  have hdb := r_den_bd (x1 - 150) (1 + x2)
  have hsm : small (rN (x1 - 150) (1 + x2)) (rD (x1 - 150) (1 + x2)) := ⟨hk, by omega, by omega, by omega⟩
  have HM := fun w => make_any (x1 - 150) (1 + x2) w (by omega) (by omega) (by omega) (by omega) (by omega)
  rw [hg] at HM
  unfold frPost at HM
  simp only [if_true] at HM
  generalize rN (x1 - 150) (1 + x2) = n at HM hsm
  generalize rD (x1 - 150) (1 + x2) = d at HM hsm
  have HSM := Lib.hid hsm
  clear hk hg hnb hdb hsm
  go_wp2_with fail
  refine (HM _).mono ?_
  rintro e w4 ⟨rfl, hb4⟩
  have R04 := (hb4.cell (p := ⟨w.heap.size, 0, none⟩) (by show w.heap.size < _; omega)).trans R03
  have R14 := (hb4.cell (p := ⟨w.heap.size, 1, none⟩) (by show w.heap.size < _; omega)).trans R13
  have ZR04 := (hb4.frozen (p := ⟨w.heap.size, 0, none⟩) (by show w.heap.size < _; omega)).trans ZR03
  have ZR14 := (hb4.frozen (p := ⟨w.heap.size, 1, none⟩) (by show w.heap.size < _; omega)).trans ZR13
  have b4 := b3.trans (hb4.mono (by omega))
  have z4 := hb4.size
  have z4' : w.heap.size < w4.heap.size := by omega
  clear R03 R13 ZR03 ZR13
  go_wp2
  refine bodyPost_ret (v := .agg #[.int .i64 n, .int .i64 d]) (by simp [results, Tryz.results5, go_sem, R04, R14, z4']) rfl ⟨⟨n, d, rfl, HSM.out⟩, ?_⟩
  exact ((b4.setCell (Nat.le_refl _) _).setCell (Nat.le_refl _) _).alloc (by simp [World.setCell]; omega) _
end Go.Proofs.YtcmhdjoajkljfabGreatDoor
