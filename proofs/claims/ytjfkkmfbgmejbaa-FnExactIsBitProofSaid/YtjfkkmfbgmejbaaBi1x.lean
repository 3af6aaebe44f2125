/- The program's marks and challenges of a proof. -/
import Derived.Test.YtjfkkmfbgmejbaaCc1
import Derived.Test.YtjfkkmfbgmejbaaBs2
namespace Go.Proofs.Ytjfkkmfbgmejbaa
open Go.ChangeShapes Go.WideShapes Go.ChangeAt Go.RowKit Go.Deep
set_option linter.unusedSimpArgs false
set_option linter.unusedVariables false
theorem qminus (a b : Int) (w : World) (ha : qOk a) (hb : qOk b) :
    Calls Try.prog 58 #[.int .i64 a, .int .i64 b] w fun e w' => e = .returned (.int .i64 ((a + 500000003 - b) % 500000003)) ∧ w = w' := by
  obtain ⟨a0, a1⟩ := ha
  obtain ⟨b0, b1⟩ := hb
  have h1 : IntKind.i64.wrap (a + 500000003) = a + 500000003 := by rw [IntKind.wrap_i64]; omega
  obtain ⟨x, hx⟩ : ∃ x, a + 500000003 = x := ⟨_, rfl⟩
  rw [hx] at h1 ⊢
  have h2 : IntKind.i64.wrap (x - b) = x - b := by rw [IntKind.wrap_i64]; omega
  have h3 : (x - b).tmod 500000003 = (x - b) % 500000003 := Int.tmod_eq_emod_of_nonneg (by omega)
  obtain ⟨r, hr⟩ : ∃ r, (x - b) % 500000003 = r := ⟨_, rfl⟩
  have h4 : IntKind.i64.wrap r = r := by rw [IntKind.wrap_i64]; omega
  rw [hr] at h3 ⊢
  go_enter Try.func58, Try.ntmps58
  go_wp2
  go_ret
  simp [hx, h1, h2, h3, hr]
theorem qneg (n : Nat) (w : World) (hn : n ≤ 500000002) :
    Calls Try.prog 107 #[.int .i64 (n : Int)] w fun e w' => e = .returned (.int .i64 (neg9 n : Int)) ∧ w = w' := by
  have h : ((0 : Int) + 500000003 - (n : Int)) % 500000003 = (neg9 n : Int) := by unfold neg9; omega
  have HM := fun w' => qminus 0 (n : Int) w' ⟨by omega, by omega⟩ ⟨by omega, by omega⟩
  rw [h] at HM
  clear h
  generalize (neg9 n : Int) = z at HM ⊢
  go_enter Try.func107, Try.ntmps107
  go_wp2_with fail
  refine (HM _).mono ?_
  rintro e w1 ⟨rfl, rfl⟩
  go_wp2
  go_ret
  exact ⟨rfl, rfl⟩
set_option maxHeartbeats 2000000 in
theorem imark (s : Int) (i : Nat) (X : Bq) (a b c : Nat) (w : World) (hs : sOk s) (hi : i ≤ 1) (h : BfR w a b c X) (l2 : X.2.1.length = 2) (l3 : X.2.2.length = 2)
    (hC : isEx (X.2.1.getD i 0) = true) (hA : isEx (X.2.2.getD i 0) = true) :
    Calls Try.prog 56 #[bpV a b c X, .int .i64 s, .int .i64 (i : Int)] w fun e w' => e = .returned (.int .i64 (mk9 s i (X.2.1.getD i 0).toNat (X.2.2.getD i 0).toNat)) ∧ Below w.heap.size w w' := by
  have b0 := (Below.refl w.heap.size w).alloc (Nat.le_refl _) (.cells #[.slice (some ⟨a, 0, none⟩) X.1.length X.1.length, .slice (some ⟨b, 0, none⟩) X.2.1.length X.2.1.length, .slice (some ⟨c, 0, none⟩) X.2.2.length X.2.2.length] 24)
  have db := (h.below b0).rb.cell (i := i) (by omega)
  have dc := (h.below b0).rc.cell (i := i) (by omega)
  obtain ⟨n, hn, hn1, hn2⟩ := exof hC
  obtain ⟨q, hq, hq1, hq2⟩ := exof hA
  rw [hn2, hq2]
  rw [hn] at db
  rw [hq] at dc
  have P1 := fun w' => qtimes (i : Int) (n : Int) w' ⟨by omega, by omega⟩ ⟨by omega, by omega⟩
  have e1 : ((i : Int) * (n : Int)) % 500000003 = ((i * n % 500000003 : Nat) : Int) := by simp
  rw [e1] at P1
  have P2 := fun w' => iof_any (i * n % 500000003) q w' (by omega) hq1
  have P3 := fun w' => qneg n w' hn1
  have P4 := fun w' => ipow s (neg9 n) w' hs (by unfold neg9; omega)
  have P5 := fun w' => itimes (seal9 (i * n % 500000003) q) (pw s (neg9 n)) w' (seal9_ok _ _) (pw_ok _ _)
  have e2 : seal9 (i * n % 500000003) q * pw s (neg9 n) % 1000000007 = mk9 s i n q := rfl
  rw [e2] at P5
  obtain ⟨M, C, A⟩ := X
  simp only at l2 l3 b0 db dc ⊢
  show Calls Try.prog 56 #[.agg #[.slice (some ⟨a, 0, none⟩) M.length M.length, .slice (some ⟨b, 0, none⟩) C.length C.length, .slice (some ⟨c, 0, none⟩) A.length A.length], .int .i64 s, .int .i64 (i : Int)] w _
  rw [l2, l3] at b0 db dc ⊢
  clear e1 e2 hs hC hA hn hq hn2 hq2 h
  generalize mk9 s i n q = z at P5 ⊢
  generalize seal9 (i * n % 500000003) q = y at P2 P5
  generalize pw s (neg9 n) = x at P4 P5
  generalize i * n % 500000003 = v at P1 P2
  generalize neg9 n = u at P3 P4
  have hib : (i : Int) < 2 := by omega
  go_enter Try.func56, Try.ntmps56
  go_wp2_with fail
  go_quiet (fail)
  go_wp2_with fail
  refine (P1 _).mono ?_
  rintro e w1 ⟨rfl, rfl⟩
  go_wp2_with fail
  refine (P2 _).mono ?_
  rintro e w1 ⟨rfl, rfl⟩
  go_wp2_with fail
  refine (P3 _).mono ?_
  rintro e w1 ⟨rfl, rfl⟩
  go_wp2_with fail
  refine (P4 _).mono ?_
  rintro e w1 ⟨rfl, rfl⟩
  go_wp2_with fail
  refine (P5 _).mono ?_
  rintro e w1 ⟨rfl, rfl⟩
  go_wp2
  go_ret
  exact ⟨rfl, below_drewN b0 _⟩
set_option maxHeartbeats 2000000 in
theorem ichfor (s m0 m1 : Int) (a b c : Nat) (C A : List Int) (w : World) (h : BfR w a b c ([m0, m1], C, A)) (hs : cB s = true) (h0 : cB m0 = true) (h1 : cB m1 = true) :
    Calls Try.prog 57 #[bpV a b c ([m0, m1], C, A), .int .i64 s] w fun e w' => e = .returned (.int .i64 (chn [s, m0, m1] 3)) ∧ Below w.heap.size w w' := by
  have bx : Below w.heap.size w (((w.alloc (.cells #[.slice (some ⟨a, 0, none⟩) 2 2, .slice (some ⟨b, 0, none⟩) C.length C.length, .slice (some ⟨c, 0, none⟩) A.length A.length] 24)).alloc (.cells #[.int .i64 s] 2)).alloc (.cells #[.slice (some ⟨w.heap.size + 1, 0, none⟩) 1 1, .slice (some ⟨a, 0, none⟩) 2 2] 22)) := (((Below.refl _ _).alloc (Nat.le_refl _) _).alloc (by simp) _).alloc (by simp; omega) _
  have hal : a < w.heap.size := h.ra.lt
  have k0 : w.cell? ⟨a, 0, none⟩ = some (.int .i64 m0) := h.ra.cell (i := 0) (by simp)
  have k1 : w.cell? ⟨a, 1, none⟩ = some (.int .i64 m1) := h.ra.cell (i := 1) (by simp)
  have HC := concat9 (w.heap.size + 1 + 1) (fun k => if k = 0 then w.heap.size + 1 else a) (fun k => if k = 0 then 1 else 2) s m0 m1 _ (by simp : w.heap.size + 1 + 1 < (((w.alloc (.cells #[.slice (some ⟨a, 0, none⟩) 2 2, .slice (some ⟨b, 0, none⟩) C.length C.length, .slice (some ⟨c, 0, none⟩) A.length A.length] 24)).alloc (.cells #[.int .i64 s] 2)).alloc (.cells #[.slice (some ⟨w.heap.size + 1, 0, none⟩) 1 1, .slice (some ⟨a, 0, none⟩) 2 2] 22)).heap.size)
    (fun k hk => by
      match k, hk with
      | 0, _ => simp
      | 1, _ => simp; omega)
    (fun k hk => by
      match k, hk with
      | 0, _ => simp [ls9]; go_simp
      | 1, _ => simp [ls9]; go_simp)
    (fun k hk j hj => by
      match k, hk with
      | 0, _ =>
        have hj' : j < 1 := hj
        obtain rfl : j = 0 := by omega
        simp [ls9]; go_simp
      | 1, _ =>
        have hj' : j < 2 := hj
        simp only [ls9]
        match j, hj' with
        | 0, _ => exact (bx.cell (p := ⟨a, 0, none⟩) hal).trans k0
        | 1, _ => exact (bx.cell (p := ⟨a, 1, none⟩) hal).trans k1)
  have HK := Lib.hid (fun (w' : World) (u : Value) (hr : RowV w' u [s, m0, m1]) => iChalR [s, m0, m1] w' u hr (by simp))
  have hm : mChal [s, m0, m1] = (chn [s, m0, m1] 3, true) := mChal_yes ⟨by simp, by simp [hs, h0, h1]⟩
  rw [hm] at HK
  generalize chn [s, m0, m1] 3 = z at HK ⊢
  clear hm h hs h0 h1
  have ha' : a ≠ w.heap.size := by omega
  go_enter Try.func57, Try.ntmps57
  go_wp2_with fail
  refine HC.mono ?_
  rintro e w1 ⟨⟨v, rfl, ho⟩, hb⟩
  have hr := ho.rd.1
  obtain ⟨va, vc, rfl⟩ := hr.shape
  have HK1 := HK.out _ _ hr
  have b1 := bx.trans (hb.mono bx.size)
  clear ho hr HC HK
  go_wp2_with fail
  refine HK1.mono ?_
  intro e w2 hp
  obtain ⟨rfl, hb2⟩ := hp.out
  go_wp2
  go_ret
  exact ⟨rfl, b1.trans (hb2.mono b1.size)⟩
end Go.Proofs.Ytjfkkmfbgmejbaa
