/- Whether a proof is one for a seal: the program's answer. -/
import Derived.Test.YtjfkkmfbgmejbaaBi1x
namespace Go.Proofs.Ytjfkkmfbgmejbaa
open Go.ChangeShapes Go.WideShapes Go.ChangeAt Go.RowKit Go.Deep
set_option linter.unusedSimpArgs false
set_option linter.unusedVariables false
/-- What the program asks of a proof: each mark is the one that it must be. -/
theorem bp_iff {s : Int} {M C A : List Int} (hs : isSl s = true) (l1 : M.length = 2) (l2 : C.length = 2) (l3 : A.length = 2) (hC : C.all isEx = true) (hA : A.all isEx = true) :
    bpOk s (M, C, A) ↔ (∀ i, i < 2 → M.getD i 0 = mk9 s i (C.getD i 0).toNat (A.getD i 0).toNat) ∧ (C.getD 0 0 + C.getD 1 0) % 500000003 = chn [s, M.getD 0 0, M.getD 1 0] 3 := by
  have hc : ∀ i, i < 2 → (C.getD i 0).toNat ≤ 500000002 := fun i hi => by
    have := isEx_ok (all_at hC (show i < C.length by omega))
    obtain ⟨x, y⟩ := this
    omega
  constructor
  · rintro ⟨_, ⟨h1, _⟩, _, _, h5, h6⟩
    exact ⟨fun i hi => (bit9_iff hs (isSl_ok (all_at h1 (show i < M.length by omega))) i (by omega) (hc i hi) _).1 (h6 i hi), h5⟩
  · rintro ⟨h1, h2⟩
    refine ⟨hs, ⟨all_yes (fun k hk => ?_), l1⟩, ⟨hC, l2⟩, ⟨hA, l3⟩, h2, fun i hi => ?_⟩
    · have hk : k < M.length := hk
      rw [show (M, C, A).1.getD k 0 = M.getD k 0 from rfl, h1 k (by omega)]
      exact mk9_sl hs _ _ _
    · show pw 9 (A.getD i 0).toNat = M.getD i 0 * pw (wo9 s i) (C.getD i 0).toNat % 1000000007
      exact (bit9_iff hs (by rw [h1 i hi]; exact mk9_ok _ _ _ _) i (by omega) (hc i hi) _).2 (h1 i hi)
/-- What lies behind the last look: the proof's box, its challenges. -/
def Vc9 (w0 : World) (p b : Nat) (x y z : Value) (c0 c1 : Int) (w' : World) : Prop :=
  w'.cell? ⟨p, 0, none⟩ = some x ∧ w'.cell? ⟨p, 1, none⟩ = some y ∧ w'.cell? ⟨p, 2, none⟩ = some z ∧ w'.cell? ⟨b, 0, none⟩ = some (.int .i64 c0) ∧ w'.cell? ⟨b, 1, none⟩ = some (.int .i64 c1) ∧ Hid (Below w0.heap.size w0 w')
theorem Vc9.bel {w0 w' : World} {p b : Nat} {x y z : Value} {c0 c1 : Int} (h : Vc9 w0 p b x y z c0 c1 w') : Below w0.heap.size w0 w' := h.2.2.2.2.2.out
theorem Vc9.drew {w0 w' : World} {p b : Nat} {x y z : Value} {c0 c1 : Int} (h : Vc9 w0 p b x y z c0 c1 w') : Vc9 w0 p b x y z c0 c1 w'.drew := by
  obtain ⟨x1, x2, x3, x4, x5, g⟩ := h
  exact ⟨x1, x2, x3, x4, x5, Lib.hid g.out.drew⟩
theorem Vc9.below {w0 w' w'' : World} {p b : Nat} {x y z : Value} {c0 c1 : Int} (h : Vc9 w0 p b x y z c0 c1 w') (hb : Below w'.heap.size w' w'') : Vc9 w0 p b x y z c0 c1 w'' := by
  obtain ⟨x1, x2, x3, x4, x5, g⟩ := h
  have k : ∀ {b : Nat} {o : Nat} {v : Value}, w'.cell? ⟨b, o, none⟩ = some v → w''.cell? ⟨b, o, none⟩ = some v := fun {b o v} hc => (hb.cell (p := ⟨b, o, none⟩) (World.block_lt_of_cell? _ _ hc)).trans hc
  exact ⟨k x1, k x2, k x3, k x4, k x5, Lib.hid (g.out.trans (hb.mono g.out.size))⟩
set_option maxHeartbeats 4000000 in
theorem iholds2 (s : Int) (M C A : List Int) (a b c : Nat) (w : World) (hs : isSl s = true) (h : BfR w a b c (M, C, A)) (l1 : M.length = 2) (l2 : C.length = 2) (l3 : A.length = 2) (hC : C.all isEx = true) (hA : A.all isEx = true) :
    Calls Try.prog 63 #[.agg #[.int .i64 s, .slice (some ⟨a, 0, none⟩) 2 2, .slice (some ⟨b, 0, none⟩) 2 2, .slice (some ⟨c, 0, none⟩) 2 2]] w fun e w' => e = .returned (.bool (bpB s (M, C, A))) ∧ Below w.heap.size w w' := by
  obtain ⟨W2, hW2⟩ : ∃ W2, W2 = (w.alloc (.cells #[.int .i64 s, .slice (some ⟨a, 0, none⟩) 2 2, .slice (some ⟨b, 0, none⟩) 2 2, .slice (some ⟨c, 0, none⟩) 2 2] 88)).alloc (.cells #[.slice (some ⟨a, 0, none⟩) 2 2, .slice (some ⟨b, 0, none⟩) 2 2, .slice (some ⟨c, 0, none⟩) 2 2] 24) := ⟨_, rfl⟩
  have b2 : Below w.heap.size w W2 := by rw [hW2]; exact ((Below.refl _ _).alloc (Nat.le_refl _) _).alloc (by simp) _
  have p0 : W2.cell? ⟨w.heap.size + 1, 0, none⟩ = some (.slice (some ⟨a, 0, none⟩) 2 2) := by rw [hW2]; go_simp
  have p1 : W2.cell? ⟨w.heap.size + 1, 1, none⟩ = some (.slice (some ⟨b, 0, none⟩) 2 2) := by rw [hW2]; go_simp
  have p2 : W2.cell? ⟨w.heap.size + 1, 2, none⟩ = some (.slice (some ⟨c, 0, none⟩) 2 2) := by rw [hW2]; go_simp
  have s0 : W2.cell? ⟨w.heap.size, 0, none⟩ = some (.int .i64 s) := by rw [hW2]; go_simp
  have h2 := h.below b2
  have k2 : W2.cell? ⟨b, 0, none⟩ = some (.int .i64 (C.getD 0 0)) := h2.rb.cell (i := 0) (by simp only; omega)
  have k3 : W2.cell? ⟨b, 1, none⟩ = some (.int .i64 (C.getD 1 0)) := h2.rb.cell (i := 1) (by simp only; omega)
  have VC := Lib.hid (show Vc9 w (w.heap.size + 1) b (.slice (some ⟨a, 0, none⟩) 2 2) (.slice (some ⟨b, 0, none⟩) 2 2) (.slice (some ⟨c, 0, none⟩) 2 2) (C.getD 0 0) (C.getD 1 0) W2 from ⟨p0, p1, p2, k2, k3, Lib.hid b2⟩)
  have HS := fun w' => isl_any s w'
  rw [hs] at HS
  have HCX := iexk (.slice (some ⟨b, 0, none⟩) 2 2) C W2 (by have := h2.rows.2.1; simp only at this; rw [l2] at this; exact this) (by omega)
  have HAX := fun w' (hw : Below W2.heap.size W2 w') => iexk (.slice (some ⟨c, 0, none⟩) 2 2) A w' (by have := (h2.below hw).rows.2.2; simp only at this; rw [l3] at this; exact this) (by omega)
  rw [hC] at HCX
  rw [hA] at HAX
  have IFF := Lib.hid (bp_iff hs l1 l2 l3 hC hA)
  have HMK : Hid (∀ (w' : World) (hw : Below w.heap.size w w') (i : Nat), i < 2 → Calls Try.prog 56 #[.agg #[.slice (some ⟨a, 0, none⟩) 2 2, .slice (some ⟨b, 0, none⟩) 2 2, .slice (some ⟨c, 0, none⟩) 2 2], .int .i64 s, .int .i64 (i : Int)] w' fun e w'' => e = .returned (.int .i64 (mk9 s i (C.getD i 0).toNat (A.getD i 0).toNat)) ∧ Below w'.heap.size w' w'') := fun w' hw i hi => by
    have q := imark s i (M, C, A) a b c w' (isSl_ok hs) (by omega) (h.below hw) l2 l3 (all_at hC (by omega)) (all_at hA (by omega))
    have e : bpV a b c (M, C, A) = .agg #[.slice (some ⟨a, 0, none⟩) 2 2, .slice (some ⟨b, 0, none⟩) 2 2, .slice (some ⟨c, 0, none⟩) 2 2] := by show Value.agg #[.slice _ M.length M.length, .slice _ C.length C.length, .slice _ A.length A.length] = _; rw [l1, l2, l3]
    rw [e] at q
    exact q
  have HCF : Hid ((∀ i, i < 2 → M.getD i 0 = mk9 s i (C.getD i 0).toNat (A.getD i 0).toNat) → ∀ (w' : World) (hw : Below w.heap.size w w'), Calls Try.prog 57 #[.agg #[.slice (some ⟨a, 0, none⟩) 2 2, .slice (some ⟨b, 0, none⟩) 2 2, .slice (some ⟨c, 0, none⟩) 2 2], .int .i64 s] w' fun e w'' => e = .returned (.int .i64 (chn [s, M.getD 0 0, M.getD 1 0] 3)) ∧ Below w'.heap.size w' w'') := fun hall w' hw => by
    obtain ⟨m0, m1, rfl⟩ := two_of l1
    have q := ichfor s m0 m1 a b c C A w' (h.below hw) (isSl_cB hs) (by have := hall 0 (by omega); simp at this; rw [this]; exact isSl_cB (mk9_sl hs _ _ _)) (by have := hall 1 (by omega); simp at this; rw [this]; exact isSl_cB (mk9_sl hs _ _ _))
    have e : bpV a b c ([m0, m1], C, A) = .agg #[.slice (some ⟨a, 0, none⟩) 2 2, .slice (some ⟨b, 0, none⟩) 2 2, .slice (some ⟨c, 0, none⟩) 2 2] := by show Value.agg #[.slice _ 2 2, .slice _ C.length C.length, .slice _ A.length A.length] = _; rw [l2, l3]
    rw [e] at q
    exact q
  have HH := Lib.hid h
  have C0 := isEx_ok (all_at hC (show 0 < C.length by omega))
  have C1 := isEx_ok (all_at hC (show 1 < C.length by omega))
  have HPL := Lib.hid (fun w' => qplus (C.getD 0 0) (C.getD 1 0) w' C0 C1)
  have HL1 := Lib.hid l1
  rw [hW2] at HCX
  have HW := Lib.hid hW2
  have hal : a < w.heap.size := h.ra.lt
  have q2 : w.heap.size + 1 < W2.heap.size := by rw [hW2]; simp
  clear h h2 hs hC hA l1 l2 l3 C0 C1 k2 k3 hW2
  go_enter Try.func63, Try.ntmps63
  go_wp2_with fail
  refine (HS _).mono ?_
  rintro e w1 ⟨rfl, rfl⟩
  go_wp2_with fail
  refine HCX.mono ?_
  rw [← HW.out]
  rintro e w1 ⟨rfl, hb1⟩
  have HV1 := Lib.hid (VC.out.below hb1)
  obtain ⟨y0, y1, y2, -, -, -⟩ := HV1.out
  have x0 := (hb1.cell (p := ⟨w.heap.size, 0, none⟩) (by show w.heap.size < _; omega)).trans s0
  have lw1 := hb1.size
  have HA1 := HAX _ hb1
  clear HS HCX HAX p0 p1 p2
  go_wp2_with fail
  refine HA1.mono ?_
  rintro e w2 ⟨rfl, hb2⟩
  have HV2 := Lib.hid (HV1.out.below hb2)
  obtain ⟨z0, z1, z2, -, -, -⟩ := HV2.out
  have t0 := (hb2.cell (p := ⟨w.heap.size, 0, none⟩) (by show w.heap.size < _; omega)).trans x0
  have lw2 := hb2.size
  clear y0 y1 y2 x0 s0 HA1 hb1 hb2
  go_wp2
  go_loopg [46] 2 (fun g i wr => ∃ k : Nat, k ≤ 2 ∧ g = 2 - k ∧ i = .int .i64 (k : Int) ∧ Hid (Vc9 w (w.heap.size + 1) b (.slice (some ⟨a, 0, none⟩) 2 2) (.slice (some ⟨b, 0, none⟩) 2 2) (.slice (some ⟨c, 0, none⟩) 2 2) (C.getD 0 0) (C.getD 1 0) wr) ∧ Hid (∀ j, j < k → M.getD j 0 = mk9 s j (C.getD j 0).toNat (A.getD j 0).toNat))
  case atStart => exact ⟨0, Nat.zero_le _, rfl, rfl, HV2, fun j hj => absurd hj (Nat.not_lt_zero _)⟩
  case round =>
    clear z0 z1 z2 t0
    obtain ⟨k, hk, rfl, rfl, HV, HK⟩ := hrel
    have hb := HV.out.bel
    have hbh := Lib.hid hb
    obtain ⟨y0, y1, y2, g0, g1, -⟩ := HV.out
    by_cases hlt : k < 2
    · have da : wr.cell? ⟨a, k, none⟩ = some (.int .i64 (M.getD k 0)) := (HH.out.below hb).ra.cell (i := k) (by have := HL1.out; simp only; omega)
      have HM := HMK.out wr hb k hlt
      have hiff : Hid ((M.getD k 0 = mk9 s k (C.getD k 0).toNat (A.getD k 0).toNat) ↔ M.getD k 0 = mk9 s k (C.getD k 0).toNat (A.getD k 0).toNat) := Lib.hid Iff.rfl
      obtain ⟨m, hm⟩ : ∃ m, M.getD k 0 = m := ⟨_, rfl⟩
      obtain ⟨v, hv⟩ : ∃ v, mk9 s k (C.getD k 0).toNat (A.getD k 0).toNat = v := ⟨_, rfl⟩
      rw [hm] at da
      rw [hv] at HM
      have HMM := Lib.hid hm
      have HVV := Lib.hid hv
      clear hm hv hiff hb
      by_cases hmv : m = v
      · subst hmv
        go_wp2_with fail
        refine HM.mono ?_
        rintro e w3 ⟨rfl, hb3⟩
        go_wp2
        go_roundg (2 - (k + 1))
        case measure => omega
        case rel =>
          refine ⟨k + 1, by omega, rfl, by simp, Lib.hid (HV.out.below hb3), fun j hj => ?_⟩
          by_cases ej : j = k
          · subst ej; rw [HMM.out, HVV.out]
          · exact HK.out j (by omega)
      · have HMV := Lib.hid hmv
        go_wp2_with fail
        refine HM.mono ?_
        rintro e w3 ⟨rfl, hb3⟩
        go_wp2
        go_ret
        refine ⟨?_, (HV.out.below hb3).bel⟩
        rw [bpB_no (fun ho => by
          have h1 := (IFF.out.1 ho).1 k (by omega)
          rw [HMM.out, HVV.out] at h1
          have h2 := HMV.out
          first | exact h2 h1 | omega)]; rfl
    · have e' : k = 2 := by omega
      subst e'
      have HC2 := Lib.hid (fun w' hw => HCF.out HK.out w' hw)
      have HI2 : Hid (bpOk s (M, C, A) ↔ chn [s, M.getD 0 0, M.getD 1 0] 3 = (C.getD 0 0 + C.getD 1 0) % 500000003) := Lib.hid ⟨fun ho => ((IFF.out.1 ho).2).symm, fun ho => IFF.out.2 ⟨HK.out, ho.symm⟩⟩
      obtain ⟨x, hx⟩ : ∃ x, chn [s, M.getD 0 0, M.getD 1 0] 3 = x := ⟨_, rfl⟩
      obtain ⟨y, hy⟩ : ∃ y, (C.getD 0 0 + C.getD 1 0) % 500000003 = y := ⟨_, rfl⟩
      have HP2 := HPL
      rw [hx] at HC2 HI2
      rw [hy] at HP2 HI2
      generalize C.getD 0 0 = c0 at *
      generalize C.getD 1 0 = c1 at *
      clear hb hx hy HPL
      go_wp2_with fail
      go_region_held3 (fun w' => w'.cell? ⟨w.heap.size + 1, 0, none⟩ = some (.slice (some ⟨a, 0, none⟩) 2 2) ∧ w'.cell? ⟨w.heap.size + 1, 1, none⟩ = some (.slice (some ⟨b, 0, none⟩) 2 2) ∧ w'.cell? ⟨w.heap.size + 1, 2, none⟩ = some (.slice (some ⟨c, 0, none⟩) 2 2) ∧ w'.cell? ⟨b, 0, none⟩ = some (.int .i64 c0) ∧ w'.cell? ⟨b, 1, none⟩ = some (.int .i64 c1) ∧ Hid (Below w.heap.size w w'))
        (first | exact (Hid.out HV).drew | exact Hid.out (by assumption))
        (first
          | (go_at_call 57; have hcur : Vc9 w (w.heap.size + 1) b (.slice (some ⟨a, 0, none⟩) 2 2) (.slice (some ⟨b, 0, none⟩) 2 2) (.slice (some ⟨c, 0, none⟩) 2 2) c0 c1 _ := (by assumption); refine (HC2.out _ hcur.bel).mono ?_; rintro e wt ⟨rfl, hbt⟩; have hB : Hid (Vc9 w (w.heap.size + 1) b (.slice (some ⟨a, 0, none⟩) 2 2) (.slice (some ⟨b, 0, none⟩) 2 2) (.slice (some ⟨c, 0, none⟩) 2 2) c0 c1 wt) := Lib.hid (hcur.below hbt))
          | (go_at_call 59; have hcur : Vc9 w (w.heap.size + 1) b (.slice (some ⟨a, 0, none⟩) 2 2) (.slice (some ⟨b, 0, none⟩) 2 2) (.slice (some ⟨c, 0, none⟩) 2 2) c0 c1 _ := (by assumption); have hB3 : Hid (Vc9 w (w.heap.size + 1) b (.slice (some ⟨a, 0, none⟩) 2 2) (.slice (some ⟨b, 0, none⟩) 2 2) (.slice (some ⟨c, 0, none⟩) 2 2) c0 c1 _) := Lib.hid hcur; refine (HP2.out _).mono ?_; rintro e wt2 ⟨rfl, rfl⟩))
      all_goals
        have hbb := (Hid.out hB3).bel
        go_wp2
        go_ret
        refine ⟨?_, ?_⟩
        · by_cases hxy : x = y
          · rw [bpB_yes (HI2.out.2 hxy)]; simp [hxy]
          · rw [bpB_no (fun ho => hxy (HI2.out.1 ho))]; simp [hxy]
        · first | exact hbb | exact hbb.drew | exact below_drewN hbb _
end Go.Proofs.Ytjfkkmfbgmejbaa
