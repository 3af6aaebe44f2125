/- What the program's look at a path says, in the specification's words; the program's RanksOf by its contract. -/
import Derived.Test.YtlpidgdlbannbaaVp1
namespace Go.Proofs.Ytlpidgdlbannbaa
open Go.ChangeShapes Go.WideShapes Go.ChangeAt Go.RowKit Go.Deep
set_option linter.unusedSimpArgs false
set_option linter.unusedVariables false
theorem hole : ∀ (n : Nat) (p : List Int), p.Nodup → (∀ x ∈ p, 0 ≤ x ∧ x < (n : Int)) → p.length ≤ n := by
  intro n
  induction n with
  | zero =>
    intro p _ h
    cases p with
    | nil => simp
    | cons a r => have := h a (by simp); omega
  | succ n ih =>
    intro p hp h
    by_cases hm : (n : Int) ∈ p
    · have h1 := ih (p.erase n) (hp.erase _) (fun x hx => by
        have h2 := (List.Nodup.mem_erase_iff hp).1 hx
        have h3 := h x h2.2
        have h4 := h2.1
        omega)
      rw [List.length_erase_of_mem hm] at h1
      omega
    · have h1 := ih p hp (fun x hx => by
        have h3 := h x hx
        have h4 : x ≠ n := fun e => hm (e ▸ hx)
        omega)
      omega
theorem getD_of {p : List Int} {i : Nat} (h : i < p.length) : p.getD i 0 = p[i] := by simp [List.getD, h]
theorem diff_len {n : Nat} {p : List Int} (h : allDiff n p) : p.length ≤ n := by
  refine hole n p ?_ (fun x hx => ?_)
  · rw [List.nodup_iff_pairwise_ne, List.pairwise_iff_getElem]
    intro i j hi hj hij e
    have := (h j hj).2.2
    rw [getD_of hj, ← e] at this
    exact this (List.mem_take_iff_getElem.2 ⟨i, by omega, rfl⟩)
  · obtain ⟨j, hj, e⟩ := List.mem_iff_getElem.1 hx
    have := h j hj
    rw [getD_of hj, e] at this
    exact ⟨this.1, this.2.1⟩
/-- Step i of a path goes from one who is silent to one whom it trusts. -/
def hop (L : List Vc) (p : List Int) (i : Nat) : Prop := (vAt L (p.getD i 0)).1 = false ∧ p.getD (i + 1) 0 ∈ (vAt L (p.getD i 0)).2
theorem path_iff {L : List Vc} {p : List Int} : pathOk L p ↔ 1 ≤ p.length ∧ allDiff L.length p ∧ (vAt L (p.getD (p.length - 1) 0)).1 = true ∧ ∀ i, i < p.length - 1 → hop L p i := by
  constructor
  · rintro ⟨h1, h2, h3⟩
    refine ⟨h1, fun m hm => ?_, ?_, fun i hi => ?_⟩
    · obtain ⟨a, b, _⟩ := h3 m hm
      exact ⟨a.1, by omega, b⟩
    · rw [(h3 (p.length - 1) (by omega)).2.2.1]
      simp; omega
    · constructor
      · rw [(h3 i (by omega)).2.2.1]
        simp; omega
      · have := (h3 (i + 1) (by omega)).2.2.2 (by omega)
        simpa using this
  · rintro ⟨h1, h2, h3, h4⟩
    refine ⟨h1, diff_len h2, fun m hm => ?_⟩
    obtain ⟨a, b, c⟩ := h2 m hm
    refine ⟨⟨a, by omega⟩, c, ?_, fun hp => ?_⟩
    · by_cases e : m = p.length - 1
      · subst e
        rw [h3]; symm; simp; omega
      · rw [(h4 m (by omega)).1]; symm; simp; omega
    · have := (h4 (m - 1) (by omega)).2
      rwa [show m - 1 + 1 = m by omega] at this
/-- The ranks of a path. -/
def rkL (L : List Vc) (p : List Int) : List Int := (List.range (p.length - 1)).map fun i => ix (vAt L (p.getD i 0)).2 (p.getD (i + 1) 0) + 1
theorem rkL_len (L : List Vc) (p : List Int) : (rkL L p).length = p.length - 1 := by simp [rkL]
theorem rkL_at (L : List Vc) (p : List Int) {k : Nat} (h : k < p.length - 1) : (rkL L p).getD k 0 = ix (vAt L (p.getD k 0)).2 (p.getD (k + 1) 0) + 1 := by simp [rkL, List.getD, h]
theorem last_any (bp : Nat) (p : List Int) (w : World) (hp : OwnI w bp p) (h1 : 1 ≤ p.length) (hl : p.length ≤ 1048576) :
    Calls Try.prog 58 #[.slice (some ⟨bp, 0, none⟩) p.length p.length] w fun e w' => e = .returned (.int .i64 (p.getD (p.length - 1) 0)) ∧ Below w.heap.size w w' := by
  obtain ⟨m, hm⟩ : ∃ m, p.length = m + 1 := ⟨p.length - 1, by omega⟩
  have c1 : w.cell? ⟨bp, m, none⟩ = some (.int .i64 (p.getD m 0)) := World.rowIs.cell hp (by omega)
  have e1 : p.length - 1 = m := by omega
  rw [e1]
  generalize p.getD m 0 = y at c1
  rw [hm]
  have wk1 : IntKind.i64.wrap ((m : Int) + 1 - 1) = m := by rw [IntKind.wrap_i64]; omega
  have wk3 : IntKind.i64.wrap (m : Int) = m := by rw [IntKind.wrap_i64]; omega
  clear hp hm e1 h1
  go_enter Try.func58, Try.ntmps58
  go_wp2
  go_ret
  exact ⟨rfl, Below.refl _ _⟩
noncomputable def pB (L : List Vc) (p : List Int) : Bool := okLB L && pathB L p
/-- What RanksOf hands back. -/
def rkPost (L : List Vc) (p : List Int) (w : World) (e : Ending) (w' : World) : Prop :=
  (if pB L p = true then ∃ c, w.heap.size ≤ c ∧ e = .returned (.tuple #[.slice (some ⟨c, 0, none⟩) (p.length - 1) (p.length - 1), .bool true]) ∧ OwnI w' c (rkL L p) else e = .returned (.tuple #[.slice none 0 0, .bool false])) ∧ Below w.heap.size w w'
theorem rk_no {L : List Vc} {p : List Int} {w w' : World} (h : ¬ (okL L ∧ pathOk L p)) (hb : Below w.heap.size w w') : rkPost L p w (.returned (.tuple #[.slice none 0 0, .bool false])) w' := by
  have : pB L p = false := by
    unfold pB okLB pathB
    by_cases a : okL L
    · by_cases b : pathOk L p
      · exact absurd ⟨a, b⟩ h
      · simp [b]
    · simp [a]
  unfold rkPost
  rw [this]
  exact ⟨rfl, hb⟩
set_option maxHeartbeats 600000 in
set_option maxRecDepth 100000 in
theorem iranks (L : List Vc) (B b cap bp : Nat) (p : List Int) (w : World) (h : Vs w B b L) (hf : Fits L) (hp : OwnI w bp p) (hl : p.length ≤ 1048576) :
    Calls Try.prog 23 #[.slice (some ⟨b, 0, none⟩) L.length cap, .slice (some ⟨bp, 0, none⟩) p.length p.length] w (rkPost L p w) := by
  have HV := iok_any L B b cap w h hf
  have HD := fun w' (hw : Below w.heap.size w w') => diff_any (some ⟨b, 0, none⟩) L.length cap _ p w' ((hp.below hw).row p.length) hl hf.1
  obtain ⟨zv, hzv⟩ : ∃ z, okLB L = z := ⟨_, rfl⟩
  obtain ⟨zd, hzd⟩ : ∃ z, allDiffB L.length p = z := ⟨_, rfl⟩
  rw [hzv] at HV
  rw [hzd] at HD
  have hvi : zv = true ↔ okL L := by rw [← hzv]; unfold okLB; simp
  have hdi : zd = true ↔ allDiff L.length p := by rw [← hzd]; unfold allDiffB; simp
  have HVI := Lib.hid hvi
  have HDI := Lib.hid hdi
  clear hvi hdi hzv hzd
  cases zv with
  | false =>
    go_enter Try.func23, Try.ntmps23
    go_wp2_with fail
    refine HV.mono ?_
    rintro e w1 ⟨rfl, hb1⟩
    go_wp2
    go_ret2
    exact rk_no (fun ho => by have := HVI.out.2 ho.1; cases this) hb1
  | true =>
    by_cases e0 : p.length = 0
    · have e0' : ((p.length : Int) == 0) = true := by simp [e0]
      go_enter Try.func23, Try.ntmps23
      go_wp2_with fail
      refine HV.mono ?_
      rintro e w1 ⟨rfl, hb1⟩
      go_wp2
      go_ret2
      exact rk_no (fun ho => by have := ho.2.1; omega) hb1
    · have e0' : ((p.length : Int) == 0) = false := by simp [e0]
      cases zd with
      | false =>
        go_enter Try.func23, Try.ntmps23
        go_wp2_with fail
        refine HV.mono ?_
        rintro e w1 ⟨rfl, hb1⟩
        go_wp2_with fail
        refine (HD _ hb1).mono ?_
        rintro e w2 ⟨rfl, hb2⟩
        go_wp2
        go_ret2
        exact rk_no (fun ho => by have := HDI.out.2 (path_iff.1 ho.2).2.1; cases this) (hb1.trans (hb2.mono hb1.size))
      | true =>
        have hdf := HDI.out.1 rfl
        have hlast := hdf (p.length - 1) (by omega)
        obtain ⟨y, hy⟩ : ∃ y, p.getD (p.length - 1) 0 = y := ⟨_, rfl⟩
        have HL := fun w' (hw : Below w.heap.size w w') => last_any bp p w' (hp.below hw) (by omega) hl
        rw [hy] at hlast HL
        obtain ⟨j, rfl⟩ : ∃ j : Nat, y = j := ⟨y.toNat, by omega⟩
        have hj : j < L.length := by omega
        have hvq : vAt L (j : Int) = L.getD j (false, []) := by simp [vAt]
        have HY := Lib.hid hy
        have HDF := Lib.hid hdf
        obtain ⟨m, hm⟩ : ∃ m, p.length = m + 1 := ⟨p.length - 1, by omega⟩
        have hmm : (p.length : Int) - 1 = m := by omega
        have wk1 : IntKind.i64.wrap ((p.length : Int) - 1) = m := by rw [IntKind.wrap_i64]; omega
        have wk3 : IntKind.i64.wrap (m : Int) = m := by rw [IntKind.wrap_i64]; omega
        have hm1 : m ≤ 1048576 := by omega
        have hmk := run_make_row' (P := Try.prog) 29 2 (.int .i64 0) 8 Try.underlying29 infoI rfl .i64 .i64 m (by omega) (by omega)
        have HM := Lib.hid hm
        clear hy hdf hlast hm
        go_enter Try.func23, Try.ntmps23
        go_wp2_with fail
        refine HV.mono ?_
        rintro e w1 ⟨rfl, hb1⟩
        go_wp2_with fail
        refine (HD _ hb1).mono ?_
        rintro e w2 ⟨rfl, hb2⟩
        have b2 := hb1.trans (hb2.mono hb1.size)
        go_wp2_with fail
        refine (HL _ b2).mono ?_
        rintro e w3 ⟨rfl, hb3⟩
        have b3 := b2.trans (hb3.mono b2.size)
        obtain ⟨c, a1, a2, a3⟩ := (h.below b3).at hj
        obtain ⟨⟨s, t⟩, hq⟩ : ∃ q, L.getD j (false, []) = q := ⟨_, rfl⟩
        rw [hq] at a1 a2 a3 hvq
        simp only at a1 a2 a3
        have HQ := Lib.hid hvq
        clear hvq hq a2 a3
        cases s with
        | false =>
          go_wp2
          go_ret2
          exact rk_no (fun ho => by have := (path_iff.1 ho.2).2.2.1; rw [HY.out, HQ.out] at this; cases this) b3
        | true =>
          go_wp2
          have hlenR : (rkL L p).length = m := by rw [rkL_len]; have := HM.out; omega
          have hrow0 : (w3.alloc (.cells (madeCells #[.int .i64 0] m) 2)).rowIs w3.heap.size 2 m (fillI (rkL L p) 0) := (World.rowIs_made w3 _ _ _).congr (fun j _ => by simp [fillI])
          have hb0 : Below w.heap.size w (w3.alloc (.cells (madeCells #[.int .i64 0] m) 2)) := b3.alloc b3.size _
          have HR := Lib.hid hlenR
          have HALL : Hid ((∀ i, i < m → hop L p i) → okL L ∧ pathOk L p) := fun hh => ⟨HVI.out.1 (by trivial), path_iff.2 ⟨by have := HM.out; omega, HDF.out, by rw [HY.out, HQ.out], fun i hi => hh i (by have := HM.out; omega)⟩⟩
          clear hlenR hmk a1 hb1 hb2 hb3 HV HD HL HVI HDI b2 hj HY HQ
          go_loopg [39] m (fun g i wr => ∃ k : Nat, k ≤ m ∧ g = m - k ∧ i = .int .i64 k ∧ Below w.heap.size w wr ∧ w3.heap.size < wr.heap.size ∧ wr.rowIs w3.heap.size 2 m (fillI (rkL L p) k) ∧ Hid (∀ i, i < k → hop L p i))
          case atStart => exact ⟨0, Nat.zero_le _, rfl, rfl, hb0, by simp, hrow0, fun j hj => absurd hj (Nat.not_lt_zero _)⟩
          case round =>
            clear hb0 hrow0
            obtain ⟨k, hk, rfl, rfl, hb, hsz, hrow, H⟩ := hrel
            by_cases hlt : k < m
            · have hk1 := HM.out
              have hko : k + 1 < p.length := by omega
              have hkl : k < p.length := by omega
              clear hk1
              have hdk := HDF.out k hkl
              obtain ⟨y, hy⟩ : ∃ y, p.getD k 0 = y := ⟨_, rfl⟩
              have c1 : wr.cell? ⟨bp, k, none⟩ = some (.int .i64 (p.getD k 0)) := World.rowIs.cell (hp.below hb) hkl
              rw [hy] at hdk c1
              obtain ⟨j2, rfl⟩ : ∃ j : Nat, y = j := ⟨y.toNat, by omega⟩
              have hj2 : j2 < L.length := by omega
              obtain ⟨k1, hk1⟩ : ∃ k1, k + 1 = k1 := ⟨_, rfl⟩
              have c2 : wr.cell? ⟨bp, k1, none⟩ = some (.int .i64 (p.getD k1 0)) := World.rowIs.cell (hp.below hb) (by omega)
              obtain ⟨y2, hy2⟩ : ∃ y, p.getD k1 0 = y := ⟨_, rfl⟩
              rw [hy2] at c2
              obtain ⟨c3, a1, a2, a3⟩ := (h.below hb).at hj2
              have hlen2 := hf.2 j2 hj2
              have hvq : vAt L (j2 : Int) = L.getD j2 (false, []) := by simp [vAt]
              obtain ⟨⟨s2, t2⟩, hq⟩ : ∃ q, L.getD j2 (false, []) = q := ⟨_, rfl⟩
              rw [hq] at a1 a2 a3 hvq hlen2
              simp only at a1 a2 a3 hlen2
              obtain ⟨z, hz⟩ : ∃ z, ix t2 y2 = z := ⟨_, rfl⟩
              have hzb := ix_bd t2 y2
              rw [hz] at hzb
              obtain ⟨z1, z2, z3⟩ := hzb
              have HI : ∀ o n, Calls Try.prog 59 #[.slice (some ⟨c3, 0, none⟩) t2.length t2.length, .int .i64 y2] ((wr.alloc o).drewN n) fun e w' => e = .returned (.int .i64 z) ∧ (wr.alloc o).drewN n = w' := fun o n => by
                have := idx_any _ _ y2 ((wr.alloc o).drewN n) (a3.below (below_drewN ((Below.refl _ _).alloc (Nat.le_refl _) o) n)) (by omega)
                rw [hz] at this
                exact this
              have hz2 : z ≤ 1048577 := by omega
              have HK1 := Lib.hid hk1
              have HQ2 := Lib.hid hvq
              have HY1 := Lib.hid hy
              have HY2 := Lib.hid hy2
              have HZ := Lib.hid hz
              have HZ3 := Lib.hid z3
              have hkk : (k : Int) + 1 = k1 := by omega
              have wk4 : IntKind.i64.wrap ((k : Int) + 1) = k1 := by rw [IntKind.wrap_i64]; omega
              have wk5 : IntKind.i64.wrap (k1 : Int) = k1 := by rw [IntKind.wrap_i64]; omega
              have hk1l : k1 < p.length := by omega
              have hbp : bp < wr.heap.size := (hp.below hb).lt
              have st1 : ∀ o n, ((wr.alloc o).drewN n).cell? ⟨w3.heap.size, k, none⟩ = some (fillI (rkL L p) k k) := fun o n => ((hrow.alloc o).of_block rfl).cell hlt
              clear hy hy2 hq hvq hz z3 hk1 a3 hlen2 hdk hko hkl
              have wz : IntKind.i64.wrap (z + 1) = z + 1 := by rw [IntKind.wrap_i64]; omega
              have hbx := fun o n => below_drewN (hb.alloc hb.size o) n
              have hkm := HM.out
              have HNO : ¬ hop L p k → ¬ (okL L ∧ pathOk L p) := fun q ho => q ((path_iff.1 ho.2).2.2.2 k (by omega))
              have HNO' := Lib.hid HNO
              have HBX := Lib.hid hbx
              have HROW := Lib.hid hrow
              have f1 : ∀ o n, ((wr.alloc o).drewN n).frozen? ⟨w3.heap.size, k, none⟩ = false := fun o n => World.rowIs.frozen ((hrow.alloc o).of_block rfl) k
              clear HNO hkm hbx z2 hrow
              cases s2 with
              | true =>
                go_wp2_with fail
                go_quiet ((first | (go_at_call 59; exact quiet_left (HI _ _))))
                go_wp2
                go_ret2
                exact rk_no (HNO'.out (fun q => by have := q.1; rw [HY1.out, HQ2.out] at this; cases this)) (HBX.out _ _)
              | false =>
                by_cases hz0 : z < 0
                · go_wp2_with fail
                  go_quiet ((first | (go_at_call 59; exact quiet_left (HI _ _))))
                  go_wp2
                  go_ret2
                  exact rk_no (HNO'.out (fun q => by have q2 := q.2; rw [HK1.out, HY1.out, HQ2.out, HY2.out] at q2; have := HZ3.out.2 q2; omega)) (HBX.out _ _)
                · go_wp2_with fail
                  go_quiet ((first | (go_at_call 59; exact quiet_left (HI _ _))))
                  go_wp2
                  go_roundg (m - (k + 1))
                  case measure => omega
                  case rel =>
                    refine ⟨k + 1, by omega, rfl, by rw [HK1.out], (HBX.out _ _).setCell (by have := b3.size; show _ ≤ _; omega) _, by simp [World.setCell]; omega, ?_, fun i hi => ?_⟩
                    · refine (World.rowIs.set ((HROW.out.alloc _).of_block rfl) k _).congr (fun i hi => ?_)
                      unfold fillI
                      by_cases ei : i = k
                      · subst ei
                        rw [rkL_at L p (by have := HM.out; omega), HY1.out, HQ2.out, HK1.out, HY2.out]
                        simp only
                        rw [HZ.out]
                        have hlt9 : i < k1 := by have := HK1.out; omega
                        simp [hlt9]
                      · rw [if_neg ei]
                        by_cases hik : i < k
                        · rw [if_pos hik, if_pos (by omega)]
                        · rw [if_neg hik, if_neg (by omega)]
                    · by_cases ei : i = k
                      · rw [ei]
                        constructor
                        · rw [HY1.out, HQ2.out]
                        · rw [HK1.out, HY1.out, HQ2.out, HY2.out]
                          exact HZ3.out.1 (by omega)
                      · exact H.out i (by omega)
            · have e : k = m := by omega
              subst e
              go_wp2
              go_ret2
              have hall : okL L ∧ pathOk L p := HALL.out H.out
              have hpb : pB L p = true := by unfold pB; rw [okLB_yes hall.1, pathB_yes hall.2]; rfl
              unfold rkPost
              rw [if_pos hpb]
              have hm9 := HM.out
              refine ⟨⟨w3.heap.size, b3.size, by rw [show p.length - 1 = k by omega]; rfl, ?_⟩, hb⟩
              unfold OwnI
              rw [HR.out]
              exact hrow.congr (fun i hi => by simp [fillI, hi])
end Go.Proofs.Ytlpidgdlbannbaa
