/- ShortfallOf and IsPanel: the calls by their contracts. -/
import Derived.Test.YtibbmjhgbnbbbaaPo8
import Derived.Test.YtibbmjhgbnbbbaaK1
namespace Go.Proofs.Ytibbmjhgbnbbbaa
open Go.ChangeShapes Go.WideShapes Go.ChangeAt Go.RowKit Go.Deep
set_option linter.unusedSimpArgs false
set_option linter.unusedVariables false
/-- A set of as many people as a panel has. -/
def team (P S : Int) (t : List Int) : Prop := (t.length : Int) = S ∧ ris t 0 (P - 1)
noncomputable def teamB (P S : Int) (t : List Int) : Bool := @decide (team P S t) (Classical.propDecidable _)
theorem teamB_iff {P S : Int} {t : List Int} : teamB P S t = true ↔ team P S t := by simp [teamB]
theorem teamB_yes {P S : Int} {t : List Int} (h : team P S t) : teamB P S t = true := by simp [teamB, h]
theorem teamB_no {P S : Int} {t : List Int} (h : ¬ team P S t) : teamB P S t = false := by simp [teamB, h]
set_option maxHeartbeats 1000000 in
theorem steam (P S : Int) (p : Nat) (q v : Value) (t : List Int) (w : World) (hp : PoolAt w p P S q) (h1 : 1 ≤ P) (h2 : P ≤ 7) (h : RowV w v t) (hl : t.length ≤ 1048576) :
    Calls Try.prog 33 #[.pointer (some ⟨p, 0, none⟩), v] w fun e w' => e = .returned (.bool (teamB P S t)) ∧ Drw w w' := by
  have HR0 := srises v t 0 (P - 1) w h (by omega)
  obtain ⟨p0, p1, p2, pl⟩ := hp
  obtain ⟨a, cap, rfl⟩ := h.shape
  obtain ⟨P', hP'⟩ : ∃ P', P - 1 = P' := ⟨_, rfl⟩
  have wq1 : IntKind.i64.wrap (P - 1) = P' := by rw [IntKind.wrap_i64]; omega
  have HN := Lib.hid (fun hn => teamB_no (P := P) (S := S) (t := t) hn)
  obtain ⟨z, hz⟩ : ∃ z, risB t 0 (P - 1) = z := ⟨_, rfl⟩
  rw [hz, hP'] at HR0
  have HZ := Lib.hid hz
  clear hz h
  by_cases hs : (t.length : Int) = S
  · have HS := Lib.hid hs
    have e0 : ((t.length : Int) == S) = true := beq_iff_eq.2 hs
    clear hs
    go_enter Try.func33, Try.ntmps33
    go_wp2_with fail
    refine HR0.mono ?_
    rintro e w1 ⟨rfl, hd⟩
    go_wp2
    go_ret
    refine ⟨?_, hd⟩
    cases z with
    | true => rw [teamB_yes ⟨HS.out, risB_iff.1 HZ.out⟩]; rfl
    | false => rw [HN.out (fun ho => by have := risB_yes ho.2; rw [HZ.out] at this; simp at this)]; rfl
  · have HS := Lib.hid hs
    have e0 : ((t.length : Int) == S) = false := beq_eq_false_iff_ne.2 hs
    clear hs
    go_enter Try.func33, Try.ntmps33
    go_wp2
    go_ret
    exact ⟨by rw [HN.out (fun ho => HS.out ho.1)]; first | rfl | simp [e0], Drw.refl _⟩
/-- What ShortfallOf answers. -/
noncomputable def mShort (X : Pl) (t : List Int) : Int × Bool := if pOkB X.1 X.2.1 X.2.2 && teamB X.1 X.2.1 t then (sumM X.2.2 t X.2.2.length, true) else (0, false)
noncomputable def mPanel (X : Pl) (t : List Int) : Bool := pOkB X.1 X.2.1 X.2.2 && (teamB X.1 X.2.1 t && decide (sumM X.2.2 t X.2.2.length = 0))
/-- A number and a bool. -/
def Pnb (m : Int × Bool) (w : World) (e : Ending) (w' : World) : Prop := e = .returned (.tuple #[.int .i64 m.1, .bool m.2]) ∧ Below w.heap.size w w'
theorem Pnb.out {n : Int} {z : Bool} {w w' : World} {e : Ending} (h : Pnb (n, z) w e w') : e = .returned (.tuple #[.int .i64 n, .bool z]) ∧ Below w.heap.size w w' := h
abbrev Qnb := Pnb
theorem CpI.rv {w : World} {lo hi : Nat} {v : Value} {l : List Int} (h : CpI w lo hi v l) : RowV w v l ∧ l.length ≤ 1048576 := by
  obtain ⟨rfl, h1, _, h3⟩ := h
  exact ⟨h1.row _, h3⟩
set_option maxHeartbeats 1000000 in
theorem sShort (X : Pl) (t : List Int) (w : World) (lo hi : Nat) (u : Value) (c : CpP w lo hi u X) (lo1 hi1 : Nat) (v : Value) (ct : CpI w lo1 hi1 v t) : Calls Try.prog 17 #[u, v] w (Pnb (mShort X t) w) := by
  obtain ⟨P, S, L⟩ := X
  obtain ⟨b, rfl, h1, h2, h3, hf, _, _⟩ := c
  simp only at h3 hf
  obtain ⟨hct, hctl⟩ := ct.rv
  have b1 := (Below.refl w.heap.size w).alloc (Nat.le_refl _) (.cells #[.int .i64 P, .int .i64 S, .slice (some ⟨b, 0, none⟩) L.length L.length] 29)
  have hpa := pool_at w P S (.slice (some ⟨b, 0, none⟩) L.length L.length)
  have HS := spool P S L b b L.length w.heap.size _ (h3.below b1) hf hpa
  unfold Pnb mShort
  simp only
  obtain ⟨z, hz⟩ : ∃ z, pOkB P S L = z := ⟨_, rfl⟩
  rw [hz] at HS ⊢
  cases z with
  | false =>
    clear h3 hct hpa
    go_enter Try.func17, Try.ntmps17
    go_wp2_with fail
    refine HS.mono ?_
    rintro e w1 ⟨rfl, hb1⟩
    go_wp2
    go_ret2
    exact ⟨rfl, b1.trans (hb1.below.mono b1.size)⟩
  | true =>
    have hok := pOkB_iff.1 hz
    have HT := fun w' (hw : Below w.heap.size w w') (hp : PoolAt w' w.heap.size P S (.slice (some ⟨b, 0, none⟩) L.length L.length)) => steam P S w.heap.size _ v t w' hp hok.1 hok.2.1 (hct.below hw) hctl
    have HM := fun w' (hw : Below w.heap.size w w') (hp : PoolAt w' w.heap.size P S (.slice (some ⟨b, 0, none⟩) L.length L.length)) (ht7 : t.length ≤ 7) => smissed P S L b b L.length w.heap.size t v w' (h3.below hw) hf hp hok (hct.below hw) ht7
    obtain ⟨y, hy⟩ : ∃ y, teamB P S t = y := ⟨_, rfl⟩
    rw [hy] at HT ⊢
    have HPA := Lib.hid hpa
    have HY := Lib.hid hy
    have P7 := hok.2.1
    clear h3 hct hpa hz hok hy
    go_enter Try.func17, Try.ntmps17
    go_wp2_with fail
    refine HS.mono ?_
    rintro e w1 ⟨rfl, hb1⟩
    have b2 := b1.trans (hb1.below.mono b1.size)
    have hp2 := HPA.out.below hb1.below
    go_wp2_with fail
    refine (HT _ b2 hp2).mono ?_
    rintro e w2 ⟨rfl, hb2⟩
    have b3 := b2.trans (hb2.below.mono b2.size)
    have hp3 := hp2.below hb2.below
    cases y with
    | false =>
      go_wp2
      go_ret2
      exact ⟨rfl, b3⟩
    | true =>
      have ht7 := ris_room (teamB_iff.1 HY.out).2 P7
      go_wp2_with fail
      refine (HM _ b3 hp3 ht7).mono ?_
      rintro e w4 ⟨rfl, hb4⟩
      go_wp2
      go_ret2
      exact ⟨rfl, b3.trans (hb4.below.mono b3.size)⟩
set_option maxHeartbeats 1000000 in
theorem iShort (X : Pl) (t : List Int) (w : World) (lo hi : Nat) (u : Value) (c : CpP w lo hi u X) (lo1 hi1 : Nat) (v : Value) (ct : CpI w lo1 hi1 v t) : Calls Try.prog 18 #[u, v] w (Pnb (mShort X t) w) := by
  obtain ⟨P, S, L⟩ := X
  obtain ⟨b, rfl, h1, h2, h3, hf, _, _⟩ := c
  simp only at h3 hf
  obtain ⟨hct, hctl⟩ := ct.rv
  have b1 := (Below.refl w.heap.size w).alloc (Nat.le_refl _) (.cells #[.int .i64 P, .int .i64 S, .slice (some ⟨b, 0, none⟩) L.length L.length] 29)
  have hpa := pool_at w P S (.slice (some ⟨b, 0, none⟩) L.length L.length)
  have HS := ivalid P S L b b L.length _ (h3.below b1) hf
  obtain ⟨va, vc, rfl⟩ := hct.shape
  unfold Pnb mShort
  simp only
  obtain ⟨z, hz⟩ : ∃ z, pOkB P S L = z := ⟨_, rfl⟩
  rw [hz] at HS ⊢
  cases z with
  | false =>
    clear h3 hct hpa
    go_enter Try.func18, Try.ntmps18
    go_wp2_with fail
    refine HS.mono ?_
    rintro e w1 ⟨rfl, hb1⟩
    go_wp2
    go_ret2
    exact ⟨rfl, b1.trans (hb1.mono b1.size)⟩
  | true =>
    have hok := pOkB_iff.1 hz
    have HT := fun w' (hw : Below w.heap.size w w') => isetb _ t P w' (hct.below hw) (by omega)
    have HM := fun w' (hw : Below w.heap.size w w') (htr : ris t 0 (P - 1)) => imissed P S L b b L.length t _ w' (h3.below hw) hf hok (hct.below hw) htr
    have HPA := Lib.hid hpa
    clear h3 hct hpa hz hok
    obtain ⟨y, hy⟩ : ∃ y, risB t 0 (P - 1) = y := ⟨_, rfl⟩
    rw [hy] at HT
    have HY := Lib.hid hy
    clear hy
    by_cases hs : (t.length : Int) = S
    · have HSS := Lib.hid hs
      have e0 : ((t.length : Int) == S) = true := beq_iff_eq.2 hs
      have e0' : ((t.length : Int) != S) = false := by rw [bne, e0]; rfl
      have hteam : teamB P S t = y := by
        cases y with
        | true => exact teamB_yes ⟨hs, risB_iff.1 HY.out⟩
        | false => exact teamB_no (fun ho => by have := risB_yes ho.2; rw [HY.out] at this; simp at this)
      rw [hteam]
      clear hs hteam
      go_enter Try.func18, Try.ntmps18
      go_wp2_with fail
      refine HS.mono ?_
      rintro e w1 ⟨rfl, hb1⟩
      have b2 := b1.trans (hb1.mono b1.size)
      obtain ⟨pc0, pc1, pc2, pcl⟩ := HPA.out.below hb1
      go_wp2_with fail
      refine (HT _ b2).mono ?_
      rintro e w2 ⟨rfl, rfl⟩
      cases y with
      | false =>
        go_wp2
        go_ret2
        exact ⟨rfl, b2⟩
      | true =>
        go_wp2_with fail
        refine (HM _ b2 (risB_iff.1 HY.out)).mono ?_
        rintro e w4 ⟨rfl, hb4⟩
        go_wp2
        go_ret2
        exact ⟨rfl, b2.trans (hb4.mono b2.size)⟩
    · have e0 : ((t.length : Int) == S) = false := beq_eq_false_iff_ne.2 hs
      have e0' : ((t.length : Int) != S) = true := by rw [bne, e0]; rfl
      rw [teamB_no (fun ho => hs ho.1)]
      clear hs
      go_enter Try.func18, Try.ntmps18
      go_wp2_with fail
      refine HS.mono ?_
      rintro e w1 ⟨rfl, hb1⟩
      have b2 := b1.trans (hb1.mono b1.size)
      obtain ⟨pc0, pc1, pc2, pcl⟩ := HPA.out.below hb1
      go_wp2
      go_ret2
      exact ⟨rfl, b2⟩
set_option maxHeartbeats 1000000 in
theorem spanel (P S : Int) (L : List Qt) (b cap p : Nat) (t : List Int) (v : Value) (w : World) (h : Qs w b b L) (hf : FitsQ L) (hp : PoolAt w p P S (.slice (some ⟨b, 0, none⟩) L.length cap)) (hok : pOk P S L) (ht : RowV w v t) (hl : t.length ≤ 1048576) :
    Calls Try.prog 32 #[.pointer (some ⟨p, 0, none⟩), v] w fun e w' => e = .returned (.bool (teamB P S t && decide (sumM L t L.length = 0))) ∧ Drw w w' := by
  have HT := steam P S p _ v t w hp hok.1 hok.2.1 ht hl
  obtain ⟨y, hy⟩ : ∃ y, teamB P S t = y := ⟨_, rfl⟩
  rw [hy] at HT ⊢
  cases y with
  | false =>
    clear h hp ht
    go_enter Try.func32, Try.ntmps32
    go_wp2_with fail
    refine HT.mono ?_
    rintro e w1 ⟨rfl, hd⟩
    go_wp2
    go_ret
    exact ⟨rfl, hd⟩
  | true =>
    have ht7 := ris_room (teamB_iff.1 hy).2 hok.2.1
    have HM := fun w' (hw : Below w.heap.size w w') => smissed P S L b b cap p t v w' (h.below hw) hf (hp.below hw) hok (ht.below hw) ht7
    clear h hp ht
    obtain ⟨s, hs⟩ : ∃ s, sumM L t L.length = s := ⟨_, rfl⟩
    rw [hs] at HM ⊢
    go_enter Try.func32, Try.ntmps32
    go_wp2_with fail
    refine HT.mono ?_
    rintro e w1 ⟨rfl, hd⟩
    go_wp2_with fail
    refine (HM _ hd.below).mono ?_
    rintro e w2 ⟨rfl, hd2⟩
    have hdd := hd.trans hd2
    clear HM HT hd hd2
    by_cases h0 : s = 0
    · subst h0
      go_wp2
      go_ret
      exact ⟨rfl, hdd⟩
    · have e0 : (s == 0) = false := beq_eq_false_iff_ne.2 h0
      have hbb : (true && decide (s = 0)) = false := by simp [h0]
      go_wp2
      go_ret
      exact ⟨by rw [hbb]; first | rfl | (rw [← e0]; rfl), hdd⟩
set_option maxHeartbeats 1000000 in
theorem sPanel (X : Pl) (t : List Int) (w : World) (lo hi : Nat) (u : Value) (c : CpP w lo hi u X) (lo1 hi1 : Nat) (v : Value) (ct : CpI w lo1 hi1 v t) : Calls Try.prog 13 #[u, v] w (Pb (mPanel X t) w) := by
  obtain ⟨P, S, L⟩ := X
  obtain ⟨b, rfl, h1, h2, h3, hf, _, _⟩ := c
  simp only at h3 hf
  obtain ⟨hct, hctl⟩ := ct.rv
  have b1 := (Below.refl w.heap.size w).alloc (Nat.le_refl _) (.cells #[.int .i64 P, .int .i64 S, .slice (some ⟨b, 0, none⟩) L.length L.length] 29)
  have hpa := pool_at w P S (.slice (some ⟨b, 0, none⟩) L.length L.length)
  have HS := spool P S L b b L.length w.heap.size _ (h3.below b1) hf hpa
  unfold Pb mPanel
  simp only
  obtain ⟨z, hz⟩ : ∃ z, pOkB P S L = z := ⟨_, rfl⟩
  rw [hz] at HS ⊢
  cases z with
  | false =>
    clear h3 hct hpa
    go_enter Try.func13, Try.ntmps13
    go_wp2_with fail
    refine HS.mono ?_
    rintro e w1 ⟨rfl, hb1⟩
    go_wp2
    go_ret
    exact ⟨rfl, b1.trans (hb1.below.mono b1.size)⟩
  | true =>
    have hok := pOkB_iff.1 hz
    have HT := fun w' (hw : Below w.heap.size w w') (hp : PoolAt w' w.heap.size P S (.slice (some ⟨b, 0, none⟩) L.length L.length)) => spanel P S L b L.length w.heap.size t v w' (h3.below hw) hf hp hok (hct.below hw) hctl
    have HPA := Lib.hid hpa
    obtain ⟨y, hy⟩ : ∃ y, (teamB P S t && decide (sumM L t L.length = 0)) = y := ⟨_, rfl⟩
    rw [hy] at HT ⊢
    clear h3 hct hpa hz hok hy
    go_enter Try.func13, Try.ntmps13
    go_wp2_with fail
    refine HS.mono ?_
    rintro e w1 ⟨rfl, hb1⟩
    have b2 := b1.trans (hb1.below.mono b1.size)
    go_wp2_with fail
    refine (HT _ b2 (HPA.out.below hb1.below)).mono ?_
    rintro e w2 ⟨rfl, hb2⟩
    go_wp2
    go_ret
    exact ⟨by first | rfl | simp, b2.trans (hb2.below.mono b2.size)⟩
set_option maxHeartbeats 1000000 in
theorem iPanel (X : Pl) (t : List Int) (w : World) (lo hi : Nat) (u : Value) (c : CpP w lo hi u X) (lo1 hi1 : Nat) (v : Value) (ct : CpI w lo1 hi1 v t) : Calls Try.prog 15 #[u, v] w (Pb (mPanel X t) w) := by
  have hc' := fun w' (hw : Below w.heap.size w w') => c.below hw
  have ht' := fun w' (hw : Below w.heap.size w w') => ct.below hw
  obtain ⟨b, hu, h1, h2, h3, hf⟩ := c
  subst hu
  have b1 := (Below.refl w.heap.size w).alloc (Nat.le_refl _) (.cells #[.int .i64 X.1, .int .i64 X.2.1, .slice (some ⟨b, 0, none⟩) X.2.2.length X.2.2.length] 29)
  have HS := iShort X t _ lo hi _ (hc' _ b1) lo1 hi1 v (ht' _ b1)
  unfold Pb mPanel
  unfold Pnb mShort at HS
  clear hc' ht' h3 ct
  obtain ⟨z, hz⟩ : ∃ z, pOkB X.1 X.2.1 X.2.2 = z := ⟨_, rfl⟩
  obtain ⟨y, hy⟩ : ∃ y, teamB X.1 X.2.1 t = y := ⟨_, rfl⟩
  obtain ⟨s, hs⟩ : ∃ s, sumM X.2.2 t X.2.2.length = s := ⟨_, rfl⟩
  rw [hz, hy, hs] at HS ⊢
  clear hz hy hs
  by_cases hzy : (z && y) = true
  · rw [if_pos hzy] at HS
    obtain ⟨rfl, rfl⟩ : z = true ∧ y = true := by simpa using hzy
    by_cases h0 : s = 0
    · subst h0
      go_enter Try.func15, Try.ntmps15
      go_wp2_with fail
      refine HS.mono ?_
      rintro e w1 ⟨rfl, hb1⟩
      go_wp2
      go_ret
      exact ⟨rfl, b1.trans (hb1.mono b1.size)⟩
    · have e0 : (s == 0) = false := beq_eq_false_iff_ne.2 h0
      rw [decide_eq_false h0]
      go_enter Try.func15, Try.ntmps15
      go_wp2_with fail
      refine HS.mono ?_
      rintro e w1 ⟨rfl, hb1⟩
      go_wp2
      go_ret
      exact ⟨by first | rfl | (simp [h0]; done), b1.trans (hb1.mono b1.size)⟩
  · rw [if_neg hzy] at HS
    have hzz : (z && (y && decide (s = 0))) = false := by cases z <;> cases y <;> simp_all
    rw [hzz]
    go_enter Try.func15, Try.ntmps15
    go_wp2_with fail
    refine HS.mono ?_
    rintro e w1 ⟨rfl, hb1⟩
    go_wp2
    go_ret
    exact ⟨rfl, b1.trans (hb1.mono b1.size)⟩
end Go.Proofs.Ytibbmjhgbnbbbaa
