/- Several of this claim's texts in one: Ga3, Ga4. -/
import Derived.Test.YthffhllkfadejaaDoorGaa
/- The program's DefendedBy: the closure. -/
namespace Go.Proofs.YthffhllkfadejaaDoor
open Go.ChangeShapes Go.WideShapes Go.ChangeAt Go.RowKit Go.Deep Go.Maps
set_option linter.unusedSimpArgs false
set_option linter.unusedVariables false
set_option maxHeartbeats 2000000 in
theorem df1_ok (X : Fm) (b hi p r : Nat) (v : Value) (l : List Int) (w : World) (h : FmR w b hi X) (hp : FmAt w p X.1 (.slice (some ⟨b, 0, none⟩) X.2.length X.2.length)) (hr : w.cell? ⟨r, 0, none⟩ = some v) (hv : RowV w v l) (hl : l.length ≤ 1048576) (hm : mFits X l = true) (hT : DBT w) :
    Calls Tryd.prog 44 #[.pointer (some ⟨p, 0, none⟩), .pointer (some ⟨r, 0, none⟩)] w fun e w' => (∃ v, e = .returned v ∧ OwI w' w.heap.size w'.heap.size v (listB (defB X.1.toNat X.2 (setL l)))) ∧ Below w.heap.size w w' := by
  obtain ⟨hn, hmem⟩ := fits_mem hm
  obtain ⟨ok, hris⟩ := mFits_iff.1 hm
  have hsl := set_small hn hmem
  have HG := graphof_yes X b hi w h ok
  obtain ⟨N, L⟩ := X
  have n0 : 0 ≤ N := ok.1
  obtain ⟨n, rfl⟩ : ∃ n : Nat, N = (n : Int) := ⟨N.toNat, by omega⟩
  simp only [Int.toNat_natCast] at *
  have hrb : risB l 0 ((n : Int) - 1) = true := risB_iff.2 hris
  have HS := fun m w' (hb : Below w.heap.size w w') => setof_yes n m v l w' (hv.below hb) hl hn hrb
  have HF := fun m w' (G : GrIs w' n m L) => def_any n m L (setL l) w' G hsl
  have hlt : defB n L (setL l) < 1024 := defB_lt10 hn _ _
  have HL := fun w' (hb : Below w.heap.size w w') => ilist (defB n L (setL l)) w' hlt (hT.below hb)
  generalize defB n L (setL l) = D at HF HL hlt ⊢
  generalize setL l = S at HS HF
  obtain ⟨p0, p1, pl⟩ := hp
  have hrl := World.block_lt_of_cell? _ _ hr
  clear hm hmem ok hris h hsl hrb hv hT
  go_enter Tryd.func44, Tryd.ntmps44
  go_wp2_with fail
  refine HG.mono ?_
  rintro e w1 ⟨m, rfl, hG, hb1⟩
  have r1 := (hb1.cell (p := ⟨r, 0, none⟩) hrl).trans hr
  have hrl1 := Nat.lt_of_lt_of_le hrl hb1.size
  have b2 := (Below.refl w1.heap.size w1).alloc (Nat.le_refl _) (.cells #[.int .i64 (n : Int), .map (some m)] 55)
  obtain ⟨w2, hw2⟩ : ∃ w2, w2 = w1.alloc (.cells #[.int .i64 (n : Int), .map (some m)] 55) := ⟨_, rfl⟩
  have q0 : w2.cell? ⟨w1.heap.size, 0, none⟩ = some (.int .i64 (n : Int)) := by rw [hw2]; go_simp
  have q1 : w2.cell? ⟨w1.heap.size, 1, none⟩ = some (.map (some m)) := by rw [hw2]; go_simp
  have q2 : w2.cell? ⟨r, 0, none⟩ = some v := by rw [hw2]; exact (b2.cell (p := ⟨r, 0, none⟩) hrl1).trans r1
  rw [← hw2] at b2
  have hG2 := hG.below b2
  have hb2 := hb1.trans (b2.mono hb1.size)
  obtain ⟨s, hs⟩ : ∃ s, w1.heap.size = s := ⟨_, rfl⟩
  rw [hs] at q0 q1
  go_wp2_with fail
  (try rw [← hw2])
  (try rw [hs])
  have bs : Hid (Bu w2 s r (.int .i64 (n : Int)) (.map (some m)) v w2) := Lib.hid ⟨q0, q1, q2, Lib.hid (Below.refl _ _)⟩
  have HSh := Lib.hid (fun w' (hb : Below w2.heap.size w2 w') => HS m w' (hb2.trans (hb.mono hb2.size)))
  have HFh := Lib.hid (fun w' (hb : Below w2.heap.size w2 w') => HF m w' (hG2.below hb))
  have HLh := Lib.hid (fun w' (hb : Below w2.heap.size w2 w') => HL w' (hb2.trans (hb.mono hb2.size)))
  have B2 := Lib.hid hb2
  clear HS HF HL hG hG2 hw2 r1 hrl1 hb1 hb2 b2 hs
  go_region_held3 (fun w' => w'.cell? ⟨s, 0, none⟩ = some (.int .i64 (n : Int)) ∧ w'.cell? ⟨s, 1, none⟩ = some (.map (some m)) ∧ w'.cell? ⟨r, 0, none⟩ = some v ∧ Hid (Below w2.heap.size w2 w'))
    (first | exact (Hid.out bs).drew | exact Hid.out (by assumption))
    (first
      | (go_at_call 46; have hcur : Bu w2 s r (.int .i64 (n : Int)) (.map (some m)) v _ := (by assumption); refine (HSh.out _ hcur.bel).mono ?_; rintro e w3 ⟨rfl, hb3⟩; have hB : Hid (Bu w2 s r (.int .i64 (n : Int)) (.map (some m)) v w3) := Lib.hid (hcur.below hb3))
      | (go_at_call 45; have hcur : Bu w2 s r (.int .i64 (n : Int)) (.map (some m)) v _ := (by assumption); refine (HFh.out _ hcur.bel).mono ?_; rintro e w4 ⟨rfl, hb4⟩; have hB2 : Hid (Bu w2 s r (.int .i64 (n : Int)) (.map (some m)) v w4) := Lib.hid (hcur.below hb4))
      | (go_at_call 38; have hcur : Bu w2 s r (.int .i64 (n : Int)) (.map (some m)) v _ := (by assumption); refine (HLh.out _ hcur.bel).mono ?_; rintro e w5 ⟨⟨vv, rfl, ho⟩, hb5⟩; have hB3 : Hid (Bu w2 s r (.int .i64 (n : Int)) (.map (some m)) v w5) := Lib.hid (hcur.below hb5); have hcu := Lib.hid hcur; have HO := Lib.hid ho))
  all_goals
    go_wp2
    go_ret
    have b4 := B2.out.trans (hcu.out.bel.mono B2.out.size)
    exact ⟨⟨_, rfl, HO.out.mono b4.size (Nat.le_refl _)⟩, B2.out.trans ((Bu.bel (Hid.out hB3)).mono B2.out.size)⟩
set_option maxHeartbeats 2000000 in
theorem df1_bad (X : Fm) (b hi p r : Nat) (v : Value) (l : List Int) (w : World) (h : FmR w b hi X) (hp : FmAt w p X.1 (.slice (some ⟨b, 0, none⟩) X.2.length X.2.length)) (hr : w.cell? ⟨r, 0, none⟩ = some v) (hv : RowV w v l) (hl : l.length ≤ 1048576) (hm : mFits X l = false) :
    Calls Tryd.prog 44 #[.pointer (some ⟨p, 0, none⟩), .pointer (some ⟨r, 0, none⟩)] w fun e w' => Panics e ∧ Below w.heap.size w w' := by
  by_cases ok : fOk X
  · have HG := graphof_yes X b hi w h ok
    have hris : ¬ ris l 0 (X.1 - 1) := fun q => by have := mFits_iff.2 ⟨ok, q⟩; rw [hm] at this; cases this
    obtain ⟨N, L⟩ := X
    have n0 : 0 ≤ N := ok.1
    have hn0 : N ≤ 10 := ok.2.1
    obtain ⟨n, rfl⟩ : ∃ n : Nat, N = (n : Int) := ⟨N.toNat, by omega⟩
    simp only [Int.toNat_natCast] at *
    have hn : n ≤ 10 := by omega
    have hrb : risB l 0 ((n : Int) - 1) = false := risB_no hris
    have HS := fun m w' (hb : Below w.heap.size w w') => setof_no n m v l w' (hv.below hb) hl hn hrb
    obtain ⟨p0, p1, pl⟩ := hp
    have hrl := World.block_lt_of_cell? _ _ hr
    clear hm ok hris h hrb hv
    go_enter Tryd.func44, Tryd.ntmps44
    go_wp2_with fail
    refine HG.mono ?_
    rintro e w1 ⟨m, rfl, hG, hb1⟩
    have r1 := (hb1.cell (p := ⟨r, 0, none⟩) hrl).trans hr
    have hrl1 := Nat.lt_of_lt_of_le hrl hb1.size
    have b2 := (Below.refl w1.heap.size w1).alloc (Nat.le_refl _) (.cells #[.int .i64 (n : Int), .map (some m)] 55)
    obtain ⟨w2, hw2⟩ : ∃ w2, w2 = w1.alloc (.cells #[.int .i64 (n : Int), .map (some m)] 55) := ⟨_, rfl⟩
    have q0 : w2.cell? ⟨w1.heap.size, 0, none⟩ = some (.int .i64 (n : Int)) := by rw [hw2]; go_simp
    have q1 : w2.cell? ⟨w1.heap.size, 1, none⟩ = some (.map (some m)) := by rw [hw2]; go_simp
    have q2 : w2.cell? ⟨r, 0, none⟩ = some v := by rw [hw2]; exact (b2.cell (p := ⟨r, 0, none⟩) hrl1).trans r1
    rw [← hw2] at b2
    have hb2 := hb1.trans (b2.mono hb1.size)
    obtain ⟨s, hs⟩ : ∃ s, w1.heap.size = s := ⟨_, rfl⟩
    rw [hs] at q0 q1
    go_wp2_with fail
    (try rw [← hw2])
    (try rw [hs])
    have bs : Hid (Bu w2 s r (.int .i64 (n : Int)) (.map (some m)) v w2) := Lib.hid ⟨q0, q1, q2, Lib.hid (Below.refl _ _)⟩
    have HSh := Lib.hid (fun w' (hb : Below w2.heap.size w2 w') => HS m w' (hb2.trans (hb.mono hb2.size)))
    have B2 := Lib.hid hb2
    have HX := Lib.hid (HSh.out w2.drew (Bu.drew bs.out).bel)
    have BD := Lib.hid (B2.out.trans ((Bu.drew bs.out).bel.mono B2.out.size))
    clear HS hG hw2 r1 hrl1 hb1 hb2 b2 hs HSh
    go_region_dies
    all_goals
      refine HX.out.mono ?_
      rintro e w3 ⟨⟨u, x, rfl⟩, hb3⟩
      exact ⟨rfl, ⟨_, _, rfl⟩, BD.out.trans (hb3.mono BD.out.size)⟩
  · have HG := graphof_no X b hi w h ok
    obtain ⟨p0, p1, pl⟩ := hp
    clear h ok hv
    go_enter Tryd.func44, Tryd.ntmps44
    go_wp2_with fail
    refine HG.mono ?_
    rintro e w1 ⟨⟨u, x, rfl⟩, hb1⟩
    go_wp2
    exact ⟨rfl, ⟨_, _, rfl⟩, hb1⟩
end Go.Proofs.YthffhllkfadejaaDoor
/- The program's AttackersOf and DefendedBy. -/
namespace Go.Proofs.YthffhllkfadejaaDoor
open Go.ChangeShapes Go.WideShapes Go.ChangeAt Go.RowKit Go.Deep Go.Maps
set_option linter.unusedSimpArgs false
set_option linter.unusedVariables false
theorem CpI.kept {w w' : World} {lo hi : Nat} {v : Value} {l : List Int} {S : Nat → Prop} (h : CpI w lo hi v l) (hk : Kept w w' S) (hs : ∀ b, lo ≤ b → b < hi → ¬ S b) : CpI w' lo hi v l := ⟨h.1, hk.row h.2.1 (hs lo (Nat.le_refl _) h.2.2.1), h.2.2⟩
set_option maxHeartbeats 1000000 in
theorem iAtk (X : Fm) (a : Int) (w : World) (lo hi : Nat) (u : Value) (h : CpG w lo hi u X) (wf : (Lit.int .i64 a).wf = true) (hT : DBT w) : Calls Tryd.prog 11 #[u, .int .i64 a] w (QIb (mAtk X a) w) := by
  obtain ⟨b, rfl, -, h⟩ := h
  have b0 := ((Below.refl w.heap.size w).alloc (Nat.le_refl _) (.cells #[.int .i64 X.1, .slice (some ⟨b, 0, none⟩) X.2.length X.2.length] 29)).alloc (by simp) (.cells #[.int .i64 a] 2)
  have hp := (fm_at w X.1 (.slice (some ⟨b, 0, none⟩) X.2.length X.2.length)).below ((Below.refl _ _).alloc (Nat.le_refl _) (.cells #[.int .i64 a] 2))
  have hr : ((w.alloc (.cells #[.int .i64 X.1, .slice (some ⟨b, 0, none⟩) X.2.length X.2.length] 29)).alloc (.cells #[.int .i64 a] 2)).cell? ⟨w.heap.size + 1, 0, none⟩ = some (.int .i64 a) := by go_simp
  unfold mAtk
  by_cases hm : mHasA X a = true
  · obtain ⟨ok, a0, a1⟩ := mHasA_iff.1 hm
    rw [if_pos hm]
    obtain ⟨k, rfl⟩ : ∃ k : Nat, a = (k : Int) := ⟨a.toNat, by omega⟩
    have HV := att_yes_ints 33 (fun _ _ => rfl) #[.pointer (some ⟨w.heap.size, 0, none⟩), .pointer (some ⟨w.heap.size + 1, 0, none⟩)] _ _
      (ak1_ok X b hi w.heap.size (w.heap.size + 1) k _ (h.below b0) hp hr ok a1 (hT.below b0))
    generalize listB (byF X.2 (k : Int)) = z at HV ⊢
    clear h hp hr hm ok hT
    go_enter Tryd.func11, Tryd.ntmps11
    go_wp2_with fail
    refine HV.mono ?_
    rintro e w1 ⟨⟨v, rfl, ho⟩, hb1⟩
    go_wp2
    go_ret2
    exact ⟨v, rfl, ho.mono b0.size (Nat.le_refl _), b0.trans (hb1.mono b0.size)⟩
  · have HV := att_no_ints 33 (fun _ _ => rfl) #[.pointer (some ⟨w.heap.size, 0, none⟩), .pointer (some ⟨w.heap.size + 1, 0, none⟩)] _
      (ak1_bad X a b hi w.heap.size (w.heap.size + 1) _ (h.below b0) hp hr (fun q => hm (mHasA_iff.2 q)))
    rw [if_neg hm]
    clear h hp hr hm hT
    go_enter Tryd.func11, Tryd.ntmps11
    go_wp2_with fail
    refine HV.mono ?_
    rintro e w1 ⟨rfl, hb1⟩
    go_wp2
    go_ret2
    exact ⟨_, rfl, OwI.nil _ _ _, b0.trans (hb1.mono b0.size)⟩
set_option maxHeartbeats 1000000 in
theorem iDef (X : Fm) (l : List Int) (w : World) (lo hi : Nat) (u : Value) (h : CpG w lo hi u X) (lo1 hi1 : Nat) (v : Value) (hc : CpI w lo1 hi1 v l) (hT : DBT w) : Calls Tryd.prog 19 #[u, v] w (QIb (mDef X l) w) := by
  obtain ⟨b, rfl, -, h⟩ := h
  obtain ⟨rfl, hc1, hc2, hc3⟩ := hc
  have hv := hc1.row l.length
  have b0 := ((Below.refl w.heap.size w).alloc (Nat.le_refl _) (.cells #[.int .i64 X.1, .slice (some ⟨b, 0, none⟩) X.2.length X.2.length] 29)).alloc (by simp) (.cells #[.slice (some ⟨lo1, 0, none⟩) l.length l.length] 26)
  have hp := (fm_at w X.1 (.slice (some ⟨b, 0, none⟩) X.2.length X.2.length)).below ((Below.refl _ _).alloc (Nat.le_refl _) (.cells #[.slice (some ⟨lo1, 0, none⟩) l.length l.length] 26))
  have hr : ((w.alloc (.cells #[.int .i64 X.1, .slice (some ⟨b, 0, none⟩) X.2.length X.2.length] 29)).alloc (.cells #[.slice (some ⟨lo1, 0, none⟩) l.length l.length] 26)).cell? ⟨w.heap.size + 1, 0, none⟩ = some (.slice (some ⟨lo1, 0, none⟩) l.length l.length) := by go_simp
  unfold mDef
  by_cases hm : mFits X l = true
  · have HV := att_yes_ints 44 (fun _ _ => rfl) #[.pointer (some ⟨w.heap.size, 0, none⟩), .pointer (some ⟨w.heap.size + 1, 0, none⟩)] _ _
      (df1_ok X b hi w.heap.size (w.heap.size + 1) _ l _ (h.below b0) hp hr (hv.below b0) hc3 hm (hT.below b0))
    rw [if_pos hm]
    generalize listB (defB X.1.toNat X.2 (setL l)) = z at HV ⊢
    clear h hp hr hc1 hv hm hT
    go_enter Tryd.func19, Tryd.ntmps19
    go_wp2_with fail
    refine HV.mono ?_
    rintro e w1 ⟨⟨v, rfl, ho⟩, hb1⟩
    go_wp2
    go_ret2
    exact ⟨v, rfl, ho.mono b0.size (Nat.le_refl _), b0.trans (hb1.mono b0.size)⟩
  · have hm' : mFits X l = false := by simpa using hm
    have HV := att_no_ints 44 (fun _ _ => rfl) #[.pointer (some ⟨w.heap.size, 0, none⟩), .pointer (some ⟨w.heap.size + 1, 0, none⟩)] _
      (df1_bad X b hi w.heap.size (w.heap.size + 1) _ l _ (h.below b0) hp hr (hv.below b0) hc3 hm')
    rw [if_neg hm]
    clear h hp hr hc1 hv hm hm' hT
    go_enter Tryd.func19, Tryd.ntmps19
    go_wp2_with fail
    refine HV.mono ?_
    rintro e w1 ⟨rfl, hb1⟩
    go_wp2
    go_ret2
    exact ⟨_, rfl, OwI.nil _ _ _, b0.trans (hb1.mono b0.size)⟩
end Go.Proofs.YthffhllkfadejaaDoor
