/- The program's IsConflictFree and IsAdmissible. -/
import Derived.Test.YthffhllkfadejaaGrb
namespace Go.Proofs.Ythffhllkfadejaa
open Go.ChangeShapes Go.WideShapes Go.ChangeAt Go.RowKit Go.Deep Go.Maps
set_option linter.unusedSimpArgs false
set_option linter.unusedVariables false
set_option maxHeartbeats 2000000 in
theorem ad1_ok (X : Fm) (b hi p r : Nat) (v : Value) (l : List Int) (w : World) (h : FmR w b hi X) (hp : FmAt w p X.1 (.slice (some ⟨b, 0, none⟩) X.2.length X.2.length)) (hr : w.cell? ⟨r, 0, none⟩ = some v) (hv : RowV w v l) (hl : l.length ≤ 1048576) (hm : mFits X l = true) :
    Calls Try.prog 33 #[.pointer (some ⟨p, 0, none⟩), .pointer (some ⟨r, 0, none⟩)] w fun e w' => e = .returned (.bool (freeB X.1.toNat X.2 (setL l) && ownB X.1.toNat X.2 (setL l))) ∧ Below w.heap.size w w' := by
  obtain ⟨hn, hmem⟩ := fits_mem hm
  obtain ⟨ok, hris⟩ := mFits_iff.1 hm
  have hsl := set_small hn hmem
  have HG := graphof_yes X b hi w h ok
  obtain ⟨N, L⟩ := X
  have n0 : 0 ≤ N := ok.1
  obtain ⟨n, rfl⟩ : ∃ n : Nat, N = (n : Int) := ⟨N.toNat, by omega⟩
  simp only [Int.toNat_natCast] at *
  have hrb : risB l 0 ((n : Int) - 1) = true := risB_iff.2 hris
  have HS := fun m w' (hb : Below w.heap.size w w') => setof_yes n m v l w' (hv.below hb) hl hn hrb
  have HF := fun m w' (G : GrIs w' n m L) => free_any n m L (setL l) w' G hsl
  have HD := fun m w' (G : GrIs w' n m L) => own_any8 n m L (setL l) w' G hsl
  generalize freeB n L (setL l) = z at HF ⊢
  generalize ownB n L (setL l) = y at HD ⊢
  generalize setL l = S at HS HF HD
  obtain ⟨p0, p1, pl⟩ := hp
  have hrl := World.block_lt_of_cell? _ _ hr
  clear hm hmem ok hris h hsl hrb hv
  go_enter Try.func33, Try.ntmps33
  go_wp2_with fail
  refine HG.mono ?_
  rintro e w1 ⟨m, rfl, hG, hb1⟩
  have r1 := (hb1.cell (p := ⟨r, 0, none⟩) hrl).trans hr
  have hrl1 := Nat.lt_of_lt_of_le hrl hb1.size
  have b2 := (Below.refl w1.heap.size w1).alloc (Nat.le_refl _) (.cells #[.int .i64 (n : Int), .map (some m)] 42)
  have q2 := (b2.cell (p := ⟨r, 0, none⟩) hrl1).trans r1
  have hb2 := hb1.trans (b2.mono hb1.size)
  have hG2 := hG.below b2
  have HS2 := HS m _ hb2
  have q0 : (w1.alloc (.cells #[.int .i64 (n : Int), .map (some m)] 42)).cell? ⟨w1.heap.size, 0, none⟩ = some (.int .i64 (n : Int)) := by go_simp
  have q1 : (w1.alloc (.cells #[.int .i64 (n : Int), .map (some m)] 42)).cell? ⟨w1.heap.size, 1, none⟩ = some (.map (some m)) := by go_simp
  have hls : w1.heap.size < (w1.alloc (.cells #[.int .i64 (n : Int), .map (some m)] 42)).heap.size := by simp
  have Q0 := Lib.hid q0
  have Q1 := Lib.hid q1
  clear HS q0 q1
  go_wp2_with fail
  refine HS2.mono ?_
  rintro e w3 ⟨rfl, hb3⟩
  have d0 := (hb3.cell (p := ⟨w1.heap.size, 0, none⟩) hls).trans Q0.out
  have d1 := (hb3.cell (p := ⟨w1.heap.size, 1, none⟩) hls).trans Q1.out
  have hG3 := hG2.below hb3
  have b3 := hb2.trans (hb3.mono hb2.size)
  have HF3 := HF m w3 hG3
  have hl3 := Nat.lt_of_lt_of_le hls hb3.size
  clear HF hG hG2 hb3 b2 hb2 q2
  cases z with
  | true =>
    go_wp2_with fail
    refine HF3.mono ?_
    rintro e w4 ⟨rfl, hb4⟩
    have d0 := (hb4.cell (p := ⟨w1.heap.size, 0, none⟩) hl3).trans d0
    have d1 := (hb4.cell (p := ⟨w1.heap.size, 1, none⟩) hl3).trans d1
    have HD4 := HD m w4 (hG3.below hb4)
    have b4 := b3.trans (hb4.mono b3.size)
    go_wp2_with fail
    refine HD4.mono ?_
    rintro e w5 ⟨rfl, hb5⟩
    go_wp2
    go_ret
    exact ⟨rfl, b4.trans (hb5.mono b4.size)⟩
  | false =>
    go_wp2_with fail
    refine HF3.mono ?_
    rintro e w4 ⟨rfl, hb4⟩
    go_wp2
    go_ret
    exact ⟨rfl, b3.trans (hb4.mono b3.size)⟩
set_option maxHeartbeats 2000000 in
theorem ad1_bad (X : Fm) (b hi p r : Nat) (v : Value) (l : List Int) (w : World) (h : FmR w b hi X) (hp : FmAt w p X.1 (.slice (some ⟨b, 0, none⟩) X.2.length X.2.length)) (hr : w.cell? ⟨r, 0, none⟩ = some v) (hv : RowV w v l) (hl : l.length ≤ 1048576) (hm : mFits X l = false) :
    Calls Try.prog 33 #[.pointer (some ⟨p, 0, none⟩), .pointer (some ⟨r, 0, none⟩)] w fun e w' => Panics e ∧ Below w.heap.size w w' := by
  by_cases ok : fOk X
  · have HG := graphof_yes X b hi w h ok
    have hris : ¬ ris l 0 (X.1 - 1) := fun q => by have := mFits_iff.2 ⟨ok, q⟩; rw [hm] at this; cases this
    obtain ⟨N, L⟩ := X
    have n0 : 0 ≤ N := ok.1
    have hn0 : N ≤ 10 := ok.2.1
    obtain ⟨n, rfl⟩ : ∃ n : Nat, N = (n : Int) := ⟨N.toNat, by omega⟩
    simp only [Int.toNat_natCast] at *
    have hn : n ≤ 10 := by omega
    have hrb : risB l 0 ((n : Int) - 1) = false := risB_no hris
    have HS := fun m w' (hb : Below w.heap.size w w') => setof_no n m v l w' (hv.below hb) hl hn hrb
    obtain ⟨p0, p1, pl⟩ := hp
    have hrl := World.block_lt_of_cell? _ _ hr
    clear hm ok hris h hrb hv
    go_enter Try.func33, Try.ntmps33
    go_wp2_with fail
    refine HG.mono ?_
    rintro e w1 ⟨m, rfl, hG, hb1⟩
    have r1 := (hb1.cell (p := ⟨r, 0, none⟩) hrl).trans hr
    have hrl1 := Nat.lt_of_lt_of_le hrl hb1.size
    have b2 := (Below.refl w1.heap.size w1).alloc (Nat.le_refl _) (.cells #[.int .i64 (n : Int), .map (some m)] 42)
    have q2 := (b2.cell (p := ⟨r, 0, none⟩) hrl1).trans r1
    have hb2 := hb1.trans (b2.mono hb1.size)
    have HS2 := HS m _ hb2
    clear HS hG
    go_wp2_with fail
    refine HS2.mono ?_
    rintro e w3 ⟨⟨u, x, rfl⟩, hb3⟩
    go_wp2
    exact ⟨rfl, ⟨_, _, rfl⟩, hb2.trans (hb3.mono hb2.size)⟩
  · have HG := graphof_no X b hi w h ok
    obtain ⟨p0, p1, pl⟩ := hp
    clear h ok hv
    go_enter Try.func33, Try.ntmps33
    go_wp2_with fail
    refine HG.mono ?_
    rintro e w1 ⟨⟨u, x, rfl⟩, hb1⟩
    go_wp2
    exact ⟨rfl, ⟨_, _, rfl⟩, hb1⟩
set_option maxHeartbeats 1000000 in
theorem iFree (X : Fm) (l : List Int) (w : World) (lo hi : Nat) (u : Value) (h : CpG w lo hi u X) (lo1 hi1 : Nat) (v : Value) (hc : CpI w lo1 hi1 v l) : Calls Try.prog 13 #[u, v] w (Pb (mFree X l) w) := by
  obtain ⟨b, rfl, -, h⟩ := h
  obtain ⟨rfl, hc1, hc2, hc3⟩ := hc
  have hv := hc1.row l.length
  have b0 := ((Below.refl w.heap.size w).alloc (Nat.le_refl _) (.cells #[.int .i64 X.1, .slice (some ⟨b, 0, none⟩) X.2.length X.2.length] 27)).alloc (by simp) (.cells #[.slice (some ⟨lo1, 0, none⟩) l.length l.length] 31)
  have hp := (fm_at w X.1 (.slice (some ⟨b, 0, none⟩) X.2.length X.2.length)).below ((Below.refl _ _).alloc (Nat.le_refl _) (.cells #[.slice (some ⟨lo1, 0, none⟩) l.length l.length] 31))
  have hr : ((w.alloc (.cells #[.int .i64 X.1, .slice (some ⟨b, 0, none⟩) X.2.length X.2.length] 27)).alloc (.cells #[.slice (some ⟨lo1, 0, none⟩) l.length l.length] 31)).cell? ⟨w.heap.size + 1, 0, none⟩ = some (.slice (some ⟨lo1, 0, none⟩) l.length l.length) := by go_simp
  unfold Pb mFree
  by_cases hm : mFits X l = true
  · have HV := att_yes_bool 29 (fun _ _ => rfl) #[.pointer (some ⟨w.heap.size, 0, none⟩), .pointer (some ⟨w.heap.size + 1, 0, none⟩)] _ _
      (cf1_ok X b hi w.heap.size (w.heap.size + 1) _ l _ (h.below b0) hp hr (hv.below b0) hc3 hm)
    rw [hm, Bool.true_and]
    generalize freeB X.1.toNat X.2 (setL l) = z at HV ⊢
    clear h hp hr hc1 hv hm
    go_enter Try.func13, Try.ntmps13
    go_wp2_with fail
    refine HV.mono ?_
    rintro e w1 ⟨rfl, hb1⟩
    go_wp2
    go_ret
    exact ⟨rfl, b0.trans (hb1.mono b0.size)⟩
  · have hm : mFits X l = false := by simpa using hm
    have HV := att_no_bool 29 (fun _ _ => rfl) #[.pointer (some ⟨w.heap.size, 0, none⟩), .pointer (some ⟨w.heap.size + 1, 0, none⟩)] _
      (cf1_bad X b hi w.heap.size (w.heap.size + 1) _ l _ (h.below b0) hp hr (hv.below b0) hc3 hm)
    rw [hm, Bool.false_and]
    clear h hp hr hc1 hv hm
    go_enter Try.func13, Try.ntmps13
    go_wp2_with fail
    refine HV.mono ?_
    rintro e w1 ⟨rfl, hb1⟩
    go_wp2
    go_ret
    exact ⟨rfl, b0.trans (hb1.mono b0.size)⟩
set_option maxHeartbeats 1000000 in
theorem iAdm (X : Fm) (l : List Int) (w : World) (lo hi : Nat) (u : Value) (h : CpG w lo hi u X) (lo1 hi1 : Nat) (v : Value) (hc : CpI w lo1 hi1 v l) : Calls Try.prog 16 #[u, v] w (Pb (mAdm X l) w) := by
  obtain ⟨b, rfl, -, h⟩ := h
  obtain ⟨rfl, hc1, hc2, hc3⟩ := hc
  have hv := hc1.row l.length
  have b0 := ((Below.refl w.heap.size w).alloc (Nat.le_refl _) (.cells #[.int .i64 X.1, .slice (some ⟨b, 0, none⟩) X.2.length X.2.length] 27)).alloc (by simp) (.cells #[.slice (some ⟨lo1, 0, none⟩) l.length l.length] 31)
  have hp := (fm_at w X.1 (.slice (some ⟨b, 0, none⟩) X.2.length X.2.length)).below ((Below.refl _ _).alloc (Nat.le_refl _) (.cells #[.slice (some ⟨lo1, 0, none⟩) l.length l.length] 31))
  have hr : ((w.alloc (.cells #[.int .i64 X.1, .slice (some ⟨b, 0, none⟩) X.2.length X.2.length] 27)).alloc (.cells #[.slice (some ⟨lo1, 0, none⟩) l.length l.length] 31)).cell? ⟨w.heap.size + 1, 0, none⟩ = some (.slice (some ⟨lo1, 0, none⟩) l.length l.length) := by go_simp
  unfold Pb mAdm
  by_cases hm : mFits X l = true
  · have HV := att_yes_bool 33 (fun _ _ => rfl) #[.pointer (some ⟨w.heap.size, 0, none⟩), .pointer (some ⟨w.heap.size + 1, 0, none⟩)] _ _
      (ad1_ok X b hi w.heap.size (w.heap.size + 1) _ l _ (h.below b0) hp hr (hv.below b0) hc3 hm)
    rw [hm, Bool.true_and]
    generalize (freeB X.1.toNat X.2 (setL l) && ownB X.1.toNat X.2 (setL l)) = z at HV ⊢
    clear h hp hr hc1 hv hm
    go_enter Try.func16, Try.ntmps16
    go_wp2_with fail
    refine HV.mono ?_
    rintro e w1 ⟨rfl, hb1⟩
    go_wp2
    go_ret
    exact ⟨rfl, b0.trans (hb1.mono b0.size)⟩
  · have hm : mFits X l = false := by simpa using hm
    have HV := att_no_bool 33 (fun _ _ => rfl) #[.pointer (some ⟨w.heap.size, 0, none⟩), .pointer (some ⟨w.heap.size + 1, 0, none⟩)] _
      (ad1_bad X b hi w.heap.size (w.heap.size + 1) _ l _ (h.below b0) hp hr (hv.below b0) hc3 hm)
    rw [hm, Bool.false_and]
    clear h hp hr hc1 hv hm
    go_enter Try.func16, Try.ntmps16
    go_wp2_with fail
    refine HV.mono ?_
    rintro e w1 ⟨rfl, hb1⟩
    go_wp2
    go_ret
    exact ⟨rfl, b0.trans (hb1.mono b0.size)⟩
end Go.Proofs.Ythffhllkfadejaa
