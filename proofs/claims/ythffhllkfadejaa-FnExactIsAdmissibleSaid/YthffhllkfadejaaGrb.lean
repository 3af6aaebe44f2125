/- The program's IsConflictFree: the closure. -/
import Derived.Test.YthffhllkfadejaaGr8
import Derived.Test.YthffhllkfadejaaAt3
import Derived.Test.YthffhllkfadejaaGs4
import Derived.Deep.RegionHeld3
import Derived.RegionDies
namespace Go.Proofs.Ythffhllkfadejaa
open Go.ChangeShapes Go.WideShapes Go.ChangeAt Go.RowKit Go.Deep Go.Maps
set_option linter.unusedSimpArgs false
set_option linter.unusedVariables false
/-- What a region with a graph and a list reads, kept. -/
def Bq (w0 : World) (q r : Nat) (n m v : Value) (w' : World) : Prop := w'.cell? ⟨q, 0, none⟩ = some n ∧ w'.cell? ⟨q, 1, none⟩ = some m ∧ w'.cell? ⟨r, 0, none⟩ = some v ∧ Hid (Below w0.heap.size w0 w')
theorem Bq.bel {w0 w' : World} {q r : Nat} {n m v : Value} (h : Bq w0 q r n m v w') : Below w0.heap.size w0 w' := h.2.2.2.out
theorem Bq.drew {w0 w' : World} {q r : Nat} {n m v : Value} (h : Bq w0 q r n m v w') : Bq w0 q r n m v w'.drew := ⟨h.1, h.2.1, h.2.2.1, Lib.hid h.bel.drew⟩
theorem Bq.below {w0 w' w'' : World} {q r : Nat} {n m v : Value} (h : Bq w0 q r n m v w') (hb : Below w'.heap.size w' w'') : Bq w0 q r n m v w'' := by
  have k : ∀ {b : Nat} {o : Nat} {v : Value}, w'.cell? ⟨b, o, none⟩ = some v → w''.cell? ⟨b, o, none⟩ = some v := fun {b o v} hc => (hb.cell (p := ⟨b, o, none⟩) (World.block_lt_of_cell? _ _ hc)).trans hc
  exact ⟨k h.1, k h.2.1, k h.2.2.1, Lib.hid (h.bel.trans (hb.mono h.bel.size))⟩
set_option maxHeartbeats 2000000 in
theorem cf1_ok (X : Fm) (b hi p r : Nat) (v : Value) (l : List Int) (w : World) (h : FmR w b hi X) (hp : FmAt w p X.1 (.slice (some ⟨b, 0, none⟩) X.2.length X.2.length)) (hr : w.cell? ⟨r, 0, none⟩ = some v) (hv : RowV w v l) (hl : l.length ≤ 1048576) (hm : mFits X l = true) :
    Calls Try.prog 29 #[.pointer (some ⟨p, 0, none⟩), .pointer (some ⟨r, 0, none⟩)] w fun e w' => e = .returned (.bool (freeB X.1.toNat X.2 (setL l))) ∧ Below w.heap.size w w' := by
  obtain ⟨hn, hmem⟩ := fits_mem hm
  obtain ⟨ok, hris⟩ := mFits_iff.1 hm
  have hsl := set_small hn hmem
  have HG := graphof_yes X b hi w h ok
  obtain ⟨N, L⟩ := X
  have n0 : 0 ≤ N := ok.1
  obtain ⟨n, rfl⟩ : ∃ n : Nat, N = (n : Int) := ⟨N.toNat, by omega⟩
  simp only [Int.toNat_natCast] at *
  have hrb : risB l 0 ((n : Int) - 1) = true := risB_iff.2 hris
  have HS := fun m w' (hb : Below w.heap.size w w') => setof_yes n m v l w' (hv.below hb) hl hn hrb
  have HF := fun m w' (G : GrIs w' n m L) => free_any n m L (setL l) w' G hsl
  generalize freeB n L (setL l) = z at HF ⊢
  generalize setL l = S at HS HF
  obtain ⟨p0, p1, pl⟩ := hp
  have hrl := World.block_lt_of_cell? _ _ hr
  clear hm hmem ok hris h hsl hrb hv
  go_enter Try.func29, Try.ntmps29
  go_wp2_with fail
  refine HG.mono ?_
  rintro e w1 ⟨m, rfl, hG, hb1⟩
  have r1 := (hb1.cell (p := ⟨r, 0, none⟩) hrl).trans hr
  have hrl1 := Nat.lt_of_lt_of_le hrl hb1.size
  have b2 := (Below.refl w1.heap.size w1).alloc (Nat.le_refl _) (.cells #[.int .i64 (n : Int), .map (some m)] 42)
  obtain ⟨w2, hw2⟩ : ∃ w2, w2 = w1.alloc (.cells #[.int .i64 (n : Int), .map (some m)] 42) := ⟨_, rfl⟩
  have q0 : w2.cell? ⟨w1.heap.size, 0, none⟩ = some (.int .i64 (n : Int)) := by rw [hw2]; go_simp
  have q1 : w2.cell? ⟨w1.heap.size, 1, none⟩ = some (.map (some m)) := by rw [hw2]; go_simp
  have q2 : w2.cell? ⟨r, 0, none⟩ = some v := by rw [hw2]; exact (b2.cell (p := ⟨r, 0, none⟩) hrl1).trans r1
  rw [← hw2] at b2
  have hG2 := hG.below b2
  have hb2 := hb1.trans (b2.mono hb1.size)
  obtain ⟨s, hs⟩ : ∃ s, w1.heap.size = s := ⟨_, rfl⟩
  rw [hs] at q0 q1
  go_wp2_with fail
  (try rw [← hw2])
  (try rw [hs])
  have bs : Hid (Bq w2 s r (.int .i64 (n : Int)) (.map (some m)) v w2) := Lib.hid ⟨q0, q1, q2, Lib.hid (Below.refl _ _)⟩
  have HSh := Lib.hid (fun w' (hb : Below w2.heap.size w2 w') => HS m w' (hb2.trans (hb.mono hb2.size)))
  have HFh := Lib.hid (fun w' (hb : Below w2.heap.size w2 w') => HF m w' (hG2.below hb))
  have B2 := Lib.hid hb2
  clear HS HF hG hG2 hw2 r1 hrl1 hb1 hb2 b2 hs
  go_region_held3 (fun w' => w'.cell? ⟨s, 0, none⟩ = some (.int .i64 (n : Int)) ∧ w'.cell? ⟨s, 1, none⟩ = some (.map (some m)) ∧ w'.cell? ⟨r, 0, none⟩ = some v ∧ Hid (Below w2.heap.size w2 w'))
    (first | exact (Hid.out bs).drew | exact Hid.out (by assumption))
    (first
      | (go_at_call 31; have hcur : Bq w2 s r (.int .i64 (n : Int)) (.map (some m)) v _ := (by assumption); refine (HSh.out _ hcur.bel).mono ?_; rintro e w3 ⟨rfl, hb3⟩; have hB : Hid (Bq w2 s r (.int .i64 (n : Int)) (.map (some m)) v w3) := Lib.hid (hcur.below hb3))
      | (go_at_call 30; have hcur : Bq w2 s r (.int .i64 (n : Int)) (.map (some m)) v _ := (by assumption); refine (HFh.out _ hcur.bel).mono ?_; rintro e w4 ⟨rfl, hb4⟩; have hB2 : Hid (Bq w2 s r (.int .i64 (n : Int)) (.map (some m)) v w4) := Lib.hid (hcur.below hb4)))
  all_goals
    go_wp2
    go_ret
    exact ⟨rfl, B2.out.trans ((Bq.bel (Hid.out hB2)).mono B2.out.size)⟩
set_option maxHeartbeats 2000000 in
theorem cf1_bad (X : Fm) (b hi p r : Nat) (v : Value) (l : List Int) (w : World) (h : FmR w b hi X) (hp : FmAt w p X.1 (.slice (some ⟨b, 0, none⟩) X.2.length X.2.length)) (hr : w.cell? ⟨r, 0, none⟩ = some v) (hv : RowV w v l) (hl : l.length ≤ 1048576) (hm : mFits X l = false) :
    Calls Try.prog 29 #[.pointer (some ⟨p, 0, none⟩), .pointer (some ⟨r, 0, none⟩)] w fun e w' => Panics e ∧ Below w.heap.size w w' := by
  by_cases ok : fOk X
  · have HG := graphof_yes X b hi w h ok
    have hris : ¬ ris l 0 (X.1 - 1) := fun q => by have := mFits_iff.2 ⟨ok, q⟩; rw [hm] at this; cases this
    obtain ⟨N, L⟩ := X
    have n0 : 0 ≤ N := ok.1
    have hn0 : N ≤ 10 := ok.2.1
    obtain ⟨n, rfl⟩ : ∃ n : Nat, N = (n : Int) := ⟨N.toNat, by omega⟩
    simp only [Int.toNat_natCast] at *
    have hn : n ≤ 10 := by omega
    have hrb : risB l 0 ((n : Int) - 1) = false := risB_no hris
    have HS := fun m w' (hb : Below w.heap.size w w') => setof_no n m v l w' (hv.below hb) hl hn hrb
    obtain ⟨p0, p1, pl⟩ := hp
    have hrl := World.block_lt_of_cell? _ _ hr
    clear hm ok hris h hrb hv
    go_enter Try.func29, Try.ntmps29
    go_wp2_with fail
    refine HG.mono ?_
    rintro e w1 ⟨m, rfl, hG, hb1⟩
    have r1 := (hb1.cell (p := ⟨r, 0, none⟩) hrl).trans hr
    have hrl1 := Nat.lt_of_lt_of_le hrl hb1.size
    have b2 := (Below.refl w1.heap.size w1).alloc (Nat.le_refl _) (.cells #[.int .i64 (n : Int), .map (some m)] 42)
    obtain ⟨w2, hw2⟩ : ∃ w2, w2 = w1.alloc (.cells #[.int .i64 (n : Int), .map (some m)] 42) := ⟨_, rfl⟩
    have q0 : w2.cell? ⟨w1.heap.size, 0, none⟩ = some (.int .i64 (n : Int)) := by rw [hw2]; go_simp
    have q1 : w2.cell? ⟨w1.heap.size, 1, none⟩ = some (.map (some m)) := by rw [hw2]; go_simp
    have q2 : w2.cell? ⟨r, 0, none⟩ = some v := by rw [hw2]; exact (b2.cell (p := ⟨r, 0, none⟩) hrl1).trans r1
    rw [← hw2] at b2
    have hb2 := hb1.trans (b2.mono hb1.size)
    obtain ⟨s, hs⟩ : ∃ s, w1.heap.size = s := ⟨_, rfl⟩
    rw [hs] at q0 q1
    go_wp2_with fail
    (try rw [← hw2])
    (try rw [hs])
    have bs : Hid (Bq w2 s r (.int .i64 (n : Int)) (.map (some m)) v w2) := Lib.hid ⟨q0, q1, q2, Lib.hid (Below.refl _ _)⟩
    have HSh := Lib.hid (fun w' (hb : Below w2.heap.size w2 w') => HS m w' (hb2.trans (hb.mono hb2.size)))
    have B2 := Lib.hid hb2
    clear HS hG hw2 r1 hrl1 hb1 hb2 b2 hs
    have HX := Lib.hid (HSh.out w2.drew (Bq.drew bs.out).bel)
    have BD := Lib.hid (B2.out.trans ((Bq.drew bs.out).bel.mono B2.out.size))
    go_region_dies
    all_goals
      refine HX.out.mono ?_
      rintro e w3 ⟨⟨u, x, rfl⟩, hb3⟩
      exact ⟨rfl, ⟨_, _, rfl⟩, BD.out.trans (hb3.mono BD.out.size)⟩
  · have HG := graphof_no X b hi w h ok
    obtain ⟨p0, p1, pl⟩ := hp
    clear h ok hv
    go_enter Try.func29, Try.ntmps29
    go_wp2_with fail
    refine HG.mono ?_
    rintro e w1 ⟨⟨u, x, rfl⟩, hb1⟩
    go_wp2
    exact ⟨rfl, ⟨_, _, rfl⟩, hb1⟩
end Go.Proofs.Ythffhllkfadejaa
