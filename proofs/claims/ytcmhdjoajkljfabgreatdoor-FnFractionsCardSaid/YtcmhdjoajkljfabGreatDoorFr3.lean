/- A fraction is read from its text: the program's side, by contracts. -/
import Derived.Test.YtcmhdjoajkljfabGreatDoorFr2
import Derived.Test.YtcmhdjoajkljfabGreatDoorFIRead
namespace Go.Proofs.YtcmhdjoajkljfabGreatDoor
open Go.ChangeShapes Go.WideShapes Go.ChangeAt Go.RowKit
set_option linter.unusedSimpArgs false
set_option linter.unusedVariables false
theorem text_len {n d : Int} (k : okF n d) : (ftext n d).length ≤ 23 := by
  obtain ⟨k1, k2, k3, k4, _⟩ := k
  have h1 := itoa_len (n := n) (by omega) (by omega)
  have h2 := itoa_len (n := d) (by omega) (by omega)
  unfold ftext
  split
  · omega
  · simp; omega
/-- What is read from the text of a fraction. -/
theorem fr_text {n d : Int} (k : okF n d) (w : World) (g : L4 w) : Calls Tryz.prog 10 #[.string ⟨(ftext n d).toArray⟩] w (fP true n d w) := by
  obtain ⟨k1, k2, k3, k4, k5⟩ := k
  have k : okF n d := ⟨k1, k2, k3, k4, k5⟩
  have hlen := text_len k
  obtain ⟨s, hs⟩ : ∃ s : ByteArray, s = ⟨(ftext n d).toArray⟩ := ⟨_, rfl⟩
  have hl : s.data.toList = ftext n d := by rw [hs]
  have hsz : s.size = (ftext n d).length := by rw [← len_eq, hl]
  have hm : s.size ≤ 1048576 := by omega
  rw [← hs]
  by_cases h1 : d = 1
  · subst h1
    have hft : ftext n 1 = Lib.itoa n := ftext_one n
    have hc : ¬ cutAt s.data.toList 0 < s.data.toList.length := by rw [hl, hft, cut_none (itoa_no_slash n)]; omega
    have HC : ∀ w, MaxT w → Calls Tryz.prog 24 #[.string s, .string ⟨#[47]⟩] w (cP s ⟨#[]⟩ false w) := fun w h => by
      have := cut_any s hm w h
      rw [index_cut_no hc, bytes_eta] at this
      exact this
    have HR := fun w hy hp => readI s 1000000000 w (by omega) (by omega) hm hy hp
    have HQ := fun w hy hp => readI ⟨#[49]⟩ 1000000000 w (by omega) (by omega) (by show 1 ≤ 1048576; omega) hy hp
    rw [one_read.1, one_read.2] at HQ
    have hrd := rd_yes (most := 1000000000) (l := s.data.toList) (n := n) (by omega) ⟨by omega, by omega, by rw [hl, hft]⟩
    rw [hrd.1, hrd.2] at HR
    exact ifU5 s s ⟨#[]⟩ w g n 1 HC HR HQ (itext_is k hl.symm)
  · have hft : ftext n d = Lib.itoa n ++ ([47] ++ Lib.itoa d) := by unfold ftext; rw [if_neg h1]
    have hcut : cutAt s.data.toList 0 = (Lib.itoa n).length := by rw [hl, hft, cut_some (itoa_no_slash n)]
    have hlt : cutAt s.data.toList 0 < s.data.toList.length := by rw [hcut, hl, hft]; simp
    have t1 : s.data.toList.take (cutAt s.data.toList 0) = Lib.itoa n := by rw [hcut, hl, hft]; simp
    have t2 : s.data.toList.drop (cutAt s.data.toList 0 + 1) = Lib.itoa d := by
      rw [hcut, hl, hft]
      have e : Lib.itoa n ++ ([47] ++ Lib.itoa d) = (Lib.itoa n ++ [47]) ++ Lib.itoa d := by simp
      have e2 : (Lib.itoa n).length + 1 = (Lib.itoa n ++ [(47 : UInt8)]).length := by simp
      rw [e, e2, List.drop_left]
    have l1 := itoa_len (n := n) (by omega) (by omega)
    have l2 := itoa_len (n := d) (by omega) (by omega)
    have HC : ∀ w, MaxT w → Calls Tryz.prog 24 #[.string s, .string ⟨#[47]⟩] w (cP ⟨(Lib.itoa n).toArray⟩ ⟨(Lib.itoa d).toArray⟩ true w) := fun w h => by
      have := cut_any s hm w h
      rw [index_cut_yes hlt, t1, t2] at this
      exact this
    have m1 : (⟨(Lib.itoa n).toArray⟩ : ByteArray).size ≤ 1048576 := by show (Lib.itoa n).toArray.size ≤ _; simp; omega
    have m2 : (⟨(Lib.itoa d).toArray⟩ : ByteArray).size ≤ 1048576 := by show (Lib.itoa d).toArray.size ≤ _; simp; omega
    have HR := fun w hy hp => readI ⟨(Lib.itoa n).toArray⟩ 1000000000 w (by omega) (by omega) m1 hy hp
    have HQ := fun w hy hp => readI ⟨(Lib.itoa d).toArray⟩ 1000000000 w (by omega) (by omega) m2 hy hp
    have r1 := rd_yes (most := 1000000000) (l := Lib.itoa n) (n := n) (by omega) ⟨by omega, by omega, rfl⟩
    have r2 := rd_yes (most := 1000000000) (l := Lib.itoa d) (n := d) (by omega) ⟨by omega, by omega, rfl⟩
    rw [show (⟨(Lib.itoa n).toArray⟩ : ByteArray).data.toList = Lib.itoa n from rfl, r1.1, r1.2] at HR
    rw [show (⟨(Lib.itoa d).toArray⟩ : ByteArray).data.toList = Lib.itoa d from rfl, r2.1, r2.2] at HQ
    exact ifD5 s _ _ w g n d HC HR HQ (itext_is k hl.symm)
end Go.Proofs.YtcmhdjoajkljfabGreatDoor
