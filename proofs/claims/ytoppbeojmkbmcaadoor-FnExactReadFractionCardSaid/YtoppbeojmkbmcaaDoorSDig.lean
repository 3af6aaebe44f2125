/- The specification's reading of a term of a fraction, by contract. -/
import Derived.Test.YtoppbeojmkbmcaaDoorSRead
namespace Go.Proofs.YtoppbeojmkbmcaaDoor
open Go.ChangeShapes Go.WideShapes Go.ChangeAt Go.RowKit
theorem rd_less {l : List UInt8} (h1 : ¬ Lib.itoa 1000000000 = l) (h2 : ¬ Lib.itoa (-1000000000) = l) : rdB 1000000000 l = rdB 999999999 l ∧ rdN 1000000000 l = rdN 999999999 l := by
  by_cases hx : ∃ n, Rd 1000000000 l n
  · obtain ⟨n, a, b, c⟩ := hx
    have n1 : n ≠ 1000000000 := fun e => h1 (by rw [← e]; exact c)
    have n2 : n ≠ -1000000000 := fun e => h2 (by rw [← e]; exact c)
    obtain ⟨r1, r2⟩ := rd_yes (most := 1000000000) (l := l) (n := n) (by omega) ⟨a, b, c⟩
    obtain ⟨r3, r4⟩ := rd_yes (most := 999999999) (l := l) (n := n) (by omega) ⟨by omega, by omega, c⟩
    rw [r1, r2, r3, r4]
    exact ⟨rfl, rfl⟩
  · obtain ⟨r1, r2⟩ := rd_no hx
    obtain ⟨r3, r4⟩ := rd_no (most := 999999999) (l := l) (fun ⟨n, a, b, c⟩ => hx ⟨n, by omega, by omega, c⟩)
    rw [r1, r2, r3, r4]
    exact ⟨rfl, rfl⟩
theorem ne_bytes {l : List UInt8} {s : ByteArray} (h : ¬ l = s.data.toList) : (s.toList == (⟨l.toArray⟩ : ByteArray).toList) = false := by
  rw [beq_eq_false_iff_ne, ByteArray.toList_eq, ByteArray.toList_eq]
  exact fun e => h (by simpa using e.symm)
theorem sdigits (s : ByteArray) (w : World) (hm : s.size ≤ 1048576) : Calls Tryd.prog 71 #[.string s] w (rP (rdB 1000000000 s.data.toList) (rdN 1000000000 s.data.toList) w) := by
  have HD1 := Lib.hid (fun w => sdec 1000000000 w (by omega) (by omega))
  have HD2 := Lib.hid (fun w => sdec (-1000000000) w (by omega) (by omega))
  unfold strOf at HD1 HD2
  by_cases h1 : Lib.itoa 1000000000 = s.data.toList
  · obtain ⟨r1, r2⟩ := rd_yes (by omega) (show Rd 1000000000 s.data.toList 1000000000 from ⟨by omega, by omega, h1⟩)
    rw [r1, r2]
    have e1 : (⟨(Lib.itoa 1000000000).toArray⟩ : ByteArray) = s := by rw [h1, bytes_eta]
    rw [e1] at HD1
    clear h1 e1 r1 r2
    go_enter Tryd.func71, Tryd.ntmps71
    go_wp2_with fail
    refine (HD1.out _).mono ?_
    rintro e w1 ⟨rfl, b1⟩
    go_wp2
    go_ret2
    exact ⟨rfl, b1⟩
  · have e1 := ne_bytes h1
    by_cases h2 : Lib.itoa (-1000000000) = s.data.toList
    · obtain ⟨r1, r2⟩ := rd_yes (by omega) (show Rd 1000000000 s.data.toList (-1000000000) from ⟨by omega, by omega, h2⟩)
      rw [r1, r2]
      have e2 : (⟨(Lib.itoa (-1000000000)).toArray⟩ : ByteArray) = s := by rw [h2, bytes_eta]
      rw [e2] at HD2
      generalize (⟨(Lib.itoa 1000000000).toArray⟩ : ByteArray) = t at HD1 e1
      clear h1 h2 e2 r1 r2
      go_enter Tryd.func71, Tryd.ntmps71
      go_wp2_with fail
      refine (HD1.out _).mono ?_
      rintro e w1 ⟨rfl, b1⟩
      go_wp2_with fail
      refine (HD2.out _).mono ?_
      rintro e w2 ⟨rfl, b2⟩
      go_wp2
      go_ret2
      exact ⟨rfl, b1.trans (b2.mono b1.size)⟩
    · have e2 := ne_bytes h2
      obtain ⟨r1, r2⟩ := rd_less h1 h2
      rw [r1, r2]
      have HS := Lib.hid (fun w => sread_any s w hm)
      generalize rdB 999999999 s.data.toList = b at HS ⊢
      generalize rdN 999999999 s.data.toList = v at HS ⊢
      generalize (⟨(Lib.itoa 1000000000).toArray⟩ : ByteArray) = t at HD1 e1
      generalize (⟨(Lib.itoa (-1000000000)).toArray⟩ : ByteArray) = u at HD2 e2
      clear h1 h2 hm r1 r2
      go_enter Tryd.func71, Tryd.ntmps71
      go_wp2_with fail
      refine (HD1.out _).mono ?_
      rintro e w1 ⟨rfl, b1⟩
      go_wp2_with fail
      refine (HD2.out _).mono ?_
      rintro e w2 ⟨rfl, b2⟩
      go_wp2_with fail
      refine (HS.out _).mono ?_
      rintro e w3 ⟨rfl, b3⟩
      have b12 := b1.trans (b2.mono b1.size)
      go_wp2
      go_ret2
      exact ⟨rfl, b12.trans (b3.mono b12.size)⟩
end Go.Proofs.YtoppbeojmkbmcaaDoor
