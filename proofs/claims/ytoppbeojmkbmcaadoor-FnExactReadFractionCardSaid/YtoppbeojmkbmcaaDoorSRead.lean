/- Reading a decimal, the specification's, by contracts, and the law on ReadDecimal, walked. -/
import Derived.Test.YtoppbeojmkbmcaaDoorRead
namespace Go.Proofs.YtoppbeojmkbmcaaDoor
open Go.ChangeShapes Go.WideShapes Go.ChangeAt Go.RowKit
/-- What the first bytes of a text spell. -/
def spl (s : ByteArray) (k : Nat) : Nat := spell 0 (s.data.toList.take k)
theorem spl_zero (s : ByteArray) : spl s 0 = 0 := rfl
theorem spl_all (s : ByteArray) : spl s s.size = spell 0 s.data.toList := by
  unfold spl
  rw [List.take_of_length_le (by show s.data.toList.length ≤ s.data.size; simp)]
theorem spl_succ (s : ByteArray) (k : Nat) (h : k < s.size) : spl s (k + 1) = if 48 ≤ s[k].toNat ∧ s[k].toNat ≤ 57 then 10 * spl s k + (s[k].toNat - 48) else spl s k := by
  unfold spl spell
  rw [List.take_succ_eq_append_getElem (by simpa using h), List.foldl_append]
  rfl
theorem spl_bound (s : ByteArray) (k : Nat) (h : k ≤ 10) : spl s k < 10000000000 := by
  have b := spell_bound (s.data.toList.take k) 0
  have l : (s.data.toList.take k).length ≤ 10 := by rw [List.length_take]; omega
  have p : (10 : Nat) ^ (s.data.toList.take k).length ≤ 10 ^ 10 := Nat.pow_le_pow_right (by omega) l
  have e : (10 : Nat) ^ 10 = 10000000000 := by decide
  unfold spl
  omega
/-- The number that the specification makes of a text. -/
def sval (s : ByteArray) : Int := if h : 0 < s.size then (if (s[0].toNat : Int) = 45 then -(spl s s.size : Int) else spl s s.size) else spl s s.size
theorem sval_bound (s : ByteArray) (h : s.size ≤ 10) : -10000000000 < sval s ∧ sval s < 10000000000 := by
  have := spl_bound s s.size h
  unfold sval
  split
  · split <;> omega
  · omega
theorem itoa_ne (n : Int) : 1 ≤ (Lib.itoa n).length := by
  unfold Lib.itoa
  split
  · simp
  · obtain ⟨c, r, e, _, _⟩ := dec_head n.toNat
    rw [e]; simp
theorem sval_itoa (s : ByteArray) (n : Int) (h : Lib.itoa n = s.data.toList) : sval s = n := by
  have hz : 0 < s.size := by
    have := itoa_ne n
    rw [h] at this
    have e2 : s.data.toList.length = s.size := by show _ = s.data.size; simp
    omega
  have e : spl s s.size = n.natAbs := by rw [spl_all, ← h, spell_itoa]
  have e0 : s.data.toList[0]'(by simpa using hz) = s[0] := rfl
  have hc : s[0] = (Lib.itoa n)[0]'(by have := itoa_ne n; omega) := by
    rw [← e0]
    congr 1
    rw [h]
  unfold sval
  rw [dif_pos hz, e]
  by_cases hn : n < 0
  · have : (Lib.itoa n)[0]'(by have := itoa_ne n; omega) = 45 := by
      unfold Lib.itoa
      simp [hn]
    rw [hc, this, if_pos (by decide)]
    omega
  · obtain ⟨c, r, ec, c1, c2⟩ := dec_head n.toNat
    have : (Lib.itoa n)[0]'(by have := itoa_ne n; omega) = c := by
      have e2 : Lib.itoa n = c :: r := by unfold Lib.itoa; rw [if_neg hn, ec]
      simp [e2]
    rw [hc, this, if_neg (by omega)]
    omega
theorem rd_len {s : ByteArray} {n : Int} (h : Rd 999999999 s.data.toList n) : s.size ≤ 10 := by
  obtain ⟨h1, h2, h3⟩ := h
  have e : s.size = (Lib.itoa n).length := by rw [h3]; show s.data.size = _; simp
  rw [e]
  unfold Lib.itoa
  split
  · have := digs_len 9 n.natAbs (by have : (10 : Nat) ^ 9 = 1000000000 := by decide
                                    omega)
    rw [digs_pos (by omega)] at this
    simp; omega
  · by_cases hz : 0 < n.toNat
    · have := digs_len 9 n.toNat (by have : (10 : Nat) ^ 9 = 1000000000 := by decide
                                     omega)
      rw [digs_pos hz] at this
      omega
    · have : n.toNat = 0 := by omega
      rw [this, Lib.decDigits, dif_pos (by decide)]
      simp
set_option maxHeartbeats 1000000 in
theorem sread_long (s : ByteArray) (w : World) (h : 10 < s.size) (hm : s.size ≤ 1048576) :
    Calls Tryd.prog 46 #[.string s] w (rP false 0 w) := by
  go_enter Tryd.func46, Tryd.ntmps46
  go_wp2
  go_ret2
  exact ⟨rfl, Below.refl _ _⟩
set_option maxHeartbeats 2000000 in
theorem sread_far (s : ByteArray) (v : Int) (w : World) (h10 : s.size ≤ 10) (hv : Hid (sval s = v)) (HI : Hid (inB v (-999999999) 999999999 = false)) :
    Calls Tryd.prog 46 #[.string s] w (rP false 0 w) := by
  have v1 := sval_bound s h10
  rw [hv.out] at v1
  go_enter Tryd.func46, Tryd.ntmps46
  go_wp2
  go_loop [4, 5] (fun m i => ∃ k : Nat, k ≤ s.size ∧ m = .int .i64 (spl s k) ∧ i = .int .i64 k) (fun _ i => s.size - (intOf i).toNat)
  case atStart => exact ⟨0, Nat.zero_le _, by rw [spl_zero]; rfl, rfl⟩
  case round =>
    obtain ⟨k, hk, rfl, rfl⟩ := hrel
    have sb := spl_bound s k (by omega)
    by_cases hlt : k < s.size
    · have hsu := spl_succ s k hlt
      have SU := Lib.hid hsu
      clear hsu
      have hb : (s[k].toNat : Int) < 256 := by have := s[k].toNat_lt; omega
      by_cases c1 : 48 ≤ (s[k].toNat : Int)
      · by_cases c2 : (s[k].toNat : Int) ≤ 57
        · have H2 : Hid (((spl s (k + 1) : Nat) : Int) = 10 * (spl s k : Int) + ((s[k].toNat : Int) - 48)) := by
            show _ = _
            rw [SU.out, if_pos ⟨by omega, by omega⟩]
            omega
          go_wp2
          go_round
          case rel => exact ⟨k + 1, by omega, by rw [H2.out], by go_num⟩
          case measure => simp [intOf]; omega
        · have H2 : Hid (spl s (k + 1) = spl s k) := by
            show _ = _
            rw [SU.out, if_neg (by omega)]
          go_wp2
          go_round
          case rel => exact ⟨k + 1, by omega, by rw [H2.out], by go_num⟩
          case measure => simp [intOf]; omega
      · have H2 : Hid (spl s (k + 1) = spl s k) := by
          show _ = _
          rw [SU.out, if_neg (by omega)]
        go_wp2
        go_round
        case rel => exact ⟨k + 1, by omega, by rw [H2.out], by go_num⟩
        case measure => simp [intOf]; omega
    · obtain rfl : k = s.size := by omega
      rcases (show (s.size = 0) ∨ (∃ h : 0 < s.size, (s[0].toNat : Int) = 45) ∨ (∃ h : 0 < s.size, ¬ (s[0].toNat : Int) = 45) by
        by_cases h : 0 < s.size
        · by_cases h' : (s[0].toNat : Int) = 45
          · exact .inr (.inl ⟨h, h'⟩)
          · exact .inr (.inr ⟨h, h'⟩)
        · exact .inl (by omega)) with h | ⟨h, h'⟩ | ⟨h, h'⟩
      · have E : Hid ((spl s s.size : Int) = v) := by show _ = _; rw [← hv.out]; unfold sval; rw [dif_neg (by omega)]
        have h2 : ¬ 0 < s.size := by omega
        clear h hlt hk
        go_wp2_with fail
        refine (in_val _ _ _ _).mono ?_
        rw [E.out, HI.out]
        rintro e w1 ⟨rfl, rfl⟩
        go_wp2
        go_ret2
        exact ⟨rfl, Below.refl _ _⟩
      · have E : Hid (-(spl s s.size : Int) = v) := by show _ = _; rw [← hv.out]; unfold sval; rw [dif_pos h, if_pos h']
        have h2 : ((s[0].toNat : Int) == 45) = true := by simp [h']
        clear h' hlt hk
        go_wp2_with fail
        refine (in_val _ _ _ _).mono ?_
        rw [E.out, HI.out]
        rintro e w1 ⟨rfl, rfl⟩
        go_wp2
        go_ret2
        exact ⟨rfl, Below.refl _ _⟩
      · have E : Hid ((spl s s.size : Int) = v) := by show _ = _; rw [← hv.out]; unfold sval; rw [dif_pos h, if_neg h']
        have h2 : ((s[0].toNat : Int) == 45) = false := by simp [h']
        clear h' hlt hk
        go_wp2_with fail
        refine (in_val _ _ _ _).mono ?_
        rw [E.out, HI.out]
        rintro e w1 ⟨rfl, rfl⟩
        go_wp2
        go_ret2
        exact ⟨rfl, Below.refl _ _⟩
set_option maxHeartbeats 2000000 in
theorem sread_eq (s : ByteArray) (v : Int) (w : World) (h10 : s.size ≤ 10) (hv : Hid (sval s = v)) (HI : Hid (inB v (-999999999) 999999999 = true)) (he : Lib.itoa v = s.data.toList) :
    Calls Tryd.prog 46 #[.string s] w (rP true v w) := by
  have v1 := sval_bound s h10
  rw [hv.out] at v1
  have HD := Lib.hid (fun w => sdec v w (by omega) (by omega))
  unfold strOf at HD
  have e1 : (⟨(Lib.itoa v).toArray⟩ : ByteArray) = s := by rw [he, bytes_eta]
  rw [e1] at HD
  clear he e1
  go_enter Tryd.func46, Tryd.ntmps46
  go_wp2
  go_loop [4, 5] (fun m i => ∃ k : Nat, k ≤ s.size ∧ m = .int .i64 (spl s k) ∧ i = .int .i64 k) (fun _ i => s.size - (intOf i).toNat)
  case atStart => exact ⟨0, Nat.zero_le _, by rw [spl_zero]; rfl, rfl⟩
  case round =>
    obtain ⟨k, hk, rfl, rfl⟩ := hrel
    have sb := spl_bound s k (by omega)
    by_cases hlt : k < s.size
    · have hsu := spl_succ s k hlt
      have SU := Lib.hid hsu
      clear hsu
      have hb : (s[k].toNat : Int) < 256 := by have := s[k].toNat_lt; omega
      by_cases c1 : 48 ≤ (s[k].toNat : Int)
      · by_cases c2 : (s[k].toNat : Int) ≤ 57
        · have H2 : Hid (((spl s (k + 1) : Nat) : Int) = 10 * (spl s k : Int) + ((s[k].toNat : Int) - 48)) := by
            show _ = _
            rw [SU.out, if_pos ⟨by omega, by omega⟩]
            omega
          go_wp2
          go_round
          case rel => exact ⟨k + 1, by omega, by rw [H2.out], by go_num⟩
          case measure => simp [intOf]; omega
        · have H2 : Hid (spl s (k + 1) = spl s k) := by
            show _ = _
            rw [SU.out, if_neg (by omega)]
          go_wp2
          go_round
          case rel => exact ⟨k + 1, by omega, by rw [H2.out], by go_num⟩
          case measure => simp [intOf]; omega
      · have H2 : Hid (spl s (k + 1) = spl s k) := by
          show _ = _
          rw [SU.out, if_neg (by omega)]
        go_wp2
        go_round
        case rel => exact ⟨k + 1, by omega, by rw [H2.out], by go_num⟩
        case measure => simp [intOf]; omega
    · obtain rfl : k = s.size := by omega
      rcases (show (s.size = 0) ∨ (∃ h : 0 < s.size, (s[0].toNat : Int) = 45) ∨ (∃ h : 0 < s.size, ¬ (s[0].toNat : Int) = 45) by
        by_cases h : 0 < s.size
        · by_cases h' : (s[0].toNat : Int) = 45
          · exact .inr (.inl ⟨h, h'⟩)
          · exact .inr (.inr ⟨h, h'⟩)
        · exact .inl (by omega)) with h | ⟨h, h'⟩ | ⟨h, h'⟩
      · have E : Hid ((spl s s.size : Int) = v) := by show _ = _; rw [← hv.out]; unfold sval; rw [dif_neg (by omega)]
        have h2 : ¬ 0 < s.size := by omega
        clear h hlt hk
        go_wp2_with fail
        refine (in_val _ _ _ _).mono ?_
        rw [E.out, HI.out]
        rintro e w1 ⟨rfl, rfl⟩
        go_wp2_with fail
        refine (HD.out _).mono ?_
        rintro e w1 ⟨rfl, hb⟩
        go_wp2
        go_ret2
        exact ⟨rfl, hb⟩
      · have E : Hid (-(spl s s.size : Int) = v) := by show _ = _; rw [← hv.out]; unfold sval; rw [dif_pos h, if_pos h']
        have h2 : ((s[0].toNat : Int) == 45) = true := by simp [h']
        clear h' hlt hk
        go_wp2_with fail
        refine (in_val _ _ _ _).mono ?_
        rw [E.out, HI.out]
        rintro e w1 ⟨rfl, rfl⟩
        go_wp2_with fail
        refine (HD.out _).mono ?_
        rintro e w1 ⟨rfl, hb⟩
        go_wp2
        go_ret2
        exact ⟨rfl, hb⟩
      · have E : Hid ((spl s s.size : Int) = v) := by show _ = _; rw [← hv.out]; unfold sval; rw [dif_pos h, if_neg h']
        have h2 : ((s[0].toNat : Int) == 45) = false := by simp [h']
        clear h' hlt hk
        go_wp2_with fail
        refine (in_val _ _ _ _).mono ?_
        rw [E.out, HI.out]
        rintro e w1 ⟨rfl, rfl⟩
        go_wp2_with fail
        refine (HD.out _).mono ?_
        rintro e w1 ⟨rfl, hb⟩
        go_wp2
        go_ret2
        exact ⟨rfl, hb⟩
set_option maxHeartbeats 2000000 in
theorem sread_ne (s : ByteArray) (v : Int) (w : World) (h10 : s.size ≤ 10) (hv : Hid (sval s = v)) (HI : Hid (inB v (-999999999) 999999999 = true)) (he : ¬ Lib.itoa v = s.data.toList) :
    Calls Tryd.prog 46 #[.string s] w (rP false 0 w) := by
  have v1 := sval_bound s h10
  rw [hv.out] at v1
  have HD := Lib.hid (fun w => sdec v w (by omega) (by omega))
  unfold strOf at HD
  have e1 : ((⟨(Lib.itoa v).toArray⟩ : ByteArray).toList == s.toList) = false := by
    rw [beq_eq_false_iff_ne, ByteArray.toList_eq, ByteArray.toList_eq]
    exact fun e => he e
  generalize (⟨(Lib.itoa v).toArray⟩ : ByteArray) = t at HD e1
  clear he
  go_enter Tryd.func46, Tryd.ntmps46
  go_wp2
  go_loop [4, 5] (fun m i => ∃ k : Nat, k ≤ s.size ∧ m = .int .i64 (spl s k) ∧ i = .int .i64 k) (fun _ i => s.size - (intOf i).toNat)
  case atStart => exact ⟨0, Nat.zero_le _, by rw [spl_zero]; rfl, rfl⟩
  case round =>
    obtain ⟨k, hk, rfl, rfl⟩ := hrel
    have sb := spl_bound s k (by omega)
    by_cases hlt : k < s.size
    · have hsu := spl_succ s k hlt
      have SU := Lib.hid hsu
      clear hsu
      have hb : (s[k].toNat : Int) < 256 := by have := s[k].toNat_lt; omega
      by_cases c1 : 48 ≤ (s[k].toNat : Int)
      · by_cases c2 : (s[k].toNat : Int) ≤ 57
        · have H2 : Hid (((spl s (k + 1) : Nat) : Int) = 10 * (spl s k : Int) + ((s[k].toNat : Int) - 48)) := by
            show _ = _
            rw [SU.out, if_pos ⟨by omega, by omega⟩]
            omega
          go_wp2
          go_round
          case rel => exact ⟨k + 1, by omega, by rw [H2.out], by go_num⟩
          case measure => simp [intOf]; omega
        · have H2 : Hid (spl s (k + 1) = spl s k) := by
            show _ = _
            rw [SU.out, if_neg (by omega)]
          go_wp2
          go_round
          case rel => exact ⟨k + 1, by omega, by rw [H2.out], by go_num⟩
          case measure => simp [intOf]; omega
      · have H2 : Hid (spl s (k + 1) = spl s k) := by
          show _ = _
          rw [SU.out, if_neg (by omega)]
        go_wp2
        go_round
        case rel => exact ⟨k + 1, by omega, by rw [H2.out], by go_num⟩
        case measure => simp [intOf]; omega
    · obtain rfl : k = s.size := by omega
      rcases (show (s.size = 0) ∨ (∃ h : 0 < s.size, (s[0].toNat : Int) = 45) ∨ (∃ h : 0 < s.size, ¬ (s[0].toNat : Int) = 45) by
        by_cases h : 0 < s.size
        · by_cases h' : (s[0].toNat : Int) = 45
          · exact .inr (.inl ⟨h, h'⟩)
          · exact .inr (.inr ⟨h, h'⟩)
        · exact .inl (by omega)) with h | ⟨h, h'⟩ | ⟨h, h'⟩
      · have E : Hid ((spl s s.size : Int) = v) := by show _ = _; rw [← hv.out]; unfold sval; rw [dif_neg (by omega)]
        have h2 : ¬ 0 < s.size := by omega
        clear h hlt hk
        go_wp2_with fail
        refine (in_val _ _ _ _).mono ?_
        rw [E.out, HI.out]
        rintro e w1 ⟨rfl, rfl⟩
        go_wp2_with fail
        refine (HD.out _).mono ?_
        rintro e w1 ⟨rfl, hb⟩
        go_wp2
        go_ret2
        exact ⟨rfl, hb⟩
      · have E : Hid (-(spl s s.size : Int) = v) := by show _ = _; rw [← hv.out]; unfold sval; rw [dif_pos h, if_pos h']
        have h2 : ((s[0].toNat : Int) == 45) = true := by simp [h']
        clear h' hlt hk
        go_wp2_with fail
        refine (in_val _ _ _ _).mono ?_
        rw [E.out, HI.out]
        rintro e w1 ⟨rfl, rfl⟩
        go_wp2_with fail
        refine (HD.out _).mono ?_
        rintro e w1 ⟨rfl, hb⟩
        go_wp2
        go_ret2
        exact ⟨rfl, hb⟩
      · have E : Hid ((spl s s.size : Int) = v) := by show _ = _; rw [← hv.out]; unfold sval; rw [dif_pos h, if_neg h']
        have h2 : ((s[0].toNat : Int) == 45) = false := by simp [h']
        clear h' hlt hk
        go_wp2_with fail
        refine (in_val _ _ _ _).mono ?_
        rw [E.out, HI.out]
        rintro e w1 ⟨rfl, rfl⟩
        go_wp2_with fail
        refine (HD.out _).mono ?_
        rintro e w1 ⟨rfl, hb⟩
        go_wp2
        go_ret2
        exact ⟨rfl, hb⟩
theorem sread_any (s : ByteArray) (w : World) (hm : s.size ≤ 1048576) : Calls Tryd.prog 46 #[.string s] w (rP (rdB 999999999 s.data.toList) (rdN 999999999 s.data.toList) w) := by
  by_cases h10 : s.size ≤ 10
  · by_cases hr : -999999999 ≤ sval s ∧ sval s ≤ 999999999
    · by_cases he : Lib.itoa (sval s) = s.data.toList
      · obtain ⟨r1, r2⟩ := rd_yes (by omega) (show Rd 999999999 s.data.toList (sval s) from ⟨hr.1, hr.2, he⟩)
        rw [r1, r2]
        exact sread_eq s _ w h10 rfl (inB_yes hr.1 hr.2) he
      · obtain ⟨r1, r2⟩ := rd_no (most := 999999999) (l := s.data.toList) (fun ⟨n, hn⟩ => he (by rw [sval_itoa s n hn.2.2]; exact hn.2.2))
        rw [r1, r2]
        exact sread_ne s _ w h10 rfl (inB_yes hr.1 hr.2) he
    · obtain ⟨r1, r2⟩ := rd_no (most := 999999999) (l := s.data.toList) (fun ⟨n, hn⟩ => hr (by rw [sval_itoa s n hn.2.2]; exact ⟨hn.1, hn.2.1⟩))
      rw [r1, r2]
      exact sread_far s _ w h10 rfl (inB_no hr)
  · obtain ⟨r1, r2⟩ := rd_no (most := 999999999) (l := s.data.toList) (fun ⟨n, hn⟩ => h10 (rd_len hn))
    rw [r1, r2]
    exact sread_long s w (by omega) hm
theorem SRead_any (s : ByteArray) (w : World) (hm : s.size ≤ 1048576) : Calls Tryd.prog 17 #[.string s] w (rP (rdB 999999999 s.data.toList) (rdN 999999999 s.data.toList) w) := by
  have H := Lib.hid (fun w => sread_any s w hm)
  generalize rdB 999999999 s.data.toList = b at H ⊢
  generalize rdN 999999999 s.data.toList = v at H ⊢
  clear hm
  go_enter Tryd.func17, Tryd.ntmps17
  go_wp2_with fail
  refine (H.out _).mono ?_
  rintro e w1 ⟨rfl, hb⟩
  go_wp2
  go_ret2
  exact ⟨rfl, hb⟩
theorem IRead_any (s : ByteArray) (w : World) (hm : s.size ≤ 1048576) (hy : SynT w) (hp : PowT w) : Calls Tryd.prog 18 #[.string s] w (rP (rdB 999999999 s.data.toList) (rdN 999999999 s.data.toList) w) := by
  have H := Lib.hid (readI s 999999999 w (by omega) (by omega) hm hy hp)
  generalize rdB 999999999 s.data.toList = b at H ⊢
  generalize rdN 999999999 s.data.toList = v at H ⊢
  clear hm hy hp
  go_enter Tryd.func18, Tryd.ntmps18
  go_wp2_with fail
  refine H.out.mono ?_
  rintro e w1 ⟨rfl, hb⟩
  go_wp2
  go_ret2
  exact ⟨rfl, hb⟩
theorem lawReadDecimal (s : ByteArray) (w : World) (hs : s.size ≤ maxLen) (hl : SynT w ∧ PowT w) :
    Calls Tryd.prog 4 #[.string s] w fun e w' => e = .returned (.bool true) ∧ Below w.heap.size w w' := by
  unfold maxLen at hs
  by_cases h : 1048576 < s.size
  · clear hl
    go_enter Tryd.func4, Tryd.ntmps4
    go_wp2
    go_ret
    exact ⟨rfl, Below.refl _ _⟩
  · have HS := Lib.hid (fun w => SRead_any s w (by omega))
    have HR := Lib.hid (fun w hy hp => IRead_any s w (by omega) hy hp)
    have HL := Lib.hid hl
    clear hl
    generalize rdB 999999999 s.data.toList = b at HS HR
    generalize rdN 999999999 s.data.toList = v at HS HR
    go_enter Tryd.func4, Tryd.ntmps4
    go_wp2_with fail
    refine (HS.out _).mono ?_
    rintro e w1 ⟨rfl, b1⟩
    go_wp2_with fail
    refine (HR.out _ (HL.out.1.below b1) (HL.out.2.below b1)).mono ?_
    rintro e w2 ⟨rfl, b2⟩
    go_wp2
    go_ret
    exact ⟨rfl, b1.trans (b2.mono b1.size)⟩
end Go.Proofs.YtoppbeojmkbmcaaDoor
