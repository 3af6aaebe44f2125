/- Reading a decimal by contracts. -/
import Derived.Test.YtcmhdjoajkljfabGreatDoorDecI
import Derived.Test.YtcmhdjoajkljfabGreatDoorRPure
import Derived.Test.YtcmhdjoajkljfabGreatDoorShelfP
import Derived.Lib.AtoiErrMem
namespace Go.Proofs.YtcmhdjoajkljfabGreatDoor
open Go.ChangeShapes Go.WideShapes Go.ChangeAt Go.RowKit
/-- A number and whether there is one. -/
def rP (b : Bool) (v : Int) (w : World) (e : Ending) (w' : World) : Prop := e = .returned (.tuple #[.int .i64 v, .bool b]) ∧ Below w.heap.size w w'
/-- The library's two errors are laid. -/
def SynT (w : World) : Prop := (∃ tp p, w.var? Tryz.prog "strconv.ErrSyntax" = some #[.iface tp p]) ∧ ∃ tp p, w.var? Tryz.prog "strconv.ErrRange" = some #[.iface tp p]
theorem synG : Tryz.prog.globalNamed "strconv.ErrSyntax" = some 2 := by kernel_rfl
theorem ranG : Tryz.prog.globalNamed "strconv.ErrRange" = some 3 := by kernel_rfl
theorem SynT.below {w w' : World} (h : SynT w) (hb : Below w.heap.size w w') : SynT w' := by
  obtain ⟨⟨t1, p1, h1⟩, ⟨t2, p2, h2⟩⟩ := h
  have l1 : 2 < w.heap.size := World.block_lt_of_cell? w ⟨_, 0, none⟩ (by simpa using World.var?_cell synG h1 0)
  have l2 : 3 < w.heap.size := World.block_lt_of_cell? w ⟨_, 0, none⟩ (by simpa using World.var?_cell ranG h2 0)
  exact ⟨⟨t1, p1, var?_below hb synG l1 h1⟩, ⟨t2, p2, var?_below hb ranG l2 h2⟩⟩
/-- strconv.ParseInt(s, 10, 64) on a text that is no number of 64 bits. -/
def pFail (w : World) (e : Ending) (w' : World) : Prop := (∃ v a, e = .returned (.tuple #[.int .i64 v, .iface 107 (.pointer (some a))])) ∧ Below w.heap.size w w'
theorem parse_fail (s : ByteArray) (hs : s.size ≤ 1048576) (h : ∀ v, Lib.parseIntB 64 s.data.toList ≠ .ok v) (w : World) (hy : SynT w) : Calls Tryz.prog 40 #[.string s, .int .i64 10, .int .i64 64] w (pFail w) := by
  obtain ⟨⟨t1, p1, h1⟩, ⟨t2, p2, h2⟩⟩ := hy
  cases hp : Lib.parseIntB 64 s.data.toList with
  | ok v => exact absurd hp (h v)
  | «syntax» => exact (Tryz.strconv_ParseInt_10_at64_syntax_var s (by omega) hp t1 p1 w h1).mono fun e w' ⟨N, h1, _, _, hb⟩ => ⟨⟨_, _, h1⟩, hb⟩
  | range => exact (Tryz.strconv_ParseInt_10_at64_range_var s (by omega) hp t2 p2 w h2).mono fun e w' ⟨N, h1, _, _, hb⟩ => ⟨⟨_, _, h1⟩, hb⟩
theorem parse_yes (s : ByteArray) (hs : s.size ≤ 1048576) (v : Int) (h : Lib.parseIntB 64 s.data.toList = .ok v) (w : World) : Calls Tryz.prog 40 #[.string s, .int .i64 10, .int .i64 64] w fun e w' => e = .returned (.tuple #[.int .i64 v, .nilIface]) ∧ Below w.heap.size w w' := by
  refine (Tryz.strconv_ParseInt_10_at64_ok s (by omega) v h w).mono ?_
  rintro e w' ⟨h1, rfl | ⟨t, rfl⟩⟩
  · exact ⟨h1, Below.refl _ _⟩
  · exact ⟨h1, Lib.bytesWorld_below _ _ _⟩
theorem bytes_eta (s : ByteArray) : (⟨s.data.toList.toArray⟩ : ByteArray) = s := by
  apply ByteArray.ext
  simp
section
variable (s : ByteArray) (most : Int) (w : World) (m0 : 0 ≤ most) (m1 : most ≤ 1000000000) (hs : s.size ≤ 1048576)
include m0 m1 hs
omit m0 m1 in
theorem readI_fail (h : ∀ v, Lib.parseIntB 64 s.data.toList ≠ .ok v) (hy : SynT w) :
    Calls Tryz.prog 25 #[.string s, .int .i64 most] w (rP false 0 w) := by
  have HC := Lib.hid (parse_fail s hs h w hy)
  clear h hy
  go_enter Tryz.func25, Tryz.ntmps25
  go_wp2_with fail
  refine HC.out.mono ?_
  rintro e w' ⟨⟨v, a, rfl⟩, hb⟩
  go_wp2
  go_ret2
  exact ⟨rfl, hb⟩
theorem readI_far (v : Int) (h : Lib.parseIntB 64 s.data.toList = .ok v) (hv : v < -most ∨ most < v) :
    Calls Tryz.prog 25 #[.string s, .int .i64 most] w (rP false 0 w) := by
  have HC := Lib.hid (parse_yes s hs v h w)
  clear h
  rcases hv with hv | hv
  · go_enter Tryz.func25, Tryz.ntmps25
    go_wp2_with fail
    refine HC.out.mono ?_
    rintro e w' ⟨rfl, hb⟩
    go_wp2
    go_ret2
    exact ⟨rfl, hb⟩
  · have hv' : ¬ v < -most := by omega
    go_enter Tryz.func25, Tryz.ntmps25
    go_wp2_with fail
    refine HC.out.mono ?_
    rintro e w' ⟨rfl, hb⟩
    go_wp2
    go_ret2
    exact ⟨rfl, hb⟩
theorem readI_near (v : Int) (h : Lib.parseIntB 64 s.data.toList = .ok v) (v0 : -most ≤ v) (v1 : v ≤ most) (hp : PowT w) :
    Calls Tryz.prog 25 #[.string s, .int .i64 most] w (rP (decide (Lib.itoa v = s.data.toList)) (if Lib.itoa v = s.data.toList then v else 0) w) := by
  have HC := Lib.hid (parse_yes s hs v h w)
  have HP := Lib.hid hp
  have HD := Lib.hid (fun w hp => idec v w (by omega) (by omega) hp)
  unfold strOf at HD
  clear h hp
  by_cases he : Lib.itoa v = s.data.toList
  · have e1 : (⟨(Lib.itoa v).toArray⟩ : ByteArray) = s := by rw [he, bytes_eta]
    rw [if_pos he, show decide (Lib.itoa v = s.data.toList) = true by simp [he]]
    rw [e1] at HD
    clear he e1
    go_enter Tryz.func25, Tryz.ntmps25
    go_wp2_with fail
    refine HC.out.mono ?_
    rintro e w1 ⟨rfl, hb1⟩
    go_wp2_with fail
    refine (HD.out _ (HP.out.below hb1)).mono ?_
    rintro e w2 ⟨rfl, hb2⟩
    go_wp2
    go_ret2
    exact ⟨rfl, hb1.trans (hb2.mono hb1.size)⟩
  · have e1 : ((⟨(Lib.itoa v).toArray⟩ : ByteArray).toList == s.toList) = false := by
      rw [beq_eq_false_iff_ne, ByteArray.toList_eq, ByteArray.toList_eq]
      exact fun e => he e
    rw [if_neg he, show decide (Lib.itoa v = s.data.toList) = false by simp [he]]
    clear he
    generalize (⟨(Lib.itoa v).toArray⟩ : ByteArray) = t at HD e1
    go_enter Tryz.func25, Tryz.ntmps25
    go_wp2_with fail
    refine HC.out.mono ?_
    rintro e w1 ⟨rfl, hb1⟩
    go_wp2_with fail
    refine (HD.out _ (HP.out.below hb1)).mono ?_
    rintro e w2 ⟨rfl, hb2⟩
    go_wp2
    go_ret2
    exact ⟨rfl, hb1.trans (hb2.mono hb1.size)⟩
theorem readI (hy : SynT w) (hp : PowT w) : Calls Tryz.prog 25 #[.string s, .int .i64 most] w (rP (rdB most s.data.toList) (rdN most s.data.toList) w) := by
  by_cases hx : ∃ v, Lib.parseIntB 64 s.data.toList = .ok v
  · obtain ⟨v, hv⟩ := hx
    have uniq : ∀ n, Rd most s.data.toList n → n = v := fun n hn => by
      have := parse_itoa (n := n) (by have := hn.1; omega) (by have := hn.2.1; omega)
      rw [hn.2.2, hv] at this
      injection this with this
      exact this.symm
    by_cases hr : -most ≤ v ∧ v ≤ most
    · have k := readI_near s most w m0 m1 hs v hv hr.1 hr.2 hp
      by_cases he : Lib.itoa v = s.data.toList
      · obtain ⟨r1, r2⟩ := rd_yes (by omega) (show Rd most s.data.toList v from ⟨hr.1, hr.2, he⟩)
        rw [r1, r2]
        rw [if_pos he, show decide (Lib.itoa v = s.data.toList) = true by simp [he]] at k
        exact k
      · obtain ⟨r1, r2⟩ := rd_no (most := most) (l := s.data.toList) (fun ⟨n, hn⟩ => he (by rw [← uniq n hn]; exact hn.2.2))
        rw [r1, r2]
        rw [if_neg he, show decide (Lib.itoa v = s.data.toList) = false by simp [he]] at k
        exact k
    · obtain ⟨r1, r2⟩ := rd_no (most := most) (l := s.data.toList) (fun ⟨n, hn⟩ => hr (by rw [← uniq n hn]; exact ⟨hn.1, hn.2.1⟩))
      rw [r1, r2]
      exact readI_far s most w m0 m1 hs v hv (by omega)
  · have hn : ∀ v, Lib.parseIntB 64 s.data.toList ≠ .ok v := fun v e => hx ⟨v, e⟩
    obtain ⟨r1, r2⟩ := rd_no (most := most) (l := s.data.toList) (fun ⟨n, h⟩ => hn n (by rw [← h.2.2]; exact parse_itoa (by have := h.1; omega) (by have := h.2.1; omega)))
    rw [r1, r2]
    exact readI_fail s most w hs hn hy
end
end Go.Proofs.YtcmhdjoajkljfabGreatDoor
