/- Texts of fractions by contracts, and the law on FractionText, walked. -/
import Derived.Test.YtcmhdjoajkljfabGreatDoorDecI
import Derived.Test.YtcmhdjoajkljfabGreatDoorCF
import Derived.Test.YtcmhdjoajkljfabGreatDoorValid0
import Derived.Deep.RegionHeld3
import Derived.Deep.DeepCutAuto
import Derived.Laws.Concat
namespace Go.Proofs.YtcmhdjoajkljfabGreatDoor
open Go.ChangeShapes Go.WideShapes Go.ChangeAt Go.RowKit
/-- The text of a fraction. -/
def ftext (n d : Int) : List UInt8 := if d = 1 then Lib.itoa n else Lib.itoa n ++ ([47] ++ Lib.itoa d)
theorem dec_len (k : Nat) : ∀ e, k < 10 ^ e → 0 < e → (Lib.decDigits k).length ≤ e := by
  intro e h he
  by_cases hk : 0 < k
  · rw [← digs_pos hk]; exact digs_len e k h
  · have : k = 0 := by omega
    subst this
    rw [Lib.decDigits, dif_pos (by decide)]
    simp; omega
theorem itoa_len {n : Int} (h1 : -1000000000 ≤ n) (h2 : n ≤ 1000000000) : (Lib.itoa n).length ≤ 11 := by
  unfold Lib.itoa
  split
  · have := dec_len n.natAbs 10 (by omega) (by omega)
    simp; omega
  · have := dec_len n.toNat 10 (by omega) (by omega)
    omega
/-- One box stays. -/
def B1 (w : World) (n d : Int) (w' : World) : Prop := w'.cell? ⟨w.heap.size, 0, none⟩ = some (.int .i64 n) ∧ w'.cell? ⟨w.heap.size, 1, none⟩ = some (.int .i64 d) ∧ Hid (w.heap.size < w'.heap.size ∧ Below w.heap.size w w')
theorem B1.below {w w1 w' : World} {n d : Int} (h : B1 w n d w1) (hb : Below w1.heap.size w1 w') : B1 w n d w' := by
  obtain ⟨h1, h2, h3, h4⟩ := h
  exact ⟨(hb.cell (by show w.heap.size < _; omega)).trans h1, (hb.cell (by show w.heap.size < _; omega)).trans h2, Nat.lt_of_lt_of_le h3 hb.size, h4.trans (hb.mono h4.size)⟩
theorem B1.start (w : World) (n d : Int) (t : TypeId) : B1 w n d (w.alloc (.cells #[.int .i64 n, .int .i64 d] t)) := ⟨by go_simp, by go_simp, by simp, (Below.refl _ _).alloc (Nat.le_refl _) _⟩
theorem B1.drew {w w' : World} {n d : Int} (h : B1 w n d w') : B1 w n d w'.drew := ⟨h.1, h.2.1, h.2.2.out.1, h.2.2.out.2.drew⟩
theorem ftext_one (n : Int) : ftext n 1 = Lib.itoa n := by unfold ftext; rw [if_pos rfl]
theorem ftext_else {n d : Int} (h : d ≠ 1) : (⟨(Lib.itoa n).toArray⟩ : ByteArray) ++ ⟨#[47]⟩ ++ ⟨(Lib.itoa d).toArray⟩ = ⟨(ftext n d).toArray⟩ := by
  unfold ftext
  rw [if_neg h, show (⟨#[47]⟩ : ByteArray) = ⟨[(47 : UInt8)].toArray⟩ from rfl, str_app, str_app, List.append_assoc]
/-- What a function answers that gives a text and an error. -/
def tePost (b : Bool) (l : List UInt8) (w : World) (e : Ending) (w' : World) : Prop :=
  (if b = true then e = .returned (.tuple #[strOf l, .nilIface]) else ∃ s, e = .returned (.tuple #[strOf [], .iface 61 (.agg #[.string s])])) ∧ Below w.heap.size w w'
def tP (b : Bool) (l : List UInt8) (w : World) (e : Ending) (w' : World) : Prop := e = .returned (.tuple #[strOf l, .bool b]) ∧ Below w.heap.size w w'
set_option maxHeartbeats 2000000 in
theorem itext_yes (n d : Int) (w : World) (k : okF n d) (hp : PowT w) : Calls Tryz.prog 23 #[.agg #[.int .i64 n, .int .i64 d]] w fun e w' => e = .returned (.tuple #[strOf (ftext n d), .nilIface]) ∧ Below w.heap.size w w' := by
  have HK := Lib.hid (okB_yes k)
  obtain ⟨d1, d2, n1, n2, -⟩ := k
  have b0 := (Below.refl w.heap.size w).alloc (Nat.le_refl _) (.cells #[.int .i64 n, .int .i64 d] 25)
  have HN := Lib.hid (fun (x : Int) (h1 : -1000000000 ≤ x) (h2 : x ≤ 1000000000) w (hp : PowT w) => idec x w (by omega) (by omega) hp)
  have HP := Lib.hid hp
  clear hp
  have L1 := itoa_len n1 n2
  have L2 := itoa_len (n := d) (by omega) (by omega)
  unfold strOf at HN
  by_cases hd : d = 1
  · subst hd
    rw [ftext_one]
    go_enter Tryz.func23, Tryz.ntmps23
    go_wp2_with fail
    refine (check_any _ _ _).mono ?_
    rw [HK.out]
    intro e w1 h1
    obtain ⟨rfl, hb1⟩ := chk_t h1
    clear h1
    obtain ⟨hc1, hf1⟩ := bcell hb1
    have A0 : w1.cell? ⟨w.heap.size, 0, none⟩ = some (.int .i64 n) := by rw [hc1 _ _ (by simp)]; go_simp
    have A1 : w1.cell? ⟨w.heap.size, 1, none⟩ = some (.int .i64 1) := by rw [hc1 _ _ (by simp)]; go_simp
    clear hc1 hf1
    have bb := b0.trans (hb1.mono (by simp))
    go_wp2_with fail
    refine (HN.out _ (by omega) (by omega) _ (HP.out.below bb)).mono ?_
    rintro e w2 ⟨rfl, b2⟩
    go_wp2
    go_ret2
    exact ⟨rfl, bb.trans (b2.mono bb.size)⟩
  · have hd' : (d == 1) = false := by simp [hd]
    have HT := Lib.hid (ftext_else (n := n) hd)
    have ha := fun W : World => run_string_add_sum (P := Tryz.prog) (w := W) ⟨(Lib.itoa n).toArray⟩ ⟨#[47]⟩ (by show (Lib.itoa n).length + 1 ≤ _; omega)
    have hc := fun W : World => run_string_add_sum (P := Tryz.prog) (w := W) (⟨(Lib.itoa n).toArray⟩ ++ ⟨#[47]⟩) ⟨(Lib.itoa d).toArray⟩ (by
      have e : ((⟨(Lib.itoa n).toArray⟩ : ByteArray) ++ ⟨#[47]⟩).size = (Lib.itoa n).length + 1 := by rw [ByteArray.size_append]; rfl
      rw [e]; show _ + (Lib.itoa d).length ≤ _; omega)
    clear hd
    go_enter Tryz.func23, Tryz.ntmps23
    go_wp2_with fail
    refine (check_any _ _ _).mono ?_
    rw [HK.out]
    intro e w1 h1
    obtain ⟨rfl, hb1⟩ := chk_t h1
    clear h1
    have hB := (B1.start w n d 25).below hb1
    obtain ⟨A0, A1, hR⟩ := id hB
    have HB := Lib.hid hB
    clear hB hR
    go_wp2
    go_region_held3 (fun w' => w'.cell? ⟨w.heap.size, 0, none⟩ = some (.int .i64 n) ∧ w'.cell? ⟨w.heap.size, 1, none⟩ = some (.int .i64 d) ∧ Hid (w.heap.size < w'.heap.size ∧ Below w.heap.size w w'))
      (first | exact HB.out.drew | exact B1.below (by assumption) (by assumption))
      (first
        | (go_at_call 38; refine (HN.out _ (by omega) (by omega) _ ?_).mono ?_; (exact HP.out.below (show B1 w n d _ from by assumption).2.2.out.2); rintro e w2 ⟨rfl, hb⟩))
    go_wp2
    go_ret2
    refine ⟨?_, (show B1 w n d _ from by assumption).2.2.out.2⟩
    unfold strOf
    rw [← HT.out]
    rfl
set_option maxHeartbeats 1000000 in
theorem itext_no (n d : Int) (w : World) (k : ¬ okF n d) : Calls Tryz.prog 23 #[.agg #[.int .i64 n, .int .i64 d]] w fun e w' => (∃ s, e = .returned (.tuple #[strOf [], .iface 61 (.agg #[.string s])])) ∧ Below w.heap.size w w' := by
  have HK := Lib.hid (okB_no k)
  have b0 := (Below.refl w.heap.size w).alloc (Nat.le_refl _) (.cells #[.int .i64 n, .int .i64 d] 25)
  clear k
  go_enter Tryz.func23, Tryz.ntmps23
  go_wp2_with fail
  refine (check_any _ _ _).mono ?_
  rw [HK.out]
  intro e w1 h1
  obtain ⟨s, rfl, hb1⟩ := chk_f h1
  clear h1
  go_wp2
  go_ret2
  exact ⟨⟨s, rfl⟩, b0.trans (hb1.mono (by simp))⟩
/-- The text, if the fraction is valid. -/
noncomputable def gT (n d : Int) : List UInt8 := if okB n d = true then ftext n d else []
theorem gT_yes {n d : Int} (k : okF n d) : gT n d = ftext n d := by unfold gT; rw [if_pos (okB_yes k)]
theorem gT_no {n d : Int} (k : ¬ okF n d) : gT n d = [] := by unfold gT; rw [if_neg (by rw [okB_no k]; decide)]
theorem IText_any (n d : Int) (w : World) (hg : ErrT w) (hp : PowT w) : Calls Tryz.prog 9 #[.agg #[.int .i64 n, .int .i64 d]] w (tP (okB n d) (gT n d) w) := by
  have b0 := (Below.refl w.heap.size w).alloc (Nat.le_refl _) (.cells #[.int .i64 n, .int .i64 d] 25)
  have HG := Lib.hid hg
  clear hg
  rcases okF_dec n d with k | k
  · rw [okB_yes k, gT_yes k]
    have HM := Lib.hid (itext_yes n d _ k (hp.below b0))
    unfold strOf at HM
    clear hp k
    go_enter Tryz.func9, Tryz.ntmps9
    go_wp2_with fail
    refine HM.out.mono ?_
    rintro e w1 ⟨rfl, hb1⟩
    have b1 := b0.trans (hb1.mono (by simp))
    go_wp2_with fail
    refine (border_str_nil _ _).mono ?_
    rintro e w2 ⟨rfl, hb2⟩
    go_wp2
    go_ret2
    exact ⟨rfl, b1.trans (hb2.mono b1.size)⟩
  · rw [okB_no k, gT_no k]
    have HM := Lib.hid (fun w => itext_no n d w k)
    unfold strOf at HM
    clear hp k
    go_enter Tryz.func9, Tryz.ntmps9
    go_wp2_with fail
    refine (HM.out _).mono ?_
    rintro e w1 ⟨⟨s, rfl⟩, hb1⟩
    have b1 := b0.trans (hb1.mono (by simp))
    go_wp2_with fail
    refine (border_str_err _ _ _ (HG.out.below b1)).mono ?_
    rintro e w2 ⟨rfl, hb2⟩
    go_wp2
    go_ret2
    exact ⟨rfl, b1.trans (hb2.mono b1.size)⟩
end Go.Proofs.YtcmhdjoajkljfabGreatDoor
