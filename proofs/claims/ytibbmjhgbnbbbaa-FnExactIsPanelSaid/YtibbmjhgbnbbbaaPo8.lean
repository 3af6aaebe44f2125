/- By how much a set misses the quotas: the program's count. -/
import Derived.Test.YtibbmjhgbnbbbaaPo7
import Derived.Test.YtibbmjhgbnbbbaaVo7
namespace Go.Proofs.Ytibbmjhgbnbbbaa
open Go.ChangeShapes Go.WideShapes Go.ChangeAt Go.RowKit Go.Deep
set_option linter.unusedSimpArgs false
set_option linter.unusedVariables false
theorem cnt_both {A t : List Int} {lo hi lo' hi' : Int} (h1 : ris A lo hi) (h2 : ris t lo' hi') : cnt t A A.length = cnt A t t.length := by
  unfold cnt
  rw [List.take_length, List.take_length]
  exact cnt_swap (ris_nodup h1) (ris_nodup h2)
theorem ris_room {A : List Int} {P : Int} (h : ris A 0 (P - 1)) (hP : P ≤ 7) : A.length ≤ 7 := by
  have key : ∀ k, k < A.length → (k : Int) ≤ A.getD k 0 := by
    intro k
    induction k with
    | zero => intro hk; exact (h 0 hk).1
    | succ k ih =>
      intro hk
      have h1 := ih (by omega)
      have h2 := (h (k + 1) hk).2.2 (by omega)
      simp only [Nat.add_sub_cancel] at h2
      omega
  rcases Nat.eq_zero_or_pos A.length with h0 | h0
  · omega
  · have h1 := key (A.length - 1) (by omega)
    have h2 := (h (A.length - 1) (by omega)).2.1
    omega
theorem mx_or (d : Int) : (0 ≤ d ∧ mx 0 d = d) ∨ (d < 0 ∧ mx 0 d = 0) := by
  unfold mx
  split <;> omega
set_option maxHeartbeats 2000000 in
set_option maxRecDepth 100000 in
theorem imissed (P S : Int) (L : List Qt) (B b cap : Nat) (t : List Int) (tv : Value) (w : World) (h : Qs w B b L) (hf : FitsQ L) (hok : pOk P S L) (ht : RowV w tv t) (htr : ris t 0 (P - 1)) :
    Calls Try.prog 36 #[.agg #[.int .i64 P, .int .i64 S, .slice (some ⟨b, 0, none⟩) L.length cap], tv] w fun e w' => e = .returned (.int .i64 (sumM L t L.length)) ∧ Below w.heap.size w w' := by
  obtain ⟨hf1, hf2⟩ := hf
  have htl := ris_room htr hok.2.1
  obtain ⟨ta, tc, rfl⟩ := ht.shape
  have b1 := (Below.refl w.heap.size w).alloc (Nat.le_refl _) (.cells #[.int .i64 P, .int .i64 S, .slice (some ⟨b, 0, none⟩) L.length cap] 29)
  go_enter Try.func36, Try.ntmps36
  go_wp2
  go_loopg [5, 14] L.length (fun g s i wr => ∃ k : Nat, k ≤ L.length ∧ g = L.length - k ∧ s = .int .i64 (sumM L t k) ∧ i = .int .i64 k ∧ Below w.heap.size w wr)
  case atStart => exact ⟨0, Nat.zero_le _, rfl, by simp [sumM], rfl, b1⟩
  case round =>
    obtain ⟨k, hk, rfl, rfl, rfl, hb⟩ := hrel
    by_cases hlt : k < L.length
    · obtain ⟨c, a1, a2, a3, a4⟩ := (h.below hb).at hlt
      have hlen := hf2 k hlt
      have hqk := hok.2.2.2.2.2 k hlt
      have hsb := sumM_bd hok htl hk
      have hss := sumM_succ L t k hlt
      obtain ⟨q, hq⟩ : ∃ q, L.getD k q0 = q := ⟨_, rfl⟩
      rw [hq] at a1 a2 a3 a4 hlen hqk hss
      obtain ⟨A, m, n⟩ := q
      simp only at a1 a2 a3 a4 hlen hss
      obtain ⟨_, hA, g1, g2, g3⟩ := hqk
      simp only at g1 g2 g3 hA
      rw [← cnt_both hA htr] at hss
      have hAl := ris_room hA hok.2.1
      obtain ⟨sb1, sb2⟩ := hsb
      have HT := Lib.hid (ht.below hb)
      have HSS := Lib.hid hss
      have H := Lib.hid h
      have hL6 := hok.2.2.2.2.1
      generalize hsg : sumM L t k = sg at sb1 sb2 HSS ⊢
      have lb := (h.below hb).lt
      obtain ⟨w2, rfl⟩ : ∃ w2, w2 = wr := ⟨_, rfl⟩
      have hbq := (Below.refl w2.heap.size w2).alloc (Nat.le_refl _) (.cells #[.slice (some ⟨c, 0, none⟩) A.length A.length, .int .i64 m, .int .i64 n] 54)
      have k1 : (w2.alloc (.cells #[.slice (some ⟨c, 0, none⟩) A.length A.length, .int .i64 m, .int .i64 n] 54)).cell? ⟨w2.heap.size, 1, none⟩ = some (.int .i64 m) := by go_simp
      have k2 : (w2.alloc (.cells #[.slice (some ⟨c, 0, none⟩) A.length A.length, .int .i64 m, .int .i64 n] 54)).cell? ⟨w2.heap.size, 2, none⟩ = some (.int .i64 n) := by go_simp
      have K1 := Lib.hid k1
      have K2 := Lib.hid k2
      have HBQ := Lib.hid hbq
      clear hq hss hsg k1 k2 hbq h
      go_wp2
      go_loopg [8, 21] A.length (fun g s i wi => ∃ j : Nat, j ≤ A.length ∧ g = A.length - j ∧ s = .int .i64 (cnt t A j : Int) ∧ i = .int .i64 j ∧ wi = w2.alloc (.cells #[.slice (some ⟨c, 0, none⟩) A.length A.length, .int .i64 m, .int .i64 n] 54))
      case atStart => exact ⟨0, Nat.zero_le _, rfl, by simp [cnt], rfl, rfl⟩
      case round =>
        obtain ⟨j, hj, rfl, rfl, rfl, hwr⟩ := hrel
        have hbi : Below w2.heap.size w2 wr := by rw [hwr]; exact HBQ.out
        have e1 : wr.cell? ⟨w2.heap.size, 1, none⟩ = some (.int .i64 m) := by rw [hwr]; exact K1.out
        have e2 : wr.cell? ⟨w2.heap.size, 2, none⟩ = some (.int .i64 n) := by rw [hwr]; exact K2.out
        have hcb := cnt_le t A j
        have HW := Lib.hid hwr
        clear hwr
        by_cases hml : j < A.length
        · obtain ⟨x, cp, hx0, hx, hc⟩ := (a4.below hbi).cons (by intro h; subst h; simp at hml)
          obtain ⟨rfl, rfl⟩ : x = ⟨c, 0, none⟩ ∧ cp = A.length := by simpa [eq_comm] using hx0
          have c1 := hc j hml
          rw [Addr.add_lit, Nat.zero_add] at c1
          have hcs := cnt_succ t A j hml
          obtain ⟨y, hy⟩ : ∃ y, A.getD j 0 = y := ⟨_, rfl⟩
          rw [hy] at c1 hcs
          have HH := cont_any _ t y wr (HT.out.below hbi) (by omega)
          obtain ⟨z, hz⟩ : ∃ z, decide (y ∈ t) = z := ⟨_, rfl⟩
          rw [hz] at HH
          have HZ := Lib.hid hz
          have HC := Lib.hid hcs
          generalize hcj : cnt t A j = cj at hcb HC ⊢
          clear hz hcs hy hc hx0 a1 a2 a3 a4 hcj
          cases z with
          | true =>
            go_wp2_with fail
            refine HH.mono ?_
            rintro e w5 ⟨rfl, rfl⟩
            go_wp2
            go_roundg (A.length - (j + 1))
            case measure => omega
            case rel => exact ⟨j + 1, by omega, rfl, by rw [HC.out, if_pos (of_decide_eq_true HZ.out)]; simp, by simp, HW.out⟩
          | false =>
            go_wp2_with fail
            refine HH.mono ?_
            rintro e w5 ⟨rfl, rfl⟩
            go_wp2
            go_roundg (A.length - (j + 1))
            case measure => omega
            case rel => exact ⟨j + 1, by omega, rfl, by rw [HC.out, if_neg (of_decide_eq_false HZ.out)]; simp, by simp, HW.out⟩
        · have e : j = A.length := by omega
          subst e
          generalize hcj : cnt t A A.length = n0 at hcb HSS ⊢
          obtain ⟨d1, hd1⟩ : ∃ d, m - (n0 : Int) = d := ⟨_, rfl⟩
          obtain ⟨d2, hd2⟩ : ∃ d, (n0 : Int) - n = d := ⟨_, rfl⟩
          have wd1 : IntKind.i64.wrap (m - (n0 : Int)) = d1 := by rw [IntKind.wrap_i64]; omega
          have wd2 : IntKind.i64.wrap ((n0 : Int) - n) = d2 := by rw [IntKind.wrap_i64]; omega
          have hms : miss (A, m, n) (n0 : Int) = mx 0 d1 + mx 0 d2 := by unfold miss; simp only; rw [hd1, hd2]
          have hss2 : sumM L t (k + 1) = sg + (mx 0 d1 + mx 0 d2) := by rw [HSS.out, hms]
          have HF := Lib.hid hss2
          have HB2 := Lib.hid (hb.trans (hbi.mono hb.size))
          clear a1 a2 a3 a4 hms hss2
          go_wp2_with fail
          all_goals go_roundg (L.length - (k + 1))
          all_goals first
            | omega
            | exact ⟨k + 1, by omega, rfl, by rw [HF.out]; congr 1; rcases mx_or d1 with ⟨_, q1⟩ | ⟨_, q1⟩ <;> rcases mx_or d2 with ⟨_, q2⟩ | ⟨_, q2⟩ <;> rw [q1, q2] <;> omega, by simp, HB2.out⟩
    · have e : k = L.length := by omega
      subst e
      go_wp2
      go_ret
      exact ⟨rfl, hb⟩
end Go.Proofs.Ytibbmjhgbnbbbaa
