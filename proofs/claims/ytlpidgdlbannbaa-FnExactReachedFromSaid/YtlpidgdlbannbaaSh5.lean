/- The program's look at a list of shares. -/
import Derived.Test.YtlpidgdlbannbaaSh4
namespace Go.Proofs.Ytlpidgdlbannbaa
open Go.ChangeShapes Go.WideShapes Go.ChangeAt Go.RowKit Go.Deep
set_option linter.unusedSimpArgs false
set_option linter.unusedVariables false
/-- The member of the share before share m, or -1. -/
def bef (t : List Sq) (m : Nat) : Int := if m = 0 then -1 else (t.getD (m - 1) (0, 0)).1
theorem bef_succ (t : List Sq) (m : Nat) : bef t (m + 1) = (t.getD m (0, 0)).1 := by simp [bef]
theorem bef_bd {n i : Nat} {t : List Sq} {m : Nat} (h : ∀ j, j < m → elS n i t j) : -1 ≤ bef t m ∧ bef t m ≤ n := by
  unfold bef
  split
  · omega
  · have := (h (m - 1) (by omega)).1
    omega
theorem elS_iff {n i : Nat} {t : List Sq} {m : Nat} (h : ∀ j, j < m → elS n i t j) {y p : Int} (hy : t.getD m (0, 0) = (y, p)) : elS n i t m ↔ bef t m < y ∧ y < (n : Int) ∧ y ≠ (i : Int) ∧ 1 ≤ p ∧ p ≤ 12 := by
  unfold elS
  rw [hy]
  simp only
  by_cases hm : m = 0
  · subst hm
    have hb : bef t 0 = -1 := rfl
    rw [hb]
    constructor
    · rintro ⟨⟨a, b⟩, c, d, e, f⟩; exact ⟨by omega, by omega, c, e, f⟩
    · rintro ⟨a, b, c, e, f⟩; exact ⟨⟨by omega, by omega⟩, c, fun h => absurd h (Nat.lt_irrefl 0), e, f⟩
  · have hp := (h (m - 1) (by omega)).1
    have hb : bef t m = (t.getD (m - 1) (0, 0)).1 := by simp [bef, hm]
    rw [hb]
    constructor
    · rintro ⟨⟨a, b⟩, c, d, e, f⟩; exact ⟨d (by omega), by omega, c, e, f⟩
    · rintro ⟨a, b, c, e, f⟩; exact ⟨⟨by omega, by omega⟩, c, fun _ => a, e, f⟩
set_option maxHeartbeats 1000000 in
set_option maxRecDepth 100000 in
theorem areS (i n c cap : Nat) (t : List Sq) (w : World) (h : Shs w c t) (hn : n ≤ 1048576) (hi : i ≤ 1048576) (hl : t.length ≤ 1048576) :
    Calls Try.prog 118 #[.int .i64 i, .int .i64 n, .slice (some ⟨c, 0, none⟩) t.length cap] w fun e w' => e = .returned (.bool (rowSB n i t)) ∧ Below w.heap.size w w' := by
  go_enter Try.func118, Try.ntmps118
  go_wp2
  go_loopg [7, 8, 13] t.length (fun g bf s j wr => ∃ m : Nat, m ≤ t.length ∧ g = t.length - m ∧ bf = .int .i64 (bef t m) ∧ s = .int .i64 (sumP t m) ∧ j = .int .i64 m ∧ Below w.heap.size w wr ∧ Hid (∀ j, j < m → elS n i t j))
  case atStart => exact ⟨0, Nat.zero_le _, rfl, rfl, by simp [sumP], rfl, Below.refl _ _, fun j hj => absurd hj (Nat.not_lt_zero _)⟩
  case round =>
    obtain ⟨m, hm, rfl, rfl, rfl, rfl, hb, H⟩ := hrel
    obtain ⟨bd1, bd2⟩ := sumP_bd H.out hm
    obtain ⟨bb1, bb2⟩ := bef_bd H.out
    by_cases hml : m < t.length
    · obtain ⟨c1, c2⟩ := (Shs.below h hb).at hml
      obtain ⟨⟨y, p⟩, hy⟩ : ∃ y, t.getD m (0, 0) = y := ⟨_, rfl⟩
      have HE := Lib.hid (elS_iff H.out hy)
      have HS : Hid (sumP t (m + 1) = sumP t m + p) := by rw [sumP_succ t m hml, hy]; exact rfl
      have HB : Hid (bef t (m + 1) = y) := by rw [bef_succ, hy]; exact rfl
      rw [hy] at c1 c2
      simp only at c1 c2
      have hno : ¬ elS n i t m → rowSB n i t = false := fun hn => rowSB_no (fun ho => hn (ho.1 m hml))
      have HN := Lib.hid hno
      have BAL := Lib.hid (hb.alloc hb.size (.cells #[.int .i64 y, .int .i64 p] 86))
      clear hno hy
      generalize sumP t m = sg at bd1 bd2 HS ⊢
      generalize bef t m = bf at bb1 bb2 HE ⊢
      by_cases h1 : y ≤ bf
      · have Q1 := Lib.hid h1
        go_wp2
        go_ret
        refine ⟨?_, BAL.out⟩
        rw [HN.out (fun ho => by have h9 := HE.out.1 ho; have := Q1.out; omega)]; rfl
      · have Q1 := Lib.hid h1
        by_cases h2 : (n : Int) ≤ y
        · have Q2 := Lib.hid h2
          go_wp2
          go_ret
          refine ⟨?_, BAL.out⟩
          rw [HN.out (fun ho => by have h9 := HE.out.1 ho; have := Q2.out; omega)]; rfl
        · have Q2 := Lib.hid h2
          by_cases h3 : y = (i : Int)
          · have Q3 := Lib.hid h3
            have e3 : (y == (i : Int)) = true := by simp [h3]
            clear h3
            go_wp2
            go_ret
            refine ⟨?_, BAL.out⟩
            rw [HN.out (fun ho => by have h9 := HE.out.1 ho; exact h9.2.2.1 Q3.out)]; rfl
          · have Q3 := Lib.hid h3
            have e3 : (y == (i : Int)) = false := by simp [h3]
            clear h3
            by_cases h4 : p < 1
            · have Q4 := Lib.hid h4
              go_wp2
              go_ret
              refine ⟨?_, BAL.out⟩
              rw [HN.out (fun ho => by have h9 := HE.out.1 ho; have := Q4.out; omega)]; rfl
            · have Q4 := Lib.hid h4
              by_cases h5 : 12 < p
              · have Q5 := Lib.hid h5
                go_wp2
                go_ret
                refine ⟨?_, BAL.out⟩
                rw [HN.out (fun ho => by have h9 := HE.out.1 ho; have := Q5.out; omega)]; rfl
              · have Q5 := Lib.hid h5
                go_wp2
                go_roundg (t.length - (m + 1))
                case measure => omega
                case rel =>
                  have hel : elS n i t m := HE.out.2 ⟨by have := Q1.out; omega, by have := Q2.out; omega, Q3.out, by have := Q4.out; omega, by have := Q5.out; omega⟩
                  refine ⟨m + 1, by omega, rfl, by rw [HB.out], by rw [HS.out], by simp, BAL.out, fun j hj => ?_⟩
                  by_cases ej : j = m
                  · subst ej; exact hel
                  · exact H.out j (by omega)
    · have e : m = t.length := by omega
      subst e
      by_cases hgt : sumP t t.length ≤ 12
      · go_wp2
        go_ret
        exact ⟨by rw [rowSB_yes ⟨H.out, hgt⟩]; first | rfl | simp [hgt], hb⟩
      · go_wp2
        go_ret
        exact ⟨by rw [rowSB_no (fun ho => by have := ho.2; omega)]; first | rfl | simp [hgt], hb⟩
set_option maxHeartbeats 1000000 in
set_option maxRecDepth 100000 in
theorem iis_any (L : List (List Sq)) (B b cap : Nat) (w : World) (h : SS w B b L) (hf : FitsS L) :
    Calls Try.prog 109 #[.slice (some ⟨b, 0, none⟩) L.length cap] w fun e w' => e = .returned (.bool (okSB L)) ∧ Below w.heap.size w w' := by
  obtain ⟨hf1, hf2⟩ := hf
  by_cases hn : 1 ≤ L.length ∧ L.length ≤ 6
  · obtain ⟨n1, n2⟩ := hn
    go_enter Try.func109, Try.ntmps109
    go_wp2
    go_loopg [15] L.length (fun g i wr => ∃ k : Nat, k ≤ L.length ∧ g = L.length - k ∧ i = .int .i64 k ∧ Below w.heap.size w wr ∧ Hid (∀ i, i < k → rowS L.length i (L.getD i [])))
    case atStart => exact ⟨0, Nat.zero_le _, rfl, rfl, Below.refl _ _, fun j hj => absurd hj (Nat.not_lt_zero _)⟩
    case round =>
      obtain ⟨k, hk, rfl, rfl, hb, H⟩ := hrel
      by_cases hlt : k < L.length
      · obtain ⟨c, a2, a3⟩ := (h.below hb).at hlt
        have hlen := hf2 k hlt
        obtain ⟨t, hq⟩ : ∃ q, L.getD k [] = q := ⟨_, rfl⟩
        rw [hq] at a2 a3 hlen
        have HQ := Lib.hid hq
        have HA := areS k L.length c t.length t _ a3 hf1 (by omega) hlen
        clear hq
        obtain ⟨z, hz⟩ : ∃ z, rowSB L.length k t = z := ⟨_, rfl⟩
        rw [hz] at HA
        have hzi : z = true ↔ rowS L.length k t := by rw [← hz]; unfold rowSB; exact @decide_eq_true_iff _ (Classical.propDecidable _)
        have HZ := Lib.hid hzi
        clear hz hzi a3
        cases z with
        | false =>
          go_wp2_with fail
          refine HA.mono ?_
          rintro e w1 ⟨rfl, hb1⟩
          go_wp2
          go_ret
          refine ⟨?_, hb.trans (hb1.mono hb.size)⟩
          rw [okSB_no (fun ho => by have h9 := HZ.out.2 (by have := ho.2.2 k hlt; rw [HQ.out] at this; exact this); cases h9)]; rfl
        | true =>
          go_wp2_with fail
          refine HA.mono ?_
          rintro e w1 ⟨rfl, hb1⟩
          go_wp2
          go_roundg (L.length - (k + 1))
          case measure => omega
          case rel =>
            refine ⟨k + 1, by omega, rfl, by simp, hb.trans (hb1.mono hb.size), fun j hj => ?_⟩
            by_cases ej : j = k
            · subst ej
              rw [HQ.out]
              exact HZ.out.1 (by trivial)
            · exact H.out j (by omega)
      · have e : k = L.length := by omega
        subst e
        go_wp2
        go_ret
        exact ⟨by rw [okSB_yes ⟨n1, n2, H.out⟩]; rfl, hb⟩
  · have hno : okSB L = false := okSB_no (fun ho => hn ⟨ho.1, ho.2.1⟩)
    by_cases h1 : L.length < 1
    · go_enter Try.func109, Try.ntmps109
      go_wp2
      go_ret
      exact ⟨by first | rfl | (rw [hno]; rfl), Below.refl _ _⟩
    · have h2 : 6 < L.length := by omega
      go_enter Try.func109, Try.ntmps109
      go_wp2
      go_ret
      exact ⟨by first | rfl | (rw [hno]; rfl), Below.refl _ _⟩
end Go.Proofs.Ytlpidgdlbannbaa
