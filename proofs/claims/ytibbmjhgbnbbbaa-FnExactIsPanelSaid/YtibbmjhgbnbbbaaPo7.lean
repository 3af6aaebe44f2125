/- By how much a set misses the quotas: the specification's count. -/
import Derived.Test.YtibbmjhgbnbbbaaPo6
namespace Go.Proofs.Ytibbmjhgbnbbbaa
open Go.ChangeShapes Go.WideShapes Go.ChangeAt Go.RowKit Go.Deep
set_option linter.unusedSimpArgs false
set_option linter.unusedVariables false
theorem cnt_swap {l t : List Int} (h1 : l.Nodup) (h2 : t.Nodup) : (l.filter fun x => decide (x ∈ t)).length = (t.filter fun x => decide (x ∈ l)).length := by
  apply List.Perm.length_eq
  rw [List.perm_ext_iff_of_nodup (h1.filter _) (h2.filter _)]
  intro a
  simp [and_comm]
theorem ris_lt {l : List Int} {lo hi : Int} (h : ris l lo hi) (j : Nat) : ∀ i, i < j → j < l.length → l.getD i 0 < l.getD j 0 := by
  induction j with
  | zero => intro i hi; omega
  | succ j ih =>
    intro i hi hj
    have h1 := (h (j + 1) hj).2.2 (by omega)
    simp only [Nat.add_sub_cancel] at h1
    by_cases e : i = j
    · subst e; exact h1
    · have := ih i (by omega) (by omega)
      omega
theorem ris_nodup {l : List Int} {lo hi : Int} (h : ris l lo hi) : l.Nodup := by
  rw [List.nodup_iff_pairwise_ne, List.pairwise_iff_getElem]
  intro i j hi hj hij e
  have := ris_lt h j i hij hj
  simp [List.getD, hi, hj, e] at this
/-- How many of the first k numbers of t are in A. -/
def cnt (A t : List Int) (k : Nat) : Nat := ((t.take k).filter fun x => decide (x ∈ A)).length
theorem cnt_succ (A t : List Int) (k : Nat) (h : k < t.length) : cnt A t (k + 1) = cnt A t k + if t.getD k 0 ∈ A then 1 else 0 := by
  unfold cnt
  have e : t.getD k 0 = t[k] := by simp [List.getD, h]
  rw [List.take_add_one, List.getElem?_eq_getElem h, e, List.filter_append, List.length_append]
  congr 1
  by_cases hm : t[k] ∈ A <;> simp [hm]
theorem cnt_le (A t : List Int) (k : Nat) : cnt A t k ≤ k := by
  unfold cnt
  have h1 := List.length_filter_le (fun x => decide (x ∈ A)) (t.take k)
  have h2 := List.length_take_le k t
  omega
def mx (a b : Int) : Int := if b < a then a else b
/-- By how much a number misses the bounds of a quota. -/
def miss (q : Qt) (n : Int) : Int := mx 0 (q.2.1 - n) + mx 0 (n - q.2.2)
/-- By how much the set t misses the first k quotas. -/
def sumM (L : List Qt) (t : List Int) (k : Nat) : Int := ((L.take k).map fun q => miss q (cnt q.1 t t.length)).sum
theorem sumM_succ (L : List Qt) (t : List Int) (k : Nat) (h : k < L.length) : sumM L t (k + 1) = sumM L t k + miss (L.getD k q0) (cnt (L.getD k q0).1 t t.length) := by
  unfold sumM
  rw [List.take_add_one, List.getElem?_eq_getElem h, List.map_append, List.sum_append]
  simp [List.getD, h]
theorem mx_bd {d : Int} (h1 : d ≤ 7) : 0 ≤ mx 0 d ∧ mx 0 d ≤ 7 := by unfold mx; split <;> omega
theorem sumM_bd {P S : Int} {L : List Qt} {t : List Int} (hok : pOk P S L) (ht : t.length ≤ 7) {k : Nat} (hk : k ≤ L.length) : 0 ≤ sumM L t k ∧ sumM L t k ≤ 14 * k := by
  induction k with
  | zero => simp [sumM]
  | succ k ih =>
    obtain ⟨a, b⟩ := ih (by omega)
    have h1 := hok.2.2.2.2.2 k (by omega)
    have h2 := cnt_le (L.getD k q0).1 t t.length
    obtain ⟨_, _, g1, g2, g3⟩ := h1
    rw [sumM_succ L t k (by omega)]
    unfold miss
    have m1 := mx_bd (d := (L.getD k q0).2.1 - (cnt (L.getD k q0).1 t t.length : Int)) (by omega)
    have m2 := mx_bd (d := (cnt (L.getD k q0).1 t t.length : Int) - (L.getD k q0).2.2) (by omega)
    omega
theorem smax (a b : Int) (w : World) :
    Calls Try.prog 50 #[.int .i64 a, .int .i64 b] w fun e w' => e = .returned (.int .i64 (mx a b)) ∧ w = w' := by
  obtain ⟨z, hz⟩ : ∃ z, mx a b = z := ⟨_, rfl⟩
  rw [hz]
  unfold mx at hz
  by_cases h : b < a
  · rw [if_pos h] at hz
    subst hz
    go_enter Try.func50, Try.ntmps50
    go_wp2
    go_ret
    exact ⟨rfl, rfl⟩
  · rw [if_neg h] at hz
    subst hz
    go_enter Try.func50, Try.ntmps50
    go_wp2
    go_ret
    exact ⟨rfl, rfl⟩
set_option maxHeartbeats 2000000 in
set_option maxRecDepth 100000 in
theorem smissed (P S : Int) (L : List Qt) (B b cap p : Nat) (t : List Int) (tv : Value) (w : World) (h : Qs w B b L) (hf : FitsQ L) (hp : PoolAt w p P S (.slice (some ⟨b, 0, none⟩) L.length cap)) (hok : pOk P S L) (ht : RowV w tv t) (htl : t.length ≤ 7) :
    Calls Try.prog 34 #[.pointer (some ⟨p, 0, none⟩), tv] w fun e w' => e = .returned (.int .i64 (sumM L t L.length)) ∧ Drw w w' := by
  obtain ⟨hf1, hf2⟩ := hf
  obtain ⟨p0, p1, p2, pl⟩ := hp
  obtain ⟨ta, tc, rfl⟩ := ht.shape
  go_enter Try.func34, Try.ntmps34
  go_wp2
  go_loopg [5, 6] L.length (fun g s i wr => ∃ k : Nat, k ≤ L.length ∧ g = L.length - k ∧ s = .int .i64 (sumM L t k) ∧ i = .int .i64 k ∧ Drw w wr)
  case atStart => exact ⟨0, Nat.zero_le _, rfl, by simp [sumM], rfl, Drw.refl _⟩
  case round =>
    obtain ⟨k, hk, rfl, rfl, rfl, hd⟩ := hrel
    have hb := hd.below
    have z2 := (hb.cell (p := ⟨p, 2, none⟩) pl).trans p2
    by_cases hlt : k < L.length
    · obtain ⟨c, a1, a2, a3, a4⟩ := (h.below hb).at hlt
      have hlen := hf2 k hlt
      have hqk := hok.2.2.2.2.2 k hlt
      have hsb := sumM_bd hok htl hk
      have hss := sumM_succ L t k hlt
      obtain ⟨q, hq⟩ : ∃ q, L.getD k q0 = q := ⟨_, rfl⟩
      rw [hq] at a1 a2 a3 a4 hlen hqk hss
      obtain ⟨A, m, n⟩ := q
      simp only at a1 a2 a3 a4 hlen hss
      obtain ⟨_, _, g1, g2, g3⟩ := hqk
      simp only at g1 g2 g3
      obtain ⟨sb1, sb2⟩ := hsb
      have HT := Lib.hid (ht.below hb)
      have HSS := Lib.hid hss
      have H := Lib.hid h
      have hL6 := hok.2.2.2.2.1
      clear hq hss
      generalize hsg : sumM L t k = sg at sb1 sb2 HSS ⊢
      clear hsg
      have lb := (h.below hb).lt
      obtain ⟨w2, rfl⟩ : ∃ w2, w2 = wr := ⟨_, rfl⟩
      go_wp2
      go_loopg [8, 9] t.length (fun g s i wi => ∃ j : Nat, j ≤ t.length ∧ g = t.length - j ∧ s = .int .i64 (cnt A t j : Int) ∧ i = .int .i64 j ∧ Drw w2 wi)
      case atStart => exact ⟨0, Nat.zero_le _, rfl, by simp [cnt], rfl, Drw.refl _⟩
      case round =>
        obtain ⟨j, hj, rfl, rfl, rfl, hdi⟩ := hrel
        have hbi := hdi.below
        have e1 := (hbi.cell (p := ⟨b, k * 3, none⟩) lb).trans a1
        have e2 := (hbi.cell (p := ⟨b, k * 3 + 1, none⟩) lb).trans a2
        have e3 := (hbi.cell (p := ⟨b, k * 3 + 2, none⟩) lb).trans a3
        have hcb := cnt_le A t j
        by_cases hml : j < t.length
        · obtain ⟨x, cp, hx0, hx, hc⟩ := (HT.out.below hbi).cons (by intro h; subst h; simp at hml)
          obtain ⟨rfl, rfl⟩ : ta = some x ∧ tc = cp := by simpa [eq_comm] using hx0
          have c1 := hc j hml
          have hcs := cnt_succ A t j hml
          obtain ⟨y, hy⟩ : ∃ y, t.getD j 0 = y := ⟨_, rfl⟩
          rw [hy] at c1 hcs
          obtain ⟨z, hz⟩ : ∃ z, decide (y ∈ A) = z := ⟨_, rfl⟩
          have HH : ∀ n, Calls Try.prog 49 #[.slice (some ⟨c, 0, none⟩) A.length A.length, .int .i64 y] (wr.drewN n) fun e w' => e = .returned (.bool z) ∧ wr.drewN n = w' := fun n => by
            have := has_any _ _ y (wr.drewN n) ((a4.below hbi).below (below_drewN (Below.refl _ _) n)) (by omega)
            rw [hz] at this
            exact this
          have HZ := Lib.hid hz
          have HC := Lib.hid hcs
          generalize hcj : cnt A t j = cj at hcb HC ⊢
          clear hz hcs hy hc hx0 a1 a2 a3 hcj
          cases z with
          | true =>
            go_wp2_with fail
            go_quiet ((first | (go_at_call 49; exact quiet_left (HH _))))
            go_wp2
            go_roundg (t.length - (j + 1))
            case measure => omega
            case rel => exact ⟨j + 1, by omega, rfl, by rw [HC.out, if_pos (of_decide_eq_true HZ.out)]; simp, by simp, hdi.drewN _⟩
          | false =>
            go_wp2_with fail
            go_quiet ((first | (go_at_call 49; exact quiet_left (HH _))))
            go_wp2
            go_roundg (t.length - (j + 1))
            case measure => omega
            case rel => exact ⟨j + 1, by omega, rfl, by rw [HC.out, if_neg (of_decide_eq_false HZ.out)]; simp, by simp, hdi.drewN _⟩
        · have e : j = t.length := by omega
          subst e
          generalize hcj : cnt A t t.length = n0 at hcb HSS ⊢
          obtain ⟨d1, hd1⟩ : ∃ d, m - (n0 : Int) = d := ⟨_, rfl⟩
          obtain ⟨d2, hd2⟩ : ∃ d, (n0 : Int) - n = d := ⟨_, rfl⟩
          have wd1 : IntKind.i64.wrap (m - (n0 : Int)) = d1 := by rw [IntKind.wrap_i64]; omega
          have wd2 : IntKind.i64.wrap ((n0 : Int) - n) = d2 := by rw [IntKind.wrap_i64]; omega
          have M1 := fun n => smax 0 d1 (wr.drewN n)
          have M2 := fun n => smax 0 d2 (wr.drewN n)
          have mb1 := mx_bd (d := d1) (by omega)
          have mb2 := mx_bd (d := d2) (by omega)
          have hms : miss (A, m, n) (n0 : Int) = mx 0 d1 + mx 0 d2 := by unfold miss; simp only; rw [hd1, hd2]
          rw [hms] at HSS
          obtain ⟨y1, hy1⟩ : ∃ y, mx 0 d1 = y := ⟨_, rfl⟩
          obtain ⟨y2, hy2⟩ : ∃ y, mx 0 d2 = y := ⟨_, rfl⟩
          rw [hy1] at M1 mb1 HSS
          rw [hy2] at M2 mb2 HSS
          obtain ⟨ys, hys⟩ : ∃ y, y1 + y2 = y := ⟨_, rfl⟩
          have wys : IntKind.i64.wrap (y1 + y2) = ys := by rw [IntKind.wrap_i64]; omega
          obtain ⟨sz, hsz⟩ : ∃ y, sg + ys = y := ⟨_, rfl⟩
          have wsz : IntKind.i64.wrap (sg + ys) = sz := by rw [IntKind.wrap_i64]; omega
          have hss2 : sumM L t (k + 1) = sz := by rw [HSS.out, hys, hsz]
          have HF := Lib.hid hss2
          have hL6' : k ≤ 6 := by omega
          clear hms hy1 hy2 hss2 HSS hcj a1 a2 a3
          go_wp2_with fail
          go_quiet ((first | (go_at_call 50; first | exact quiet_left (M1 _) | exact quiet_left (M2 _))))
          go_wp2
          go_roundg (L.length - (k + 1))
          case measure => omega
          case rel => exact ⟨k + 1, by omega, rfl, by rw [HF.out], by simp, (hd.trans hdi).drewN _⟩
    · have e : k = L.length := by omega
      subst e
      go_wp2
      go_ret
      exact ⟨rfl, hd⟩
end Go.Proofs.Ytibbmjhgbnbbbaa
