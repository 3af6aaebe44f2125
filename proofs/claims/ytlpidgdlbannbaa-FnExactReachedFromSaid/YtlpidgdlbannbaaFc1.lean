/- Circles of first trust: plain mathematics; the specification's first trust by its contract. -/
import Derived.Test.YtlpidgdlbannbaaKJ
namespace Go.Proofs.Ytlpidgdlbannbaa
open Go.ChangeShapes Go.WideShapes Go.ChangeAt Go.RowKit Go.Deep
set_option linter.unusedSimpArgs false
set_option linter.unusedVariables false
theorem pigeon : ∀ (n : Nat) (l : List Int), l.Nodup → (∀ x ∈ l, 0 ≤ x ∧ x < (n : Int)) → l.length ≤ n := by
  intro n
  induction n with
  | zero =>
    intro l _ h
    cases l with
    | nil => simp
    | cons x t => have := h x (by simp); omega
  | succ n ih =>
    intro l hn h
    by_cases hm : (n : Int) ∈ l
    · have h1 := ih (l.erase (n : Int)) (hn.erase _) (fun x hx => by
        have hx' := (hn.mem_erase_iff).1 hx
        have := h x hx'.2
        have := hx'.1
        omega)
      rw [List.length_erase_of_mem hm] at h1
      omega
    · have h1 := ih l hn (fun x hx => by
        have := h x hx
        have : x ≠ (n : Int) := fun e => hm (e ▸ hx)
        omega)
      omega
/-- Whom a member trusts first, or -1. -/
def fst1 (L : List Vc) (m : Int) : Int := if (vAt L m).1 = true ∨ (vAt L m).2 = [] then -1 else (vAt L m).2.getD 0 0
def circ (L : List Vc) (m : Int) : Nat → List Int → Int → List Int × Int
  | 0, c, a => (c, a)
  | k + 1, c, a => if m < a then circ L m k (c ++ [a]) (fst1 L a) else (c, a)
def cres (L : List Vc) (m : Int) : List Int × Int := circ L m L.length [m] (fst1 L m)
def circs (L : List Vc) (k : Nat) : List (List Int) := (List.range k).flatMap fun m : Nat => if (cres L (m : Int)).2 = (m : Int) then [(cres L (m : Int)).1] else []
theorem circs_succ (L : List Vc) (k : Nat) : circs L (k + 1) = circs L k ++ if (cres L (k : Int)).2 = (k : Int) then [(cres L (k : Int)).1] else [] := by
  unfold circs
  rw [List.range_succ, List.flatMap_append]
  simp
theorem circ_len (L : List Vc) (m : Int) : ∀ k c a, (circ L m k c a).1.length ≤ c.length + k := by
  intro k
  induction k with
  | zero => intro c a; simp [circ]
  | succ k ih =>
    intro c a
    unfold circ
    split
    · have := ih (c ++ [a]) (fst1 L a)
      simp at this
      omega
    · simp
theorem cres_len (L : List Vc) (m : Int) : (cres L m).1.length ≤ 1 + L.length := circ_len L m _ [m] _
theorem circs_len (L : List Vc) (k : Nat) : (circs L k).length ≤ k := by
  induction k with
  | zero => simp [circs]
  | succ k ih =>
    rw [circs_succ, List.length_append]
    split
    · simp; omega
    · have e : ([] : List (List Int)).length = 0 := rfl
      omega
theorem circs_fits {L : List Vc} (h : L.length ≤ 12) (k : Nat) (hk : k ≤ L.length) : FitsJ (circs L k) := by
  refine ⟨by have := circs_len L k; omega, fun i hi => ?_⟩
  have hm : (circs L k).getD i [] ∈ circs L k := by
    simp [List.getD, hi]
  unfold circs at hm
  obtain ⟨m, _, hx⟩ := List.mem_flatMap.1 hm
  split at hx
  · simp only [List.mem_singleton] at hx
    unfold circs
    rw [hx]
    have := cres_len L (m : Int)
    omega
  · cases hx
/-- From a set that is closed under first trust and lies above m, m is never reached. -/
theorem circ_away (L : List Vc) (m : Int) (S : Int → Prop) (h1 : ∀ x, S x → m < x) (h2 : ∀ x, S x → S (fst1 L x)) : ∀ k c a, S a → (circ L m k c a).2 ≠ m := by
  intro k
  induction k with
  | zero => intro c a ha; have := h1 a ha; simp [circ]; omega
  | succ k ih =>
    intro c a ha
    unfold circ
    rw [if_pos (h1 a ha)]
    exact ih _ _ (h2 a ha)
theorem fst1_bd {L : List Vc} (h : okL L) {m : Int} (h1 : 0 ≤ m) (h2 : m < (L.length : Int)) : -1 ≤ fst1 L m ∧ fst1 L m < (L.length : Int) := by
  unfold fst1
  split
  · omega
  · rename_i hn
    have ht : (vAt L m).2 ≠ [] := fun e => hn (.inr e)
    have h3 := (h.2.2 m.toNat (by omega)).2 0 (by
      have : vAt L m = L.getD m.toNat (false, []) := rfl
      rw [← this]
      exact List.length_pos_iff.2 ht)
    unfold elOk at h3
    have : vAt L m = L.getD m.toNat (false, []) := rfl
    rw [← this] at h3
    omega
set_option maxRecDepth 100000 in
theorem first_any (L : List Vc) (B b cap j : Nat) (w : World) (h : Vs w B b L) (hj : j < L.length) (hn : L.length ≤ 1048576) :
    Calls Try.prog 63 #[.slice (some ⟨b, 0, none⟩) L.length cap, .int .i64 (j : Int)] w fun e w' => e = .returned (.int .i64 (fst1 L (j : Int))) ∧ w = w' := by
  obtain ⟨c, a1, a2, a3⟩ := h.at hj
  have hv : vAt L (j : Int) = L.getD j (false, []) := by simp [vAt]
  unfold fst1
  rw [hv]
  obtain ⟨⟨s, t⟩, hq⟩ : ∃ q, L.getD j (false, []) = q := ⟨_, rfl⟩
  rw [hq] at a1 a2 a3 ⊢
  simp only at a1 a2 a3 ⊢
  clear hq hv
  cases s with
  | true =>
    rw [if_pos (.inl rfl)]
    clear a3
    go_enter Try.func63, Try.ntmps63
    go_wp2
    go_ret
    exact ⟨rfl, rfl⟩
  | false =>
    by_cases hte : t = []
    · subst hte
      rw [if_pos (.inr rfl)]
      clear a3
      go_enter Try.func63, Try.ntmps63
      go_wp2
      go_ret
      exact ⟨rfl, rfl⟩
    · have hlp := List.length_pos_iff.2 hte
      have hne0 : ((t.length : Int) == 0) = false := by simp [hte]
      obtain ⟨x, cp, hx0, hx, hc⟩ := a3.cons hte
      obtain ⟨rfl, -⟩ : x = ⟨c, 0, none⟩ ∧ cp = t.length := by simpa [eq_comm] using hx0
      have c1 := hc 0 hlp
      rw [Addr.add_lit, Nat.zero_add] at c1
      have hi : (if (false = true) ∨ t = [] then (-1 : Int) else t.getD 0 0) = t.getD 0 0 := if_neg (by simp [hte])
      obtain ⟨y, hy⟩ : ∃ y, t.getD 0 0 = y := ⟨_, rfl⟩
      rw [hi, hy]
      rw [hy] at c1
      clear hy hi hx0 hc hte a3
      go_enter Try.func63, Try.ntmps63
      go_wp2
      go_ret
      exact ⟨rfl, rfl⟩
end Go.Proofs.Ytlpidgdlbannbaa
