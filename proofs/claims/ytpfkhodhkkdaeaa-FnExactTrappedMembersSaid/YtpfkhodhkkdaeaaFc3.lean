/- FirstCircles, the program's, by its contract. -/
import Derived.Test.YtpfkhodhkkdaeaaFc2
namespace Go.Proofs.Ytpfkhodhkkdaeaa
open Go.ChangeShapes Go.WideShapes Go.ChangeAt Go.RowKit Go.Deep
set_option linter.unusedSimpArgs false
set_option linter.unusedVariables false
/-- How far the program has gone from member m along first trust. -/
structure CircSt (L : List Vc) (m : Int) (c : List Int) : Prop where
  len : 1 ≤ c.length
  head : c.getD 0 0 = m
  nodup : c.Nodup
  rng : ∀ x ∈ c, 0 ≤ x ∧ x < (L.length : Int)
  gt : ∀ p, 1 ≤ p → p < c.length → m < c.getD p 0
  chain : ∀ p, p + 1 < c.length → fst1 L (c.getD p 0) = c.getD (p + 1) 0
  res : cres L m = circ L m (L.length - (c.length - 1)) c (fst1 L (c.getD (c.length - 1) 0))
theorem CircSt.start (L : List Vc) {m : Int} (h1 : 0 ≤ m) (h2 : m < (L.length : Int)) : CircSt L m [m] :=
  ⟨Nat.le_refl _, rfl, by simp, fun x hx => by simp at hx; omega, fun p h3 h4 => by simp at h4; omega, fun p h3 => by simp at h3, by unfold cres; simp⟩
theorem CircSt.le {L : List Vc} {m : Int} {c : List Int} (h : CircSt L m c) : c.length ≤ L.length := pigeon _ _ h.nodup h.rng
theorem mem_getD {c : List Int} {p : Nat} (h : p < c.length) : c.getD p 0 ∈ c := by simp [List.getD, h]
theorem getD_of_mem {c : List Int} {x : Int} (h : x ∈ c) : ∃ p, p < c.length ∧ c.getD p 0 = x := by
  obtain ⟨p, hp, e⟩ := List.mem_iff_getElem.1 h
  exact ⟨p, hp, by simp [List.getD, hp, e]⟩
theorem circ_stop (L : List Vc) (m : Int) (k : Nat) (c : List Int) (a : Int) (h : ¬ m < a) : circ L m k c a = (c, a) := by
  cases k with
  | zero => rfl
  | succ k => show (if m < a then _ else _) = _; rw [if_neg h]
theorem CircSt.stop {L : List Vc} {m : Int} {c : List Int} (h : CircSt L m c) {a : Int} (ha : fst1 L (c.getD (c.length - 1) 0) = a) (hm : ¬ m < a) : cres L m = (c, a) := by
  rw [h.res, ha, circ_stop L m _ c a hm]
theorem CircSt.away {L : List Vc} {m : Int} {c : List Int} (h : CircSt L m c) {a : Int} (ha : fst1 L (c.getD (c.length - 1) 0) = a) (hm : a ∈ c) (hne : a ≠ m) : (cres L m).2 ≠ m := by
  obtain ⟨i, hi, hia⟩ := getD_of_mem hm
  have hi1 : 1 ≤ i := by
    have hl := h.len
    have : i ≠ 0 := fun e => hne (by rw [← hia, e, h.head])
    omega
  rw [h.res, ha]
  refine circ_away L m (fun x => ∃ p, i ≤ p ∧ p < c.length ∧ c.getD p 0 = x) ?_ ?_ _ _ _ ⟨i, Nat.le_refl _, hi, hia⟩
  · rintro x ⟨p, h1, h2, rfl⟩
    exact h.gt p (by omega) h2
  · rintro x ⟨p, h1, h2, rfl⟩
    by_cases hp : p + 1 < c.length
    · exact ⟨p + 1, by omega, hp, (h.chain p hp).symm⟩
    · have e : p = c.length - 1 := by omega
      subst e
      exact ⟨i, Nat.le_refl _, hi, by rw [ha, hia]⟩
theorem getD_snoc_lt {c : List Int} {a : Int} {p : Nat} (h : p < c.length) : (c ++ [a]).getD p 0 = c.getD p 0 := by simp [List.getD, List.getElem?_append_left h]
theorem getD_snoc_eq (c : List Int) (a : Int) : (c ++ [a]).getD c.length 0 = a := by simp [List.getD]
theorem CircSt.step {L : List Vc} {m : Int} {c : List Int} (h : CircSt L m c) {a : Int} (ha : fst1 L (c.getD (c.length - 1) 0) = a) (h1 : m < a) (h2 : ¬ a ∈ c) (h3 : 0 ≤ a ∧ a < (L.length : Int)) : CircSt L m (c ++ [a]) := by
  have hlen := h.len
  have hle := h.le
  refine ⟨by simp, by rw [getD_snoc_lt (by omega)]; exact h.head, ?_, fun x hx => ?_, fun p q1 q2 => ?_, fun p q1 => ?_, ?_⟩
  · rw [List.nodup_append]
    exact ⟨h.nodup, by simp, fun x hx y hy => by simp at hy; subst hy; exact fun e => h2 (e ▸ hx)⟩
  · rcases List.mem_append.1 hx with hx | hx
    · exact h.rng x hx
    · simp at hx; subst hx; exact h3
  · rw [snoc_len] at q2
    by_cases e : p = c.length
    · subst e; rw [getD_snoc_eq]; exact h1
    · rw [getD_snoc_lt (by omega)]; exact h.gt p q1 (by omega)
  · rw [snoc_len] at q1
    by_cases e : p + 1 = c.length
    · have e2 : p = c.length - 1 := by omega
      rw [getD_snoc_lt (by omega), e, getD_snoc_eq, e2, ha]
    · rw [getD_snoc_lt (by omega), getD_snoc_lt (by omega)]
      exact h.chain p (by omega)
  · rw [snoc_len]
    have e1 : c.length + 1 - 1 = c.length := by omega
    rw [e1, getD_snoc_eq, h.res, ha]
    obtain ⟨d, hd⟩ : ∃ d, L.length - (c.length - 1) = d + 1 := ⟨L.length - (c.length - 1) - 1, by omega⟩
    have hd' : L.length - c.length = d := by omega
    rw [hd, hd']
    show (if m < a then _ else _) = _
    rw [if_pos h1]
set_option maxRecDepth 100000 in
theorem lastV_any (v : Value) (l : List Int) (w : World) (h : RowV w v l) (hne : l ≠ []) (hl : l.length ≤ 9223372036854775807) :
    Calls Try.prog 55 #[v] w fun e w' => e = .returned (.int .i64 (l.getD (l.length - 1) 0)) ∧ w = w' := by
  obtain ⟨x, cap, rfl, hx, hc⟩ := h.cons hne
  have hpos := List.length_pos_iff.2 hne
  obtain ⟨k', hk'⟩ : ∃ k', l.length = k' + 1 := ⟨l.length - 1, by omega⟩
  have c1 := hc k' (by omega)
  have e1 : l.length - 1 = k' := by omega
  rw [e1]
  obtain ⟨y, hy⟩ : ∃ y, l.getD k' 0 = y := ⟨_, rfl⟩
  rw [hy] at c1 ⊢
  have wk1 : IntKind.i64.wrap ((l.length : Int) - 1) = k' := by rw [IntKind.wrap_i64]; omega
  have wk2 : (l.length : Int) - 1 = k' := by omega
  have hlt : k' < l.length := by omega
  clear hy hc e1 hk' h hne hpos
  go_enter Try.func55, Try.ntmps55
  go_wp2
  go_ret
  exact ⟨rfl, rfl⟩
/-- What the program answers for member m. -/
noncomputable def mCf (L : List Vc) (m : Int) : List Int × Bool := if (cres L m).2 = m then ((cres L m).1, true) else ([], false)
theorem mCf_no {L : List Vc} {m : Int} (h : (cres L m).2 ≠ m) : mCf L m = ([], false) := by unfold mCf; rw [if_neg h]
theorem mCf_yes {L : List Vc} {m : Int} {c : List Int} (h : cres L m = (c, m)) : mCf L m = (c, true) := by unfold mCf; rw [h, if_pos rfl]
theorem mCf_len (L : List Vc) (m : Int) : (mCf L m).1.length ≤ 1 + L.length := by
  unfold mCf
  split
  · exact cres_len L m
  · simp
end Go.Proofs.Ytpfkhodhkkdaeaa
