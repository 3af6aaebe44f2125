/- Matrices: lists of rows in memory of their own, one number added at a place. -/
import Derived.Test.YtnpolmanebmmcaaIt1
import Derived.Test.YtnpolmanebmmcaaEl1
namespace Go.Proofs.Ytnpolmanebmmcaa
open Go.ChangeShapes Go.WideShapes Go.ChangeAt Go.RowKit Go.Deep
set_option linter.unusedSimpArgs false
set_option linter.unusedVariables false
theorem OwI.setAt {w : World} {lo hi c cap : Nat} {t : List Int} (h : OwI w lo hi (.slice (some ⟨c, 0, none⟩) t.length cap) t) {j : Nat} (hj : j < t.length) (x : Int) :
    OwI (w.setCell ⟨c, j, none⟩ (.int .i64 x)) lo hi (.slice (some ⟨c, 0, none⟩) (t.set j x).length cap) (t.set j x) := by
  obtain ⟨h | ⟨c', cap', N, f, e, h1, h2, h3, h4, h5⟩, hl⟩ := h
  · simp at h
  · simp only [Value.slice.injEq, Option.some.injEq, Addr.mk.injEq, and_true, true_and] at e
    obtain ⟨rfl, rfl⟩ := e
    refine ⟨.inr ⟨c, cap, N, _, rfl, h1, h2, by simpa using h3, h4.set j _, fun i hi => ?_⟩, by simpa using hl⟩
    simp only [List.length_set] at hi
    by_cases e : i = j
    · subst e; simp [List.getD, hi]
    · rw [if_neg e, h5 i hi]
      congr 1
      simp [List.getD, List.getElem?_set, e, Ne.symm e]
theorem OwI.cells {w : World} {lo hi : Nat} {v : Value} {t : List Int} (h : OwI w lo hi v t) (hp : 0 < t.length) :
    ∃ c cap, v = .slice (some ⟨c, 0, none⟩) t.length cap ∧ lo ≤ c ∧ c < hi ∧ c < w.heap.size ∧ ∀ j, j < t.length → w.cell? ⟨c, j, none⟩ = some (.int .i64 (t.getD j 0)) ∧ w.frozen? ⟨c, j, none⟩ = false := by
  obtain ⟨h | ⟨c, cap, N, f, rfl, h1, h2, h3, h4, h5⟩, hl⟩ := h
  · rw [h.2] at hp; simp at hp
  · exact ⟨c, cap, rfl, h1, h2, h4.lt, fun j hj => ⟨by rw [h4.cell (i := j) (by omega), h5 j hj], h4.frozen j⟩⟩
theorem OwJ.setAt {w : World} {lo hi b cap : Nat} {L : List (List Int)} (h : OwJ w lo hi (.slice (some ⟨b, 0, none⟩) L.length cap) L) {i : Nat} (hi' : i < L.length) (hp : 0 < (L.getD i []).length) :
    ∃ c cap', w.cell? ⟨b, i, none⟩ = some (.slice (some ⟨c, 0, none⟩) (L.getD i []).length cap') ∧ lo ≤ c ∧ c < hi ∧ c < w.heap.size ∧ c ≠ b ∧ lo ≤ b ∧ b < hi ∧ b < w.heap.size ∧
      (∀ j, j < (L.getD i []).length → w.cell? ⟨c, j, none⟩ = some (.int .i64 ((L.getD i []).getD j 0)) ∧ w.frozen? ⟨c, j, none⟩ = false) ∧
      ∀ j x, j < (L.getD i []).length → OwJ (w.setCell ⟨c, j, none⟩ (.int .i64 x)) lo hi (.slice (some ⟨b, 0, none⟩) L.length cap) (L.set i ((L.getD i []).set j x)) := by
  obtain ⟨h | ⟨b', cap', N, f, e, h1, h2, h3, h4, h5, h6, h7⟩, hf1, hf2⟩ := h
  · simp at h
  · simp only [Value.slice.injEq, Option.some.injEq, Addr.mk.injEq, and_true, true_and] at e
    obtain ⟨rfl, rfl⟩ := e
    have hr := h5 i hi'
    obtain ⟨c, cp, hv, k1, k2, k3, k4⟩ := hr.cells hp
    have hcb : c ≠ b := fun e => h6 i hi' (by rw [hv]; simp [Value.ownBlock, e])
    refine ⟨c, cp, by rw [h4.cell (i := i) (by omega), hv], k1, k2, k3, hcb, h1, h2, h4.lt, k4, fun j x hj => ?_⟩
    refine ⟨.inr ⟨b, cap, N, f, by simp, h1, h2, by simpa using h3, World.rowIs.setOther h4 (by show b ≠ c; omega) _, fun k hk => ?_, fun k hk => h6 k (by simpa using hk), fun a b' d hab hb' => h7 a b' d hab (by simpa using hb')⟩, by simpa using hf1, fun k hk => ?_⟩
    · simp only [List.length_set] at hk
      by_cases e : k = i
      · subst e
        rw [hv] at hr ⊢
        have hs := hr.setAt hj x
        have eg : (L.set k ((L.getD k []).set j x)).getD k [] = (L.getD k []).set j x := by simp [List.getD, hk]
        rw [eg]
        simpa using hs
      · have eg : (L.set i ((L.getD i []).set j x)).getD k [] = L.getD k [] := by simp [List.getD, List.getElem?_set, Ne.symm e]
        rw [eg]
        refine (h5 k hk).block fun d hd hdl => heap_setCell_other _ _ _ _ (show d ≠ c from fun ed => ?_)
        subst ed
        rcases Nat.lt_or_gt_of_ne e with q | q
        · exact h7 k i d q hi' hd (by rw [hv]; rfl)
        · exact h7 i k d q hk (by rw [hv]; rfl) hd
    · simp only [List.length_set] at hk
      by_cases e : k = i
      · subst e
        have eg : (L.set k ((L.getD k []).set j x)).getD k [] = (L.getD k []).set j x := by simp [List.getD, hk]
        rw [eg]; simpa using hf2 k hk
      · have eg : (L.set i ((L.getD i []).set j x)).getD k [] = L.getD k [] := by simp [List.getD, List.getElem?_set, Ne.symm e]
        rw [eg]; exact hf2 k hk
/-- The number in row i and column j. -/
def mg (M : List (List Int)) (i j : Nat) : Int := (M.getD i []).getD j 0
def mset (M : List (List Int)) (i j : Nat) (x : Int) : List (List Int) := M.set i ((M.getD i []).set j x)
def madd (M : List (List Int)) (i j : Nat) (x : Int) : List (List Int) := mset M i j (mg M i j + x)
/-- M has n rows of n numbers. -/
def Sq (n : Nat) (M : List (List Int)) : Prop := M.length = n ∧ ∀ i, i < n → (M.getD i []).length = n
theorem Sq.set {n : Nat} {M : List (List Int)} (h : Sq n M) (i j : Nat) (x : Int) : Sq n (mset M i j x) := by
  refine ⟨by simp [mset, h.1], fun k hk => ?_⟩
  unfold mset
  by_cases e : k = i
  · subst e
    have eg : (M.set k ((M.getD k []).set j x)).getD k [] = (M.getD k []).set j x := by simp [List.getD, h.1, hk]
    rw [eg]; simpa using h.2 k hk
  · have eg : (M.set i ((M.getD i []).set j x)).getD k [] = M.getD k [] := by simp [List.getD, List.getElem?_set, Ne.symm e]
    rw [eg]; exact h.2 k hk
theorem mg_set {n : Nat} {M : List (List Int)} (h : Sq n M) {i j : Nat} (hi : i < n) (hj : j < n) (x : Int) (a b : Nat) : mg (mset M i j x) a b = if a = i ∧ b = j then x else mg M a b := by
  unfold mset mg
  by_cases e : a = i
  · subst e
    have eg : (M.set a ((M.getD a []).set j x)).getD a [] = (M.getD a []).set j x := by simp [List.getD, h.1, hi]
    rw [eg]
    have hl := h.2 a hi
    by_cases e2 : b = j
    · subst e2
      simp only [and_self, if_true]
      have : b < (M.getD a []).length := by omega
      generalize M.getD a [] = t at this
      simp [List.getD, this]
    · rw [if_neg (by simp [e2])]
      generalize M.getD a [] = t
      simp [List.getD, List.getElem?_set, Ne.symm e2]
  · have eg : (M.set i ((M.getD i []).set j x)).getD a [] = M.getD a [] := by simp [List.getD, List.getElem?_set, Ne.symm e]
    rw [eg, if_neg (by simp [e])]
/-- All numbers are 0 to B. -/
def Bd (B : Int) (M : List (List Int)) : Prop := ∀ i j, 0 ≤ mg M i j ∧ mg M i j ≤ B
theorem Bd.add {n : Nat} {M : List (List Int)} {B x : Int} (h : Bd B M) (hs : Sq n M) {i j : Nat} (hi : i < n) (hj : j < n) (hx : 0 ≤ x) : Bd (B + x) (madd M i j x) := fun a b => by
  unfold madd
  rw [mg_set hs hi hj]
  have h1 := h i j
  have h2 := h a b
  split <;> omega
theorem Sq.add {n : Nat} {M : List (List Int)} (h : Sq n M) (i j : Nat) (x : Int) : Sq n (madd M i j x) := h.set i j _
/-- x added at each of some places. -/
def cad (M : List (List Int)) (ps : List (Int × Int)) (x : Int) : List (List Int) := ps.foldl (fun M p => madd M p.1.toNat p.2.toNat x) M
theorem cad_snoc (M : List (List Int)) (ps : List (Int × Int)) (p : Int × Int) (x : Int) : cad M (ps ++ [p]) x = madd (cad M ps x) p.1.toNat p.2.toNat x := by simp [cad]
theorem cad_sq {n : Nat} {M : List (List Int)} (h : Sq n M) (ps : List (Int × Int)) (x : Int) : Sq n (cad M ps x) := by
  induction ps generalizing M with
  | nil => exact h
  | cons p ps ih => exact ih (h.add _ _ _)
theorem cad_bd {n : Nat} {M : List (List Int)} {B x : Int} (h : Bd B M) (hs : Sq n M) (hx : 0 ≤ x) (hx' : x ≤ 1000) (ps : List (Int × Int)) (hp : ∀ p ∈ ps, 0 ≤ p.1 ∧ p.1 < n ∧ 0 ≤ p.2 ∧ p.2 < n) : Bd (B + 1000 * ps.length) (cad M ps x) := by
  induction ps generalizing M B with
  | nil => simpa [cad] using h
  | cons p ps ih =>
    have h1 := hp p (by simp)
    have h2 := h.add hs (i := p.1.toNat) (j := p.2.toNat) (x := x) (by omega) (by omega) hx
    have h3 := ih h2 (hs.add _ _ _) (fun q hq => hp q (by simp [hq]))
    intro a b
    have := h3 a b
    have hc : (((p :: ps).length : Nat) : Int) = (ps.length : Int) + 1 := by simp
    rw [hc]
    show 0 ≤ mg (cad (madd M p.1.toNat p.2.toNat x) ps x) a b ∧ mg (cad (madd M p.1.toNat p.2.toNat x) ps x) a b ≤ _
    omega
theorem prU_len {β : Type} (d : β) (l : List β) (i : Nat) : (prU d l i).length ≤ i * l.length := by
  induction i with
  | zero => simp [prU_zero]
  | succ i ih => rw [prU_succ, List.length_append, prR_len, Nat.add_mul]; omega
theorem prs_mem {β : Type} (d : β) (l : List β) (p : β × β) (h : p ∈ prs d l) : p.1 ∈ l ∧ p.2 ∈ l := by
  simp only [prs, prU, List.mem_flatMap, List.mem_range, prR, List.mem_map] at h
  obtain ⟨i, hi, y, hy, rfl⟩ := h
  exact ⟨by simp [List.getD, hi], List.mem_of_mem_drop hy⟩
theorem prR_map {β γ : Type} (e : β → γ) (d : β) (l : List β) (i : Nat) (hi : i < l.length) : prR (e d) (l.map e) i = (prR d l i).map (Prod.map e e) := by
  simp [prR, List.getD, hi, List.map_drop, Function.comp_def]
theorem prU_map {β γ : Type} (e : β → γ) (d : β) (l : List β) (i : Nat) (hi : i ≤ l.length) : prU (e d) (l.map e) i = (prU d l i).map (Prod.map e e) := by
  induction i with
  | zero => rfl
  | succ i ih => rw [prU_succ, prU_succ, ih (by omega), prR_map e d l i (by omega), List.map_append]
theorem prs_map {β γ : Type} (e : β → γ) (d : β) (l : List β) : prs (e d) (l.map e) = (prs d l).map (Prod.map e e) := by
  unfold prs
  rw [List.length_map]
  exact prU_map e d l _ (Nat.le_refl _)
/-- The numbers below n. -/
abbrev Num (n : Nat) := { x : Int // 0 ≤ x ∧ x < (n : Int) }
theorem nums_of {n : Nat} : ∀ (l : List Int), (∀ x ∈ l, 0 ≤ x ∧ x < (n : Int)) → ∃ rl : List (Num n), rl.map Subtype.val = l
  | [], _ => ⟨[], rfl⟩
  | x :: l, h => by
    obtain ⟨rl, hr⟩ := nums_of l (fun y hy => h y (by simp [hy]))
    exact ⟨⟨x, h x (by simp)⟩ :: rl, by simp [hr]⟩
end Go.Proofs.Ytnpolmanebmmcaa
