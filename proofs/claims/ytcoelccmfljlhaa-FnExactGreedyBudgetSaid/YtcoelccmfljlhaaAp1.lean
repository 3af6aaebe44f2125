/- How many projects of a set each voter approves: the specification's list. -/
import Derived.Test.YtcoelccmfljlhaaEv8
import Derived.Test.YtcoelccmfljlhaaEv5
namespace Go.Proofs.Ytcoelccmfljlhaa
open Go.ChangeShapes Go.WideShapes Go.ChangeAt Go.RowKit Go.Deep
set_option linter.unusedSimpArgs false
set_option linter.unusedVariables false
theorem mem_selN {n : Nat} {P : Nat → Bool} {x : Int} : x ∈ selN n P ↔ ∃ i : Nat, i < n ∧ P i = true ∧ x = (i : Int) := by
  unfold selN
  simp only [List.mem_map, List.mem_filter, List.mem_range]
  constructor
  · rintro ⟨i, ⟨h1, h2⟩, rfl⟩; exact ⟨i, h1, h2, rfl⟩
  · rintro ⟨i, h1, h2, rfl⟩; exact ⟨i, ⟨h1, h2⟩, rfl⟩
theorem selN_nodup (n : Nat) (P : Nat → Bool) : (selN n P).Nodup := by
  unfold selN
  refine List.Pairwise.map _ (fun a b h e => h (by omega)) (List.Pairwise.filter _ List.nodup_range)
theorem nodup_at {l : List Int} (h : l.Nodup) {m : Nat} (hm : m < l.length) : ¬ l.getD m 0 ∈ l.take m := by
  intro hx
  obtain ⟨i, hi, e⟩ := List.getElem_of_mem hx
  rw [List.length_take] at hi
  have h1 := List.pairwise_iff_getElem.1 h i m (by omega) hm (by omega)
  apply h1
  rw [List.getElem_take] at e
  rw [e]
  simp [List.getD, hm]
theorem selN_at {n : Nat} {P : Nat → Bool} {m : Nat} (hm : m < (selN n P).length) : ∃ j : Nat, (selN n P).getD m 0 = (j : Int) ∧ j < n ∧ P j = true ∧ ¬ (j : Int) ∈ (selN n P).take m := by
  have h1 : (selN n P).getD m 0 ∈ selN n P := by
    have : (selN n P).getD m 0 = (selN n P)[m] := by simp [List.getD, hm]
    rw [this]; exact List.getElem_mem hm
  obtain ⟨i, h2, h3, h4⟩ := mem_selN.1 h1
  exact ⟨i, h4, h2, h3, by rw [← h4]; exact nodup_at (selN_nodup n P) hm⟩
theorem mem_take_succ {l : List Int} {m : Nat} (hm : m < l.length) (x : Int) : x ∈ l.take (m + 1) ↔ x ∈ l.take m ∨ x = l.getD m 0 := by
  have e : l.getD m 0 = l[m] := by simp [List.getD, hm]
  rw [List.take_add_one, List.getElem?_eq_getElem hm, e, List.mem_append]
  simp only [Option.toList_some, List.mem_singleton]
/-- How many of the first k numbers of t are in A. -/
def cnk (A t : List Int) (k : Nat) : Nat := ((t.take k).filter fun x => decide (x ∈ A)).length
theorem cnk_succ (A t : List Int) (k : Nat) (h : k < t.length) : cnk A t (k + 1) = cnk A t k + if t.getD k 0 ∈ A then 1 else 0 := by
  unfold cnk
  have e : t.getD k 0 = t[k] := by simp [List.getD, h]
  rw [List.take_add_one, List.getElem?_eq_getElem h, e, List.filter_append, List.length_append]
  congr 1
  by_cases hm : t[k] ∈ A <;> simp [hm]
theorem cnk_le (A t : List Int) (k : Nat) : cnk A t k ≤ k := by
  unfold cnk
  have h1 := List.length_filter_le (fun x => decide (x ∈ A)) (t.take k)
  have h2 := List.length_take_le k t
  omega
def apL (A : List (List Int)) (t : List Int) (n : Nat) : List Int := (List.range n).map fun i => (cnk (A.getD i []) t t.length : Int)
theorem apL_succ (A : List (List Int)) (t : List Int) (n : Nat) : apL A t (n + 1) = apL A t n ++ [(cnk (A.getD n []) t t.length : Int)] := by
  unfold apL
  rw [List.range_succ, List.map_append]; rfl
theorem apL_len (A : List (List Int)) (t : List Int) (n : Nat) : (apL A t n).length = n := by simp [apL]
set_option maxHeartbeats 2000000 in
set_option maxRecDepth 100000 in
theorem sapp (X : El) (c b hi p : Nat) (t : List Int) (tv : Value) (w : World) (h : ElR w c b hi X) (hp : ElAt w p X.1 (.slice (some ⟨c, 0, none⟩) X.2.1.length X.2.1.length) (.slice (some ⟨b, 0, none⟩) X.2.2.length X.2.2.length))
    (ht : RowV w tv t) (htl : t.length ≤ 1048576) :
    Calls Try.prog 51 #[.pointer (some ⟨p, 0, none⟩), tv] w fun e w' => (∃ v, e = .returned v ∧ OwI w' w.heap.size w'.heap.size v (apL X.2.2 t X.2.2.length)) ∧ Below w.heap.size w w' := by
  obtain ⟨i0, hi, hz0, hz1, hz2⟩ := info_parts infoI
  have hf := h.fits
  have hf2 := hf.2.1.1
  have HF := Lib.hid hf.2.1.2
  obtain ⟨M, C, A⟩ := X
  simp only at hp hf2 HF ⊢
  obtain ⟨p0, p1, p2, pl⟩ := hp
  have hr := h.rows
  simp only at hr
  obtain ⟨ta, tc, rfl⟩ := ht.shape
  have HT := Lib.hid ht
  have hown0 : (w.alloc (.cells #[] 2)).ownsRow w.heap.size 2 1 (.slice (some ⟨w.heap.size, 0, none⟩) 0 0) 0 (([] : List Int).map (Value.int .i64)) := World.ownsRow_lit w #[] 0 (Nat.le_refl _) (by unfold maxLen; omega) rfl
  have hb0 := (Below.refl w.heap.size w).alloc (Nat.le_refl _) (.cells #[] 2)
  clear h hf ht
  go_enter Try.func51, Try.ntmps51
  go_wp2
  go_loopg [5, 6] A.length (fun g v i wr => ∃ (k : Nat) (l : List Int), k ≤ A.length ∧ g = A.length - k ∧ i = .int .i64 k ∧ l.length ≤ k ∧ Hid (l = apL A t k) ∧ wr.ownsRow w.heap.size 2 1 v l.length (l.map (Value.int .i64)) ∧ Below w.heap.size w wr)
  case atStart => exact ⟨0, [], Nat.zero_le _, rfl, rfl, Nat.le_refl _, rfl, hown0, hb0⟩
  case round =>
    clear hown0 hb0
    obtain ⟨k, l, hk, rfl, rfl, hll, HL, hown, hb⟩ := hrel
    have z2 := (hb.cell (p := ⟨p, 2, none⟩) pl).trans p2
    by_cases hkn : k < A.length
    · have hlen := HF.out k hkn
      have hs := apL_succ A t k
      obtain ⟨T, hT⟩ : ∃ T, A.getD k [] = T := ⟨_, rfl⟩
      have HTT := Lib.hid hT
      rw [hT] at hs hlen
      have HS := Lib.hid hs
      have HO := Lib.hid hown
      have sw := hb.size
      clear hs hT hown
      obtain ⟨w2, rfl⟩ : ∃ w2, w2 = wr := ⟨_, rfl⟩
      go_wp2
      go_loopg [7, 8] t.length (fun g s i wi => ∃ j : Nat, j ≤ t.length ∧ g = t.length - j ∧ s = .int .i64 (cnk T t j : Int) ∧ i = .int .i64 j ∧ Drw w2 wi)
      case atStart => exact ⟨0, Nat.zero_le _, rfl, by simp [cnk], rfl, Drw.refl _⟩
      case round =>
        obtain ⟨j, hj, rfl, rfl, rfl, hdi⟩ := hrel
        have hbi := hb.trans (hdi.below.mono hb.size)
        have z2 := (hbi.cell (p := ⟨p, 2, none⟩) pl).trans p2
        have hcb := cnk_le T t j
        by_cases hml : j < t.length
        · obtain ⟨c', a1, a2⟩ := (hr.below hbi).at hkn
          rw [HTT.out] at a1 a2
          obtain ⟨x, cp, hx0, hx, hc⟩ := (HT.out.below hbi).cons (by intro h; subst h; simp at hml)
          obtain ⟨rfl, rfl⟩ : ta = some x ∧ tc = cp := by simpa [eq_comm] using hx0
          have c1 := hc j hml
          have hcs := cnk_succ T t j hml
          obtain ⟨y, hy⟩ : ∃ y, t.getD j 0 = y := ⟨_, rfl⟩
          rw [hy] at c1 hcs
          obtain ⟨z, hz⟩ : ∃ z, decide (y ∈ T) = z := ⟨_, rfl⟩
          have HH : ∀ n, Calls Try.prog 65 #[.slice (some ⟨c', 0, none⟩) T.length T.length, .int .i64 y] (wr.drewN n) fun e w' => e = .returned (.bool z) ∧ wr.drewN n = w' := fun n => by
            have := has_any (.slice (some ⟨c', 0, none⟩) T.length T.length) T y (wr.drewN n) ((OwnI.below a2 (below_drewN (Below.refl _ _) n)).row _) (by omega)
            rw [hz] at this
            exact this
          have HZ := Lib.hid hz
          have HC := Lib.hid hcs
          have HD := Lib.hid hdi
          generalize hcj : cnk T t j = cj at hcb HC ⊢
          clear hz hcs hy hc hx0 a2 hcj hdi
          cases z with
          | true =>
            go_wp2_with fail
            go_quiet ((first | (go_at_call 65; exact quiet_left (HH _))))
            go_wp2
            go_roundg (t.length - (j + 1))
            case measure => omega
            case rel => exact ⟨j + 1, by omega, rfl, by rw [HC.out, if_pos (of_decide_eq_true HZ.out)]; simp, by simp, HD.out.drewN _⟩
          | false =>
            go_wp2_with fail
            go_quiet ((first | (go_at_call 65; exact quiet_left (HH _))))
            go_wp2
            go_roundg (t.length - (j + 1))
            case measure => omega
            case rel => exact ⟨j + 1, by omega, rfl, by rw [HC.out, if_neg (of_decide_eq_false HZ.out)]; simp, by simp, HD.out.drewN _⟩
        · have e : j = t.length := by omega
          subst e
          have hown : wr.ownsRow w.heap.size 2 1 _ l.length (l.map (Value.int .i64)) := own_blockJ HO.out fun g _ hg => hdi.below.block g hg
          generalize hcn : cnk T t t.length = cn at hcb HS ⊢
          have HE : Hid (l ++ [(cn : Int)] = apL A t (k + 1)) := by show l ++ [(cn : Int)] = _; rw [HS.out, ← HL.out]
          have sw2 := hbi.size
          clear hdi HO hcn
          go_wp2_with (first
            | (at_builtin; refine wpList_append_own _ rfl _ _ 22 rfl w.heap.size 2 i0 (.int .i64 0) 1 8 Try.underlying22 hi hz0 hz1 hz2 rfl (by decide) _ _ _ rfl (hown.alloc _) ⟨wr.heap.size, 0, none⟩ 1 1 [.int .i64 (cn : Int)] rfl rfl ?c1 ?c2 ?c3 ?c4 ?c5 ?_))
          case c1 => exact World.news_of_block (cs := #[.int .i64 (cn : Int)]) (t := 2) (fr := (0, 0)) (heap_alloc_new wr _)
          case c2 => simp [Value.oneCell']
          case c3 => unfold maxLen; omega
          case c4 => omega
          case c5 => simp; omega
          intro v' w3 hown3 hgrow _
          have hb3 := (hbi.alloc (by omega) _).grown hgrow (by simp; omega) (fun x e => (hown.lt x e).1)
          have HO2 : Hid (w3.ownsRow w.heap.size 2 1 v' (l ++ [(cn : Int)]).length ((l ++ [(cn : Int)]).map (Value.int .i64))) := by rw [snoc_len', snoc_map']; exact hown3
          have HLN := Lib.hid (snoc_len' l (cn : Int))
          clear hown3 hgrow
          go_wp2
          go_roundg (A.length - (k + 1))
          case measure => omega
          case rel => exact ⟨k + 1, l ++ [(cn : Int)], by omega, rfl, by simp, by rw [HLN.out]; omega, HE, HO2.out, hb3⟩
    · have e : k = A.length := by omega
      subst e
      go_wp2
      go_ret
      refine ⟨⟨_, rfl, ?_⟩, hb⟩
      rw [← HL.out]
      exact ow_of_own hown (Nat.le_refl _) (by omega)
end Go.Proofs.Ytcoelccmfljlhaa
