/- RaiseOption: what both sides reckon; places in a ranking. -/
import Derived.Test.YtnpolmanebmmcaaRv2
import Derived.Test.YtnpolmanebmmcaaCn1
import Derived.Deep.AppendLies
namespace Go.Proofs.Ytnpolmanebmmcaa
open Go.ChangeShapes Go.WideShapes Go.ChangeAt Go.RowKit Go.Deep
set_option linter.unusedSimpArgs false
set_option linter.unusedVariables false
theorem nod_len : ∀ (n : Nat) (l : List Int), l.Nodup → (∀ x ∈ l, 0 ≤ x ∧ x < (n : Int)) → l.length ≤ n
  | 0, l, _, h => by
    cases l with
    | nil => simp
    | cons x l => have := h x (by simp); omega
  | n + 1, l, hn, h => by
    have h1 := nod_len n (l.erase (n : Int)) (hn.erase _) (fun x hx => by
      have hx' := (hn.mem_erase_iff).1 hx
      have h2 := h x hx'.2
      have h3 := hx'.1
      omega)
    by_cases hm : (n : Int) ∈ l
    · have := List.length_erase_of_mem hm
      omega
    · rw [List.erase_of_not_mem hm] at h1
      omega
theorem allDiff_nodup {n : Nat} {l : List Int} (h : allDiff n l) : l.Nodup := by
  unfold List.Nodup
  rw [List.pairwise_iff_getElem]
  intro i j hi hj hij e
  refine (h j hj).2.2 ?_
  have e1 : l.getD j 0 = l[j] := by simp [List.getD, hj]
  have e2 : l[i] = (l.take j)[i]'(by simp; omega) := by simp
  rw [e1, ← e, e2]
  exact List.getElem_mem _
/-- A ranking has each option. -/
theorem rk_has {n : Nat} {l : List Int} (h : rkOk n l) {o : Int} (h0 : 0 ≤ o) (h1 : o < (n : Int)) : o ∈ l := Decidable.byContradiction fun hm => by
  have h2 := nod_len n (o :: l) (List.nodup_cons.2 ⟨hm, allDiff_nodup h.2⟩) (fun x hx => by
    rcases List.mem_cons.1 hx with rfl | hx
    · exact ⟨h0, h1⟩
    · exact allDiff_mem h.2 x hx)
  have h3 := h.1
  simp at h2
  omega
theorem ix_at {l : List Int} {o : Int} (h : o ∈ l) : ∃ p : Nat, ix l o = (p : Int) ∧ p < l.length ∧ l.getD p 0 = o := by
  obtain ⟨b1, b2, b3⟩ := ix_bd l o
  have h0 := b3.2 h
  have key : ∃ p, p < l.length ∧ l.getD p 0 = o ∧ ∀ j, j < p → l.getD j 0 ≠ o := by
    clear b1 b2 b3 h0
    induction l with
    | nil => simp at h
    | cons x l ih =>
      by_cases e : x = o
      · exact ⟨0, by simp, by simpa [List.getD] using e, fun j hj => absurd hj (Nat.not_lt_zero _)⟩
      · have hm : o ∈ l := by
          rcases List.mem_cons.1 h with q | q
          · exact absurd q.symm e
          · exact q
        obtain ⟨p, p1, p2, p3⟩ := ih hm
        refine ⟨p + 1, by simp; omega, by simpa [List.getD] using p2, fun j hj => ?_⟩
        cases j with
        | zero => simpa [List.getD] using e
        | succ j => simpa [List.getD] using p3 j (by omega)
  obtain ⟨p, p1, p2, p3⟩ := key
  refine ⟨p, ix_hit p1 ?_ (fun j hj hjp => ?_), p1, p2⟩
  · rw [← p2]; simp [List.getD, p1]
  · have := p3 j hjp
    simpa [List.getD, hj] using this
/-- The options at places p - 1 and p exchanged. -/
def rz (l : List Int) (p : Nat) : List Int := (l.set p (l.getD (p - 1) 0)).set (p - 1) (l.getD p 0)
def raOk (X : Pr) (k o : Int) : Prop := pOk X ∧ 0 ≤ k ∧ k < (X.1.length : Int) ∧ 1 ≤ ix (X.1.getD k.toNat []) o
open Classical in
noncomputable def mRa (X : Pr) (k o : Int) : Pr × Bool := if raOk X k o then ((X.1.set k.toNat (rz (X.1.getD k.toNat []) (ix (X.1.getD k.toNat []) o).toNat), X.2), true) else (([], []), false)
theorem mRa_yes {X : Pr} {k o : Int} (h : raOk X k o) : mRa X k o = ((X.1.set k.toNat (rz (X.1.getD k.toNat []) (ix (X.1.getD k.toNat []) o).toNat), X.2), true) := by simp [mRa, h]
theorem mRa_no {X : Pr} {k o : Int} (h : ¬ raOk X k o) : mRa X k o = (([], []), false) := by simp [mRa, h]
set_option maxHeartbeats 1000000 in
theorem splace (v : Value) (l : List Int) (o : Int) (w : World) (h : RowV w v l) (hl : l.length ≤ 1048576) (ho : o ∈ l) :
    Calls Try.prog 48 #[v, .int .i64 o] w fun e w' => e = .returned (.int .i64 (ix l o)) ∧ w = w' := by
  obtain ⟨x, cap, rfl, hx, hc⟩ := h.cons (by intro e; rw [e] at ho; simp at ho)
  clear h
  go_enter Try.func48, Try.ntmps48
  go_wp2
  go_loopg [5] l.length (fun g i wr => ∃ k : Nat, k < l.length ∧ g = l.length - k ∧ i = .int .i64 k ∧ w = wr ∧ Hid (∀ j, j < k → l.getD j 0 ≠ o))
  case atStart => exact ⟨0, by (have := List.length_pos_of_mem ho); omega, rfl, rfl, rfl, fun j hj => absurd hj (Nat.not_lt_zero _)⟩
  case round =>
    obtain ⟨k, hk, rfl, rfl, rfl, HK⟩ := hrel
    have c1 := hc k hk
    obtain ⟨y, hy⟩ : ∃ y, l.getD k 0 = y := ⟨_, rfl⟩
    rw [hy] at c1
    have HY := Lib.hid hy
    have HO := Lib.hid ho
    clear hy hc ho
    by_cases e : y = o
    · subst e
      go_wp2
      go_ret
      refine ⟨?_, rfl⟩
      rw [ix_hit hk (by have := HY.out; simpa [List.getD, hk] using this) (fun j hj hjk => by have := HK.out j hjk; simpa [List.getD, hj] using this)]
      rfl
    · have hk1 : k + 1 < l.length := by
        by_cases q : k + 1 < l.length
        · exact q
        · exfalso
          obtain ⟨j, hj, hje⟩ := List.getElem_of_mem HO.out
          by_cases q2 : j = k
          · subst q2
            have := HY.out
            simp [List.getD, hj] at this
            exact e (by rw [← this, hje])
          · have := HK.out j (by omega)
            simp [List.getD, hj] at this
            exact this hje
      have HE := Lib.hid e
      go_wp2
      go_roundg (l.length - (k + 1))
      case measure => omega
      case rel =>
        refine ⟨k + 1, hk1, rfl, by simp, rfl, fun j hj => ?_⟩
        by_cases q : j = k
        · subst q; rw [HY.out]; exact HE.out
        · exact HK.out j (by omega)
theorem soption (p b c : Nat) (X : Pr) (w : World) (h : PrX w p b c X) (hok : pOk X) (o : Int) :
    Calls Try.prog 47 #[.pointer (some ⟨p, 0, none⟩), .int .i64 o] w fun e w' => e = .returned (.bool (inB o 0 ((nop X : Int) - 1))) ∧ w = w' := by
  have HC := scnt p b c X w h hok.1
  have hn : (X.1.getD 0 []).length = nop X := rfl
  rw [hn] at HC
  have h6 : nop X ≤ 6 := hok.2.2.2.2.1
  obtain ⟨n, hnn⟩ : ∃ n, nop X = n := ⟨_, rfl⟩
  rw [hnn] at HC h6 ⊢
  have wq : IntKind.i64.wrap ((n : Int) - 1) = (n : Int) - 1 := by rw [IntKind.wrap_i64]; omega
  obtain ⟨z, hz⟩ : ∃ z, inB o 0 ((n : Int) - 1) = z := ⟨_, rfl⟩
  have HIN := in_val o 0 ((n : Int) - 1) w
  rw [hz] at HIN ⊢
  clear h hok hn hnn hz
  go_enter Try.func47, Try.ntmps47
  go_wp2_with fail
  refine HC.mono ?_
  rintro e w1 ⟨rfl, rfl⟩
  go_wp2_with fail
  refine HIN.mono ?_
  rintro e w1 ⟨rfl, rfl⟩
  go_wp2
  go_ret
  exact ⟨rfl, rfl⟩
end Go.Proofs.Ytnpolmanebmmcaa
