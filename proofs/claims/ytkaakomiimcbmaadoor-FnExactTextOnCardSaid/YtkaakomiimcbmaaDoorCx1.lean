/- slices.Concat of one number and a list of few; whom a member can trust. -/
import Derived.Test.YtkaakomiimcbmaaDoorVo8
import Derived.Lib.SliceRun
namespace Go.Proofs.YtkaakomiimcbmaaDoor
open Go.ChangeShapes Go.WideShapes Go.ChangeAt Go.RowKit Go.Deep
set_option linter.unusedSimpArgs false
set_option linter.unusedVariables false
theorem info_px {P : Program} {t : TypeId} {z : Value} {s b : Nat} (h : (P.info? t).map (fun i => (i.zero, i.size, i.bytes)) = some (some z, s, b)) : ∃ i, P.info? t = some i ∧ i.zero = some z ∧ i.size = s ∧ i.bytes = b := by
  obtain ⟨i, hi, hzz⟩ := Option.map_eq_some_iff.1 h
  simp only [Prod.mk.injEq] at hzz
  exact ⟨i, hi, hzz.1, hzz.2.1, hzz.2.2⟩
theorem rowx_of_own {w : World} {base : Nat} {v : Value} {l : List Int} (h : w.ownsRow base 2 1 v l.length (l.map (Value.int .i64))) : RowV w v l := by
  obtain ⟨_, h⟩ := h
  rcases h with ⟨rfl, h0⟩ | ⟨g, cap, cur, rfl, hb, hg, hn, hcap, hs, ht⟩
  · exact .inl ⟨rfl, List.eq_nil_of_length_eq_zero h0⟩
  · refine .inr ⟨_, cap, rfl, fun _ => (Array.getElem?_eq_some_iff.1 hg).1, fun i hi => ?_⟩
    have h1 : (cur.toList.take (l.length * 1))[i]? = (l.map (Value.int .i64))[i]? := by rw [ht]
    rw [Nat.mul_one, List.getElem?_take_of_lt hi, Array.getElem?_toList] at h1
    have hr : w.rowIs g 2 cur.size (fun i => (cur[i]?).getD (.bool false)) := ⟨cur, hg, rfl, fun i hi => by simp [hi]⟩
    have hi' : i < cur.size := by
      have : (l.map (Value.int .i64))[i]? = some (.int .i64 (l.getD i 0)) := by simp [List.getD, hi]
      rw [this] at h1
      exact (Array.getElem?_eq_some_iff.1 h1).1
    rw [Addr.add_lit, Nat.zero_add, hr.cell hi']
    simp [h1, List.getD, hi]
/-- The lists that are joined, and what has been joined of them. -/
def lsx (s : Int) (l : List Int) (k : Nat) : List Int := if k = 0 then [s] else l
def ctx (s : Int) (l : List Int) (k : Nat) : List Int := if k = 0 then [] else if k = 1 then [s] else s :: l
theorem ctx_step (s : Int) (l : List Int) {k : Nat} (h : k < 2) : ctx s l (k + 1) = ctx s l k ++ lsx s l k := by
  match k, h with
  | 0, _ => rfl
  | 1, _ => rfl
theorem lsx_len (s : Int) (l : List Int) (k : Nat) (h : l.length ≤ 1000000) : (lsx s l k).length ≤ 1000000 := by
  unfold lsx; split
  · simp
  · exact h
theorem ctx_len (s : Int) (l : List Int) (k : Nat) (h : l.length ≤ 1000000) : (ctx s l k).length ≤ 1000001 := by
  unfold ctx; split
  · simp
  · split
    · simp
    · simp; omega
theorem map_appx (l m : List Int) : (l ++ m).map (Value.int .i64) = l.map (Value.int .i64) ++ m.map (Value.int .i64) := by simp
theorem allDiff_cons {n : Nat} {m : Int} {t : List Int} : allDiff n (m :: t) ↔ (0 ≤ m ∧ m < (n : Int)) ∧ ¬ m ∈ t ∧ allDiff n t := by
  constructor
  · intro h
    have h0 := h 0 (by simp)
    refine ⟨⟨h0.1, h0.2.1⟩, fun hm => ?_, fun j hj => ?_⟩
    · obtain ⟨j, hj, e⟩ := List.mem_iff_getElem.1 hm
      have := (h (j + 1) (by simp; omega)).2.2
      simp [List.getD, hj, e] at this
    · have := h (j + 1) (by simp; omega)
      simp only [List.getD_cons_succ, List.take_succ_cons, List.mem_cons, not_or] at this
      exact ⟨this.1, this.2.1, this.2.2.2⟩
  · rintro ⟨⟨h1, h2⟩, h3, h4⟩ j hj
    cases j with
    | zero => exact ⟨h1, h2, by simp⟩
    | succ j =>
      have hj' : j < t.length := by simpa using hj
      obtain ⟨a, b, c⟩ := h4 j hj'
      simp only [List.getD_cons_succ, List.take_succ_cons, List.mem_cons, not_or]
      refine ⟨a, b, fun e => h3 ?_, c⟩
      rw [← e]
      simp [List.getD, hj']
/-- Whether a member of n can trust those of l. -/
noncomputable def trB (n : Nat) (m : Int) (l : List Int) : Bool := decide (l.length ≤ 4) && allDiffB n (m :: l)
end Go.Proofs.YtkaakomiimcbmaaDoor
