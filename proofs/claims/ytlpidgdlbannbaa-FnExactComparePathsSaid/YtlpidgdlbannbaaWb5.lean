/- ComparePaths on both sides. -/
import Derived.Test.YtlpidgdlbannbaaWb1
import Derived.Test.YtlpidgdlbannbaaWb4
import Derived.Test.YtlpidgdlbannbaaK2v
namespace Go.Proofs.Ytlpidgdlbannbaa
open Go.ChangeShapes Go.WideShapes Go.ChangeAt Go.RowKit Go.Deep
set_option linter.unusedSimpArgs false
set_option linter.unusedVariables false
def Pnb (m : Int × Bool) (w : World) (e : Ending) (w' : World) : Prop := e = .returned (.tuple #[.int .i64 m.1, .bool m.2]) ∧ Below w.heap.size w w'
theorem Pnb.out {n : Int} {z : Bool} {w w' : World} {e : Ending} (h : Pnb (n, z) w e w') : e = .returned (.tuple #[.int .i64 n, .bool z]) ∧ Below w.heap.size w w' := h
def Qnb := Pnb
theorem Qnb.out {n : Int} {z : Bool} {w w' : World} {e : Ending} (h : Qnb (n, z) w e w') : e = .returned (.tuple #[.int .i64 n, .bool z]) ∧ Below w.heap.size w w' := h
noncomputable def mCmp (L : List Vc) (rule : Int) (p q : List Int) : Int × Bool := if cmpB L rule p q = true then (betterL L rule p q, true) else (0, false)
theorem mCmp_yes {L : List Vc} {rule : Int} {p q : List Int} (h : cmpB L rule p q = true) : mCmp L rule p q = (betterL L rule p q, true) := by unfold mCmp; rw [if_pos h]
theorem mCmp_no {L : List Vc} {rule : Int} {p q : List Int} (h : cmpB L rule p q = false) : mCmp L rule p q = (0, false) := by unfold mCmp; rw [if_neg (by rw [h]; decide)]
theorem inB_of {r : Int} (h : inB r 0 2 = true) : 0 ≤ r ∧ r ≤ 2 := by
  by_cases q : 0 ≤ r ∧ r ≤ 2
  · exact q
  · rw [inB_no q] at h; cases h
theorem kcmp_eq (L : List Vc) {rule : Int} {p q : List Int} (hp : 1 ≤ p.length) (hq : 1 ≤ q.length) (hr : 0 ≤ rule ∧ rule ≤ 2) : kcmp rule (rkL L p) (rkL L q) = betterL L rule p q := by
  have key : ∀ a b c d x : Int, (a < b ↔ c < d) → (b < a ↔ d < c) → (if cmpI a b = 0 then x else cmpI a b) = if c < d then -1 else if d < c then 1 else x := by
    intro a b c d x h1 h2
    unfold cmpI
    by_cases q1 : a < b
    · rw [if_pos q1, if_pos (h1.1 q1), if_neg (by decide)]
    · rw [if_neg q1, if_neg (fun e => q1 (h1.2 e))]
      by_cases q2 : b < a
      · rw [if_pos q2, if_pos (h2.1 q2), if_neg (by decide)]
      · rw [if_neg q2, if_neg (fun e => q2 (h2.2 e)), if_pos rfl]
  unfold kcmp betterL
  have e1 := rkL_len L p
  have e2 := rkL_len L q
  refine key _ _ _ _ _ ?_ ?_
  · unfold mes headBy
    by_cases h0 : rule = 0
    · rw [if_pos h0, if_pos h0, if_pos h0, if_pos h0]; omega
    · rw [if_neg h0, if_neg h0, if_neg h0, if_neg h0]
  · unfold mes headBy
    by_cases h0 : rule = 0
    · rw [if_pos h0, if_pos h0, if_pos h0, if_pos h0]; omega
    · rw [if_neg h0, if_neg h0, if_neg h0, if_neg h0]
theorem sCmp (L : List Vc) (rule : Int) (p q : List Int) (w : World) (lo hi : Nat) (u : Value) (h : CpV w lo hi u L) (hwf : (Lit.int .i64 rule).wf = true) (lo2 hi2 : Nat) (u2 : Value) (h2 : CpI w lo2 hi2 u2 p) (lo3 hi3 : Nat) (u3 : Value) (h3 : CpI w lo3 hi3 u3 q) :
    Calls Try.prog 27 #[u, .int .i64 rule, u2, u3] w (Pnb (mCmp L rule p q) w) := by
  obtain ⟨rfl, h1, -, hf⟩ := h
  obtain ⟨rfl, hp, -, hpl⟩ := h2
  obtain ⟨rfl, hq, -, hql⟩ := h3
  have HV : ∀ w', Below w.heap.size w w' → Calls Try.prog 51 #[.slice (some ⟨lo, 0, none⟩) L.length L.length] w' fun e w'' => e = .returned (.bool (okLB L)) ∧ Below w'.heap.size w' w'' := fun w' hw => sok_any L lo lo L.length w' (h1.below hw) hf
  have HP := fun w' (hw : Below w.heap.size w w') => spath_any L lo lo L.length lo2 p w' (h1.below hw) hf (hp.below hw) hpl
  have HQ := fun w' (hw : Below w.heap.size w w') => spath_any L lo lo L.length lo3 q w' (h1.below hw) hf (hq.below hw) hql
  have hc : cmpB L rule p q = (okLB L && inB rule 0 2 && pathB L p && pathB L q && headEq p q) := rfl
  cases hz : okLB L with
  | false =>
    rw [mCmp_no (by rw [hc, hz]; rfl)]
    rw [hz] at HV
    exact sCmp1 L lo L.length lo2 lo3 rule p q w hf.1 HV
  | true =>
    rw [hz] at HV
    cases hr : inB rule 0 2 with
    | false =>
      rw [mCmp_no (by rw [hc, hz, hr]; rfl)]
      exact sCmp2 L lo L.length lo2 lo3 rule p q w hf.1 HV hr
    | true =>
      cases hy : pathB L p with
      | false =>
        rw [mCmp_no (by rw [hc, hz, hr, hy]; rfl)]
        rw [hy] at HP
        exact sCmp3 L lo L.length lo2 lo3 rule p q w hf.1 HV hr HP
      | true =>
        rw [hy] at HP
        cases hx : pathB L q with
        | false =>
          rw [mCmp_no (by rw [hc, hz, hr, hy, hx]; rfl)]
          rw [hx] at HQ
          exact sCmp4 L lo L.length lo2 lo3 rule p q w hf.1 HV hr HP HQ
        | true =>
          rw [hx] at HQ
          have o1 := path_of hy
          have o2 := path_of hx
          obtain ⟨l1, c1⟩ := hp.head o1.1
          obtain ⟨l2, c2⟩ := hq.head o2.1
          by_cases hh : p.getD 0 0 = q.getD 0 0
          · rw [mCmp_yes (by rw [hc, hz, hr, hy, hx]; unfold headEq; simpa using hh)]
            exact sCmp6 L lo L.length lo2 lo3 rule p q w hf.1 HV hr HP HQ _ _ o1.1 o2.1 hpl hql l1 l2 c1 c2 hh _ (fun w' hw => sbetter L rule lo lo L.length lo2 lo3 p q w' (h1.below hw) hf (hp.below hw) (hq.below hw) hpl hql o1 o2 (inB_of hr))
          · rw [mCmp_no (by rw [hc, hz, hr, hy, hx]; unfold headEq; simpa using hh)]
            exact sCmp5 L lo L.length lo2 lo3 rule p q w hf.1 HV hr HP HQ _ _ o1.1 o2.1 hpl hql l1 l2 c1 c2 hh
theorem iranks' (L : List Vc) (lo bp : Nat) (p : List Int) (w : World) (h : Vs w lo lo L) (hf : Fits L) (hp : OwnI w bp p) (hl : p.length ≤ 1048576) :
    Calls Try.prog 23 #[.slice (some ⟨lo, 0, none⟩) L.length L.length, .slice (some ⟨bp, 0, none⟩) p.length p.length] w fun e w' => (∃ v, e = .returned (.tuple #[v, .bool (pB L p)]) ∧ RowV w' v (if pB L p = true then rkL L p else [])) ∧ Below w.heap.size w w' := by
  refine (iranks L lo lo L.length bp p w h hf hp hl).mono ?_
  rintro e w' ⟨he, hb⟩
  cases hz : pB L p with
  | false =>
    rw [hz] at he
    exact ⟨⟨_, he, .inl ⟨rfl, rfl⟩⟩, hb⟩
  | true =>
    rw [hz] at he
    obtain ⟨c, -, he, ho⟩ := he
    refine ⟨⟨_, he, ?_⟩, hb⟩
    rw [← rkL_len L p]
    exact ho.row _
theorem iCmp (L : List Vc) (rule : Int) (p q : List Int) (w : World) (lo hi : Nat) (u : Value) (h : CpV w lo hi u L) (hwf : (Lit.int .i64 rule).wf = true) (lo2 hi2 : Nat) (u2 : Value) (h2 : CpI w lo2 hi2 u2 p) (lo3 hi3 : Nat) (u3 : Value) (h3 : CpI w lo3 hi3 u3 q) :
    Calls Try.prog 28 #[u, .int .i64 rule, u2, u3] w (Qnb (mCmp L rule p q) w) := by
  obtain ⟨rfl, h1, -, hf⟩ := h
  obtain ⟨rfl, hp, -, hpl⟩ := h2
  obtain ⟨rfl, hq, -, hql⟩ := h3
  have HP := fun w' (hw : Below w.heap.size w w') => iranks' L lo lo2 p w' (h1.below hw) hf (hp.below hw) hpl
  have HQ := fun w' (hw : Below w.heap.size w w') => iranks' L lo lo3 q w' (h1.below hw) hf (hq.below hw) hql
  have hc : cmpB L rule p q = (inB rule 0 2 && pB L p && pB L q && headEq p q) := by
    unfold cmpB pB
    cases okLB L <;> cases inB rule 0 2 <;> cases pathB L p <;> cases pathB L q <;> rfl
  cases hr : inB rule 0 2 with
  | false =>
    rw [mCmp_no (by rw [hc, hr]; rfl)]
    exact iCmp1 L lo L.length lo2 lo3 rule p q w .nilFunc (fun _ => True) ((rby_none rule w hr).mono fun e w' ⟨a, b⟩ => ⟨a, trivial, b⟩) _ HP _ HQ
  | true =>
    have hrr := inB_of hr
    have h3r : rule = 0 ∨ rule = 1 ∨ rule = 2 := by omega
    have HK : ∃ m : FuncId, (Calls Try.prog 62 #[.int .i64 rule] w fun e w' => e = .returned (.tuple #[.func (.func 95) #[] #[.pointer (some ⟨w.heap.size, 0, none⟩)], .bool true]) ∧ (w'.cell? ⟨w.heap.size, 0, none⟩ = some (.func (.func m) #[] #[]) ∧ w.heap.size < w'.heap.size) ∧ Below w.heap.size w w') ∧
        ∀ w' v1 v2, (w'.cell? ⟨w.heap.size, 0, none⟩ = some (.func (.func m) #[] #[]) ∧ w.heap.size < w'.heap.size) → RowV w' v1 (rkL L p) → RowV w' v2 (rkL L q) → Calls Try.prog 95 #[v1, v2, .pointer (some ⟨w.heap.size, 0, none⟩)] w' fun e w'' => e = .returned (.int .i64 (kcmp rule (rkL L p) (rkL L q))) ∧ Below w'.heap.size w' w'' := by
      have n1 : (rkL L p).length ≤ 1048576 := by have := rkL_len L p; omega
      have n2 : (rkL L q).length ≤ 1048576 := by have := rkL_len L q; omega
      rcases h3r with rfl | rfl | rfl
      · exact ⟨_, (rby_0 w).mono fun e w' ⟨⟨a, b, c⟩, d⟩ => ⟨a, ⟨b, c⟩, d⟩, fun w' v1 v2 hc r1 r2 => cmp4_0 w.heap.size v1 v2 _ _ w' hc.1 hc.2 r1 r2 n1 n2 (rkL_bd hf p) (rkL_bd hf q)⟩
      · exact ⟨_, (rby_1 w).mono fun e w' ⟨⟨a, b, c⟩, d⟩ => ⟨a, ⟨b, c⟩, d⟩, fun w' v1 v2 hc r1 r2 => cmp4_1 w.heap.size v1 v2 _ _ w' hc.1 hc.2 r1 r2 n1 n2 (rkL_bd hf p) (rkL_bd hf q)⟩
      · exact ⟨_, (rby_2 w).mono fun e w' ⟨⟨a, b, c⟩, d⟩ => ⟨a, ⟨b, c⟩, d⟩, fun w' v1 v2 hc r1 r2 => cmp4_2 w.heap.size v1 v2 _ _ w' hc.1 hc.2 r1 r2 n1 n2 (rkL_bd hf p) (rkL_bd hf q)⟩
    obtain ⟨m, HK, HB⟩ := HK
    have hCL : ∀ w1 w2 : World, (w1.cell? ⟨w.heap.size, 0, none⟩ = some (.func (.func m) #[] #[]) ∧ w.heap.size < w1.heap.size) → Below w1.heap.size w1 w2 → (w2.cell? ⟨w.heap.size, 0, none⟩ = some (.func (.func m) #[] #[]) ∧ w.heap.size < w2.heap.size) := fun w1 w2 hc hb => ⟨(hb.cell (p := ⟨w.heap.size, 0, none⟩) hc.2).trans hc.1, Nat.lt_of_lt_of_le hc.2 hb.size⟩
    cases hy : pB L p with
    | false =>
      rw [mCmp_no (by rw [hc, hr, hy]; rfl)]
      simp only [hy] at HP
      exact iCmp2 L lo L.length lo2 lo3 rule p q w _ _ HK HP _ HQ
    | true =>
      simp only [hy] at HP
      cases hx : pB L q with
      | false =>
        rw [mCmp_no (by rw [hc, hr, hy, hx]; rfl)]
        simp only [hx] at HQ
        exact iCmp3 L lo L.length lo2 lo3 rule p q w _ _ HK HP HQ
      | true =>
        simp only [hx] at HQ
        have o1 : pathOk L p := path_of (by unfold pB at hy; simpa using (Bool.and_eq_true_iff.1 hy).2)
        have o2 : pathOk L q := path_of (by unfold pB at hx; simpa using (Bool.and_eq_true_iff.1 hx).2)
        obtain ⟨l1, c1⟩ := hp.head o1.1
        obtain ⟨l2, c2⟩ := hq.head o2.1
        by_cases hh : p.getD 0 0 = q.getD 0 0
        · rw [mCmp_yes (by rw [hc, hr, hy, hx]; unfold headEq; simpa using hh)]
          rw [← kcmp_eq L o1.1 o2.1 hrr]
          exact iCmp5 L lo L.length lo2 lo3 rule p q w _ _ hCL HK HP HQ _ _ o1.1 o2.1 hpl hql l1 l2 c1 c2 hh _ 0 #[] rfl HB
        · rw [mCmp_no (by rw [hc, hr, hy, hx]; unfold headEq; simpa using hh)]
          exact iCmp4 L lo L.length lo2 lo3 rule p q w _ _ hCL HK HP HQ _ _ o1.1 o2.1 hpl hql l1 l2 c1 c2 hh
end Go.Proofs.Ytlpidgdlbannbaa
