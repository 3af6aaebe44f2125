/- Two paths compared by a rule: the specification's l02Better by contracts. -/
import Derived.Test.YtlpidgdlbannbaaWa1
namespace Go.Proofs.Ytlpidgdlbannbaa
open Go.ChangeShapes Go.WideShapes Go.ChangeAt Go.RowKit Go.Deep
set_option linter.unusedSimpArgs false
set_option linter.unusedVariables false
/-- What a rule looks at before it looks at the ranks one after another. -/
def headBy (L : List Vc) (rule : Int) (p : List Int) : Int :=
  if rule = 0 then p.length else if rule = 1 then sumTo (rkL L p) (rkL L p).length else 0
def betterL (L : List Vc) (rule : Int) (p q : List Int) : Int :=
  if headBy L rule p < headBy L rule q then -1 else if headBy L rule q < headBy L rule p then 1 else lessL (rkL L p) (rkL L q)
theorem vAt_len {L : List Vc} (hf : Fits L) (y : Int) : (vAt L y).2.length ≤ 1048576 := by
  unfold vAt
  by_cases h : y.toNat < L.length
  · exact hf.2 _ h
  · have e : L.getD y.toNat (false, []) = (false, []) := by simp [List.getD, List.getElem?_eq_none (by omega : L.length ≤ y.toNat)]
    rw [e]; simp
theorem rkL_bd {L : List Vc} (hf : Fits L) (p : List Int) : ∀ n ∈ rkL L p, -2000000 ≤ n ∧ n ≤ 2000000 := by
  intro n hn
  simp only [rkL, List.mem_map, List.mem_range] at hn
  obtain ⟨i, _, rfl⟩ := hn
  have h1 := ix_bd (vAt L (p.getD i 0)).2 (p.getD (i + 1) 0)
  have h2 := vAt_len hf (p.getD i 0)
  omega
set_option maxHeartbeats 1000000 in
set_option maxRecDepth 100000 in
theorem sbetter (L : List Vc) (rule : Int) (B b cap bp bq : Nat) (p q : List Int) (w : World) (h : Vs w B b L) (hf : Fits L) (hp : OwnI w bp p) (hq : OwnI w bq q) (hl : p.length ≤ 1048576) (hlq : q.length ≤ 1048576) (hok : pathOk L p) (hoq : pathOk L q) (hr : 0 ≤ rule ∧ rule ≤ 2) :
    Calls Try.prog 61 #[.slice (some ⟨b, 0, none⟩) L.length cap, .int .i64 rule, .slice (some ⟨bp, 0, none⟩) p.length p.length, .slice (some ⟨bq, 0, none⟩) q.length q.length] w fun e w' => e = .returned (.int .i64 (betterL L rule p q)) ∧ Below w.heap.size w w' := by
  have n1 : (rkL L p).length ≤ 1048576 := by have := rkL_len L p; omega
  have n2 : (rkL L q).length ≤ 1048576 := by have := rkL_len L q; omega
  have bd1 := Lib.hid (rkL_bd hf p)
  have bd2 := Lib.hid (rkL_bd hf q)
  have S1 := fun w' (hw : Below w.heap.size w w') => sranks L B b cap bp p w' (h.below hw) hf (hp.below hw) hl hok
  have S2 := fun w' (hw : Below w.heap.size w w') => sranks L B b cap bq q w' (h.below hw) hf (hq.below hw) hlq hoq
  have hE : betterL L rule p q = if headBy L rule p < headBy L rule q then -1 else if headBy L rule q < headBy L rule p then 1 else lessL (rkL L p) (rkL L q) := rfl
  have HE := Lib.hid hE
  have hA : headBy L rule p = if rule = 0 then (p.length : Int) else if rule = 1 then sumTo (rkL L p) (rkL L p).length else 0 := rfl
  have hC : headBy L rule q = if rule = 0 then (q.length : Int) else if rule = 1 then sumTo (rkL L q) (rkL L q).length else 0 := rfl
  have HA := Lib.hid hA
  have HC := Lib.hid hC
  obtain ⟨r1, hr1⟩ : ∃ r, rkL L p = r := ⟨_, rfl⟩
  obtain ⟨r2, hr2⟩ : ∃ r, rkL L q = r := ⟨_, rfl⟩
  rw [hr1, hr2] at HE
  rw [hr1] at HA n1 bd1 S1
  rw [hr2] at HC n2 bd2 S2
  clear hE hA hC hr1 hr2 hp hq h hok hoq hf
  obtain ⟨y, hy⟩ : ∃ y, headBy L rule p = y := ⟨_, rfl⟩
  obtain ⟨z, hz⟩ : ∃ z, headBy L rule q = z := ⟨_, rfl⟩
  obtain ⟨t, ht⟩ : ∃ t, betterL L rule p q = t := ⟨_, rfl⟩
  rw [hy, hz, ht] at HE
  rw [hy] at HA
  rw [hz] at HC
  rw [ht]
  clear hy hz ht
  go_enter Try.func61, Try.ntmps61
  go_wp2_with fail
  refine (S1 _ (Below.refl _ _)).mono ?_
  rintro e w1 ⟨⟨v, rfl, hv, _⟩, b1⟩
  go_wp2_with fail
  refine (S2 _ b1).mono ?_
  rintro e w2 ⟨⟨v', rfl, hv', _⟩, hb2⟩
  have hv2 := hv.below hb2
  have b2 := b1.trans (hb2.mono b1.size)
  clear S1 S2 hv hb2
  have L2 := sless_gen v v' r1 r2 w2 hv2 hv' n1 n2
  by_cases e0 : rule = 0
  · subst e0
    have ya : y = p.length := by rw [HA.out]; rfl
    have za : z = q.length := by rw [HC.out]; rfl
    rcases Int.lt_trichotomy (p.length : Int) (q.length : Int) with c | c | c
    · have := HE.out; rw [ya, za, if_pos c] at this; subst this
      clear HE HA HC ya za L2
      go_wp2
      go_ret
      exact ⟨rfl, b2⟩
    · have := HE.out; rw [ya, za, if_neg (by omega), if_neg (by omega)] at this; subst this
      clear HE HA HC ya za
      go_wp2_with fail
      refine L2.mono ?_
      rintro e w3 ⟨rfl, hb3⟩
      go_wp2
      go_ret
      exact ⟨rfl, b2.trans (hb3.mono b2.size)⟩
    · have := HE.out; rw [ya, za, if_neg (by omega), if_pos c] at this; subst this
      clear HE HA HC ya za L2
      go_wp2
      go_ret
      exact ⟨rfl, b2⟩
  by_cases e1 : rule = 1
  · subst e1
    have ya : y = sumTo r1 r1.length := by rw [HA.out]; rfl
    have za : z = sumTo r2 r2.length := by rw [HC.out]; rfl
    rw [ya, za] at HE
    clear HA HC ya za
    have M1 := ssum_any v r1 w2 hv2 n1 bd1.out
    have M2 := ssum_any v' r2 w2 hv' n2 bd2.out
    obtain ⟨x1, g1⟩ : ∃ x, sumTo r1 r1.length = x := ⟨_, rfl⟩
    obtain ⟨x2, g2⟩ : ∃ x, sumTo r2 r2.length = x := ⟨_, rfl⟩
    rw [g1] at HE M1
    rw [g2] at HE M2
    clear g1 g2
    go_wp2_with fail
    refine M1.mono ?_
    rintro e w3 ⟨rfl, rfl⟩
    go_wp2_with fail
    refine M2.mono ?_
    rintro e w3 ⟨rfl, rfl⟩
    rcases Int.lt_trichotomy x1 x2 with c | c | c
    · have := HE.out; rw [if_pos c] at this; subst this
      clear HE L2
      go_wp2
      go_ret
      exact ⟨rfl, b2⟩
    · have := HE.out; rw [if_neg (by omega), if_neg (by omega)] at this; subst this
      clear HE
      go_wp2_with fail
      refine L2.mono ?_
      rintro e w3 ⟨rfl, hb3⟩
      go_wp2
      go_ret
      exact ⟨rfl, b2.trans (hb3.mono b2.size)⟩
    · have := HE.out; rw [if_neg (by omega), if_pos c] at this; subst this
      clear HE L2
      go_wp2
      go_ret
      exact ⟨rfl, b2⟩
  have ya : y = 0 := by rw [HA.out, if_neg e0, if_neg e1]
  have za : z = 0 := by rw [HC.out, if_neg e0, if_neg e1]
  have := HE.out; rw [ya, za, if_neg (by omega), if_neg (by omega)] at this; subst this
  clear HE HA HC ya za
  go_wp2_with fail
  refine L2.mono ?_
  rintro e w3 ⟨rfl, hb3⟩
  go_wp2
  go_ret
  exact ⟨rfl, b2.trans (hb3.mono b2.size)⟩
end Go.Proofs.Ytlpidgdlbannbaa
