/- The specification's look at a list of voices, by its contract. -/
import Derived.Test.YtlpidgdlbannbabDoorVo5
namespace Go.Proofs.YtlpidgdlbannbabDoor
open Go.ChangeShapes Go.WideShapes Go.ChangeAt Go.RowKit Go.Deep
set_option linter.unusedSimpArgs false
set_option linter.unusedVariables false
/-- Element m of the list t of member i is another member, and a new one. -/
def elOk (n i : Nat) (t : List Int) (m : Nat) : Prop := 0 ≤ t.getD m 0 ∧ t.getD m 0 ≤ (n : Int) - 1 ∧ t.getD m 0 ≠ (i : Int) ∧ ¬ t.getD m 0 ∈ t.take m
def trOk (n i : Nat) (t : List Int) : Prop := t.length ≤ 4 ∧ ∀ m, m < t.length → elOk n i t m
def okL (L : List Vc) : Prop := 1 ≤ L.length ∧ L.length ≤ 12 ∧ ∀ i, i < L.length → trOk L.length i (L.getD i (false, [])).2
noncomputable def okLB (L : List Vc) : Bool := @decide (okL L) (Classical.propDecidable _)
theorem okLB_yes {L : List Vc} (h : okL L) : okLB L = true := by simp [okLB, h]
theorem okLB_no {L : List Vc} (h : ¬ okL L) : okLB L = false := by simp [okLB, h]
theorem RowV.take {w : World} {x : Addr} {l : List Int} {cap : Nat} (h : RowV w (.slice (some x) l.length cap) l) {k : Nat} (hk : k ≤ l.length) (cap' : Nat) : RowV w (.slice (some x) k cap') (l.take k) := by
  rcases h with ⟨h, -⟩ | ⟨y, c, h, hx, hc⟩
  · simp at h
  · simp only [Value.slice.injEq, Option.some.injEq] at h
    obtain ⟨rfl, -, -⟩ := h
    refine .inr ⟨x, cap', by simp [Nat.min_eq_left hk], fun q => hx (by simp at q; omega), fun i hi => ?_⟩
    have hi' : i < k := by simp at hi; omega
    rw [hc i (by omega)]
    simp [List.getElem?_take, hi']
set_option maxHeartbeats 1000000 in
set_option maxRecDepth 100000 in
theorem sok_any (L : List Vc) (B b cap : Nat) (w : World) (h : Vs w B b L) (hf : Fits L) :
    Calls Tryd.prog 10 #[.slice (some ⟨b, 0, none⟩) L.length cap] w fun e w' => e = .returned (.bool (okLB L)) ∧ Below w.heap.size w w' := by
  obtain ⟨hf1, hf2⟩ := hf
  by_cases hn : 1 ≤ L.length ∧ L.length ≤ 12
  · obtain ⟨n1, n2⟩ := hn
    have i1 : inB (L.length : Int) 1 12 = true := inB_yes (by omega) (by omega)
    go_enter Tryd.func10, Tryd.ntmps10
    go_wp2_with (go_at_call 18; refine (in_val _ _ _ _).mono ?_; rintro e w1 ⟨rfl, rfl⟩)
    go_loopg [4] L.length (fun g i wr => ∃ k : Nat, k ≤ L.length ∧ g = L.length - k ∧ i = .int .i64 k ∧ Below w.heap.size w wr ∧ Hid (∀ i, i < k → trOk L.length i (L.getD i (false, [])).2))
    case atStart => exact ⟨0, Nat.zero_le _, rfl, rfl, Below.refl _ _, fun j hj => absurd hj (Nat.not_lt_zero _)⟩
    case round =>
      obtain ⟨k, hk, rfl, rfl, hb, H⟩ := hrel
      by_cases hlt : k < L.length
      · obtain ⟨c, a1, a2, a3⟩ := (h.below hb).at hlt
        have hlen := hf2 k hlt
        obtain ⟨q, hq⟩ : ∃ q, L.getD k (false, []) = q := ⟨_, rfl⟩
        rw [hq] at a1 a2 a3 hlen
        obtain ⟨s, t⟩ := q
        have HQ := Lib.hid hq
        simp only at a1 a2 a3 hlen
        clear hq a1
        by_cases hl4 : 4 < t.length
        · go_wp2
          go_ret
          refine ⟨?_, hb⟩
          rw [okLB_no (fun ho => by have := (ho.2.2 k hlt).1; rw [HQ.out] at this; simp only at this; omega)]; rfl
        · go_wp2
          go_loopg [6] t.length (fun g j wi => ∃ m : Nat, m ≤ t.length ∧ g = t.length - m ∧ j = .int .i64 m ∧ Below wr.heap.size wr wi ∧ Hid (∀ j, j < m → elOk L.length k t j))
          case atStart => exact ⟨0, Nat.zero_le _, rfl, rfl, Below.refl _ _, fun j hj => absurd hj (Nat.not_lt_zero _)⟩
          case round =>
            obtain ⟨m, hm, rfl, rfl, hbi, HI⟩ := hrel
            by_cases hml : m < t.length
            · obtain ⟨x, cp, hx0, hx, hc⟩ := (a3.below hbi).cons (by intro h; subst h; simp at hml)
              obtain ⟨rfl, -⟩ : x = ⟨c, 0, none⟩ ∧ cp = t.length := by simpa [eq_comm] using hx0
              have c1 := hc m hml
              rw [Addr.add_lit, Nat.zero_add] at c1
              have hrow := (a3.below hbi).take hm t.length
              obtain ⟨y, hy⟩ : ∃ y, t.getD m 0 = y := ⟨_, rfl⟩
              rw [hy] at c1
              have HY := Lib.hid hy
              clear hx0 hc hy a2 a3
              obtain ⟨z, hz⟩ : ∃ z, decide (y ∈ t.take m) = z := ⟨_, rfl⟩
              have HH : ∀ n, Calls Tryd.prog 19 #[.slice (some ⟨c, 0, none⟩) m t.length, .int .i64 y] (wr.drewN n) fun e w' => e = .returned (.bool z) ∧ wr.drewN n = w' := fun n => by
                have := has_any _ _ y (wr.drewN n) (hrow.below (below_drewN (Below.refl _ _) n)) (by simp; omega)
                rw [hz] at this
                exact this
              have HZ := Lib.hid hz
              have wrp : IntKind.i64.wrap ((L.length : Int) - 1) = (L.length : Int) - 1 := by rw [IntKind.wrap_i64]; omega
              clear hz hrow
              by_cases hin : 0 ≤ y ∧ y ≤ (L.length : Int) - 1
              · have i2 := inB_yes hin.1 hin.2
                have HIN := Lib.hid hin
                clear hin
                by_cases hke : y = (k : Int)
                · have e2 : (y == (k : Int)) = true := by simp [hke]
                  have HK := Lib.hid hke
                  clear hke
                  go_wp2_with fail
                  go_quiet ((first
                    | (go_at_call 18; exact quiet_left (in_val _ _ _ _))
                    | (go_at_call 19; exact quiet_left (HH _))))
                  go_wp2
                  go_ret
                  refine ⟨?_, below_drewN (hb.trans (hbi.mono hb.size)) _⟩
                  rw [okLB_no (fun ho => by have hh := (ho.2.2 k hlt).2 m; rw [HQ.out] at hh; have h3 := hh hml; unfold elOk at h3; rw [HY.out] at h3; simp only at h3; have := HK.out; omega)]; rfl
                · have e2 : (y == (k : Int)) = false := by simp [hke]
                  have HK := Lib.hid hke
                  clear hke
                  cases z with
                  | true =>
                    go_wp2_with fail
                    go_quiet ((first
                      | (go_at_call 18; exact quiet_left (in_val _ _ _ _))
                      | (go_at_call 19; exact quiet_left (HH _))))
                    go_wp2
                    go_ret
                    refine ⟨?_, below_drewN (hb.trans (hbi.mono hb.size)) _⟩
                    rw [okLB_no (fun ho => by have hh := (ho.2.2 k hlt).2 m; rw [HQ.out] at hh; have h3 := hh hml; unfold elOk at h3; rw [HY.out] at h3; simp only at h3; exact h3.2.2.2 (of_decide_eq_true HZ.out))]; rfl
                  | false =>
                    go_wp2_with fail
                    go_quiet ((first
                      | (go_at_call 18; exact quiet_left (in_val _ _ _ _))
                      | (go_at_call 19; exact quiet_left (HH _))))
                    go_wp2
                    go_roundg (t.length - (m + 1))
                    case measure => omega
                    case rel =>
                      refine ⟨m + 1, by omega, rfl, by simp, below_drewN hbi _, fun j hj => ?_⟩
                      by_cases ej : j = m
                      · subst ej
                        unfold elOk
                        rw [HY.out]
                        exact ⟨HIN.out.1, HIN.out.2, HK.out, of_decide_eq_false HZ.out⟩
                      · exact HI.out j (by omega)
              · have i2 := inB_no hin
                have HIN := Lib.hid hin
                clear hin
                go_wp2_with fail
                go_quiet ((first
                  | (go_at_call 18; exact quiet_left (in_val _ _ _ _))
                  | (go_at_call 19; exact quiet_left (HH _))))
                go_wp2
                go_ret
                refine ⟨?_, below_drewN (hb.trans (hbi.mono hb.size)) _⟩
                rw [okLB_no (fun ho => by have hh := (ho.2.2 k hlt).2 m; rw [HQ.out] at hh; have h3 := hh hml; unfold elOk at h3; rw [HY.out] at h3; simp only at h3; have := HIN.out; omega)]; rfl
            · have e : m = t.length := by omega
              subst e
              go_wp2
              go_roundg (L.length - (k + 1))
              case measure => omega
              case rel =>
                refine ⟨k + 1, by omega, rfl, by simp, hb.trans (hbi.mono hb.size), fun j hj => ?_⟩
                by_cases ej : j = k
                · subst ej
                  rw [HQ.out]
                  exact ⟨by simp only; omega, HI.out⟩
                · exact H.out j (by omega)
      · have e : k = L.length := by omega
        subst e
        go_wp2
        go_ret
        exact ⟨by rw [okLB_yes ⟨n1, n2, H.out⟩]; rfl, hb⟩
  · have i1 : inB (L.length : Int) 1 12 = false := inB_no (by omega)
    go_enter Tryd.func10, Tryd.ntmps10
    go_wp2_with (go_at_call 18; refine (in_val _ _ _ _).mono ?_; rintro e w1 ⟨rfl, rfl⟩)
    go_ret
    exact ⟨by rw [okLB_no (fun ho => hn ⟨ho.1, ho.2.1⟩)]; rfl, Below.refl _ _⟩
end Go.Proofs.YtlpidgdlbannbabDoor
