/- The program's ValidVoices by its contract; the law on it. -/
import Derived.Test.YtlpidgdlbannbabDoorCx1
namespace Go.Proofs.YtlpidgdlbannbabDoor
open Go.ChangeShapes Go.WideShapes Go.ChangeAt Go.RowKit Go.Deep
set_option linter.unusedSimpArgs false
set_option linter.unusedVariables false
theorem trOk_iff {n k : Nat} {t : List Int} : trOk n k t ↔ t.length ≤ 4 ∧ ¬ (k : Int) ∈ t ∧ allDiff n t := by
  constructor
  · rintro ⟨h1, h2⟩
    refine ⟨h1, fun hm => ?_, fun m hm => ?_⟩
    · obtain ⟨j, hj, e⟩ := List.mem_iff_getElem.1 hm
      have := (h2 j hj).2.2.1
      simp [List.getD, hj, e] at this
    · obtain ⟨a, b, c, d⟩ := h2 m hm
      exact ⟨a, by omega, d⟩
  · rintro ⟨h1, h2, h3⟩
    refine ⟨h1, fun m hm => ?_⟩
    obtain ⟨a, b, c⟩ := h3 m hm
    refine ⟨a, by omega, fun e => h2 ?_, c⟩
    rw [← e]
    simp [List.getD, hm]
theorem RowV.at0 {w : World} {x : Addr} {cap : Nat} {l : List Int} {n : Nat} (h : RowV w (.slice (some x) n cap) l) : (0 < l.length → x.block < w.heap.size) ∧ ∀ j, j < l.length → w.cell? (x.add j) = some (.int .i64 (l.getD j 0)) := by
  rcases h with ⟨h, -⟩ | ⟨y, cp, e, h1, h2⟩
  · cases h
  · cases e; exact ⟨h1, h2⟩
theorem trB_iff {n k : Nat} {t : List Int} (hk : k < n) : trOk n k t ↔ trB n (k : Int) t = true := by
  rw [trOk_iff]
  unfold trB
  rw [Bool.and_eq_true, decide_eq_true_iff]
  have : allDiffB n ((k : Int) :: t) = true ↔ ¬ (k : Int) ∈ t ∧ allDiff n t := by
    constructor
    · intro h
      have : allDiff n ((k : Int) :: t) := by
        unfold allDiffB at h; simpa using h
      exact (allDiff_cons.1 this).2
    · rintro ⟨h1, h2⟩
      exact allDiffB_yes (allDiff_cons.2 ⟨⟨by omega, by omega⟩, h1, h2⟩)
  rw [this]
set_option maxHeartbeats 1000000 in
set_option maxRecDepth 100000 in
theorem iok_any (L : List Vc) (B b cap : Nat) (w : World) (h : Vs w B b L) (hf : Fits L) :
    Calls Tryd.prog 13 #[.slice (some ⟨b, 0, none⟩) L.length cap] w fun e w' => e = .returned (.bool (okLB L)) ∧ Below w.heap.size w w' := by
  obtain ⟨hf1, hf2⟩ := hf
  by_cases hn : 1 ≤ L.length ∧ L.length ≤ 12
  · obtain ⟨n1, n2⟩ := hn
    go_enter Tryd.func13, Tryd.ntmps13
    go_wp2
    go_loopg [15] L.length (fun g i wr => ∃ k : Nat, k ≤ L.length ∧ g = L.length - k ∧ i = .int .i64 k ∧ Below w.heap.size w wr ∧ Hid (∀ i, i < k → trOk L.length i (L.getD i (false, [])).2))
    case atStart => exact ⟨0, Nat.zero_le _, rfl, rfl, Below.refl _ _, fun j hj => absurd hj (Nat.not_lt_zero _)⟩
    case round =>
      obtain ⟨k, hk, rfl, rfl, hb, H⟩ := hrel
      by_cases hlt : k < L.length
      · obtain ⟨c, a1, a2, a3⟩ := (h.below hb).at hlt
        have hlen := hf2 k hlt
        obtain ⟨q, hq⟩ : ∃ q, L.getD k (false, []) = q := ⟨_, rfl⟩
        rw [hq] at a1 a2 a3 hlen
        obtain ⟨s, t⟩ := q
        have HQ := Lib.hid hq
        simp only at a1 a2 a3 hlen
        have b1 := (Below.refl wr.heap.size wr).alloc (Nat.le_refl _) (.cells #[.bool s, .slice (some ⟨c, 0, none⟩) t.length t.length] 36)
        obtain ⟨hx3, hr3⟩ := a3.at0
        have HD := fun w' (hw : Below wr.heap.size wr w') => trust_any (some ⟨b, 0, none⟩) L.length cap (k : Int) ⟨c, 0, none⟩ t t.length w' (fun h0 => Nat.lt_of_lt_of_le (hx3 h0) hw.size) (fun j hj => (hw.cell (p := (⟨c, 0, none⟩ : Addr).add j) (by rw [block_add]; exact hx3 (by omega))).trans (hr3 j hj)) hlen hf1
        obtain ⟨zd, hzd⟩ : ∃ z, trB L.length (k : Int) t = z := ⟨_, rfl⟩
        rw [hzd] at HD
        have hiff : trOk L.length k t ↔ zd = true := by
          rw [← hzd]; exact trB_iff hlt
        have HI := Lib.hid hiff
        clear hq hiff hzd hx3 hr3
        have hbad : ¬ (zd = true) → okLB L = false := fun hno => okLB_no (fun ho => hno (HI.out.1 (by have := ho.2.2 k hlt; rw [HQ.out] at this; exact this)))
        have HB := Lib.hid hbad
        clear hbad
        go_wp2_with fail
        refine (HD _ b1).mono ?_
        rintro e w2 ⟨rfl, hb2⟩
        have b2 : Below w.heap.size w w2 := (hb.trans (b1.mono hb.size)).trans (hb2.mono (by have := hb.size; simp; omega))
        cases zd with
        | false =>
          go_wp2
          go_ret
          exact ⟨by rw [HB.out (by simp)]; rfl, b2⟩
        | true =>
          go_wp2
          go_roundg (L.length - (k + 1))
          case measure => omega
          case rel =>
            refine ⟨k + 1, by omega, rfl, by simp, b2, fun j hj => ?_⟩
            by_cases ej : j = k
            · subst ej
              rw [HQ.out]
              exact HI.out.2 (by first | exact rfl | trivial)
            · exact H.out j (by omega)
      · have e : k = L.length := by omega
        subst e
        go_wp2
        go_ret
        exact ⟨by rw [okLB_yes ⟨n1, n2, H.out⟩]; rfl, hb⟩
  · have hno : okLB L = false := okLB_no (fun ho => hn ⟨ho.1, ho.2.1⟩)
    by_cases h1 : L.length < 1
    · go_enter Tryd.func13, Tryd.ntmps13
      go_wp2
      go_ret
      exact ⟨by first | rfl | (rw [hno]; rfl), Below.refl _ _⟩
    · have h2 : 12 < L.length := by omega
      go_enter Tryd.func13, Tryd.ntmps13
      go_wp2
      go_ret
      exact ⟨by first | rfl | (rw [hno]; rfl), Below.refl _ _⟩
end Go.Proofs.YtlpidgdlbannbabDoor
