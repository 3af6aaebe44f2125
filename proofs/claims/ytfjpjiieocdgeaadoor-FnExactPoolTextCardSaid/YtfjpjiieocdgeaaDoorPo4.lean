/- Whether a pool is valid: the program's look and the specification's. -/
import Derived.Test.YtfjpjiieocdgeaaDoorPo3
namespace Go.Proofs.YtfjpjiieocdgeaaDoor
open Go.ChangeShapes Go.WideShapes Go.ChangeAt Go.RowKit Go.Deep
set_option linter.unusedSimpArgs false
set_option linter.unusedVariables false
/-- A quota is as a pool of so many people asks. -/
def qOk (P : Int) (q : Qt) : Prop := q.1.length ≠ 0 ∧ ris q.1 0 (P - 1) ∧ 0 ≤ q.2.1 ∧ q.2.1 ≤ q.2.2 ∧ q.2.2 ≤ 7
noncomputable def qOkB (P : Int) (q : Qt) : Bool := @decide (qOk P q) (Classical.propDecidable _)
theorem qOkB_iff {P : Int} {q : Qt} : qOkB P q = true ↔ qOk P q := by simp [qOkB]
theorem qOkB_yes {P : Int} {q : Qt} (h : qOk P q) : qOkB P q = true := by simp [qOkB, h]
theorem qOkB_no {P : Int} {q : Qt} (h : ¬ qOk P q) : qOkB P q = false := by simp [qOkB, h]
def pOk (P S : Int) (L : List Qt) : Prop := 1 ≤ P ∧ P ≤ 7 ∧ 1 ≤ S ∧ S ≤ P ∧ L.length ≤ 6 ∧ ∀ k, k < L.length → qOk P (L.getD k q0)
noncomputable def pOkB (P S : Int) (L : List Qt) : Bool := @decide (pOk P S L) (Classical.propDecidable _)
theorem pOkB_iff {P S : Int} {L : List Qt} : pOkB P S L = true ↔ pOk P S L := by simp [pOkB]
theorem pOkB_yes {P S : Int} {L : List Qt} (h : pOk P S L) : pOkB P S L = true := by simp [pOkB, h]
theorem pOkB_no {P S : Int} {L : List Qt} (h : ¬ pOk P S L) : pOkB P S L = false := by simp [pOkB, h]
/-- The program's look at a quota. -/
theorem iisfor (P m n : Int) (v : Value) (l : List Int) (w : World) (h : RowV w v l) (hl : l.length ≤ 1048576) :
    Calls Tryd.prog 65 #[.agg #[v, .int .i64 m, .int .i64 n], .int .i64 P] w fun e w' => e = .returned (.bool (qOkB P (l, m, n))) ∧ Below w.heap.size w w' := by
  have b1 := (Below.refl w.heap.size w).alloc (Nat.le_refl _) (.cells #[v, .int .i64 m, .int .i64 n] 81)
  have HS := isetb v l P _ (h.below b1) (by omega)
  obtain ⟨a, cap, rfl⟩ := h.shape
  obtain ⟨z, hz⟩ : ∃ z, risB l 0 (P - 1) = z := ⟨_, rfl⟩
  rw [hz] at HS
  have HZ := Lib.hid hz
  have HN := Lib.hid (fun hn => qOkB_no (P := P) (q := (l, m, n)) hn)
  clear h hz
  by_cases h0 : l.length = 0
  · have HX := Lib.hid h0
    go_enter Tryd.func65, Tryd.ntmps65
    go_wp2
    go_ret
    exact ⟨by rw [HN.out (fun ho => ho.1 HX.out)]; rfl, by have b2 := b1; rw [HX.out] at b2; exact b2⟩
  · have hp : 0 < l.length := by omega
    cases z with
    | false =>
      go_enter Tryd.func65, Tryd.ntmps65
      go_wp2_with fail
      refine HS.mono ?_
      rintro e w1 ⟨rfl, rfl⟩
      go_wp2
      go_ret
      exact ⟨by rw [HN.out (fun ho => by have := risB_yes ho.2.1; rw [HZ.out] at this; simp at this)]; rfl, b1⟩
    | true =>
      by_cases h1 : 0 ≤ m
      · by_cases h2 : m ≤ n
        · by_cases h3 : n ≤ 7
          · go_enter Tryd.func65, Tryd.ntmps65
            go_wp2_with fail
            refine HS.mono ?_
            rintro e w1 ⟨rfl, rfl⟩
            go_wp2
            go_ret
            exact ⟨by rw [qOkB_yes ⟨by simpa using h0, risB_iff.1 HZ.out, h1, h2, h3⟩]; first | rfl | (show Ending.returned (.bool (decide (n ≤ 7))) = _; rw [decide_eq_true h3]), b1⟩
          · go_enter Tryd.func65, Tryd.ntmps65
            go_wp2_with fail
            refine HS.mono ?_
            rintro e w1 ⟨rfl, rfl⟩
            go_wp2
            go_ret
            exact ⟨by rw [HN.out (fun ho => by have := ho.2.2.2.2; simp only at this; omega)]; first | rfl | (show Ending.returned (.bool (decide (n ≤ 7))) = _; rw [decide_eq_false (by omega)]), b1⟩
        · go_enter Tryd.func65, Tryd.ntmps65
          go_wp2_with fail
          refine HS.mono ?_
          rintro e w1 ⟨rfl, rfl⟩
          go_wp2
          go_ret
          exact ⟨by rw [HN.out (fun ho => by have := ho.2.2.2.1; simp only at this; omega)]; rfl, b1⟩
      · go_enter Tryd.func65, Tryd.ntmps65
        go_wp2_with fail
        refine HS.mono ?_
        rintro e w1 ⟨rfl, rfl⟩
        go_wp2
        go_ret
        exact ⟨by rw [HN.out (fun ho => by have := ho.2.2.1; simp only at this; omega)]; rfl, b1⟩
theorem ilook (P m n : Int) (v : Value) (l : List Int) (p : Nat) (w : World) (h : RowV w v l) (hl : l.length ≤ 1048576) (hp : p < w.heap.size) (hc : w.cell? ⟨p, 0, none⟩ = some (.int .i64 P)) :
    Calls Tryd.prog 64 #[.agg #[v, .int .i64 m, .int .i64 n], .pointer (some ⟨p, 0, none⟩)] w fun e w' => e = .returned (.bool (!qOkB P (l, m, n))) ∧ Below w.heap.size w w' := by
  have b1 := (Below.refl w.heap.size w).alloc (Nat.le_refl _) (.cells #[v, .int .i64 m, .int .i64 n] 81)
  have HI := iisfor P m n v l _ (h.below b1) hl
  have nb := Nat.ne_of_lt hp
  clear h
  generalize qOkB P (l, m, n) = z at HI ⊢
  go_enter Tryd.func64, Tryd.ntmps64
  go_wp2_with fail
  refine HI.mono ?_
  rintro e w1 ⟨rfl, hb1⟩
  go_wp2
  go_ret
  exact ⟨by first | rfl | (cases z <;> rfl), b1.trans (hb1.mono b1.size)⟩
set_option maxHeartbeats 1000000 in
set_option maxRecDepth 100000 in
theorem idxq (L : List Qt) (P : Int) (B b cap p : Nat) (w : World) (h : Qs w B b L) (hf : FitsQ L) (hp : p < w.heap.size) (hc : w.cell? ⟨p, 0, none⟩ = some (.int .i64 P)) :
    Calls Tryd.prog 72 #[.slice (some ⟨b, 0, none⟩) L.length cap, .func (.func 64) #[] #[.pointer (some ⟨p, 0, none⟩)]] w fun e w' => (∃ r : Int, e = .returned (.int .i64 r) ∧ -1 ≤ r ∧ r ≤ 1048576 ∧ (r < 0 ↔ ∀ k, k < L.length → qOk P (L.getD k q0))) ∧ Below w.heap.size w w' := by
  obtain ⟨hf1, hf2⟩ := hf
  have nb := Nat.ne_of_lt hp
  go_enter Tryd.func72, Tryd.ntmps72
  go_wp2
  go_loopg [8] L.length (fun g i wr => ∃ k : Nat, k ≤ L.length ∧ g = L.length - k ∧ i = .int .i64 k ∧ Below w.heap.size w wr ∧ Hid (∀ j, j < k → qOk P (L.getD j q0)))
  case atStart => exact ⟨0, Nat.zero_le _, rfl, rfl, Below.refl _ _, fun j hj => absurd hj (Nat.not_lt_zero _)⟩
  case round =>
    obtain ⟨k, hk, rfl, rfl, hb, H⟩ := hrel
    by_cases hlt : k < L.length
    · obtain ⟨c, a1, a2, a3, a4⟩ := (h.below hb).at hlt
      have hlen := hf2 k hlt
      obtain ⟨q, hq⟩ : ∃ q, L.getD k q0 = q := ⟨_, rfl⟩
      rw [hq] at a1 a2 a3 a4 hlen
      have HQ := Lib.hid hq
      obtain ⟨l, m, n⟩ := q
      simp only at a1 a2 a3 a4 hlen
      have c1 := (hb.cell (p := ⟨p, 0, none⟩) hp).trans hc
      have HC := ilook P m n _ l p wr a4 hlen (Nat.lt_of_lt_of_le hp hb.size) c1
      obtain ⟨z, hz⟩ : ∃ z, qOkB P (l, m, n) = z := ⟨_, rfl⟩
      rw [hz] at HC
      have HZ := Lib.hid hz
      clear hz hq a4 hlen c1 h hf2
      cases z with
      | true =>
        go_wp2_with fail
        refine HC.mono ?_
        rintro e w1 ⟨rfl, hb1⟩
        go_wp2
        go_roundg (L.length - (k + 1))
        case measure => omega
        case rel =>
          refine ⟨k + 1, by omega, rfl, by simp, hb.trans (hb1.mono hb.size), fun j hj => ?_⟩
          by_cases ej : j = k
          · subst ej; rw [HQ.out]; exact qOkB_iff.1 HZ.out
          · exact H.out j (by omega)
      | false =>
        go_wp2_with fail
        refine HC.mono ?_
        rintro e w1 ⟨rfl, hb1⟩
        go_wp2
        go_ret
        refine ⟨⟨_, rfl, by omega, by omega, ⟨fun h => by omega, fun h => ?_⟩⟩, hb.trans (hb1.mono hb.size)⟩
        have h9 := h k hlt
        rw [HQ.out] at h9
        have := qOkB_yes h9
        rw [HZ.out] at this
        simp at this
    · have e : k = L.length := by omega
      subst e
      go_wp2
      go_ret
      exact ⟨⟨_, rfl, by omega, by omega, ⟨fun _ => H.out, fun _ => by omega⟩⟩, hb⟩
theorem contq (L : List Qt) (P : Int) (B b cap p : Nat) (w : World) (h : Qs w B b L) (hf : FitsQ L) (hp : p < w.heap.size) (hc : w.cell? ⟨p, 0, none⟩ = some (.int .i64 P)) :
    Calls Tryd.prog 63 #[.slice (some ⟨b, 0, none⟩) L.length cap, .func (.func 64) #[] #[.pointer (some ⟨p, 0, none⟩)]] w fun e w' => (∃ z, e = .returned (.bool z) ∧ (z = false ↔ ∀ k, k < L.length → qOk P (L.getD k q0))) ∧ Below w.heap.size w w' := by
  have HI := idxq L P B b cap p w h hf hp hc
  clear h hc
  go_enter Tryd.func63, Tryd.ntmps63
  go_wp2_with fail
  refine HI.mono ?_
  rintro e w1 ⟨⟨r, rfl, r1, r2, r3⟩, hb1⟩
  have R3 := Lib.hid r3
  clear r3
  by_cases h0 : r < 0
  · go_wp2
    go_ret
    exact ⟨⟨false, by first | rfl | simp [h0], ⟨fun _ => R3.out.1 h0, fun _ => rfl⟩⟩, hb1⟩
  · go_wp2
    go_ret
    exact ⟨⟨true, by first | rfl | simp [h0], ⟨(fun q => by cases q), (fun q => by have := R3.out.2 q; omega)⟩⟩, hb1⟩
set_option maxHeartbeats 1000000 in
theorem ivalid (P S : Int) (L : List Qt) (B b cap : Nat) (w : World) (h : Qs w B b L) (hf : FitsQ L) :
    Calls Tryd.prog 43 #[.agg #[.int .i64 P, .int .i64 S, .slice (some ⟨b, 0, none⟩) L.length cap]] w fun e w' => e = .returned (.bool (pOkB P S L)) ∧ Below w.heap.size w w' := by
  have b1 := (Below.refl w.heap.size w).alloc (Nat.le_refl _) (.cells #[.int .i64 P, .int .i64 S, .slice (some ⟨b, 0, none⟩) L.length cap] 44)
  have hcell : (w.alloc (.cells #[.int .i64 P, .int .i64 S, .slice (some ⟨b, 0, none⟩) L.length cap] 44)).cell? ⟨w.heap.size, 0, none⟩ = some (.int .i64 P) := by go_simp
  have HC := contq L P B b cap w.heap.size _ (h.below b1) hf (by simp) hcell
  have hfl := hf.1
  have HN := Lib.hid (fun hn => pOkB_no (P := P) (S := S) (L := L) hn)
  clear h hf hcell
  by_cases h1 : S < 1
  · go_enter Tryd.func43, Tryd.ntmps43
    go_wp2
    go_ret
    exact ⟨by rw [HN.out (fun ho => by have := ho.2.2.1; omega)]; rfl, b1⟩
  · by_cases h2 : P < S
    · go_enter Tryd.func43, Tryd.ntmps43
      go_wp2
      go_ret
      exact ⟨by rw [HN.out (fun ho => by have := ho.2.2.2.1; omega)]; rfl, b1⟩
    · by_cases h3 : 7 < P
      · go_enter Tryd.func43, Tryd.ntmps43
        go_wp2
        go_ret
        exact ⟨by rw [HN.out (fun ho => by have := ho.2.1; omega)]; rfl, b1⟩
      · by_cases h4 : 6 < L.length
        · go_enter Tryd.func43, Tryd.ntmps43
          go_wp2
          go_ret
          exact ⟨by rw [HN.out (fun ho => by have := ho.2.2.2.2.1; omega)]; rfl, b1⟩
        · go_enter Tryd.func43, Tryd.ntmps43
          go_wp2_with fail
          refine HC.mono ?_
          rintro e w1 ⟨⟨z, rfl, hz⟩, hb1⟩
          have HZ := Lib.hid hz
          clear hz
          go_wp2
          go_ret
          refine ⟨?_, b1.trans (hb1.mono b1.size)⟩
          cases z with
          | false => rw [pOkB_yes ⟨by omega, by omega, by omega, by omega, by omega, HZ.out.1 rfl⟩]; rfl
          | true => rw [HN.out (fun ho => by have := HZ.out.2 ho.2.2.2.2.2; simp at this)]; rfl
end Go.Proofs.YtfjpjiieocdgeaaDoor
