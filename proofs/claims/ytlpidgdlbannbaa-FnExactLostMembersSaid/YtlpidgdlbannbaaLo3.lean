/- The ends of the paths of a member, and the members without a path. -/
import Derived.Test.YtlpidgdlbannbaaLo2
namespace Go.Proofs.Ytlpidgdlbannbaa
open Go.ChangeShapes Go.WideShapes Go.ChangeAt Go.RowKit Go.Deep
set_option linter.unusedSimpArgs false
set_option linter.unusedVariables false
noncomputable def rchV (L : List Vc) (m : Int) : List Int := setL L.length fun i => Rch (nxV L) [m] (i : Int)
noncomputable def endL (L : List Vc) (m : Int) : List Int := (rchV L m).filter fun x => sp L x
theorem rchV_mem {L : List Vc} {m : Int} {x : Int} : x ∈ rchV L m ↔ ∃ i, i < L.length ∧ Rch (nxV L) [m] (i : Int) ∧ x = (i : Int) := mem_setL
theorem nxV_rng {L : List Vc} (h : okL L) {i : Nat} (hi : i < L.length) : ∀ z ∈ nxV L (i : Int), 0 ≤ z ∧ z < (L.length : Int) := by
  intro z hz
  rw [nxV_at] at hz
  split at hz
  · cases hz
  · obtain ⟨p, hp, rfl⟩ := getD_of_mem hz
    have h3 := (h.2.2 i hi).2 p hp
    unfold elOk at h3
    omega
theorem nxV_len {L : List Vc} (hf : Fits L) {i : Nat} (hi : i < L.length) : (nxV L (i : Int)).length ≤ 1048576 := by
  rw [nxV_at]
  split
  · simp
  · exact hf.2 i hi
set_option maxHeartbeats 1000000 in
set_option maxRecDepth 100000 in
theorem ends_any (L : List Vc) (B lo cap j : Nat) (w : World) (h : Vs w B lo L) (hf : Fits L) (hok : okL L) (hj : j < L.length) :
    Calls Try.prog 68 #[.slice (some ⟨lo, 0, none⟩) L.length cap, .int .i64 (j : Int)] w fun e w' => (∃ v, e = .returned v ∧ OwI w' w.heap.size w'.heap.size v (endL L (j : Int))) ∧ Below w.heap.size w w' := by
  have n12 := hok.2.1
  obtain ⟨w1, hw1⟩ : ∃ w1, w1 = w.alloc (.cells #[.slice (some ⟨lo, 0, none⟩) L.length cap] 25) := ⟨_, rfl⟩
  have hz1 : w1.heap.size = w.heap.size + 1 := by rw [hw1]; simp
  have hb1 : Below w.heap.size w w1 := by rw [hw1]; exact (Below.refl _ _).alloc (Nat.le_refl _) _
  have hp1 : w1.cell? ⟨w.heap.size, 0, none⟩ = some (.slice (some ⟨lo, 0, none⟩) L.length cap) := by rw [hw1]; go_simp
  have hbl : Below w1.heap.size w1 (w1.alloc (.cells #[.int .i64 (j : Int)] 2)) := (Below.refl _ _).alloc (Nat.le_refl _) _
  have hO : OwnI (w1.alloc (.cells #[.int .i64 (j : Int)] 2)) w1.heap.size [(j : Int)] := World.rowIs_alloc w1 #[.int .i64 (j : Int)] 2 _ (fun i hi => by
    have e : i = 0 := by simpa using hi
    subst e
    rfl)
  have lb := h.lt
  have hv2 := (h.below hb1).below hbl
  have hp2 := (hbl.cell (p := ⟨w.heap.size, 0, none⟩) (by show w.heap.size < _; omega)).trans hp1
  have hb2 := hb1.trans (hbl.mono hb1.size)
  have HRE := reach_voices L w.heap.size [(j : Int)] w1.heap.size 1 _ n12 hO (by simp) (fun x hx => by
    have e : x = (j : Int) := by simpa using hx
    subst e
    omega) (by simp)
    (fun k w' hk hb => (steps_any L B lo cap w.heap.size k _ w' hv2 hb ((hb.cell (p := ⟨w.heap.size, 0, none⟩) (by show w.heap.size < _; simp; omega)).trans hp2) hf hk).mono fun e w'' ⟨⟨v, he, hr, hl⟩, hw⟩ => by
      subst hw
      exact ⟨⟨v, he, hr, fun k e => ⟨.inl (hl k e), Nat.lt_of_lt_of_le (hl k e) hb.size⟩⟩, Below.refl _ _⟩)
    (fun k hk => ⟨nxV_len hf hk, nxV_rng hok hk⟩)
  have HDL := Lib.hid (fun (c cp N : Nat) (f : Nat → Value) (w3 : World) (h3 : Below (w1.alloc (.cells #[.int .i64 (j : Int)] 2)).heap.size (w1.alloc (.cells #[.int .i64 (j : Int)] 2)) w3) (hc : w.heap.size + 1 ≤ c) (row : w3.rowIs c 2 N f) (hN : (rchV L (j : Int)).length ≤ N) (hcp : (rchV L (j : Int)).length ≤ cp) (hv : ∀ i, i < (rchV L (j : Int)).length → f i = .int .i64 ((rchV L (j : Int)).getD i 0)) =>
    del_mute L lo cap w.heap.size c cp N f (rchV L (j : Int)) w3 ⟨(h3.cell (p := ⟨w.heap.size, 0, none⟩) (by show w.heap.size < _; simp; omega)).trans hp2, fun k hk => by
      obtain ⟨c9, a1, _, _⟩ := (hv2.below h3).own hk
      exact a1⟩ n12 (by omega) (by omega) (fun x hx => by
      obtain ⟨k, hk, _, rfl⟩ := rchV_mem.1 hx
      omega) (by have := setL_len L.length (fun i => Rch (nxV L) [(j : Int)] (i : Int)); unfold rchV; omega) row hN hcp hv)
  have hrl : (rchV L (j : Int)).length ≤ 12 := by have := setL_len L.length (fun i => Rch (nxV L) [(j : Int)] (i : Int)); unfold rchV; omega
  have hel : (endL L (j : Int)).length ≤ 1048576 := by
    have := List.length_filter_le (fun x => sp L x) (rchV L (j : Int))
    unfold endL
    omega
  change Calls _ _ _ _ (fun e w' => (∃ c cap, e = .returned (.slice (some ⟨c, 0, none⟩) (rchV L (j : Int)).length cap) ∧ (rchV L (j : Int)).length ≤ cap ∧ OwI w' (w1.alloc (.cells #[.int .i64 (j : Int)] 2)).heap.size w'.heap.size (.slice (some ⟨c, 0, none⟩) (rchV L (j : Int)).length cap) (rchV L (j : Int))) ∧ Below (w1.alloc (.cells #[.int .i64 (j : Int)] 2)).heap.size (w1.alloc (.cells #[.int .i64 (j : Int)] 2)) w') at HRE
  have HEL : Hid (endL L (j : Int) = (rchV L (j : Int)).filter fun x => sp L x) := rfl
  have hle : (endL L (j : Int)).length ≤ (rchV L (j : Int)).length := List.length_filter_le _ _
  generalize rchV L (j : Int) = R at HRE HDL hrl HEL hle
  clear h hf hok hv2 hp2 hO hp1
  go_enter Try.func68, Try.ntmps68
  go_wp2_with fail
  rw [← hw1]
  rw [hz1] at HRE
  refine HRE.mono ?_
  rintro e w3 ⟨⟨c, cp, rfl, hcp, ho⟩, hb3⟩
  obtain ⟨N, f, q1, q2, q3, q4⟩ : ∃ N f, w.heap.size + 1 ≤ c ∧ R.length ≤ N ∧ w3.rowIs c 2 N f ∧ ∀ i, i < R.length → f i = .int .i64 (R.getD i 0) := by
    obtain ⟨⟨k1, -⟩ | ⟨c', cap', N, f, k1, k2, k3, k4, k5, k6⟩, -⟩ := ho
    · cases k1
    · simp only [Value.slice.injEq, Option.some.injEq, Addr.mk.injEq] at k1
      obtain ⟨⟨rfl, -⟩, -⟩ := k1
      exact ⟨N, f, by simp [hz1] at k2; omega, k4, k5, k6⟩
  have HD := HDL.out c cp N f w3 hb3 q1 q3 q2 hcp q4
  have hb4 := hb2.trans (hb3.mono hb2.size)
  have s4 := hb4.size
  clear HRE HDL ho q3 q4 hb1 hbl hb2 hb3
  go_wp2_with fail
  refine HD.mono ?_
  rintro e w4 ⟨⟨f', rfl, r1, r2⟩, hk4⟩
  have R2 := Lib.hid r2
  have hb5 := hb4.trans (hk4.below s4 (fun b hb => by omega))
  have hlt := r1.lt
  clear r2 hk4 HD hb4
  go_wp2
  go_ret
  refine ⟨⟨.slice (some ⟨c, 0, none⟩) (R.filter fun x => sp L x).length cp, rfl, ?_⟩, hb5⟩
  refine ⟨.inr ⟨c, cp, N, f', by rw [HEL.out], by omega, hlt, by omega, r1, ?_⟩, hel⟩
  rw [HEL.out]
  exact R2.out
def lostP (L : List Vc) (j : Nat) : Prop := endL L (j : Int) = []
noncomputable def lostL (L : List Vc) : List Int := setL L.length (lostP L)
/-- What the closure of LostMembers reads. -/
def LsAt (L : List Vc) (lo cap p : Nat) (w : World) : Prop := w.cell? ⟨p, 0, none⟩ = some (.slice (some ⟨lo, 0, none⟩) L.length cap)
set_option maxHeartbeats 1000000 in
set_option maxRecDepth 100000 in
theorem lost_any (L : List Vc) (B lo cap p j : Nat) (w : World) (h : Vs w B lo L) (hp : w.cell? ⟨p, 0, none⟩ = some (.slice (some ⟨lo, 0, none⟩) L.length cap)) (hf : Fits L) (hok : okL L) (hj : j < L.length) :
    Calls Try.prog 67 #[.int .i64 (j : Int), .pointer (some ⟨p, 0, none⟩)] w fun e w' => e = .returned (.bool (dcd (lostP L j))) ∧ Below w.heap.size w w' := by
  have HE := ends_any L B lo cap j w h hf hok hj
  have HB : Hid (∀ b : Bool, b = decide ((endL L (j : Int)).length = 0) → b = dcd (lostP L j)) := fun b hb => by
    rw [Bool.eq_iff_iff, dcd_iff, hb, decide_eq_true_iff]
    unfold lostP
    exact List.length_eq_zero_iff
  generalize endL L (j : Int) = E at HE HB
  clear h hf hok
  go_enter Try.func67, Try.ntmps67
  go_wp2_with fail
  refine HE.mono ?_
  rintro e w1 ⟨⟨v, rfl, hv⟩, hb1⟩
  obtain ⟨a, cp, rfl⟩ := hv.shape
  clear hv
  go_wp2
  go_ret
  refine ⟨?_, hb1⟩
  rw [← HB.out _ rfl]
  by_cases q : E.length = 0
  · simp [q]
  · simp [q]
set_option maxHeartbeats 1000000 in
set_option maxRecDepth 100000 in
theorem who_lost (L : List Vc) (B lo cap p : Nat) (w : World) (h : Vs w B lo L) (hp : w.cell? ⟨p, 0, none⟩ = some (.slice (some ⟨lo, 0, none⟩) L.length cap)) (hpl : p < w.heap.size) (hf : Fits L) (hok : okL L) :
    Calls Try.prog 66 #[.slice (some ⟨lo, 0, none⟩) L.length cap, .func (.func 67) #[] #[.pointer (some ⟨p, 0, none⟩)]] w fun e w' => (∃ v, e = .returned v ∧ OwI w' w.heap.size w'.heap.size v (lostL L)) ∧ Below w.heap.size w w' := by
  obtain ⟨i0, hi, hz0, hz1, hz2⟩ := info_parts infoI
  have n6 := hok.2.1
  have HT := Lib.hid (fun (k : Nat) (w' : World) (hk : k < L.length) (hw : Below w.heap.size w w') => lost_any L B lo cap p k w' (h.below hw) ((hw.cell (p := ⟨p, 0, none⟩) hpl).trans hp) hf hok hk)
  have hown0 : w.ownsRow w.heap.size 2 1 (.slice none 0 0) ([] : List Int).length (([] : List Int).map (Value.int .i64)) := ⟨rfl, .inl ⟨rfl, rfl⟩⟩
  clear h hf hok
  go_enter Try.func66, Try.ntmps66
  go_wp2
  go_loopg [5, 9] L.length (fun g v i wr => ∃ (k : Nat) (l : List Int), k ≤ L.length ∧ g = L.length - k ∧ i = .int .i64 k ∧ l.length ≤ k ∧ Hid (l = setL k (lostP L)) ∧ wr.ownsRow w.heap.size 2 1 v l.length (l.map (Value.int .i64)) ∧ Below w.heap.size w wr)
  case atStart => exact ⟨0, [], Nat.zero_le _, rfl, rfl, Nat.le_refl _, rfl, hown0, Below.refl _ _⟩
  case round =>
    clear hown0
    obtain ⟨k, l, hk, rfl, rfl, hll, HL, hown, hb⟩ := hrel
    by_cases hkn : k < L.length
    · have hC := HT.out k _ hkn hb
      have hs := setL_succ k (lostP L)
      obtain ⟨z, hz⟩ : ∃ z, dcd (lostP L k) = z := ⟨_, rfl⟩
      rw [hz] at hC hs
      have HS := Lib.hid hs
      have sw := hb.size
      clear hz hs
      cases z with
      | true =>
        have HE : Hid (l ++ [(k : Int)] = setL (k + 1) (lostP L)) := by show l ++ [(k : Int)] = _; rw [HS.out, ← HL.out]; simp
        go_wp2_with fail
        refine hC.mono ?_
        rintro e w2 ⟨rfl, hb2⟩
        have hown2 := own_blockJ hown fun g _ hg => hb2.block g hg
        have s2 := hb2.size
        go_wp2_with (first
          | (at_builtin; refine wpList_append_own _ rfl _ _ 29 rfl w.heap.size 2 i0 (.int .i64 0) 1 8 Try.underlying29 hi hz0 hz1 hz2 rfl (by decide) _ _ _ rfl (hown2.alloc _) ⟨w2.heap.size, 0, none⟩ 1 1 [.int .i64 (k : Int)] rfl rfl ?c1 ?c2 ?c3 ?c4 ?c5 ?_))
        case c1 => exact World.news_of_block (cs := #[.int .i64 (k : Int)]) (t := 2) (fr := (0, 0)) (heap_alloc_new w2 _)
        case c2 => simp [Value.oneCell']
        case c3 => unfold maxLen; omega
        case c4 => omega
        case c5 => simp; omega
        intro v' w3 hown3 hgrow _
        have hb3 := ((hb.trans (hb2.mono sw)).alloc (by omega) _).grown hgrow (by simp; omega) (fun x e => (hown.lt x e).1)
        have HO : Hid (w3.ownsRow w.heap.size 2 1 v' (l ++ [(k : Int)]).length ((l ++ [(k : Int)]).map (Value.int .i64))) := by rw [snoc_len, snoc_map]; exact hown3
        have HLN := Lib.hid (snoc_len l (k : Int))
        clear hown3 hgrow
        go_wp2
        go_roundg (L.length - (k + 1))
        case measure => omega
        case rel => exact ⟨k + 1, l ++ [(k : Int)], by omega, rfl, by simp, by rw [HLN.out]; omega, HE, HO.out, hb3⟩
      | false =>
        have HE : Hid (l = setL (k + 1) (lostP L)) := by show l = _; rw [HS.out, ← HL.out]; simp
        go_wp2_with fail
        refine hC.mono ?_
        rintro e w2 ⟨rfl, hb2⟩
        have hown2 := own_blockJ hown fun g _ hg => hb2.block g hg
        have hb3 := hb.trans (hb2.mono sw)
        go_wp2
        go_roundg (L.length - (k + 1))
        case measure => omega
        case rel => exact ⟨k + 1, l, by omega, rfl, by simp, by omega, HE, hown2, hb3⟩
    · have e : k = L.length := by omega
      subst e
      go_wp2
      go_ret
      refine ⟨⟨_, rfl, ?_⟩, hb⟩
      unfold lostL
      rw [← HL.out]
      exact ow_of_own hown (Nat.le_refl _) (by omega)
noncomputable def mLost (L : List Vc) : List Int × Bool := if okLB L = true then (lostL L, true) else ([], false)
theorem mLost_yes {L : List Vc} (h : okLB L = true) : mLost L = (lostL L, true) := by unfold mLost; rw [if_pos h]
theorem mLost_no {L : List Vc} (h : okLB L = false) : mLost L = ([], false) := by unfold mLost; rw [if_neg (by rw [h]; decide)]
theorem okL_of {L : List Vc} (h : okLB L = true) : okL L := by
  unfold okLB at h
  exact @of_decide_eq_true _ (Classical.propDecidable _) h
set_option maxHeartbeats 1000000 in
set_option maxRecDepth 100000 in
theorem iLost (L : List Vc) (w : World) (lo hi : Nat) (u : Value) (h : CpV w lo hi u L) : Calls Try.prog 35 #[u] w (QIb (mLost L) w) := by
  obtain ⟨rfl, h1, -, hf⟩ := h
  obtain ⟨w0, hw0⟩ : ∃ w0, w0 = w.alloc (.cells #[.slice (some ⟨lo, 0, none⟩) L.length L.length] 25) := ⟨_, rfl⟩
  have hz0 : w0.heap.size = w.heap.size + 1 := by rw [hw0]; simp
  have hb0 : Below w.heap.size w w0 := by rw [hw0]; exact (Below.refl _ _).alloc (Nat.le_refl _) _
  have hp0 : w0.cell? ⟨w.heap.size, 0, none⟩ = some (.slice (some ⟨lo, 0, none⟩) L.length L.length) := by rw [hw0]; go_simp
  have HV := iok_any L lo lo L.length w0 (h1.below hb0) hf
  cases hz : okLB L with
  | false =>
    rw [mLost_no hz]
    rw [hz] at HV
    clear hz
    go_enter Try.func35, Try.ntmps35
    go_wp2_with fail
    rw [← hw0]
    refine HV.mono ?_
    rintro e w1 ⟨rfl, hb1⟩
    have hb2 := hb0.trans (hb1.mono hb0.size)
    go_wp2
    go_ret2
    exact ⟨_, rfl, OwI.nil _ _ _, hb2⟩
  | true =>
    have hok := okL_of hz
    have HT := Lib.hid (fun w' (hw : Below w0.heap.size w0 w') => who_lost L lo lo L.length w.heap.size w' ((h1.below hb0).below hw) ((hw.cell (p := ⟨w.heap.size, 0, none⟩) (by show w.heap.size < _; omega)).trans hp0) (by have := hw.size; omega) hf hok)
    rw [mLost_yes hz]
    rw [hz] at HV
    clear hz hok
    go_enter Try.func35, Try.ntmps35
    go_wp2_with fail
    rw [← hw0]
    refine HV.mono ?_
    rintro e w1 ⟨rfl, hb1⟩
    have hb2 := hb0.trans (hb1.mono hb0.size)
    have hp1 := (hb1.cell (p := ⟨w.heap.size, 0, none⟩) (by show w.heap.size < _; omega)).trans hp0
    have HW := HT.out _ hb1
    go_wp2_with fail
    refine HW.mono ?_
    rintro e w2 ⟨⟨v, rfl, hv⟩, hb3⟩
    have s1 := hb2.size
    go_wp2
    go_ret2
    exact ⟨_, rfl, hv.mono s1 (Nat.le_refl _), hb2.trans (hb3.mono s1)⟩
end Go.Proofs.Ytlpidgdlbannbaa
