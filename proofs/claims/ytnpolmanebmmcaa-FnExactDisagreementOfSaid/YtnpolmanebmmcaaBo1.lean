/- BordaScores: the sums of the rows, the specification's. -/
import Derived.Test.YtnpolmanebmmcaaCp1
namespace Go.Proofs.Ytnpolmanebmmcaa
open Go.ChangeShapes Go.WideShapes Go.ChangeAt Go.RowKit Go.Deep
set_option linter.unusedSimpArgs false
set_option linter.unusedVariables false
/-- What is read of a matrix. -/
theorem OwJ.rdAt {w : World} {lo hi b cap n : Nat} {M : List (List Int)} (h : OwJ w lo hi (.slice (some ⟨b, 0, none⟩) n cap) M) (hs : Sq n M) {i : Nat} (hi' : i < n) :
    ∃ c cp, w.cell? ⟨b, i, none⟩ = some (.slice (some ⟨c, 0, none⟩) n cp) ∧ b < w.heap.size ∧ c < w.heap.size ∧ ∀ j, j < n → w.cell? ⟨c, j, none⟩ = some (.int .i64 (mg M i j)) := by
  have hl : M.length = n := hs.1
  rw [← hl] at h
  obtain ⟨c, cp, d1, d2, d3, d4, d5, d6, d7, d8, d9, d10⟩ := h.setAt (i := i) (by omega) (by rw [hs.2 i hi']; omega)
  rw [hs.2 i hi'] at d1
  exact ⟨c, cp, d1, d8, d4, fun j hj => (d9 j (by rw [hs.2 i hi']; exact hj)).1⟩
/-- The sum of the first k numbers of row i. -/
def rsum (M : List (List Int)) (i : Nat) : Nat → Int
  | 0 => 0
  | k + 1 => rsum M i k + mg M i k
theorem rsum_bd {M : List (List Int)} (h : Bd 1000000 M) (i k : Nat) : 0 ≤ rsum M i k ∧ rsum M i k ≤ 1000000 * k := by
  induction k with
  | zero => simp [rsum]
  | succ k ih =>
    have := h i k
    show 0 ≤ rsum M i k + mg M i k ∧ rsum M i k + mg M i k ≤ _
    have hc : ((k + 1 : Nat) : Int) = (k : Int) + 1 := by omega
    rw [hc]
    omega
/-- The first k scores. -/
def scs (M : List (List Int)) (n k : Nat) : List Int := (List.range k).map fun i => rsum M i n
theorem scs_len (M : List (List Int)) (n k : Nat) : (scs M n k).length = k := by simp [scs]
theorem scs_succ (M : List (List Int)) (n k : Nat) : scs M n (k + 1) = scs M n k ++ [rsum M k n] := by simp [scs, List.range_succ]
theorem scs_at (M : List (List Int)) (n : Nat) {k i : Nat} (h : i < k) : (scs M n k).getD i 0 = rsum M i n := by simp [scs, List.getD, h]
noncomputable def mBo (X : Pr) : List Int × Bool := if pOkB X then (scs (cmat X) (nop X) (nop X), true) else ([], false)
theorem mBo_yes {X : Pr} (h : pOkB X = true) : mBo X = (scs (cmat X) (nop X) (nop X), true) := by simp [mBo, h]
theorem mBo_no {X : Pr} (h : pOkB X = false) : mBo X = ([], false) := by simp [mBo, h]
set_option maxHeartbeats 2000000 in
set_option maxRecDepth 100000 in
theorem sBo (X : Pr) (w : World) (lo hi : Nat) (u : Value) (h : CpR w lo hi u X) : Calls Try.prog 21 #[u] w (PIb (mBo X) w) := by
  obtain ⟨i0, hinf, hz0, hz1, hz2⟩ := info_parts infoI
  obtain ⟨b, c, rfl, -, h⟩ := h
  have b1 := (Below.refl w.heap.size w).alloc (Nat.le_refl _) (.cells #[.slice (some ⟨b, 0, none⟩) X.1.length X.1.length, .slice (some ⟨c, 0, none⟩) X.2.length X.2.length] 28)
  have hX : ∀ w', Below w.heap.size w w' → PrAt w' w.heap.size (.slice (some ⟨b, 0, none⟩) X.1.length X.1.length) (.slice (some ⟨c, 0, none⟩) X.2.length X.2.length) → PrX w' w.heap.size b c X := fun w' hb hp => (h.below hb).prx hp
  have HI := sIs X w.heap.size b c _ (hX _ b1 (pr_at w _ _)) h.fits
  have HP := fun w' hb hp hok => spairs X w.heap.size b c w' (hX w' hb hp) hok
  have hpa := pr_at w (.slice (some ⟨b, 0, none⟩) X.1.length X.1.length) (.slice (some ⟨c, 0, none⟩) X.2.length X.2.length)
  obtain ⟨z, hz⟩ : ∃ z, pOkB X = z := ⟨_, rfl⟩
  rw [hz] at HI
  clear h hX
  cases z with
  | false =>
    rw [mBo_no hz]
    clear hz HP
    go_enter Try.func21, Try.ntmps21
    go_wp2_with fail
    refine HI.mono ?_
    rintro e w1 ⟨rfl, hb⟩
    go_wp2
    go_ret2
    exact ⟨_, rfl, RdI.nil _ _ _, b1.trans (hb.mono b1.size)⟩
  | true =>
    rw [mBo_yes hz]
    have hok := pOkB_iff.1 hz
    have HPP := fun w' hb hp => HP w' hb hp hok
    have hcm := cmat_ok hok
    have hn6 : nop X ≤ 6 := hok.2.2.2.2.1
    obtain ⟨n, hn⟩ : ∃ n, nop X = n := ⟨_, rfl⟩
    obtain ⟨M, hM⟩ : ∃ M, cmat X = M := ⟨_, rfl⟩
    rw [hn] at hcm hn6
    rw [hM] at hcm
    simp only [hn, hM] at HPP ⊢
    obtain ⟨hsq, hbd⟩ := hcm
    have HSQ := Lib.hid hsq
    have HBD := Lib.hid hbd
    clear hz HP hok hsq hbd hn hM
    go_enter Try.func21, Try.ntmps21
    go_wp2_with fail
    refine HI.mono ?_
    rintro e w1 ⟨rfl, hb⟩
    have b2 := b1.trans (hb.mono b1.size)
    have HQ := HPP w1 b2 (hpa.below hb)
    have s2 := b2.size
    clear HPP hb HI
    go_wp2_with fail
    refine HQ.mono ?_
    rintro e w2 ⟨⟨b', cap, rfl, hO⟩, hb2⟩
    have HO := Lib.hid hO
    have b3 := b2.trans (hb2.mono s2)
    have s3 := b3.size
    have hown0 : (w2.alloc (.cells #[] 2)).ownsRow w2.heap.size 2 1 (.slice (some ⟨w2.heap.size, 0, none⟩) 0 0) 0 (([] : List Int).map (Value.int .i64)) := World.ownsRow_lit w2 #[] 0 (Nat.le_refl _) (by unfold maxLen; omega) rfl
    have hb0 := (Below.refl w2.heap.size w2).alloc (Nat.le_refl _) (.cells #[] 2)
    clear hO HQ hb2 b2 b1 hpa
    go_wp2
    go_loopg [5, 6] n (fun g v i wr => ∃ (k : Nat) (l : List Int), k ≤ n ∧ g = n - k ∧ i = .int .i64 k ∧ l.length = k ∧ Hid (l = scs M n k) ∧ Below w2.heap.size w2 wr ∧ wr.ownsRow w2.heap.size 2 1 v l.length (l.map (Value.int .i64)))
    case atStart => exact ⟨0, [], Nat.zero_le _, rfl, rfl, rfl, rfl, hb0, hown0⟩
    case round =>
      clear hown0 hb0
      obtain ⟨k, l, hk, rfl, rfl, hlk, HL, hb, hown⟩ := hrel
      obtain ⟨wo, rfl⟩ : ∃ wo : World, wo = wr := ⟨_, rfl⟩
      have HLK := Lib.hid hlk
      have hlk' : l.length ≤ 6 := by omega
      clear hlk
      by_cases hlt : k < n
      · obtain ⟨c', cp, c1, -, -, c4⟩ := (HO.out.below hb).rdAt HSQ.out hlt
        have HC4 := Lib.hid c4
        clear c4
        go_wp2
        go_loopg [7, 8] n (fun g sv i wi => ∃ (j : Nat) (s : Int), j ≤ n ∧ g = n - j ∧ sv = .int .i64 s ∧ i = .int .i64 j ∧ wo = wi ∧ s = rsum M k j)
        case atStart => exact ⟨0, 0, Nat.zero_le _, rfl, rfl, rfl, rfl, rfl⟩
        case round =>
          obtain ⟨j, s, hj, rfl, rfl, rfl, rfl, hs⟩ := hrel
          by_cases hjl : j < n
          · have c5 := HC4.out j hjl
            have h1 := rsum_bd HBD.out k j
            have h2 := HBD.out k j
            have hs2 : rsum M k (j + 1) = rsum M k j + mg M k j := rfl
            rw [← hs] at h1 hs2
            obtain ⟨q, hq⟩ : ∃ q, mg M k j = q := ⟨_, rfl⟩
            rw [hq] at c5 h2 hs2
            have wq : IntKind.i64.wrap (s + q) = s + q := by rw [IntKind.wrap_i64]; omega
            have HS2 := Lib.hid hs2
            clear hs2 hs hq
            go_wp2
            go_roundg (n - (j + 1))
            case measure => omega
            case rel => exact ⟨j + 1, s + q, by omega, rfl, by first | rfl | rw [wq], by simp, rfl, HS2.out.symm⟩
          · obtain rfl : j = n := by omega
            have HS2 : Hid (l ++ [s] = scs M j (k + 1)) := Lib.hid (by rw [scs_succ, ← hs, ← HL.out])
            have HLN : Hid ((l ++ [s]).length = k + 1) := Lib.hid (by rw [List.length_append, List.length_singleton, HLK.out])
            clear hs
            go_wp2_with (first
              | (at_builtin; refine wpList_append_own _ rfl _ _ 23 rfl w2.heap.size 2 i0 (.int .i64 0) 1 8 Try.underlying23 hinf hz0 hz1 hz2 rfl (by decide) _ _ _ rfl (hown.alloc _) ⟨wo.heap.size, 0, none⟩ 1 1 [.int .i64 s] rfl rfl ?c1 ?c2 ?c3 ?c4 ?c5 ?_))
            case c1 => exact World.news_of_block (cs := #[.int .i64 s]) (t := 2) (fr := (0, 0)) (heap_alloc_new _ _)
            case c2 => simp [Value.oneCell']
            case c3 => unfold maxLen; omega
            case c4 => omega
            case c5 => have := hb.size; simp; omega
            intro v' w3 hown3 hgrow _
            have hb3 := (hb.alloc hb.size _).grown hgrow (by have := hb.size; simp; omega) (fun x e => (hown.lt x e).1)
            have HO3 : Hid (w3.ownsRow w2.heap.size 2 1 v' (l ++ [s]).length ((l ++ [s]).map (Value.int .i64))) := by rw [List.length_append, List.length_singleton, List.map_append, List.map_singleton]; exact hown3
            clear hown3 hgrow
            go_wp2
            go_roundg (j - (k + 1))
            case measure => omega
            case rel => exact ⟨k + 1, l ++ [s], by omega, rfl, by simp, HLN.out, HS2, hb3, HO3.out⟩
      · obtain rfl : k = n := by omega
        have hln : l = scs M k k := HL.out
        have how := ow_of_own hown (Nat.le_refl _) (by omega)
        rw [hln] at how
        clear hown HL HLK
        go_wp2
        go_ret2
        exact ⟨_, rfl, (how.mono s3 (Nat.le_refl _)).rd, b3.trans (hb.mono s3)⟩
end Go.Proofs.Ytnpolmanebmmcaa
