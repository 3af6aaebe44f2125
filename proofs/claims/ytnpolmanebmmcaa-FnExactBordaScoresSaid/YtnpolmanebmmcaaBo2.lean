/- BordaScores: the program's. -/
import Derived.Test.YtnpolmanebmmcaaBo1
namespace Go.Proofs.Ytnpolmanebmmcaa
open Go.ChangeShapes Go.WideShapes Go.ChangeAt Go.RowKit Go.Deep
set_option linter.unusedSimpArgs false
set_option linter.unusedVariables false
/-- What place j of the scores holds when k rows are summed up, and j' numbers of row k. -/
def sco (M : List (List Int)) (n k j' j : Nat) : Int := if j < k then rsum M j n else if j = k then rsum M k j' else 0
set_option maxHeartbeats 2000000 in
set_option maxRecDepth 100000 in
theorem iBo (X : Pr) (w : World) (lo hi : Nat) (u : Value) (h : CpR w lo hi u X) : Calls Try.prog 22 #[u] w (QIb (mBo X) w) := by
  obtain ⟨b, c, rfl, -, h⟩ := h
  have b1 := (Below.refl w.heap.size w).alloc (Nat.le_refl _) (.cells #[.slice (some ⟨b, 0, none⟩) X.1.length X.1.length, .slice (some ⟨c, 0, none⟩) X.2.length X.2.length] 28)
  have HI := ival X b c hi _ (h.below b1)
  have HP := fun w' hb hok => icounts X b c hi w' (h.below hb) hok
  have hpa := pr_at w (.slice (some ⟨b, 0, none⟩) X.1.length X.1.length) (.slice (some ⟨c, 0, none⟩) X.2.length X.2.length)
  have HR := Lib.hid h.rows
  have hbl : b < w.heap.size := h.rows.lt
  obtain ⟨z, hz⟩ : ∃ z, pOkB X = z := ⟨_, rfl⟩
  rw [hz] at HI
  clear h
  cases z with
  | false =>
    rw [mBo_no hz]
    clear hz HP
    go_enter Try.func22, Try.ntmps22
    go_wp2_with fail
    refine HI.mono ?_
    rintro e w1 ⟨rfl, hb⟩
    go_wp2
    go_ret2
    exact ⟨_, rfl, OwI.nil _ _ _, b1.trans (hb.mono b1.size)⟩
  | true =>
    rw [mBo_yes hz]
    have hok := pOkB_iff.1 hz
    have HPP := fun w' hb => HP w' hb hok
    have hcm := cmat_ok hok
    have hn6 : nop X ≤ 6 := hok.2.2.2.2.1
    have hA1 : 1 ≤ X.1.length := hok.1
    obtain ⟨c0, a1, -⟩ := HR.out.at (k := 0) (by omega)
    have hnp : (X.1.getD 0 []).length = nop X := rfl
    rw [hnp] at a1
    obtain ⟨n, hn⟩ : ∃ n, nop X = n := ⟨_, rfl⟩
    obtain ⟨M, hM⟩ : ∃ M, cmat X = M := ⟨_, rfl⟩
    rw [hn] at hcm hn6 a1
    rw [hM] at hcm
    simp only [hn, hM] at HPP ⊢
    obtain ⟨hsq, hbd⟩ := hcm
    have HSQ := Lib.hid hsq
    have HBD := Lib.hid hbd
    have hmk := run_make_row' (P := Try.prog) 23 2 (.int .i64 0) 8 Try.underlying23 infoI rfl .i64 .i64 n (by omega) (by omega)
    clear hz HP hok hsq hbd hn hM hnp
    obtain ⟨A, C⟩ := X
    simp only at HI HPP hpa hA1 b1 a1 ⊢
    go_enter Try.func22, Try.ntmps22
    go_wp2_with fail
    refine HI.mono ?_
    rintro e w1 ⟨rfl, hb⟩
    have b2 := b1.trans (hb.mono b1.size)
    obtain ⟨k0, k1, kl⟩ := hpa.below hb
    have a2 := (b2.cell (p := ⟨b, 0, none⟩) hbl).trans a1
    have s2 := b2.size
    have hbl2 : b < w1.heap.size := by omega
    have bm := (Below.refl w1.heap.size w1).alloc (Nat.le_refl _) (.cells (madeCells #[.int .i64 0] n) 2)
    have b3 := b2.trans (bm.mono s2)
    have HQ := HPP _ b3
    have hg0 : (w1.alloc (.cells (madeCells #[.int .i64 0] n) 2)).rowIs w1.heap.size 2 n (fun _ => .int .i64 0) := World.rowIs_made _ _ _ _
    clear HPP hb HI a1
    go_wp2_with fail
    refine HQ.mono ?_
    rintro e w3 ⟨⟨b', rfl, hO⟩, hb3⟩
    rw [World.size_alloc] at hO hb3
    have hg : w3.rowIs w1.heap.size 2 n (fun j => .int .i64 (sco M n 0 0 j)) := (World.rowIs.of_block hg0 (hb3.block _ (by omega))).congr (fun j _ => by
      unfold sco
      rw [if_neg (Nat.not_lt_zero _)]
      split <;> rfl)
    have b4 := b3.trans (hb3.mono (by omega))
    have s3 : w1.heap.size + 1 ≤ w3.heap.size := by have := hb3.size; simpa using this
    obtain ⟨g, hgg⟩ : ∃ g, w1.heap.size = g := ⟨_, rfl⟩
    obtain ⟨H, hH⟩ : ∃ H, w3.heap.size = H := ⟨_, rfl⟩
    simp only [hgg] at hg hO s2 ⊢
    rw [hH] at hO
    have hgH : g < H := by omega
    clear hgg hg0 HQ bm b3 b2 hmk hpa b1 a2 k0 k1 kl hbl2
    go_wp2
    go_loopg [21] n (fun gg i wr => ∃ k : Nat, k ≤ n ∧ gg = n - k ∧ i = .int .i64 k ∧ Below w.heap.size w wr ∧ H ≤ wr.heap.size ∧ OwJ wr (g + 1) H (.slice (some ⟨b', 0, none⟩) n n) M ∧ wr.rowIs g 2 n (fun j => .int .i64 (sco M n k 0 j)))
    case atStart => exact ⟨0, Nat.zero_le _, rfl, rfl, b4, by omega, hO, hg⟩
    case round =>
      clear b4 hO hg s3 hb3
      obtain ⟨k, hk, rfl, rfl, hb, hHs, hO, hg⟩ := hrel
      by_cases hlt : k < n
      · obtain ⟨c', cp, c1, c2, c3, c4⟩ := hO.rdAt HSQ.out hlt
        clear c4
        go_wp2
        go_loopg [28] n (fun gg i wi => ∃ j : Nat, j ≤ n ∧ gg = n - j ∧ i = .int .i64 j ∧ Below w.heap.size w wi ∧ H ≤ wi.heap.size ∧ OwJ wi (g + 1) H (.slice (some ⟨b', 0, none⟩) n n) M ∧ wi.cell? ⟨b', k, none⟩ = some (.slice (some ⟨c', 0, none⟩) n cp) ∧ wi.rowIs g 2 n (fun j' => .int .i64 (sco M n k j j')))
        case atStart => exact ⟨0, Nat.zero_le _, rfl, rfl, hb, hHs, hO, c1, hg⟩
        case round =>
          clear hb hHs hO hg c1
          obtain ⟨j, hj, rfl, rfl, hb, hHs, hO, c1, hg⟩ := hrel
          by_cases hjl : j < n
          · obtain ⟨c'', cp', d1, d2, d3, d4⟩ := hO.rdAt HSQ.out hlt
            rw [c1] at d1
            simp only [Option.some.injEq, Value.slice.injEq, Addr.mk.injEq, and_true, true_and] at d1
            obtain ⟨rfl, rfl⟩ := d1
            have c5 := d4 j hjl
            have h1 := rsum_bd HBD.out k j
            have h2 := HBD.out k j
            have g1 := hg.cell (i := k) hlt
            have g2 := hg.frozen k
            have hsk : sco M n k j k = rsum M k j := by unfold sco; rw [if_neg (by omega), if_pos rfl]
            rw [hsk] at g1
            have hs2 : rsum M k (j + 1) = rsum M k j + mg M k j := rfl
            obtain ⟨s, hs⟩ : ∃ s, rsum M k j = s := ⟨_, rfl⟩
            obtain ⟨q, hq⟩ : ∃ q, mg M k j = q := ⟨_, rfl⟩
            rw [hs] at g1 h1 hs2
            rw [hq] at c5 h2 hs2
            have wq : IntKind.i64.wrap (s + q) = s + q := by rw [IntKind.wrap_i64]; omega
            have hG := (hg.set k (.int .i64 (s + q))).congr (f := _) (g := fun j' => .int .i64 (sco M n k (j + 1) j')) (fun j' _ => by
              by_cases e : j' = k
              · subst e
                rw [if_pos rfl]
                unfold sco
                rw [if_neg (by omega), if_pos rfl, hs2]
              · rw [if_neg e]
                unfold sco
                by_cases e2 : j' < k
                · rw [if_pos e2, if_pos e2]
                · rw [if_neg e2, if_neg e2, if_neg e, if_neg e])
            have hO2 := hO.other (x := g) (o := k) (by omega) (.int .i64 (s + q))
            have hb2 := hb.setCell (p := ⟨g, k, none⟩) s2 (.int .i64 (s + q))
            have hne : ¬ g = b' := by
              intro e
              have := (hO.rdAt HSQ.out hlt)
              obtain ⟨⟨-, h0⟩ | ⟨b0, cap0, N0, f0, e0, q1, q2, -⟩, -⟩ := hO
              · have := HSQ.out.1; rw [h0] at this; simp at this; omega
              · simp only [Value.slice.injEq, Option.some.injEq, Addr.mk.injEq, and_true, true_and] at e0
                omega
            have hc1 : (wr.setCell ⟨g, k, none⟩ (.int .i64 (s + q))).cell? ⟨b', k, none⟩ = some (.slice (some ⟨c', 0, none⟩) n cp) :=
              (World.cell?_of_block (a := ⟨b', k, none⟩) (heap_setCell_other _ _ _ _ (show b' ≠ g from fun e => hne e.symm))).trans c1
            have HH := Lib.hid (And.intro hb2 (And.intro hO2 (And.intro hc1 hG)))
            clear hG hO2 hb2 hc1 hO hg d4 hs hq hs2 hsk
            go_wp2
            go_roundg (n - (j + 1))
            case measure => omega
            case rel => exact ⟨j + 1, by omega, rfl, by simp, HH.out.1, by simp [World.setCell]; exact hHs, HH.out.2.1, HH.out.2.2.1, HH.out.2.2.2⟩
          · obtain rfl : j = n := by omega
            have hG := hg.congr (g := fun j' => .int .i64 (sco M j (k + 1) 0 j')) (fun j' _ => by
              unfold sco
              by_cases e2 : j' < k
              · rw [if_pos e2, if_pos (by omega)]
              · rw [if_neg e2]
                by_cases e : j' = k
                · subst e; rw [if_pos rfl, if_pos (by omega)]
                · rw [if_neg e, if_neg (by omega)]
                  split <;> rfl)
            clear hg
            go_wp2
            go_roundg (j - (k + 1))
            case measure => omega
            case rel => exact ⟨k + 1, by omega, rfl, by simp, hb, hHs, hO, hG⟩
      · obtain rfl : k = n := by omega
        have hOw : OwI wr w.heap.size wr.heap.size (.slice (some ⟨g, 0, none⟩) k k) (scs M k k) := by
          have := (show OwnI wr g (scs M k k) from by
            unfold OwnI
            rw [scs_len]
            exact hg.congr fun j hj => by rw [scs_at M k hj]; unfold sco; rw [if_pos hj]).ow k w.heap.size wr.heap.size s2 (by omega) (by rw [scs_len]; omega)
          rw [scs_len] at this
          exact this
        clear hg hO
        go_wp2
        go_ret2
        exact ⟨_, rfl, hOw, hb⟩
end Go.Proofs.Ytnpolmanebmmcaa
