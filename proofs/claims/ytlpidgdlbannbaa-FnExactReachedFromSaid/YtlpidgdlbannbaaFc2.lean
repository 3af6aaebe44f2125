/- FirstCircles, the specification's, by its contract. -/
import Derived.Test.YtlpidgdlbannbaaFc1
namespace Go.Proofs.Ytlpidgdlbannbaa
open Go.ChangeShapes Go.WideShapes Go.ChangeAt Go.RowKit Go.Deep
set_option linter.unusedSimpArgs false
set_option linter.unusedVariables false
noncomputable def mCirc (L : List Vc) : List (List Int) × Bool := if okLB L = true then (circs L L.length, true) else ([], false)
theorem mCirc_yes {L : List Vc} (h : okLB L = true) : mCirc L = (circs L L.length, true) := by unfold mCirc; rw [if_pos h]
theorem mCirc_no {L : List Vc} (h : okLB L = false) : mCirc L = ([], false) := by unfold mCirc; rw [if_neg (by rw [h]; decide)]
theorem okLB_of {L : List Vc} (h : okLB L = true) : okL L := by unfold okLB at h; exact @of_decide_eq_true _ (Classical.propDecidable _) h
theorem ow_own {w : World} {base : Nat} {v : Value} {l : List Int} (h : w.ownsRow base 2 1 v l.length (l.map (Value.int .i64))) (hl : l.length ≤ 1048576) : OwI w base w.heap.size v l := ow_of_own h (Nat.le_refl _) hl
theorem snoc_len (c : List Int) (a : Int) : (c ++ [a]).length = c.length + 1 := by simp
theorem snoc_map (c : List Int) (a : Int) : (c ++ [a]).map (Value.int .i64) = c.map (Value.int .i64) ++ [Value.int .i64 a] := by simp
set_option maxHeartbeats 2000000 in
set_option maxRecDepth 100000 in
theorem sFirstCircles (L : List Vc) (w : World) (lo hi : Nat) (u : Value) (h : CpV w lo hi u L) : Calls Try.prog 29 #[u] w (PJb (mCirc L) w) := by
  obtain ⟨rfl, h1, -, hf⟩ := h
  have HV := sok_any L lo lo L.length w h1 hf
  cases hz : okLB L with
  | false =>
    rw [mCirc_no hz]
    rw [hz] at HV
    clear hz
    go_enter Try.func29, Try.ntmps29
    go_wp2_with fail
    refine HV.mono ?_
    rintro e w1 ⟨rfl, hb1⟩
    go_wp2
    go_ret2
    exact ⟨_, rfl, RdJ.nil _ _ _, hb1⟩
  | true =>
    have hok := okLB_of hz
    have hn := hok.2.1
    have hn1 := hok.1
    have HOK := Lib.hid hok
    rw [mCirc_yes hz]
    rw [hz] at HV
    clear hz hok
    obtain ⟨i0, hi, hz0, hz1, hz2⟩ := info_parts infoI
    obtain ⟨j0, hj, hy0, hy1, hy2⟩ := info_parts infoIS
    have hf1 := hf.1
    clear hf
    go_enter Try.func29, Try.ntmps29
    go_wp2_with fail
    refine HV.mono ?_
    rintro e w1 ⟨rfl, hb1⟩
    have s1 := hb1.size
    have hB0 := BldJ.start_lit w1 s1 (fun _ => .slice none 0 0)
    have hb0 : Below w.heap.size w (w1.alloc (.cells #[] 29)) := hb1.alloc s1 _
    go_wp2
    go_loopg [4, 5] L.length (fun g v i wr => ∃ (k : Nat) (l : List (List Int)) (f : Nat → Value), k ≤ L.length ∧ g = L.length - k ∧ i = .int .i64 k ∧ BldJ wr w.heap.size v l f ∧ Hid (l = circs L k) ∧ l.length ≤ k ∧ Below w.heap.size w wr)
    case atStart => exact ⟨0, [], _, Nat.zero_le _, rfl, rfl, hB0, rfl, Nat.le_refl _, hb0⟩
    case round =>
      clear hB0 hb0
      obtain ⟨k, l, f, hk, rfl, rfl, hB, HL, hlk, hb⟩ := hrel
      obtain ⟨wo, rfl⟩ : ∃ wo : World, wo = wr := ⟨_, rfl⟩
      by_cases hlt : k < L.length
      · have sw := hb.size
        have hown0 : (wo.alloc (.cells #[.int .i64 (k : Int)] 2)).ownsRow wo.heap.size 2 1 (.slice (some ⟨wo.heap.size, 0, none⟩) 1 1) 1 ([(k : Int)].map (Value.int .i64)) := World.ownsRow_lit wo #[.int .i64 (k : Int)] 1 (Nat.le_refl _) (by unfold maxLen; omega) rfl
        have hbl : Below wo.heap.size wo (wo.alloc (.cells #[.int .i64 (k : Int)] 2)) := (Below.refl _ _).alloc (Nat.le_refl _) _
        have hF := first_any L lo lo L.length k _ ((h1.below hb).below hbl) hlt hf1
        have hbd := fst1_bd HOK.out (m := (k : Int)) (by omega) (by omega)
        obtain ⟨a0, ha0⟩ : ∃ a, fst1 L (k : Int) = a := ⟨_, rfl⟩
        rw [ha0] at hF hbd
        obtain ⟨bd1, bd2⟩ := hbd
        have hC0 : Hid (cres L (k : Int) = circ L (k : Int) (L.length - 0) [(k : Int)] a0) := by unfold cres; rw [ha0]; exact rfl
        clear ha0
        go_wp2_with fail
        refine hF.mono ?_
        rintro e w2 ⟨rfl, rfl⟩
        go_wp2
        go_loopg [6, 7, 8] L.length (fun g cv at' kk wi => ∃ (j : Nat) (c : List Int) (a : Int), j ≤ L.length ∧ g = L.length - j ∧ at' = .int .i64 a ∧ kk = .int .i64 j ∧ c.length ≤ j + 1 ∧ j + 1 ≤ c.length ∧ -1 ≤ a ∧ a < (L.length : Int) ∧ Hid (cres L (k : Int) = circ L (k : Int) (L.length - j) c a) ∧ wi.ownsRow wo.heap.size 2 1 cv c.length (c.map (Value.int .i64)) ∧ Below wo.heap.size wo wi)
        case atStart => exact ⟨0, [(k : Int)], a0, Nat.zero_le _, rfl, rfl, rfl, Nat.le_refl _, Nat.le_refl _, bd1, bd2, hC0, hown0, hbl⟩
        case round =>
          clear hown0 hbl hC0 bd1 bd2
          obtain ⟨j, c, a, hjl, rfl, rfl, rfl, hcl, hcl2, bd1, bd2, HC, hown, hbi⟩ := hrel
          have sz := hbi.size
          by_cases hgo : j < L.length ∧ (k : Int) < a
          · obtain ⟨hgo1, hgo2⟩ := hgo
            have HS := Lib.hid hown
            have hnews : ∀ (w' : World) (x : Nat) (u : Value), [Value.int .i64 a][x]? = some u → (w'.alloc (.cells #[.int .i64 a] 2)).cell? ((⟨w'.heap.size, 0, none⟩ : Addr).add x) = some u := fun w' => World.news_of_block (cs := #[.int .i64 a]) (t := 2) (fr := (0, 0)) (heap_alloc_new w' _)
            have HNW := Lib.hid hnews
            clear hnews
            go_wp2_with (first
              | (at_builtin; refine wpList_append_own _ rfl _ _ 29 rfl wo.heap.size 2 i0 (.int .i64 0) 1 8 Try.underlying29 hi hz0 hz1 hz2 rfl (by decide) _ _ _ rfl (hown.alloc _) ⟨wr.heap.size, 0, none⟩ 1 1 [.int .i64 a] rfl rfl (HNW.out wr) ?c2 ?c3 ?c4 ?c5 ?_))
            case c2 => simp [Value.oneCell']
            case c3 => unfold maxLen; omega
            case c4 => omega
            case c5 => simp; omega
            intro v' w3 hown1 hgrow _
            have hb3 := (hbi.alloc sz _).grown hgrow (by simp; omega) (fun x e => (hown.lt x e).1)
            obtain ⟨ja, rfl⟩ : ∃ ja : Nat, a = ja := ⟨a.toNat, by omega⟩
            have hF2 := first_any L lo lo L.length ja _ ((h1.below hb).below hb3) (by omega) hf1
            have hbd := fst1_bd HOK.out (m := (ja : Int)) (by omega) (by omega)
            have hC1 : cres L (k : Int) = circ L (k : Int) (L.length - (j + 1)) (c ++ [(ja : Int)]) (fst1 L (ja : Int)) := by
              rw [HC.out]
              obtain ⟨d, hd⟩ : ∃ d, L.length - j = d + 1 := ⟨L.length - j - 1, by omega⟩
              have hd' : L.length - (j + 1) = d := by omega
              rw [hd, hd']
              show (if (k : Int) < ja then _ else _) = _
              rw [if_pos hgo2]
            obtain ⟨a1, ha1⟩ : ∃ a, fst1 L (ja : Int) = a := ⟨_, rfl⟩
            rw [ha1] at hF2 hbd hC1
            obtain ⟨bd3, bd4⟩ := hbd
            have HC1 := Lib.hid hC1
            have HO1 : Hid (w3.ownsRow wo.heap.size 2 1 v' (c ++ [(ja : Int)]).length ((c ++ [(ja : Int)]).map (Value.int .i64))) := by rw [snoc_len, snoc_map]; exact hown1
            have hcl' : (c ++ [(ja : Int)]).length ≤ j + 1 + 1 ∧ j + 1 + 1 ≤ (c ++ [(ja : Int)]).length := by rw [snoc_len]; omega
            have HCL := Lib.hid hcl'
            clear ha1 hC1 hown1 hgrow hcl'
            go_wp2_with fail
            refine hF2.mono ?_
            rintro e w4 ⟨rfl, rfl⟩
            go_wp2
            go_roundg (L.length - (j + 1))
            case measure => omega
            case rel => exact ⟨j + 1, _, a1, by omega, rfl, rfl, by simp, HCL.out.1, HCL.out.2, bd3, bd4, HC1, HO1.out, hb3⟩
          · have hend : cres L (k : Int) = (c, a) := by
              rw [HC.out]
              by_cases hj2 : j < L.length
              · have hna : ¬ (k : Int) < a := fun q => hgo ⟨hj2, q⟩
                obtain ⟨d, hd⟩ : ∃ d, L.length - j = d + 1 := ⟨L.length - j - 1, by omega⟩
                rw [hd]
                show (if (k : Int) < a then _ else _) = _
                rw [if_neg hna]
              · have hd : L.length - j = 0 := by omega
                rw [hd]; rfl
            have hsu := circs_succ L k
            rw [hend] at hsu
            simp only at hsu
            have HSU := Lib.hid hsu
            have hcm : c.length ≤ 1048576 := by omega
            have hu := ow_own hown hcm
            obtain ⟨va, vc, hshape⟩ := hu.shape
            have HC9 := HC
            clear hend hsu HC
            by_cases hak : a = (k : Int)
            · subst hshape
              subst hak
              have hbld := fun (w3 : World) v' (hg : _) ho => hB.step (v' := v') (w3 := w3) (o := .cells #[.slice va c.length vc] 29) sw hbi hu hg ho
              have HBLD := Lib.hid hbld
              have hl6 : l.length ≤ 12 := by omega
              have howl := (hB.below hbi).own
              clear hbld hu
              by_cases hjj : j < L.length
              all_goals
                go_wp2_with (first
                  | (at_builtin; refine wpList_append_own _ rfl _ _ 41 rfl w.heap.size 29 j0 (.slice none 0 0) 1 24 Try.underlying41 hj hy0 hy1 hy2 rfl (by decide) _ _ _ rfl (howl.alloc _) ⟨wr.heap.size, 0, none⟩ 1 1 [.slice va c.length vc] rfl rfl (World.news_of_block (cs := #[.slice va c.length vc]) (t := 29) (fr := (0, 0)) (heap_alloc_new wr _)) (by simp [Value.oneCell']) (by unfold maxLen; omega) (by omega) (by simp; omega) ?_))
                intro v2 w3 hown4 hgrow4 _
                have hB2 := HBLD.out w3 v2 hgrow4 hown4
                have hb4 := ((hb.trans (hbi.mono sw)).alloc (by omega) _).grown hgrow4 (by simp; omega) (fun x e => (hB.own.lt x e).1)
                clear hown4 hgrow4
                go_wp2
                go_roundg (L.length - (k + 1))
                first
                  | omega
                  | exact ⟨k + 1, l ++ [c], _, by omega, rfl, by simp, hB2, by (have q := HSU.out; simp only [if_true] at q; show l ++ [c] = _; rw [q, ← HL.out]), by rw [List.length_append, List.length_singleton]; omega, hb4⟩
                first
                  | omega
                  | exact ⟨k + 1, l ++ [c], _, by omega, rfl, by simp, hB2, by (have q := HSU.out; simp only [if_true] at q; show l ++ [c] = _; rw [q, ← HL.out]), by rw [List.length_append, List.length_singleton]; omega, hb4⟩
            · have hne : (a == (k : Int)) = false := by simp [hak]
              have hB2 := hB.below hbi
              have hb4 := hb.trans (hbi.mono sw)
              by_cases hjj : j < L.length
              all_goals
                go_wp2
                go_roundg (L.length - (k + 1))
                first
                  | omega
                  | exact ⟨k + 1, l, f, by omega, rfl, by simp, hB2, by (have q := HSU.out; rw [if_neg hak, List.append_nil] at q; show l = _; rw [q, ← HL.out]), by omega, hb4⟩
                first
                  | omega
                  | exact ⟨k + 1, l, f, by omega, rfl, by simp, hB2, by (have q := HSU.out; rw [if_neg hak, List.append_nil] at q; show l = _; rw [q, ← HL.out]), by omega, hb4⟩
      · have e : k = L.length := by omega
        subst e
        go_wp2
        go_ret2
        refine ⟨_, rfl, ?_, hb⟩
        rw [← HL.out]
        exact (hB.done (by rw [HL.out]; exact circs_fits hn _ (Nat.le_refl _))).rd
end Go.Proofs.Ytlpidgdlbannbaa
