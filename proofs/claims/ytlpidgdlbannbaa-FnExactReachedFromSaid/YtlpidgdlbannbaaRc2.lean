/- What steps lead to, by the program's search. -/
import Derived.Test.YtlpidgdlbannbaaRc1
import Derived.Test.YtlpidgdlbannbaaVr1
import Derived.Test.YtlpidgdlbannbaaSh8
import Derived.Test.YtlpidgdlbannbaaSrtI
import Derived.Deep.AppendLies
namespace Go.Proofs.Ytlpidgdlbannbaa
open Go.ChangeShapes Go.WideShapes Go.ChangeAt Go.RowKit Go.Deep
set_option linter.unusedSimpArgs false
set_option linter.unusedVariables false
/-- To whom a member passes something. -/
def nxS (L : List (List Sq)) (x : Int) : List Int := (L.getD x.toNat []).map Prod.fst
theorem nxS_at (L : List (List Sq)) (j : Nat) : nxS L (j : Int) = (L.getD j []).map Prod.fst := by simp [nxS]
set_option maxHeartbeats 1000000 in
set_option maxRecDepth 100000 in
theorem recv_any (L : List (List Sq)) (B b cap j : Nat) (w : World) (h : SS w B b L) (hf : FitsS L) (hj : j < L.length) :
    Calls Try.prog 111 #[.slice (some ⟨b, 0, none⟩) L.length cap, .int .i64 (j : Int)] w fun e w' => (∃ n, e = .returned (.slice (some ⟨w.heap.size, 0, none⟩) n n) ∧ n = (nxS L (j : Int)).length ∧ OwnI w' w.heap.size (nxS L (j : Int))) ∧ Below w.heap.size w w' := by
  obtain ⟨c, a2, a3⟩ := h.at hj
  have hlen := hf.2 j hj
  rw [nxS_at]
  have lb := h.lt
  have lc := World.rowIs.lt a3
  have nb := Nat.ne_of_lt lb
  have nc := Nat.ne_of_lt lc
  generalize L.getD j [] = t at a2 a3 hlen ⊢
  obtain ⟨l, hl⟩ : ∃ l, t.map Prod.fst = l := ⟨_, rfl⟩
  have hll : l.length = t.length := by rw [← hl]; simp
  have hla : ∀ k, k < t.length → l.getD k 0 = (t.getD k (0, 0)).1 := fun k hk => by rw [← hl]; simp [List.getD, hk]
  rw [hl]
  have HLL := Lib.hid hll
  have HLA := Lib.hid hla
  have hf1 := hf.1
  clear hl hll hla hf
  have hmk := run_make_row' (P := Try.prog) 29 2 (.int .i64 0) 8 Try.underlying29 infoI rfl .i64 .i64 t.length (by omega) (by omega)
  have hbl : Below w.heap.size w (w.alloc (.cells (madeCells #[.int .i64 0] t.length) 2)) := (Below.refl _ _).alloc (Nat.le_refl _) _
  go_enter Try.func111, Try.ntmps111
  go_wp2
  go_loopg [19] t.length (fun g i wr => ∃ k : Nat, k ≤ t.length ∧ g = t.length - k ∧ i = .int .i64 k ∧ wr.rowIs w.heap.size 2 t.length (fillI l k) ∧ Below w.heap.size w wr)
  case atStart => exact ⟨0, Nat.zero_le _, rfl, rfl, (World.rowIs_made w _ _ _).congr (fun j _ => by simp [fillI]), hbl⟩
  case round =>
    clear hmk hbl
    obtain ⟨k, hk, rfl, rfl, hr, hb⟩ := hrel
    by_cases hlt : k < t.length
    · obtain ⟨c1, c2⟩ := (a3.below hb).at hlt
      have hat := HLA.out k hlt
      obtain ⟨⟨y, p⟩, hy⟩ : ∃ y, t.getD k (0, 0) = y := ⟨_, rfl⟩
      rw [hy] at c1 c2 hat
      simp only at c1 c2 hat
      have HAT := Lib.hid hat
      have c0 : wr.cell? ⟨w.heap.size, k, none⟩ = some (fillI l k k) := hr.cell hlt
      have f0 : wr.frozen? ⟨w.heap.size, k, none⟩ = false := hr.frozen k
      have lw := hr.lt
      have nw := Nat.ne_of_lt lw
      clear hat hy
      go_wp2
      go_roundg (t.length - (k + 1))
      case measure => omega
      case rel =>
        refine ⟨k + 1, by omega, rfl, by simp, ((hr.set k _).alloc _).congr (fun j hj => ?_), (hb.setCell (Nat.le_refl _) _).alloc (by have := hb.size; simp [World.setCell]; omega) _⟩
        unfold fillI
        by_cases e : j = k
        · subst e; simp; rw [← HAT.out]; simp [List.getD]
        · rw [if_neg e]
          by_cases hjk : j < k
          · rw [if_pos hjk, if_pos (by omega)]
          · rw [if_neg hjk, if_neg (by omega)]
    · have e : k = t.length := by omega
      subst e
      go_wp2
      go_ret
      refine ⟨⟨_, rfl, HLL.out.symm, ?_⟩, hb⟩
      unfold OwnI
      rw [HLL.out]
      exact hr.congr fun j hj => by simp [fillI, hj]
set_option maxHeartbeats 2000000 in
set_option maxRecDepth 100000 in
theorem reach_shares (L : List (List Sq)) (b cap : Nat) (s : List Int) (cs caps : Nat) (w : World) (hLn : L.length ≤ 6)
    (hs : OwnI w cs s) (hs0 : s ≠ []) (hsr : ∀ x ∈ s, 0 ≤ x ∧ x < (L.length : Int)) (hsn : s.Nodup)
    (HC : ∀ (j : Nat) (w' : World), j < L.length → Below w.heap.size w w' → Calls Try.prog 111 #[.slice (some ⟨b, 0, none⟩) L.length cap, .int .i64 (j : Int)] w' fun e w'' => (∃ v, e = .returned v ∧ RowV w'' v ((nxS L) (j : Int)) ∧ ∀ k, v.ownBlock = some k → (k < w.heap.size ∨ w'.heap.size ≤ k) ∧ k < w''.heap.size) ∧ Below w'.heap.size w' w'')
    (hnr : ∀ j : Nat, j < L.length → ((nxS L) (j : Int)).length ≤ 1048576 ∧ ∀ z ∈ (nxS L) (j : Int), 0 ≤ z ∧ z < (L.length : Int)) :
    Calls Try.prog 100 #[.slice (some ⟨cs, 0, none⟩) s.length caps, .func (.func 111) #[.slice (some ⟨b, 0, none⟩) L.length cap] #[]] w fun e w' => (∃ v, e = .returned v ∧ OwI w' w.heap.size w'.heap.size v (setL L.length fun i => Rch ((nxS L)) s (i : Int))) ∧ Below w.heap.size w w' := by
  obtain ⟨i0, hi, hz0, hz1, hz2⟩ := info_parts infoI
  have hsl : s.length ≤ L.length := pigeon _ _ hsn hsr
  have hcl := clone_any ⟨cs, 0, none⟩ caps s w (.inr ⟨_, caps, rfl, fun _ => hs.lt, fun i hi => by rw [Addr.add_lit, Nat.zero_add]; exact World.rowIs.cell hs hi⟩) (by omega)
  have hS0 : Srch ((nxS L)) s L.length s 0 := ⟨hsn, hsr, fun x hx => Rch.base hx, fun x hx => hx, fun p hp => absurd hp (Nat.not_lt_zero _)⟩
  have hpos := List.length_pos_iff.2 hs0
  have HNR := Lib.hid hnr
  clear hs hsn hsr hs0 hnr
  go_enter Try.func100, Try.ntmps100
  go_wp2_with fail
  refine hcl.mono ?_
  rintro e w1 ⟨⟨c0, cap0, rfl, q1, q2, q3⟩, hb1⟩
  go_wp2
  go_loopg [5, 6] L.length (fun g v i wr => ∃ (R : List Int) (i' c cap : Nat), g = L.length - i' ∧ i' ≤ R.length ∧ R.length ≤ L.length ∧ 0 < R.length ∧ i = .int .i64 i' ∧ v = .slice (some ⟨c, 0, none⟩) R.length cap ∧ w.heap.size ≤ c ∧ c < wr.heap.size ∧ Srch ((nxS L)) s L.length R i' ∧ wr.ownsRow w.heap.size 2 1 v R.length (R.map (Value.int .i64)) ∧ Below w.heap.size w wr)
  case atStart => exact ⟨s, 0, c0, cap0, rfl, Nat.zero_le _, hsl, hpos, rfl, rfl, q1, q2, hS0, q3, hb1⟩
  case round =>
    clear hS0 hcl q3 q1 q2 hb1
    obtain ⟨R, i, c, cap, rfl, hir, hRn, hR0, rfl, rfl, hcb, hcs, hS, hown, hb⟩ := hrel
    by_cases hlt : i < R.length
    · have hu := ow_own hown (by omega)
      have c1 : wr.cell? ⟨c, i, none⟩ = some (Value.int .i64 (R.getD i 0)) := by
        rcases hu.rd.1 with ⟨h9, -⟩ | ⟨x, cp, h9, _, hc9⟩
        · cases h9
        · simp only [Value.slice.injEq, Option.some.injEq] at h9
          obtain ⟨rfl, -, -⟩ := h9
          have q := hc9 i hlt
          rw [Addr.add_lit, Nat.zero_add] at q
          exact q
      have hrx := hS.rng _ (mem_getD hlt)
      obtain ⟨y, hy⟩ : ∃ y, R.getD i 0 = y := ⟨_, rfl⟩
      rw [hy] at c1 hrx
      obtain ⟨j, rfl⟩ : ∃ j : Nat, y = j := ⟨y.toNat, by omega⟩
      have hj : j < L.length := by omega
      have HJ := HC j _ hj hb
      obtain ⟨htl, htr⟩ := HNR.out j hj
      obtain ⟨t, ht⟩ : ∃ t, ((nxS L)) (j : Int) = t := ⟨_, rfl⟩
      rw [ht] at HJ htl htr
      have HT := Lib.hid ht
      have HY := Lib.hid hy
      have HTR := Lib.hid htr
      have sw := hb.size
      clear ht hy htr hu hrx
      go_wp2_with fail
      refine HJ.mono ?_
      rintro e w2 ⟨⟨tv, rfl, htv, hblk⟩, hb2⟩
      obtain ⟨ta, tc, rfl⟩ := htv.shape
      have hown2 := own_blockJ hown fun g _ hg => hb2.block g hg
      have sw2 := hb2.size
      have hap : ∀ k, ta.map Addr.block = some k → k ≠ c ∧ k < w2.heap.size := fun k e => by
        have q := hblk k (by cases ta <;> simp_all [Value.ownBlock])
        omega
      have HAP := Lib.hid hap
      have hB2 := hb.trans (hb2.mono sw)
      clear hblk hown hap c1
      go_wp2
      go_loopg [5, 24] t.length (fun g v kk wi => ∃ (R' : List Int) (k c' cap' : Nat), k ≤ t.length ∧ g = t.length - k ∧ kk = .int .i64 k ∧ v = .slice (some ⟨c', 0, none⟩) R'.length cap' ∧ w.heap.size ≤ c' ∧ c' < wi.heap.size ∧ R'.length ≤ L.length ∧ i < R'.length ∧ Hid (R'.getD i 0 = (j : Int)) ∧ Hid (∀ p, p < k → t.getD p 0 ∈ R') ∧ Hid (∀ k, ta.map Addr.block = some k → k ≠ c' ∧ k < wi.heap.size) ∧ RowV wi (.slice ta t.length tc) t ∧ Srch ((nxS L)) s L.length R' i ∧ wi.ownsRow w.heap.size 2 1 v R'.length (R'.map (Value.int .i64)) ∧ Below w.heap.size w wi)
      case atStart => exact ⟨R, 0, c, cap, Nat.zero_le _, rfl, rfl, rfl, hcb, by omega, hRn, hlt, HY.out, fun p hp => absurd hp (Nat.not_lt_zero _), HAP.out, htv, hS, hown2, hB2⟩
      case round =>
        clear htv hS hown2 hB2 hb2 sw2 hcs hlt hRn hR0 hir
        obtain ⟨R, k, c, cap, hk, rfl, rfl, rfl, hcb, hcs, hRn, hlt, HY, HK, HAP, htv, hS, hown, hB⟩ := hrel
        by_cases hkl : k < t.length
        · obtain ⟨x, cp, hx0, hx, hc⟩ := htv.cons (by intro h; subst h; simp at hkl)
          have hx1 : ta = some x := by simpa using (Value.slice.inj hx0).1
          have d1 := hc k hkl
          obtain ⟨z, hz⟩ : ∃ z, t.getD k 0 = z := ⟨_, rfl⟩
          rw [hz] at d1
          have hzr := HTR.out z (by rw [← hz]; exact mem_getD hkl)
          have hzn : z ∈ ((nxS L)) (R.getD i 0) := by rw [HY.out, HT.out, ← hz]; exact mem_getD hkl
          have HZN := Lib.hid hzn
          have HZ := Lib.hid hz
          obtain ⟨zr1, zr2⟩ := hzr
          have hcon := cont_any _ R z _ (ow_own hown (by omega)).rd.1 (by omega)
          obtain ⟨b, hbz⟩ : ∃ b, decide (z ∈ R) = b := ⟨_, rfl⟩
          rw [hbz] at hcon
          have HBZ := Lib.hid hbz
          have sw3 := hB.size
          subst hx1
          clear hz hzn hbz hc hx0
          cases b with
          | true =>
            go_wp2_with fail
            refine hcon.mono ?_
            rintro e w3 ⟨rfl, rfl⟩
            go_wp2
            go_roundg (t.length - (k + 1))
            case measure => omega
            case rel =>
              refine ⟨R, k + 1, c, cap, by omega, rfl, by simp, rfl, hcb, hcs, hRn, hlt, HY.out, fun p hp => ?_, HAP.out, htv, hS, hown, hB⟩
              by_cases e : p = k
              · subst e; rw [HZ.out]; exact of_decide_eq_true HBZ.out
              · exact HK.out p (by omega)
          | false =>
            have hS2 := hS.add hlt HZN.out (of_decide_eq_false HBZ.out) ⟨zr1, zr2⟩
            have HS2 := Lib.hid hS2
            have hle2 := hS2.le
            rw [snoc_len] at hle2
            have hRm : R.length ≤ 1048576 := by omega
            have hxb := HAP.out x.block rfl
            clear hS2
            go_wp2_with fail
            refine hcon.mono ?_
            rintro e w3 ⟨rfl, rfl⟩
            go_wp2_with (first
              | (at_builtin; refine wpList_append_lies _ rfl _ _ 29 rfl w.heap.size 2 i0 (.int .i64 0) 1 8 Try.underlying29 hi hz0 hz1 hz2 rfl (by decide) _ _ _ rfl (hown.alloc _) ⟨wr.heap.size, 0, none⟩ 1 1 [.int .i64 z] rfl rfl (World.news_of_block (cs := #[.int .i64 z]) (t := 2) (fr := (0, 0)) (heap_alloc_new wr _)) (by simp [Value.oneCell']) (by omega) (by unfold maxLen; omega) (by omega) (by simp; omega) (wr.heap.size + 1) (by simp) ?_))
            intro g' cap' w4 hown1 hgrow hat hg4
            have hat' : g' = c ∨ g' = wr.heap.size + 1 := by
              rcases hat with h9 | h9
              · left; simpa [Value.ownBlock, eq_comm] using h9
              · exact .inr h9
            have hB4 := (hB.alloc sw3 _).grown hgrow (by simp; omega) (fun x e => (hown.lt x e).1)
            have htv4 : RowV w4 (.slice (some x) t.length tc) t := by
              have h8 := htv.below ((Below.refl wr.heap.size wr).alloc (Nat.le_refl _) (.cells #[.int .i64 z] 2))
              rcases h8 with h9 | ⟨x9, cp9, h9, hx9, hc9⟩
              · cases h9.1
              · refine .inr ⟨x9, cp9, h9, fun q => Nat.lt_of_lt_of_le (hx9 q) hgrow.size, fun p hp => ?_⟩
                simp only [Value.slice.injEq, Option.some.injEq] at h9
                obtain ⟨rfl, -, -⟩ := h9
                rw [← hc9 p hp]
                refine hgrow.cell_far _ (by rw [block_add]; exact hx9 (by omega)) ?_
                rw [block_add]
                intro e9
                have e9 : x.block = c := by simpa [Value.ownBlock] using e9
                exact hxb.1 e9
            have HO1 : Hid (w4.ownsRow w.heap.size 2 1 (.slice (some ⟨g', 0, none⟩) (R.length + 1) cap') (R ++ [z]).length ((R ++ [z]).map (Value.int .i64))) := by rw [snoc_len, snoc_map]; exact hown1
            have hg5 := hgrow.size
            have hHAP : ∀ k, (some x).map Addr.block = some k → k ≠ g' ∧ k < w4.heap.size := fun k e => by
              have e : x.block = k := by simpa using e
              subst e
              simp at hg5
              omega
            have HAP2 := Lib.hid hHAP
            have HLN := Lib.hid (snoc_len R z)
            have e2 : Value.slice (some ⟨g', 0, none⟩) (R.length + 1) cap' = .slice (some ⟨g', 0, none⟩) (R ++ [z]).length cap' := by rw [snoc_len]
            have HE2 := Lib.hid e2
            have hHY : (R ++ [z]).getD i 0 = (j : Int) := by rw [getD_snoc_lt hlt]; exact HY.out
            have HHY := Lib.hid hHY
            clear hown1 hgrow hat hHAP hg5 e2 hHY
            go_wp2
            go_roundg (t.length - (k + 1))
            case measure => omega
            case rel =>
              refine ⟨R ++ [z], k + 1, g', cap', by omega, rfl, by simp, HE2.out, by omega, hg4, by rw [HLN.out]; exact hle2, by rw [HLN.out]; omega, HHY.out, fun p hp => ?_, HAP2.out, htv4, HS2.out, HO1.out, hB4⟩
              by_cases e : p = k
              · subst e; rw [HZ.out]; simp
              · exact List.mem_append_left _ (HK.out p (by omega))
        · have e : k = t.length := by omega
          subst e
          have hS2 := hS.next (by
            intro z hz
            rw [HY.out, HT.out] at hz
            obtain ⟨p, hp, rfl⟩ := getD_of_mem hz
            exact HK.out p hp)
          go_wp2
          go_roundg (L.length - (i + 1))
          case measure => omega
          case rel => exact ⟨R, i + 1, c, cap, rfl, by omega, hRn, by omega, by simp, rfl, hcb, hcs, hS2, hown, hB⟩
    · have e : i = R.length := by omega
      subst e
      have hres := Srch.result hS
      have hsort := sortI c cap R _ w.heap.size hown (by omega)
      rw [hres] at hsort
      have hll : (setL L.length fun i => Rch ((nxS L)) s (i : Int)).length = R.length := by rw [← hres]; simp
      obtain ⟨S, hSS⟩ : ∃ S, (setL L.length fun i => Rch ((nxS L)) s (i : Int)) = S := ⟨_, rfl⟩
      rw [hSS] at hsort
      have HSS := Lib.hid hSS
      clear hres hll hSS
      have sw := hb.size
      go_wp2_with fail
      refine hsort.mono ?_
      rintro e w3 ⟨rfl, hO, hk3⟩
      have hB3 := hb.trans (hk3.below sw (fun b hb => by omega) |>.mono (Nat.le_refl _))
      go_wp2
      go_ret
      exact ⟨⟨.slice (some ⟨c, 0, none⟩) R.length cap, rfl, by rw [HSS.out]; exact hO⟩, hB3⟩
end Go.Proofs.Ytlpidgdlbannbaa
