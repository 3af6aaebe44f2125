/- The program's SilenceMember. -/
import Derived.Test.YtlpidgdlbannbaaSi1
namespace Go.Proofs.Ytlpidgdlbannbaa
open Go.ChangeShapes Go.WideShapes Go.ChangeAt Go.RowKit Go.Deep
set_option linter.unusedSimpArgs false
set_option linter.unusedVariables false
/-- Cell j of a made row of voices of which the first k are laid. -/
def cfV (f : Nat → Value) (k : Nat) : Nat → Value := fun j => if j / 2 < k then f j else if j % 2 = 0 then .bool false else .slice none 0 0
structure LaidV (w : World) (base b n : Nat) (T : List Vc) (k : Nat) (f : Nat → Value) : Prop where
  row : w.rowIs b 64 (n * 2) (cfV f k)
  low : base ≤ b
  own : ∀ i, i < k → f (i * 2) = .bool (T.getD i (false, [])).1 ∧ OwI w base w.heap.size (f (i * 2 + 1)) (T.getD i (false, [])).2
  inj : ∀ i j c, i < j → j < k → (f (i * 2 + 1)).ownBlock = some c → (f (j * 2 + 1)).ownBlock ≠ some c
theorem LaidV.start (w : World) (n : Nat) (T : List Vc) {base : Nat} (h : base ≤ w.heap.size) (f : Nat → Value) : LaidV (w.alloc (.cells (madeCells #[.bool false, .slice none 0 0] (n * 2)) 64)) base w.heap.size n T 0 f :=
  ⟨(rowIs_made2 w _ _ _ _).congr (fun j _ => by simp [cfV]), h, fun i hi => absurd hi (Nat.not_lt_zero _), fun i j c _ hj => absurd hj (Nat.not_lt_zero _)⟩
theorem LaidV.below {w w' : World} {base b n : Nat} {T : List Vc} {k : Nat} {f : Nat → Value} (h : LaidV w base b n T k f) (hb : Below w.heap.size w w') : LaidV w' base b n T k f :=
  ⟨h.row.of_block (hb.block b h.row.lt), h.low, fun i hi => ⟨(h.own i hi).1, ((h.own i hi).2.blockV fun c _ hc => hb.block c hc).mono (Nat.le_refl _) hb.size⟩, h.inj⟩
theorem cfV_next (f : Nat → Value) (k : Nat) (x y : Value) (j : Nat) : (if j = k * 2 + 1 then y else if j = k * 2 then x else cfV f k j) = cfV (fun j => if j = k * 2 then x else if j = k * 2 + 1 then y else f j) (k + 1) j := by
  simp only [cfV]
  by_cases e1 : j = k * 2 + 1
  · have h1 : j / 2 < k + 1 := by omega
    have h2 : ¬ j = k * 2 := by omega
    rw [if_pos e1, if_pos h1, if_neg h2, if_pos e1]
  · by_cases e2 : j = k * 2
    · have h1 : j / 2 < k + 1 := by omega
      rw [if_neg e1, if_pos e2, if_pos h1, if_pos e2]
    · rw [if_neg e1, if_neg e2]
      by_cases h : j / 2 < k
      · have h8 : j / 2 < k + 1 := by omega
        rw [if_pos h, if_pos h8, if_neg e2, if_neg e1]
      · have h9 : ¬ j / 2 < k + 1 := by omega
        rw [if_neg h, if_neg h9]
theorem LaidV.skip {w : World} {base b n : Nat} {T : List Vc} {k : Nat} {f : Nat → Value} (h : LaidV w base b n T k f) (hT : T.getD k (false, []) = (false, [])) : LaidV w base b n T (k + 1) (fun j => if j = k * 2 then .bool false else if j = k * 2 + 1 then .slice none 0 0 else f j) := by
  refine ⟨h.row.congr (fun j _ => ?_), h.low, fun i hi => ?_, fun i j c hij hj => ?_⟩
  · rw [← cfV_next]
    by_cases e1 : j = k * 2 + 1
    · have h1 : ¬ j / 2 < k := by omega
      have h2 : ¬ j % 2 = 0 := by omega
      rw [if_pos e1]; unfold cfV; rw [if_neg h1, if_neg h2]
    · rw [if_neg e1]
      by_cases e2 : j = k * 2
      · have h1 : ¬ j / 2 < k := by omega
        have h2 : j % 2 = 0 := by omega
        rw [if_pos e2]; unfold cfV; rw [if_neg h1, if_pos h2]
      · rw [if_neg e2]
  · have n1 : ¬ i * 2 + 1 = k * 2 := by omega
    simp only [if_neg n1]
    by_cases e : i = k
    · subst e; simp only [if_true]; rw [hT]; exact ⟨rfl, OwI.nil _ _ _⟩
    · have n2 : ¬ i * 2 = k * 2 := by omega
      have n3 : ¬ i * 2 + 1 = k * 2 + 1 := by omega
      have n4 : ¬ i * 2 = k * 2 + 1 := by omega
      simp only [if_neg n2, if_neg n3, if_neg n4]
      exact h.own i (by omega)
  · have n1 : ¬ i * 2 + 1 = k * 2 := by omega
    have n2 : ¬ i * 2 + 1 = k * 2 + 1 := by omega
    have n3 : ¬ j * 2 + 1 = k * 2 := by omega
    simp only [if_neg n1, if_neg n2, if_neg n3]
    by_cases e : j = k
    · subst e; simp only [if_true]; intro _ q; cases q
    · have n4 : ¬ j * 2 + 1 = k * 2 + 1 := by omega
      simp only [if_neg n4]; exact h.inj i j c hij (by omega)
/-- A voice with a fresh list is laid. -/
theorem LaidV.lay {w w1 : World} {base b n : Nat} {T : List Vc} {k : Nat} {f : Nat → Value} {u : Value} {s : Bool} (h : LaidV w base b n T k f) (hb : Below w.heap.size w w1) (hs : s = (T.getD k (false, [])).1) (hu : OwI w1 w.heap.size w1.heap.size u (T.getD k (false, [])).2) :
    LaidV ((w1.setCell ⟨b, k * 2, none⟩ (.bool s)).setCell ⟨b, k * 2 + 1, none⟩ u) base b n T (k + 1) (fun j => if j = k * 2 then .bool s else if j = k * 2 + 1 then u else f j) := by
  have hsz : ((w1.setCell ⟨b, k * 2, none⟩ (.bool s)).setCell ⟨b, k * 2 + 1, none⟩ u).heap.size = w1.heap.size := by simp [World.setCell]
  have hlow := h.low
  have hrl := h.row.lt
  have hw := h.below hb
  have keep : ∀ x t lo, OwI w1 lo w1.heap.size x t → OwI ((w1.setCell ⟨b, k * 2, none⟩ (.bool s)).setCell ⟨b, k * 2 + 1, none⟩ u) lo ((w1.setCell ⟨b, k * 2, none⟩ (.bool s)).setCell ⟨b, k * 2 + 1, none⟩ u).heap.size x t := fun x t lo hx => by
    have hn := hx.offRow hw.row
    refine (hx.blockV fun c e hc => ?_).mono (Nat.le_refl _) (by rw [hsz]; exact Nat.le_refl _)
    have hcb : c ≠ b := fun q => hn (q ▸ e)
    exact (blk_setCell_other _ _ _ _ hcb).trans (blk_setCell_other _ _ _ _ hcb)
  refine ⟨((hw.row.set (k * 2) _).set (k * 2 + 1) _).congr (fun j _ => cfV_next _ _ _ _ _), h.low, fun i hi => ?_, fun i j c hij hj => ?_⟩
  · have n1 : ¬ i * 2 + 1 = k * 2 := by omega
    simp only [if_neg n1]
    by_cases e : i = k
    · subst e
      simp only [if_true]
      exact ⟨by rw [hs], (keep _ _ _ hu).mono (by omega) (Nat.le_refl _)⟩
    · have n2 : ¬ i * 2 = k * 2 := by omega
      have n3 : ¬ i * 2 + 1 = k * 2 + 1 := by omega
      have n4 : ¬ i * 2 = k * 2 + 1 := by omega
      simp only [if_neg n2, if_neg n3, if_neg n4]
      exact ⟨(hw.own i (by omega)).1, keep _ _ _ (hw.own i (by omega)).2⟩
  · have n1 : ¬ i * 2 + 1 = k * 2 := by omega
    have n2 : ¬ i * 2 + 1 = k * 2 + 1 := by omega
    have n3 : ¬ j * 2 + 1 = k * 2 := by omega
    simp only [if_neg n1, if_neg n2, if_neg n3]
    by_cases e : j = k
    · subst e
      simp only [if_true]
      intro q1 q2
      have a := (h.own i (by omega)).2.inbV c q1
      have b := hu.inbV c q2
      omega
    · have n4 : ¬ j * 2 + 1 = k * 2 + 1 := by omega
      simp only [if_neg n4]; exact h.inj i j c hij (by omega)
theorem LaidV.done {w : World} {base b : Nat} {T : List Vc} {f : Nat → Value} (h : LaidV w base b T.length T T.length f) (hf : Fits T) (cap : Nat) : OwV w base w.heap.size (.slice (some ⟨b, 0, none⟩) T.length cap) T :=
  ⟨.inr ⟨b, cap, T.length * 2, f, rfl, h.low, h.row.lt, Nat.le_refl _, h.row.congr (fun j hj => by unfold cfV; rw [if_pos (by omega)]), h.own, fun i hi => (h.own i hi).2.offRow h.row, h.inj⟩, hf⟩
set_option maxHeartbeats 2000000 in
set_option maxRecDepth 100000 in
theorem iSil (L : List Vc) (m : Int) (w : World) (lo hi : Nat) (u : Value) (h : CpV w lo hi u L) (hwf : (Lit.int .i64 m).wf = true) : Calls Try.prog 37 #[u, .int .i64 m] w (QVb (mSil L m) w) := by
  obtain ⟨rfl, h1, -, hf⟩ := h
  have HV := has_member L lo lo L.length m w h1 hf
  cases hz : hmB L m with
  | false =>
    rw [mSil_no hz]
    rw [hz] at HV
    clear hz
    go_enter Try.func37, Try.ntmps37
    go_wp2_with fail
    refine HV.mono ?_
    rintro e w1 ⟨rfl, hb1⟩
    go_wp2
    go_ret2
    exact ⟨_, rfl, OwV.nil _ _ _, hb1⟩
  | true =>
    rw [mSil_yes hz]
    rw [hz] at HV
    clear hz
    have hmk := run_make2 (P := Try.prog) 25 64 _ _ 32 Try.underlying25 infoV rfl rfl .i64 .i64 L.length (by have := hf.1; omega) (by have := hf.1; omega)
    have hf1 := hf.1
    have HF := Lib.hid hf
    have HT := Lib.hid (fun k (hk : k < L.length) => silL_at L m hk)
    have HTL := Lib.hid (silL_len L m)
    clear hf
    go_enter Try.func37, Try.ntmps37
    go_wp2_with fail
    refine HV.mono ?_
    rintro e w1 ⟨rfl, hb1⟩
    have s1 := hb1.size
    have hL0 := LaidV.start w1 L.length (silL L m) s1 (fun _ => .slice none 0 0)
    have hb0 : Below w.heap.size w (w1.alloc (.cells (madeCells #[.bool false, .slice none 0 0] (L.length * 2)) 64)) := hb1.alloc s1 _
    go_wp2
    go_loopg [18] L.length (fun g i wr => ∃ (k : Nat) (f : Nat → Value), k ≤ L.length ∧ g = L.length - k ∧ i = .int .i64 k ∧ LaidV wr w.heap.size w1.heap.size L.length (silL L m) k f ∧ Below w.heap.size w wr)
    case atStart => exact ⟨0, _, Nat.zero_le _, rfl, rfl, hL0, hb0⟩
    case round =>
      clear hL0 hb0 hmk
      obtain ⟨k, f, hk, rfl, rfl, hL, hb⟩ := hrel
      have sw := hb.size
      have lrow := hL.row.lt
      by_cases hlt : k < L.length
      · obtain ⟨c, a1, a2, a3⟩ := (h1.below hb).at hlt
        have hlen := HF.out.2 k hlt
        have hat := HT.out k hlt
        obtain ⟨⟨s, t⟩, hq⟩ : ∃ q, L.getD k (false, []) = q := ⟨_, rfl⟩
        rw [hq] at a1 a2 a3 hlen hat
        simp only at a1 a2 a3 hlen
        have HAT := Lib.hid hat
        clear hq hat
        have hba : Below wr.heap.size wr (wr.alloc (.cells #[.bool s, .slice (some ⟨c, 0, none⟩) t.length t.length] 64)) := (Below.refl _ _).alloc (Nat.le_refl _) _
        by_cases hme : (k : Int) = m
        · subst hme
          have hL2 := (hL.below hba).skip (by rw [HAT.out, if_pos rfl])
          have hb2 := hb.trans (hba.mono sw)
          go_wp2
          go_roundg (L.length - (k + 1))
          case measure => omega
          case rel => exact ⟨k + 1, _, by omega, rfl, by simp, hL2, hb2⟩
        · have he : ((k : Int) == m) = false := by simp [hme]
          have hCl := clone_any ⟨c, 0, none⟩ t.length t (wr.alloc (.cells #[.bool s, .slice (some ⟨c, 0, none⟩) t.length t.length] 64)).drew (a3.below hba.drew) hlen
          have c0 := hL.row.cell (i := k * 2) (by omega)
          have c1 := hL.row.cell (i := k * 2 + 1) (by omega)
          have f0 := hL.row.frozen (k * 2)
          have f1 := hL.row.frozen (k * 2 + 1)
          have hbd := hba.drew
          have c0 := (hbd.cell (p := ⟨w1.heap.size, k * 2, none⟩) lrow).trans c0
          have c1 := (hbd.cell (p := ⟨w1.heap.size, k * 2 + 1, none⟩) lrow).trans c1
          have f0 := (hbd.frozen (p := ⟨w1.heap.size, k * 2, none⟩) lrow).trans f0
          have f1 := (hbd.frozen (p := ⟨w1.heap.size, k * 2 + 1, none⟩) lrow).trans f1
          obtain ⟨x0, hx0⟩ : ∃ x, cfV f k (k * 2) = x := ⟨_, rfl⟩
          obtain ⟨x1, hx1⟩ : ∃ x, cfV f k (k * 2 + 1) = x := ⟨_, rfl⟩
          rw [hx0] at c0
          rw [hx1] at c1
          clear a3 hx0 hx1
          go_wp2_with fail
          have nb : w1.heap.size ≠ wr.heap.size := by omega
          have nb' : wr.heap.size ≠ w1.heap.size := by omega
          have lr2 : w1.heap.size < (wr.alloc (.cells #[.bool s, .slice (some ⟨c, 0, none⟩) t.length t.length] 64)).drew.heap.size := by have := hbd.size; omega
          have lr3 : wr.heap.size < (wr.alloc (.cells #[.bool s, .slice (some ⟨c, 0, none⟩) t.length t.length] 64)).drew.heap.size := by simp
          go_region_held3 (fun w' => w'.cell? ⟨wr.heap.size, 0, none⟩ = some (.bool s) ∧ w'.cell? ⟨wr.heap.size, 1, none⟩ = some (.slice (some ⟨c, 0, none⟩) t.length t.length))
            (first
              | go_keep
              | (go_split_ands
                 refine ⟨?_, ?_⟩
                 · (rw [hb2.cell (by exact lr3)]; assumption)
                 · (rw [hb2.cell (by exact lr3)]; assumption)))
            (first
              | (go_simp
                 go_at_call 72
                 refine hCl.mono ?_
                 rintro e w2 ⟨⟨gc, cp, rfl, g1, g2, hcw⟩, hb2⟩
                 have c0 := (hb2.cell (p := ⟨w1.heap.size, k * 2, none⟩) lr2).trans c0
                 have c1 := (hb2.cell (p := ⟨w1.heap.size, k * 2 + 1, none⟩) lr2).trans c1
                 have f0 := (hb2.frozen (p := ⟨w1.heap.size, k * 2, none⟩) lr2).trans f0
                 have f1 := (hb2.frozen (p := ⟨w1.heap.size, k * 2 + 1, none⟩) lr2).trans f1))
          have hbw := hbd.trans (hb2.mono hbd.size)
          have hu := (ow_of_copy g1 g2 hcw hlen).mono (lo' := wr.heap.size) hbd.size (Nat.le_refl _)
          have HL3 := Lib.hid (hL.lay hbw (s := s) (by rw [HAT.out, if_neg hme]) (by rw [HAT.out, if_neg hme]; exact hu))
          have hb3 := ((hb.trans (hbw.mono sw)).setCell s1 (p := ⟨w1.heap.size, k * 2, none⟩) (.bool s)).setCell s1 (p := ⟨w1.heap.size, k * 2 + 1, none⟩) (.slice (some ⟨gc, 0, none⟩) t.length cp)
          clear hu hbw hcw hb2 hbd hCl
          go_wp2
          go_roundg (L.length - (k + 1))
          case measure => omega
          case rel => exact ⟨k + 1, _, by omega, rfl, by simp, HL3.out, hb3⟩
      · have e : k = L.length := by omega
        subst e
        go_wp2
        go_ret2
        refine ⟨_, rfl, ?_, hb⟩
        rw [← HTL.out] at hL
        have q := hL.done (silL_fits m HF.out) L.length
        rw [HTL.out] at q
        exact q
end Go.Proofs.Ytlpidgdlbannbaa
