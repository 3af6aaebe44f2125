/- The greedy budget: the specification's choice. -/
import Derived.Test.YtcoelccmfljlhaaGb1
import Derived.Test.YtcoelccmfljlhaaEv5
import Derived.Test.YtcoelccmfljlhaaAp1
namespace Go.Proofs.Ytcoelccmfljlhaa
open Go.ChangeShapes Go.WideShapes Go.ChangeAt Go.RowKit Go.Deep
set_option linter.unusedSimpArgs false
set_option linter.unusedVariables false
/-- How many approve project k. -/
def supN (A : List (List Int)) (k : Nat) : Nat := (supL A (k : Int)).length
theorem supN_le (A : List (List Int)) (k : Nat) : supN A k ≤ A.length := selN_len _ _
abbrev cOf (C : List Int) : Nat → Int := fun k => C.getD k 0
def castL (l : List Nat) : List Int := l.map fun k : Nat => (k : Int)
theorem castL_cons (p : Nat) (l : List Nat) : castL (p :: l) = (p : Int) :: castL l := rfl
def greedy (X : El) : List Int := castL (grd (cOf X.2.1) (catL (supN X.2.2) X.2.1.length X.2.2.length) X.1)
theorem greedy_len {X : El} (h : eOk X) : (greedy X).length ≤ 36 := by
  unfold greedy castL
  rw [List.length_map]
  have a := grd_len (cOf X.2.1) (catL (supN X.2.2) X.2.1.length X.2.2.length) X.1
  have b := catL_len (supN X.2.2) X.2.1.length X.2.2.length
  have c : X.2.1.length * X.2.2.length ≤ 6 * 6 := Nat.mul_le_mul h.2.2.2.1 h.2.2.2.2.2.1
  omega
noncomputable def mGr (X : El) : List Int × Bool := if eOkB X = true then (greedy X, true) else ([], false)
theorem ElAt.belowB {w w' : World} {B p : Nat} {m : Int} {c a : Value} (h : ElAt w p m c a) (hb : Below B w w') (hp : p < B) : ElAt w' p m c a :=
  ⟨(hb.cell (p := ⟨p, 0, none⟩) hp).trans h.c0, (hb.cell (p := ⟨p, 1, none⟩) hp).trans h.c1, (hb.cell (p := ⟨p, 2, none⟩) hp).trans h.c2, Nat.lt_of_lt_of_le h.lt hb.size⟩
set_option maxHeartbeats 4000000 in
set_option maxRecDepth 100000 in
theorem sGr (X : El) (w : World) (lo hi : Nat) (u : Value) (h : CpE w lo hi u X) : Calls Try.prog 26 #[u] w (PIb (mGr X) w) := by
  obtain ⟨i0, hinf, hz0, hz1, hz2⟩ := info_parts infoI
  obtain ⟨c, b, rfl, -, h⟩ := h
  obtain ⟨W1, hW1⟩ : ∃ W1, W1 = w.alloc (.cells #[.int .i64 X.1, .slice (some ⟨c, 0, none⟩) X.2.1.length X.2.1.length, .slice (some ⟨b, 0, none⟩) X.2.2.length X.2.2.length] 28) := ⟨_, rfl⟩
  have b1 : Below w.heap.size w W1 := by rw [hW1]; exact (Below.refl w.heap.size w).alloc (Nat.le_refl _) _
  have he : ElAt W1 w.heap.size X.1 (.slice (some ⟨c, 0, none⟩) X.2.1.length X.2.1.length) (.slice (some ⟨b, 0, none⟩) X.2.2.length X.2.2.length) := by rw [hW1]; exact el_at w _ _ _
  have HS := selok X c b hi w.heap.size _ (h.below b1) he
  rw [hW1] at HS
  have HW1 := Lib.hid hW1
  have B := Lib.hid b1
  have HU := fun (q : Int) w' (hw : Below w.heap.size w w') (he : ElAt w' w.heap.size X.1 (.slice (some ⟨c, 0, none⟩) X.2.1.length X.2.1.length) (.slice (some ⟨b, 0, none⟩) X.2.2.length X.2.2.length)) => ssup X c b hi w.heap.size q w' (h.below hw) he
  have HE := Lib.hid he
  have hfc := h.fits.1
  have hfa := h.fits.2.1.1
  have hcr := h.costs
  have hcl := World.rowIs.lt hcr
  unfold PIb mGr
  obtain ⟨y, hy⟩ : ∃ y, eOkB X = y := ⟨_, rfl⟩
  have HY := Lib.hid hy
  rw [hy] at HS ⊢
  clear hW1 b1 he h hy
  cases y with
  | false =>
    clear HU
    go_enter Try.func26, Try.ntmps26
    go_wp2_with fail
    refine HS.mono ?_
    rintro e w1 ⟨rfl, hb1⟩
    rw [← HW1.out] at hb1
    have b2 := B.out.trans (hb1.below.mono B.out.size)
    go_wp2
    go_ret2
    exact ⟨_, rfl, RdI.nil _ _ _, b2⟩
  | true =>
    have hok := eOkB_iff.1 HY.out
    have hgl := greedy_len hok
    obtain ⟨k1, k2, k3, k4, k5, k6, k7, k8⟩ := hok
    have HC := Lib.hid k7
    obtain ⟨F, hF⟩ : ∃ F, greedy X = F := ⟨_, rfl⟩
    rw [hF] at hgl ⊢
    unfold greedy at hF
    obtain ⟨M, C, A⟩ := X
    simp only at HU k1 k2 k3 k4 k5 k6 hF hfc hfa hcr HE HC ⊢
    have HF := Lib.hid hF
    clear k7 k8 hF HY
    go_enter Try.func26, Try.ntmps26
    go_wp2_with fail
    refine HS.mono ?_
    rintro e w1 ⟨rfl, hb1⟩
    rw [← HW1.out] at hb1
    have b2 := B.out.trans (hb1.below.mono B.out.size)
    have he1 := HE.out.below hb1.below
    obtain ⟨p0, p1, p2, pl⟩ := he1
    have hown0 : (w1.alloc (.cells #[] 2)).ownsRow (w.heap.size + 1) 2 1 (.slice (some ⟨w1.heap.size, 0, none⟩) 0 0) 0 (([] : List Int).map (Value.int .i64)) := World.ownsRow_lit w1 #[] 0 (by omega) (by unfold maxLen; omega) rfl
    have HO := Lib.hid hown0
    have hb0 := b2.alloc b2.size (.cells #[] 2)
    have he0 : ElAt (w1.alloc (.cells #[] 2)) w.heap.size M (.slice (some ⟨c, 0, none⟩) C.length C.length) (.slice (some ⟨b, 0, none⟩) A.length A.length) := ElAt.below ⟨p0, p1, p2, pl⟩ ((Below.refl _ _).alloc (Nat.le_refl _) _)
    have HB0 := Lib.hid hb0
    have HE0 := Lib.hid he0
    clear hown0 HS HE hb0 he0 hb1 b2
    go_wp2
    go_loopg [4, 5, 6] A.length (fun g v lv nv wr => ∃ (N : Nat) (l : List Int) (left : Int), N ≤ A.length ∧ N = g ∧ lv = .int .i64 left ∧ nv = .int .i64 (N : Int) ∧ 0 ≤ left ∧ left ≤ 60 ∧ l.length ≤ 36 ∧ Hid (l ++ castL (grd (cOf C) (catL (supN A) C.length N) left) = F) ∧ wr.ownsRow (w.heap.size + 1) 2 1 v l.length (l.map (Value.int .i64)) ∧ Below w.heap.size w wr ∧ ElAt wr w.heap.size M (.slice (some ⟨c, 0, none⟩) C.length C.length) (.slice (some ⟨b, 0, none⟩) A.length A.length))
    case atStart => exact ⟨A.length, [], M, Nat.le_refl _, rfl, rfl, rfl, k1, k2, by simp, Lib.hid (by simpa using HF.out), HO.out, HB0.out, HE0.out⟩
    case round =>
      clear HO HB0 HE0 p0 p1 p2
      obtain ⟨N, l, left, hN, rfl, rfl, rfl, q1, q2, hll, HL, hown, hb, hel⟩ := hrel
      by_cases hN0 : 0 < N
      · obtain ⟨N', hNN⟩ : ∃ N', N = N' + 1 := ⟨N - 1, by omega⟩
        have hst : Hid (l ++ castL (grd (cOf C) (blk (supN A) C.length N 0 ++ catL (supN A) C.length N') left) = F) := Lib.hid (by
          rw [blk_zero, ← HL.out, hNN]; rfl)
        have HNN := Lib.hid hNN
        clear hNN HL
        obtain ⟨w2, rfl⟩ : ∃ w2, w2 = wr := ⟨_, rfl⟩
        obtain ⟨p0, p1, p2, pl⟩ := id hel
        go_wp2
        go_loopg [4, 5, 7] C.length (fun g v lv pv wi => ∃ (p : Nat) (l : List Int) (left : Int), p ≤ C.length ∧ g = C.length - p ∧ lv = .int .i64 left ∧ pv = .int .i64 (p : Int) ∧ 0 ≤ left ∧ left ≤ 60 ∧ l.length ≤ 36 ∧ Hid (l ++ castL (grd (cOf C) (blk (supN A) C.length N p ++ catL (supN A) C.length N') left) = F) ∧ wi.ownsRow (w.heap.size + 1) 2 1 v l.length (l.map (Value.int .i64)) ∧ Below w.heap.size w wi ∧ ElAt wi w.heap.size M (.slice (some ⟨c, 0, none⟩) C.length C.length) (.slice (some ⟨b, 0, none⟩) A.length A.length))
        case atStart => exact ⟨0, l, left, Nat.zero_le _, rfl, rfl, rfl, q1, q2, hll, hst, hown, hb, hel⟩
        case round =>
          clear hst hown hb hel p0 p1 p2 q1 q2 hll
          obtain ⟨p, l, left, hp, rfl, rfl, rfl, q1, q2, hll, HL, hown, hb, hel⟩ := hrel
          obtain ⟨p0, p1, p2, pl⟩ := id hel
          by_cases hpn : p < C.length
          · have hUU := HU (p : Int) _ hb hel
            have hbs := blk_step (supN A) C.length N p hpn
            have hcp := HC.out p hpn
            unfold costOk at hcp
            have hsn : (supL A (p : Int)).length = supN A p := rfl
            have hcell := hcr.cell (i := p) hpn
            obtain ⟨y, hy⟩ : ∃ y, C.getD p 0 = y := ⟨_, rfl⟩
            simp only [hy] at hcell hcp
            have HYC := Lib.hid hy
            obtain ⟨S, hS⟩ : ∃ S, supL A (p : Int) = S := ⟨_, rfl⟩
            rw [hS] at hUU hsn
            obtain ⟨cn, hcn⟩ : ∃ cn, supN A p = cn := ⟨_, rfl⟩
            rw [hcn] at hbs hsn
            have hcnN : cn ≤ A.length := by rw [← hcn]; exact supN_le A p
            have HSN := Lib.hid hsn
            have HBS := Lib.hid hbs
            clear hbs hy hS hcn hsn
            by_cases e : cn = N
            · have HB1 : Hid (blk (supN A) C.length N p = p :: blk (supN A) C.length N (p + 1)) := Lib.hid (by rw [HBS.out, if_pos e])
              have eb : ((cn : Int) == (N : Int)) = true := beq_iff_eq.2 (by omega)
              have He := Lib.hid e
              clear e HBS
              go_wp2_with fail
              refine hUU.mono ?_
              rintro e w3 ⟨⟨v, rfl, hv⟩, hb3⟩
              obtain ⟨sa, sc, rfl⟩ := hv.shape
              rw [HSN.out]
              have hel3 := hel.below hb3
              obtain ⟨r0, r1, r2, rl⟩ := id hel3
              have hown3 := own_blockJ hown fun g _ hg => hb3.block g hg
              have hb4 := hb.trans (hb3.mono hb.size)
              have ccell := (hb4.cell (p := ⟨c, p, none⟩) hcl).trans hcell
              have s4 := hb4.size
              clear hv hb3 hown p0 p1 p2 hcell
              by_cases hle : y ≤ left
              · have HG : Hid ((l ++ [(p : Int)]) ++ castL (grd (cOf C) (blk (supN A) C.length N (p + 1) ++ catL (supN A) C.length N') (left - y)) = F) := Lib.hid (by
                  rw [← HL.out, HB1.out]
                  show _ = l ++ castL (grd (cOf C) (p :: (blk (supN A) C.length N (p + 1) ++ catL (supN A) C.length N')) left)
                  have : cOf C p = y := HYC.out
                  rw [grd, this, if_pos hle, castL_cons]; simp)
                have hl2 : (l ++ [(p : Int)]).length ≤ 36 := by
                  have := congrArg List.length HG.out
                  simp only [List.length_append] at this
                  simp only [List.length_append]; omega
                have HL2 := Lib.hid hl2
                clear hl2 HL HB1
                go_wp2_with (first
                  | (at_builtin; refine wpList_append_own _ rfl _ _ 22 rfl (w.heap.size + 1) 2 i0 (.int .i64 0) 1 8 Try.underlying22 hinf hz0 hz1 hz2 rfl (by decide) _ _ _ rfl (hown3.alloc _) ⟨w3.heap.size, 0, none⟩ 1 1 [.int .i64 (p : Int)] rfl rfl ?c1 ?c2 ?c3 ?c4 ?c5 ?_))
                case c1 => exact World.news_of_block (cs := #[.int .i64 (p : Int)]) (t := 2) (fr := (0, 0)) (heap_alloc_new w3 _)
                case c2 => simp [Value.oneCell']
                case c3 => unfold maxLen; omega
                case c4 => omega
                case c5 => simp; omega
                intro v' w5 hown5 hgrow _
                have s3 : w.heap.size + 1 ≤ w3.heap.size := by have := hel3.lt; omega
                have hB5 : Below (w.heap.size + 1) w3 w5 := ((Below.refl (w.heap.size + 1) w3).alloc s3 _).grown hgrow (by simp; omega) (fun x e => (hown3.lt x e).1)
                have hb5 := hb4.trans (hB5.mono (by omega))
                have hel5 := hel3.belowB hB5 (by omega)
                obtain ⟨t0, t1, t2, tl⟩ := id hel5
                have ccell5 := (hB5.cell (p := ⟨c, p, none⟩) (by show c < _; omega)).trans ccell
                have HO5 : Hid (w5.ownsRow (w.heap.size + 1) 2 1 v' (l ++ [(p : Int)]).length ((l ++ [(p : Int)]).map (Value.int .i64))) := by rw [snoc_len', snoc_map']; exact hown5
                have wl : IntKind.i64.wrap (left - y) = left - y := by rw [IntKind.wrap_i64]; omega
                clear hown5 hgrow r0 r1 r2 ccell hown3
                go_wp2
                go_roundg (C.length - (p + 1))
                case measure => omega
                case rel => exact ⟨p + 1, l ++ [(p : Int)], left - y, by omega, rfl, by first | rfl | rw [wl], by simp, by omega, by omega, HL2.out, HG, HO5.out, hb5, hel5⟩
              · have HG : Hid (l ++ castL (grd (cOf C) (blk (supN A) C.length N (p + 1) ++ catL (supN A) C.length N') left) = F) := Lib.hid (by
                  rw [← HL.out, HB1.out]
                  show _ = l ++ castL (grd (cOf C) (p :: (blk (supN A) C.length N (p + 1) ++ catL (supN A) C.length N')) left)
                  have : cOf C p = y := HYC.out
                  rw [grd, this, if_neg hle])
                clear HL HB1
                go_wp2
                go_roundg (C.length - (p + 1))
                case measure => omega
                case rel => exact ⟨p + 1, l, left, by omega, rfl, rfl, by simp, q1, q2, hll, HG, hown3, hb4, hel3⟩
            · have HG : Hid (l ++ castL (grd (cOf C) (blk (supN A) C.length N (p + 1) ++ catL (supN A) C.length N') left) = F) := Lib.hid (by
                rw [← HL.out, HBS.out, if_neg e])
              have eb : ((cn : Int) == (N : Int)) = false := beq_eq_false_iff_ne.2 (by omega)
              have He := Lib.hid e
              clear e HBS HL
              go_wp2_with fail
              refine hUU.mono ?_
              rintro e w3 ⟨⟨v, rfl, hv⟩, hb3⟩
              obtain ⟨sa, sc, rfl⟩ := hv.shape
              rw [HSN.out]
              have hel3 := hel.below hb3
              have hown3 := own_blockJ hown fun g _ hg => hb3.block g hg
              have hb4 := hb.trans (hb3.mono hb.size)
              clear hv hb3 hown p0 p1 p2 hcell
              go_wp2
              go_roundg (C.length - (p + 1))
              case measure => omega
              case rel => exact ⟨p + 1, l, left, by omega, rfl, rfl, by simp, q1, q2, hll, HG, hown3, hb4, hel3⟩
          · obtain rfl : p = C.length := by omega
            have hN' : Hid (l ++ castL (grd (cOf C) (catL (supN A) C.length N') left) = F) := Lib.hid (by rw [← HL.out, blk_end]; rfl)
            have hN1 : N - 1 = N' := by have := HNN.out; omega
            have hN2 : N' ≤ A.length := by omega
            have wN : IntKind.i64.wrap ((N : Int) - 1) = N' := by rw [IntKind.wrap_i64]; omega
            have hN3 : (N : Int) - 1 = N' := by omega
            have hN4 : N' < N := by omega
            clear HL hN1
            go_wp2
            go_roundg N'
            case measure => omega
            case rel => exact ⟨N', l, left, hN2, rfl, rfl, by first | rfl | rw [hN3], q1, q2, hll, hN', hown, hb, hel⟩
      · have e0 : N = 0 := by omega
        have HL0 : l = F := by have := HL.out; rw [e0] at this; simpa [catL, grd, castL] using this
        have HLL := Lib.hid HL0
        clear HL0 e0
        go_wp2
        go_ret2
        refine ⟨_, rfl, ?_, hb⟩
        rw [← HLL.out]
        exact ((ow_of_own hown (Nat.le_refl _) (by omega)).mono (by omega) (Nat.le_refl _)).rd
end Go.Proofs.Ytcoelccmfljlhaa
