/- The greedy budget: the program's choice. -/
import Derived.Test.YtcoelccmfljlhaaGb2
import Derived.Test.YtcoelccmfljlhaaGf4
import Derived.Test.YtcoelccmfljlhaaAp2
namespace Go.Proofs.Ytcoelccmfljlhaa
open Go.ChangeShapes Go.WideShapes Go.ChangeAt Go.RowKit Go.Deep
set_option linter.unusedSimpArgs false
set_option linter.unusedVariables false
theorem gins_congr {v v' : Nat → Int} {i : Nat} {G : List Nat} (h : v i = v' i) (hg : ∀ y ∈ G, v y = v' y) : gins v i G = gins v' i G := by
  induction G with
  | nil => rfl
  | cons y ys ih =>
    unfold gins
    rw [h, hg y (by simp), ih (fun z hz => hg z (by simp [hz]))]
theorem gfL_congr {v v' : Nat → Int} {n : Nat} (h : ∀ k, k < n → v k = v' k) : gfL v n = gfL v' n := by
  induction n with
  | zero => rfl
  | succ n ih =>
    unfold gfL
    rw [ih (fun k hk => h k (by omega))]
    exact gins_congr (h n (by omega)) (fun y hy => h y (by have := (mem_gfL _ _ _).1 hy; omega))
/-- The counts as a list. -/
def cntL (A : List (List Int)) (m : Nat) : List Int := (List.range m).map fun k => (supN A k : Int)
theorem cntL_len (A : List (List Int)) (m : Nat) : (cntL A m).length = m := by simp [cntL]
theorem cntL_at (A : List (List Int)) (m k : Nat) (h : k < m) : (cntL A m).getD k 0 = (supN A k : Int) := by simp [cntL, List.getD, h]
def ordL (A : List (List Int)) (m : Nat) : List Nat := gfL (vOf (cntL A m)) m
theorem ordL_len (A : List (List Int)) (m : Nat) : (ordL A m).length = m := gfL_len _ _
theorem ordL_lt (A : List (List Int)) (m k : Nat) (h : k < m) : (ordL A m).getD k 0 < m := by
  have hl := ordL_len A m
  have e : (ordL A m).getD k 0 = (ordL A m)[k]'(by omega) := by simp [List.getD, hl, h]
  rw [e]
  exact (mem_gfL _ _ _).1 (List.getElem_mem _)
theorem ordL_cat (A : List (List Int)) (m : Nat) : (ordL A m).filter (fun k => decide (0 < supN A k)) = catL (supN A) m A.length := by
  unfold ordL
  rw [gfL_congr (v' := fun k => (supN A k : Int)) (fun k hk => cntL_at A m k hk)]
  exact gf_cat (supN A) m A.length (fun k _ => supN_le A k)
/-- What of the order is still to be looked at. -/
def todo (A : List (List Int)) (m k : Nat) : List Nat := ((ordL A m).drop k).filter (fun k => decide (0 < supN A k))
theorem todo_step (A : List (List Int)) (m k : Nat) (h : k < m) : todo A m k = if 0 < supN A ((ordL A m).getD k 0) then (ordL A m).getD k 0 :: todo A m (k + 1) else todo A m (k + 1) := by
  unfold todo
  have hl := ordL_len A m
  have e : (ordL A m).getD k 0 = (ordL A m)[k]'(by omega) := by simp [List.getD, hl, h]
  rw [List.drop_eq_getElem_cons (by omega), List.filter_cons, ← e]
  simp only [decide_eq_true_eq]
theorem todo_end (A : List (List Int)) (m : Nat) : todo A m m = [] := by
  unfold todo
  rw [List.drop_eq_nil_of_le (by rw [ordL_len]; exact Nat.le_refl _)]; rfl
def cntf (A : List (List Int)) (k : Nat) : Nat → Value := fun j => if j < k then .int .i64 (supN A j : Int) else .int .i64 0
set_option maxHeartbeats 4000000 in
set_option maxRecDepth 100000 in
theorem iGr (X : El) (w : World) (lo hi : Nat) (u : Value) (h : CpE w lo hi u X) : Calls Try.prog 27 #[u] w (QIb (mGr X) w) := by
  obtain ⟨i0, hinf, hz0, hz1, hz2⟩ := info_parts infoI
  obtain ⟨c, b, rfl, -, h⟩ := h
  have hfc := h.fits.1
  have hmk := fun w => run_make_row' (P := Try.prog) 22 2 (.int .i64 0) 8 Try.underlying22 infoI rfl .i64 .i64 X.2.1.length (by omega) (by omega) w
  obtain ⟨W1, hW1⟩ : ∃ W1, W1 = w.alloc (.cells #[.int .i64 X.1, .slice (some ⟨c, 0, none⟩) X.2.1.length X.2.1.length, .slice (some ⟨b, 0, none⟩) X.2.2.length X.2.2.length] 28) := ⟨_, rfl⟩
  have b1 : Below w.heap.size w W1 := by rw [hW1]; exact (Below.refl w.heap.size w).alloc (Nat.le_refl _) _
  have he : ElAt W1 w.heap.size X.1 (.slice (some ⟨c, 0, none⟩) X.2.1.length X.2.1.length) (.slice (some ⟨b, 0, none⟩) X.2.2.length X.2.2.length) := by rw [hW1]; exact el_at w _ _ _
  have HS := ielok X c b hi W1 (h.below b1)
  rw [hW1] at HS
  have HW1 := Lib.hid hW1
  have B := Lib.hid b1
  have HU := fun (q : Int) w' (hw : Below w.heap.size w w') => isup X c b hi q w' (h.below hw)
  have HE := Lib.hid he
  have hfa := h.fits.2.1.1
  have hcr := h.costs
  have hcl := World.rowIs.lt hcr
  unfold QIb mGr
  obtain ⟨y, hy⟩ : ∃ y, eOkB X = y := ⟨_, rfl⟩
  have HY := Lib.hid hy
  rw [hy] at HS ⊢
  clear hW1 b1 he h hy
  cases y with
  | false =>
    clear HU hmk
    go_enter Try.func27, Try.ntmps27
    go_wp2_with fail
    refine HS.mono ?_
    rintro e w1 ⟨rfl, hb1⟩
    rw [← HW1.out] at hb1
    have b2 := B.out.trans (hb1.mono B.out.size)
    go_wp2
    go_ret2
    exact ⟨_, rfl, OwI.nil _ _ _, b2⟩
  | true =>
    have hok := eOkB_iff.1 HY.out
    have hgl := greedy_len hok
    obtain ⟨k1, k2, k3, k4, k5, k6, k7, k8⟩ := hok
    have HC := Lib.hid k7
    obtain ⟨F, hF⟩ : ∃ F, greedy X = F := ⟨_, rfl⟩
    rw [hF] at hgl ⊢
    unfold greedy at hF
    obtain ⟨M, C, A⟩ := X
    simp only at HU k1 k2 k3 k4 k5 k6 hF hfc hfa hcr HE HC hmk ⊢
    have hF2 : castL (grd (cOf C) (todo A C.length 0) M) = F := by rw [← hF, ← ordL_cat]; rfl
    have HF := Lib.hid hF2
    clear k7 k8 hF HY hF2
    go_enter Try.func27, Try.ntmps27
    go_wp2_with fail
    refine HS.mono ?_
    rintro e w1 ⟨rfl, hb1⟩
    rw [← HW1.out] at hb1
    have b2 := B.out.trans (hb1.mono B.out.size)
    have he1 := HE.out.below hb1
    obtain ⟨p0, p1, p2, pl⟩ := id he1
    obtain ⟨D, hD⟩ : ∃ D, w1.heap.size = D := ⟨_, rfl⟩
    have hr0 : (w1.alloc (.cells (madeCells #[.int .i64 0] C.length) 2)).rowIs D 2 C.length (cntf A 0) := by
      rw [← hD]; exact (World.rowIs_made w1 _ _ _).congr (fun j _ => by simp [cntf])
    have hb0 := b2.alloc b2.size (.cells (madeCells #[.int .i64 0] C.length) 2)
    have he0 := he1.below ((Below.refl w1.heap.size w1).alloc (Nat.le_refl _) (.cells (madeCells #[.int .i64 0] C.length) 2))
    have HR0 := Lib.hid hr0
    have HB0 := Lib.hid hb0
    have HE0 := Lib.hid he0
    have HD := Lib.hid hD
    have hwD : w.heap.size < D := by rw [← hD]; exact pl
    clear HS HE hb0 he0 hr0 hb1 b2 he1 hD
    go_wp2
    rw [HD.out]
    go_loopg [19] C.length (fun g i wr => ∃ k : Nat, k ≤ C.length ∧ g = C.length - k ∧ i = .int .i64 k ∧ Below w.heap.size w wr ∧ ElAt wr w.heap.size M (.slice (some ⟨c, 0, none⟩) C.length C.length) (.slice (some ⟨b, 0, none⟩) A.length A.length) ∧ wr.rowIs D 2 C.length (cntf A k))
    case atStart => exact ⟨0, Nat.zero_le _, rfl, rfl, HB0.out, HE0.out, HR0.out⟩
    case round =>
      clear hmk HR0 HE0 HB0 p0 p1 p2
      obtain ⟨k, hk, rfl, rfl, hb, hel, hro⟩ := hrel
      obtain ⟨p0, p1, p2, pl'⟩ := id hel
      by_cases hlt : k < C.length
      · have hUU := HU (k : Int) _ hb
        have hsn : (supL A (k : Int)).length = supN A k := rfl
        obtain ⟨S, hS⟩ : ∃ S, supL A (k : Int) = S := ⟨_, rfl⟩
        rw [hS] at hUU hsn
        obtain ⟨cn, hcn⟩ : ∃ cn, supN A k = cn := ⟨_, rfl⟩
        rw [hcn] at hsn
        have hcnN : cn ≤ A.length := by rw [← hcn]; exact supN_le A k
        have HSN := Lib.hid hsn
        have HCN := Lib.hid hcn
        clear hS hcn hsn
        go_wp2_with fail
        refine hUU.mono ?_
        rintro e w3 ⟨⟨v, rfl, hv⟩, hb3⟩
        obtain ⟨sa, sc, rfl⟩ := hv.shape
        rw [HSN.out]
        have hel3 := hel.below hb3
        have hb4 := hb.trans (hb3.mono hb.size)
        have hro3 := World.rowIs.of_block hro (hb3.block _ hro.lt)
        have c1 := hro3.cell (i := k) hlt
        have f1 := hro3.frozen k
        clear hv hb3 p0 p1 p2 hro
        go_wp2
        go_roundg (C.length - (k + 1))
        case measure => omega
        case rel =>
          refine ⟨k + 1, by omega, rfl, by simp, hb4.setCell (by show _ ≤ D; omega) _, hel3.set _ _ (by show D ≠ _; omega), (hro3.set k _).congr (fun j _ => ?_)⟩
          unfold cntf
          by_cases e : j = k
          · subst e; rw [if_pos rfl, if_pos (by omega), HCN.out]
          · rw [if_neg e]
            by_cases h : j < k
            · rw [if_pos h, if_pos (by omega)]
            · rw [if_neg h, if_neg (by omega)]
      · obtain rfl : k = C.length := by omega
        have hVl : (cntL A C.length).length = C.length := cntL_len _ _
        have hrow : RowV wr (.slice (some ⟨D, 0, none⟩) (cntL A C.length).length C.length) (cntL A C.length) := .inr ⟨⟨D, 0, none⟩, C.length, rfl, fun _ => hro.lt, fun i hi => by
          rw [hVl] at hi
          rw [Addr.add_lit, Nat.zero_add, hro.cell (i := i) hi, cntL_at _ _ _ hi]; simp [cntf, hi]⟩
        have HG := gfirst (cntL A C.length) _ wr hrow (by rw [hVl]; omega) (by rw [hVl]; omega)
        rw [hVl] at HG
        have hown0 : wr.ownsRow (w.heap.size + 1) 2 1 (.slice none 0 0) ([] : List Int).length (([] : List Int).map (Value.int .i64)) := ⟨rfl, .inl ⟨rfl, rfl⟩⟩
        have hDl := hro.lt
        clear hrow hVl
        go_wp2_with fail
        refine HG.mono ?_
        rintro e w3 ⟨⟨E, rfl, hE, hroE⟩, hb3⟩
        have hroE : w3.rowIs E 3 C.length (fun k => .int .i64 ((ordL A C.length).getD k 0 : Int)) := hroE
        have hel3 := hel.below hb3
        have hb4 := hb.trans (hb3.mono hb.size)
        have hro3 := World.rowIs.of_block hro (hb3.block _ hro.lt)
        have hown3 : w3.ownsRow (w.heap.size + 1) 2 1 (.slice none 0 0) ([] : List Int).length (([] : List Int).map (Value.int .i64)) := ⟨rfl, .inl ⟨rfl, rfl⟩⟩
        have s3 := hb3.size
        clear hown0 hb3 hro hel hb p0 p1 p2 HG
        go_wp2
        go_loopg [6, 7, 35] C.length (fun g v lv i wi => ∃ (k : Nat) (l : List Int) (left : Int), k ≤ C.length ∧ g = C.length - k ∧ lv = .int .i64 left ∧ i = .int .i64 (k : Int) ∧ 0 ≤ left ∧ left ≤ 60 ∧ l.length ≤ 36 ∧ Hid (l ++ castL (grd (cOf C) (todo A C.length k) left) = F) ∧ wi.ownsRow (w3.heap.size) 2 1 v l.length (l.map (Value.int .i64)) ∧ Below w3.heap.size w3 wi)
        case atStart => exact ⟨0, [], M, Nat.zero_le _, rfl, rfl, rfl, k1, k2, by simp, Lib.hid (by simpa using HF.out), ⟨rfl, .inl ⟨rfl, rfl⟩⟩, Below.refl _ _⟩
        case round =>
          clear hown3
          obtain ⟨k, l, left, hk, rfl, rfl, rfl, q1, q2, hll, HL, hown, hb5⟩ := hrel
          by_cases hkn : k < C.length
          · have hts := todo_step A C.length k hkn
            have hqn := ordL_lt A C.length k hkn
            have cE := (hb5.cell (p := ⟨E, k, none⟩) hroE.lt).trans (hroE.cell (i := k) hkn)
            obtain ⟨q, hq⟩ : ∃ q, (ordL A C.length).getD k 0 = q := ⟨_, rfl⟩
            rw [hq] at hts hqn
            simp only [hq] at cE
            have cD := (hb5.cell (p := ⟨D, q, none⟩) hro3.lt).trans (hro3.cell (i := q) hqn)
            simp only [cntf, hqn, if_true] at cD
            have hcp := HC.out q hqn
            unfold costOk at hcp
            have hcC := (hb5.cell (p := ⟨c, q, none⟩) (by show c < _; have := hb4.size; omega)).trans ((hb4.cell (p := ⟨c, q, none⟩) hcl).trans (hcr.cell (i := q) hqn))
            obtain ⟨y, hy⟩ : ∃ y, C.getD q 0 = y := ⟨_, rfl⟩
            rw [hy] at hcp
            simp only [hy] at hcC
            have HYC := Lib.hid hy
            have hel5 := hel3.below hb5
            obtain ⟨r0, r1, r2, rl⟩ := id hel5
            obtain ⟨cn, hcn⟩ : ∃ cn, supN A q = cn := ⟨_, rfl⟩
            rw [hcn] at hts cD
            have hcnN : cn ≤ A.length := by rw [← hcn]; exact supN_le A q
            have HTS := Lib.hid hts
            have s5 := hb5.size
            clear hts hq hy hcn
            by_cases e : 0 < cn
            · have HT1 : Hid (todo A C.length k = q :: todo A C.length (k + 1)) := Lib.hid (by rw [HTS.out, if_pos e])
              by_cases hle : y ≤ left
              · have HG : Hid ((l ++ [(q : Int)]) ++ castL (grd (cOf C) (todo A C.length (k + 1)) (left - y)) = F) := Lib.hid (by
                  rw [← HL.out, HT1.out]
                  have : cOf C q = y := HYC.out
                  rw [grd, this, if_pos hle, castL_cons]; simp)
                have hl2 : (l ++ [(q : Int)]).length ≤ 36 := by
                  have := congrArg List.length HG.out
                  simp only [List.length_append] at this
                  simp only [List.length_append]; omega
                have HL2 := Lib.hid hl2
                clear hl2 HL HT1 HTS
                go_wp2_with (first
                  | (at_builtin; refine wpList_append_own _ rfl _ _ 22 rfl w3.heap.size 2 i0 (.int .i64 0) 1 8 Try.underlying22 hinf hz0 hz1 hz2 rfl (by decide) _ _ _ rfl (hown.alloc _) ⟨wr.heap.size, 0, none⟩ 1 1 [.int .i64 (q : Int)] rfl rfl ?c1 ?c2 ?c3 ?c4 ?c5 ?_))
                case c1 => exact World.news_of_block (cs := #[.int .i64 (q : Int)]) (t := 2) (fr := (0, 0)) (heap_alloc_new _ _)
                case c2 => simp [Value.oneCell']
                case c3 => unfold maxLen; omega
                case c4 => omega
                case c5 => simp; omega
                intro v' w6 hown6 hgrow _
                have hB6 : Below w3.heap.size wr w6 := ((Below.refl w3.heap.size wr).alloc s5 _).grown hgrow (by simp; omega) (fun x e => (hown.lt x e).1)
                have hb6 := hb5.trans hB6
                have hel6 := hel5.belowB hB6 (by have := hel3.lt; omega)
                obtain ⟨t0, t1, t2, tl⟩ := id hel6
                have hcC6 := (hB6.cell (p := ⟨c, q, none⟩) (by show c < _; have := hb4.size; omega)).trans hcC
                have HO6 : Hid (w6.ownsRow w3.heap.size 2 1 v' (l ++ [(q : Int)]).length ((l ++ [(q : Int)]).map (Value.int .i64))) := by rw [snoc_len', snoc_map']; exact hown6
                have wl : IntKind.i64.wrap (left - y) = left - y := by rw [IntKind.wrap_i64]; omega
                clear hown6 hgrow r0 r1 r2 hcC cD cE
                go_wp2
                go_roundg (C.length - (k + 1))
                case measure => omega
                case rel => exact ⟨k + 1, l ++ [(q : Int)], left - y, by omega, rfl, by first | rfl | rw [wl], by simp, by omega, by omega, HL2.out, HG, HO6.out, hb6⟩
              · have HG : Hid (l ++ castL (grd (cOf C) (todo A C.length (k + 1)) left) = F) := Lib.hid (by
                  rw [← HL.out, HT1.out]
                  have : cOf C q = y := HYC.out
                  rw [grd, this, if_neg hle])
                clear HL HT1 HTS
                go_wp2
                go_roundg (C.length - (k + 1))
                case measure => omega
                case rel => exact ⟨k + 1, l, left, by omega, rfl, rfl, by simp, q1, q2, hll, HG, hown, hb5⟩
            · have HG : Hid (l ++ castL (grd (cOf C) (todo A C.length (k + 1)) left) = F) := Lib.hid (by rw [← HL.out, HTS.out, if_neg e])
              have e0 : ¬ (0 : Int) < (cn : Int) := by omega
              clear HL HTS
              go_wp2
              go_roundg (C.length - (k + 1))
              case measure => omega
              case rel => exact ⟨k + 1, l, left, by omega, rfl, rfl, by simp, q1, q2, hll, HG, hown, hb5⟩
          · obtain rfl : k = C.length := by omega
            have HLL : Hid (l = F) := Lib.hid (by have := HL.out; rw [todo_end] at this; simpa [grd, castL] using this)
            clear HL
            go_wp2
            go_ret2
            refine ⟨_, rfl, ?_, hb4.trans (hb5.mono hb4.size)⟩
            rw [← HLL.out]
            exact (ow_of_own hown (Nat.le_refl _) (by omega)).mono (by have := hb4.size; omega) (Nat.le_refl _)
end Go.Proofs.Ytcoelccmfljlhaa
