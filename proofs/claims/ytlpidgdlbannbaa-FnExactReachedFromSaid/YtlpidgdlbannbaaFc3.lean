/- FirstCircles, the program's, by its contract. -/
import Derived.Test.YtlpidgdlbannbaaFc2
namespace Go.Proofs.Ytlpidgdlbannbaa
open Go.ChangeShapes Go.WideShapes Go.ChangeAt Go.RowKit Go.Deep
set_option linter.unusedSimpArgs false
set_option linter.unusedVariables false
/-- How far the program has gone from member m along first trust. -/
structure CircSt (L : List Vc) (m : Int) (c : List Int) : Prop where
  len : 1 ≤ c.length
  head : c.getD 0 0 = m
  nodup : c.Nodup
  rng : ∀ x ∈ c, 0 ≤ x ∧ x < (L.length : Int)
  gt : ∀ p, 1 ≤ p → p < c.length → m < c.getD p 0
  chain : ∀ p, p + 1 < c.length → fst1 L (c.getD p 0) = c.getD (p + 1) 0
  res : cres L m = circ L m (L.length - (c.length - 1)) c (fst1 L (c.getD (c.length - 1) 0))
theorem CircSt.start (L : List Vc) {m : Int} (h1 : 0 ≤ m) (h2 : m < (L.length : Int)) : CircSt L m [m] :=
  ⟨Nat.le_refl _, rfl, by simp, fun x hx => by simp at hx; omega, fun p h3 h4 => by simp at h4; omega, fun p h3 => by simp at h3, by unfold cres; simp⟩
theorem CircSt.le {L : List Vc} {m : Int} {c : List Int} (h : CircSt L m c) : c.length ≤ L.length := pigeon _ _ h.nodup h.rng
theorem mem_getD {c : List Int} {p : Nat} (h : p < c.length) : c.getD p 0 ∈ c := by simp [List.getD, h]
theorem getD_of_mem {c : List Int} {x : Int} (h : x ∈ c) : ∃ p, p < c.length ∧ c.getD p 0 = x := by
  obtain ⟨p, hp, e⟩ := List.mem_iff_getElem.1 h
  exact ⟨p, hp, by simp [List.getD, hp, e]⟩
theorem circ_stop (L : List Vc) (m : Int) (k : Nat) (c : List Int) (a : Int) (h : ¬ m < a) : circ L m k c a = (c, a) := by
  cases k with
  | zero => rfl
  | succ k => show (if m < a then _ else _) = _; rw [if_neg h]
theorem CircSt.stop {L : List Vc} {m : Int} {c : List Int} (h : CircSt L m c) {a : Int} (ha : fst1 L (c.getD (c.length - 1) 0) = a) (hm : ¬ m < a) : cres L m = (c, a) := by
  rw [h.res, ha, circ_stop L m _ c a hm]
theorem CircSt.away {L : List Vc} {m : Int} {c : List Int} (h : CircSt L m c) {a : Int} (ha : fst1 L (c.getD (c.length - 1) 0) = a) (hm : a ∈ c) (hne : a ≠ m) : (cres L m).2 ≠ m := by
  obtain ⟨i, hi, hia⟩ := getD_of_mem hm
  have hi1 : 1 ≤ i := by
    have hl := h.len
    have : i ≠ 0 := fun e => hne (by rw [← hia, e, h.head])
    omega
  rw [h.res, ha]
  refine circ_away L m (fun x => ∃ p, i ≤ p ∧ p < c.length ∧ c.getD p 0 = x) ?_ ?_ _ _ _ ⟨i, Nat.le_refl _, hi, hia⟩
  · rintro x ⟨p, h1, h2, rfl⟩
    exact h.gt p (by omega) h2
  · rintro x ⟨p, h1, h2, rfl⟩
    by_cases hp : p + 1 < c.length
    · exact ⟨p + 1, by omega, hp, (h.chain p hp).symm⟩
    · have e : p = c.length - 1 := by omega
      subst e
      exact ⟨i, Nat.le_refl _, hi, by rw [ha, hia]⟩
theorem getD_snoc_lt {c : List Int} {a : Int} {p : Nat} (h : p < c.length) : (c ++ [a]).getD p 0 = c.getD p 0 := by simp [List.getD, List.getElem?_append_left h]
theorem getD_snoc_eq (c : List Int) (a : Int) : (c ++ [a]).getD c.length 0 = a := by simp [List.getD]
theorem CircSt.step {L : List Vc} {m : Int} {c : List Int} (h : CircSt L m c) {a : Int} (ha : fst1 L (c.getD (c.length - 1) 0) = a) (h1 : m < a) (h2 : ¬ a ∈ c) (h3 : 0 ≤ a ∧ a < (L.length : Int)) : CircSt L m (c ++ [a]) := by
  have hlen := h.len
  have hle := h.le
  refine ⟨by simp, by rw [getD_snoc_lt (by omega)]; exact h.head, ?_, fun x hx => ?_, fun p q1 q2 => ?_, fun p q1 => ?_, ?_⟩
  · rw [List.nodup_append]
    exact ⟨h.nodup, by simp, fun x hx y hy => by simp at hy; subst hy; exact fun e => h2 (e ▸ hx)⟩
  · rcases List.mem_append.1 hx with hx | hx
    · exact h.rng x hx
    · simp at hx; subst hx; exact h3
  · rw [snoc_len] at q2
    by_cases e : p = c.length
    · subst e; rw [getD_snoc_eq]; exact h1
    · rw [getD_snoc_lt (by omega)]; exact h.gt p q1 (by omega)
  · rw [snoc_len] at q1
    by_cases e : p + 1 = c.length
    · have e2 : p = c.length - 1 := by omega
      rw [getD_snoc_lt (by omega), e, getD_snoc_eq, e2, ha]
    · rw [getD_snoc_lt (by omega), getD_snoc_lt (by omega)]
      exact h.chain p (by omega)
  · rw [snoc_len]
    have e1 : c.length + 1 - 1 = c.length := by omega
    rw [e1, getD_snoc_eq, h.res, ha]
    obtain ⟨d, hd⟩ : ∃ d, L.length - (c.length - 1) = d + 1 := ⟨L.length - (c.length - 1) - 1, by omega⟩
    have hd' : L.length - c.length = d := by omega
    rw [hd, hd']
    show (if m < a then _ else _) = _
    rw [if_pos h1]
set_option maxRecDepth 100000 in
theorem lastV_any (v : Value) (l : List Int) (w : World) (h : RowV w v l) (hne : l ≠ []) (hl : l.length ≤ 9223372036854775807) :
    Calls Try.prog 58 #[v] w fun e w' => e = .returned (.int .i64 (l.getD (l.length - 1) 0)) ∧ w = w' := by
  obtain ⟨x, cap, rfl, hx, hc⟩ := h.cons hne
  have hpos := List.length_pos_iff.2 hne
  obtain ⟨k', hk'⟩ : ∃ k', l.length = k' + 1 := ⟨l.length - 1, by omega⟩
  have c1 := hc k' (by omega)
  have e1 : l.length - 1 = k' := by omega
  rw [e1]
  obtain ⟨y, hy⟩ : ∃ y, l.getD k' 0 = y := ⟨_, rfl⟩
  rw [hy] at c1 ⊢
  have wk1 : IntKind.i64.wrap ((l.length : Int) - 1) = k' := by rw [IntKind.wrap_i64]; omega
  have wk2 : (l.length : Int) - 1 = k' := by omega
  have hlt : k' < l.length := by omega
  clear hy hc e1 hk' h hne hpos
  go_enter Try.func58, Try.ntmps58
  go_wp2
  go_ret
  exact ⟨rfl, rfl⟩
/-- What the program answers for member m. -/
noncomputable def mCf (L : List Vc) (m : Int) : List Int × Bool := if (cres L m).2 = m then ((cres L m).1, true) else ([], false)
theorem mCf_no {L : List Vc} {m : Int} (h : (cres L m).2 ≠ m) : mCf L m = ([], false) := by unfold mCf; rw [if_neg h]
theorem mCf_yes {L : List Vc} {m : Int} {c : List Int} (h : cres L m = (c, m)) : mCf L m = (c, true) := by unfold mCf; rw [h, if_pos rfl]
set_option maxHeartbeats 2000000 in
set_option maxRecDepth 100000 in
theorem circleFrom_any (L : List Vc) (lo b : Nat) (m : Nat) (w : World) (h : Vs w lo b L) (hf : Fits L) (hok : okL L) (hm : m < L.length) :
    Calls Try.prog 64 #[.slice (some ⟨b, 0, none⟩) L.length L.length, .int .i64 (m : Int)] w (QIb (mCf L (m : Int)) w) := by
  obtain ⟨i0, hi, hz0, hz1, hz2⟩ := info_parts infoI
  have hn := hok.2.1
  have hf1 := hf.1
  have HOK := Lib.hid hok
  have HF := Lib.hid hf
  have hst := CircSt.start L (m := (m : Int)) (by omega) (by omega)
  clear hok hf
  have hown0 : (w.alloc (.cells #[.int .i64 (m : Int)] 2)).ownsRow w.heap.size 2 1 (.slice (some ⟨w.heap.size, 0, none⟩) 1 1) 1 ([(m : Int)].map (Value.int .i64)) := World.ownsRow_lit w #[.int .i64 (m : Int)] 1 (Nat.le_refl _) (by unfold maxLen; omega) rfl
  have hb0 : Below w.heap.size w (w.alloc (.cells #[.int .i64 (m : Int)] 2)) := (Below.refl _ _).alloc (Nat.le_refl _) _
  go_enter Try.func64, Try.ntmps64
  go_wp2
  go_loopg [6] L.length (fun g cv wr => ∃ c : List Int, g + c.length = L.length + 1 ∧ CircSt L (m : Int) c ∧ wr.ownsRow w.heap.size 2 1 cv c.length (c.map (Value.int .i64)) ∧ Below w.heap.size w wr)
  case atStart => exact ⟨[(m : Int)], rfl, hst, hown0, hb0⟩
  case round =>
    clear hown0 hb0 hst
    obtain ⟨c, hg, hst, hown, hb⟩ := hrel
    have hcl := hst.len
    have hcle := hst.le
    have sw := hb.size
    have hu := ow_own hown (by omega)
    have hlast := lastV_any _ c _ hu.rd.1 (fun e => by rw [e] at hcl; simp at hcl) (by omega)
    have hrx := hst.rng _ (mem_getD (c := c) (p := c.length - 1) (by omega))
    obtain ⟨y, hy⟩ : ∃ y, c.getD (c.length - 1) 0 = y := ⟨_, rfl⟩
    rw [hy] at hlast hrx
    obtain ⟨j, rfl⟩ : ∃ j : Nat, y = j := ⟨y.toNat, by omega⟩
    have hj : j < L.length := by omega
    obtain ⟨cv, a1, a2, a3⟩ := (h.below hb).at hj
    have hlen := HF.out.2 j hj
    have hva : vAt L (j : Int) = L.getD j (false, []) := by simp [vAt]
    have hfd : fst1 L (c.getD (c.length - 1) 0) = fst1 L (j : Int) := by rw [hy]
    have hbd := fst1_bd HOK.out (m := (j : Int)) (by omega) (by omega)
    have hf9 : fst1 L (j : Int) = if (L.getD j (false, [])).1 = true ∨ (L.getD j (false, [])).2 = [] then -1 else (L.getD j (false, [])).2.getD 0 0 := by unfold fst1; rw [hva]
    obtain ⟨⟨s, t⟩, hq⟩ : ∃ q, L.getD j (false, []) = q := ⟨_, rfl⟩
    rw [hq] at a1 a2 a3 hlen hf9
    simp only at a1 a2 a3 hlen hf9
    have HFD := Lib.hid (hfd.trans hf9)
    have HBD := Lib.hid (show -1 ≤ (if s = true ∨ t = [] then -1 else t.getD 0 0) ∧ (if s = true ∨ t = [] then -1 else t.getD 0 0) < (L.length : Int) by rw [← hf9]; exact hbd)
    have HST := Lib.hid hst
    have bal := (Below.refl wr.heap.size wr).alloc (Nat.le_refl _) (.cells #[.bool s, .slice (some ⟨cv, 0, none⟩) t.length t.length] 64)
    have ownA := hown.alloc (.cells #[.bool s, .slice (some ⟨cv, 0, none⟩) t.length t.length] 64)
    have bA := hb.trans (bal.mono sw)
    have lcm : m < 13 := by omega
    clear hy hq hva hfd hf9 hbd hst
    cases s with
    | true =>
      have hres : cres L (m : Int) = (c, -1) := HST.out.stop (by rw [HFD.out, if_pos (.inl rfl)]) (by omega)
      have hno : mCf L (m : Int) = ([], false) := mCf_no (by rw [hres]; show (-1 : Int) ≠ _; omega)
      have HNO := Lib.hid hno
      clear hres hno a3
      go_wp2_with fail
      refine hlast.mono ?_
      rintro e w1 ⟨rfl, rfl⟩
      go_wp2
      go_ret2
      rw [HNO.out]
      exact ⟨_, rfl, OwI.nil _ _ _, bA⟩
    | false =>
      by_cases hte : t = []
      · subst hte
        have hres : cres L (m : Int) = (c, -1) := HST.out.stop (by rw [HFD.out, if_pos (.inr rfl)]) (by omega)
        have hno : mCf L (m : Int) = ([], false) := mCf_no (by rw [hres]; show (-1 : Int) ≠ _; omega)
        have HNO := Lib.hid hno
        clear hres hno a3
        go_wp2_with fail
        refine hlast.mono ?_
        rintro e w1 ⟨rfl, rfl⟩
        go_wp2
        go_ret2
        rw [HNO.out]
        exact ⟨_, rfl, OwI.nil _ _ _, bA⟩
      · have hlp := List.length_pos_iff.2 hte
        have hne0 : ((t.length : Int) == 0) = false := by simp [hte]
        obtain ⟨x, cp, hx0, hx, hc⟩ := a3.cons hte
        obtain ⟨rfl, -⟩ : x = ⟨cv, 0, none⟩ ∧ cp = t.length := by simpa [eq_comm] using hx0
        have c1 := hc 0 hlp
        rw [Addr.add_lit, Nat.zero_add] at c1
        have nx : cv ≠ wr.heap.size := Nat.ne_of_lt hx
        have hfd := HFD.out
        have hbd := HBD.out
        rw [if_neg (by simp [hte])] at hfd hbd
        obtain ⟨y, hy⟩ : ∃ y, t.getD 0 0 = y := ⟨_, rfl⟩
        rw [hy] at c1 hfd hbd
        have HFY := Lib.hid hfd
        obtain ⟨bd1, bd2⟩ := hbd
        clear hy hx0 hc hte a3 hfd HFD HBD
        by_cases hym : y = (m : Int)
        · subst hym
          have hres := mCf_yes (HST.out.stop HFY.out (by omega))
          have HR := Lib.hid hres
          have hoA := ow_own ownA (by omega)
          clear hres
          go_wp2_with fail
          refine hlast.mono ?_
          rintro e w1 ⟨rfl, rfl⟩
          go_wp2
          go_ret2
          rw [HR.out]
          exact ⟨_, rfl, hoA, bA⟩
        · have hyne : (y == (m : Int)) = false := by simp [hym]
          have HYM := Lib.hid hym
          clear hym
          by_cases hlt : y < (m : Int)
          · have hno : mCf L (m : Int) = ([], false) := mCf_no (by rw [HST.out.stop HFY.out (by omega)]; exact HYM.out)
            have HNO := Lib.hid hno
            clear hno
            go_wp2_with fail
            refine hlast.mono ?_
            rintro e w1 ⟨rfl, rfl⟩
            go_wp2
            go_ret2
            rw [HNO.out]
            exact ⟨_, rfl, OwI.nil _ _ _, bA⟩
          · have hcon := cont_any _ c y _ (ow_own ownA (by omega)).rd.1 (by omega)
            obtain ⟨z, hz⟩ : ∃ z, decide (y ∈ c) = z := ⟨_, rfl⟩
            rw [hz] at hcon
            have HZ := Lib.hid hz
            clear hz
            cases z with
            | true =>
              have hno : mCf L (m : Int) = ([], false) := mCf_no (HST.out.away HFY.out (of_decide_eq_true HZ.out) HYM.out)
              have HNO := Lib.hid hno
              clear hno
              go_wp2_with fail
              refine hlast.mono ?_
              rintro e w1 ⟨rfl, rfl⟩
              go_wp2_with fail
              refine hcon.mono ?_
              rintro e w1 ⟨rfl, rfl⟩
              go_wp2
              go_ret2
              rw [HNO.out]
              exact ⟨_, rfl, OwI.nil _ _ _, bA⟩
            | false =>
              have hst2 := HST.out.step HFY.out (by have := HYM.out; omega) (of_decide_eq_false HZ.out) ⟨by omega, by omega⟩
              have HST2 := Lib.hid hst2
              have hle2 := hst2.le
              rw [snoc_len] at hle2
              have cl13 : c.length ≤ 13 := by omega
              clear hst2
              go_wp2_with fail
              refine hlast.mono ?_
              rintro e w1 ⟨rfl, rfl⟩
              go_wp2_with fail
              refine hcon.mono ?_
              rintro e w1 ⟨rfl, rfl⟩
              go_wp2_with (first
                | (at_builtin; refine wpList_append_own _ rfl _ _ 29 rfl w.heap.size 2 i0 (.int .i64 0) 1 8 Try.underlying29 hi hz0 hz1 hz2 rfl (by decide) _ _ _ rfl (ownA.alloc _) ⟨wr.heap.size + 1, 0, none⟩ 1 1 [.int .i64 y] rfl rfl ?c1 ?c2 ?c3 ?c4 ?c5 ?_))
              case c1 => exact World.news_of_block (cs := #[.int .i64 y]) (t := 2) (fr := (0, 0)) (by have q := heap_alloc_new (wr.alloc (.cells #[.bool false, .slice (some ⟨cv, 0, none⟩) t.length t.length] 64)) (.cells #[.int .i64 y] 2); simpa using q)
              case c2 => simp [Value.oneCell']
              case c3 => unfold maxLen; omega
              case c4 => omega
              case c5 => simp; omega
              intro v' w3 hown1 hgrow _
              have hb3 := (bA.alloc (by simp; omega) _).grown hgrow (by simp; omega) (fun x e => (hown.lt x e).1)
              have HO1 : Hid (w3.ownsRow w.heap.size 2 1 v' (c ++ [y]).length ((c ++ [y]).map (Value.int .i64))) := by rw [snoc_len, snoc_map]; exact hown1
              have hgg : L.length - c.length + (c ++ [y]).length = L.length + 1 := by rw [snoc_len]; omega
              have HG := Lib.hid hgg
              clear hown1 hgrow hgg
              go_wp2
              go_roundg (L.length - c.length)
              case measure => omega
              case rel => exact ⟨c ++ [y], HG.out, HST2.out, HO1.out, hb3⟩
theorem mCf_len (L : List Vc) (m : Int) : (mCf L m).1.length ≤ 1 + L.length := by
  unfold mCf
  split
  · exact cres_len L m
  · simp
set_option maxHeartbeats 2000000 in
set_option maxRecDepth 100000 in
theorem iFirstCircles (L : List Vc) (w : World) (lo hi : Nat) (u : Value) (h : CpV w lo hi u L) : Calls Try.prog 30 #[u] w (QJb (mCirc L) w) := by
  obtain ⟨rfl, h1, -, hf⟩ := h
  have HV := iok_any L lo lo L.length w h1 hf
  cases hz : okLB L with
  | false =>
    rw [mCirc_no hz]
    rw [hz] at HV
    clear hz
    go_enter Try.func30, Try.ntmps30
    go_wp2_with fail
    refine HV.mono ?_
    rintro e w1 ⟨rfl, hb1⟩
    go_wp2
    go_ret2
    exact ⟨_, rfl, OwJ.nil _ _ _, hb1⟩
  | true =>
    have hok := okLB_of hz
    have hn := hok.2.1
    have HCF := Lib.hid (fun (k : Nat) (w' : World) (hb : Below w.heap.size w w') (hk : k < L.length) => circleFrom_any L lo lo k w' (h1.below hb) hf hok hk)
    rw [mCirc_yes hz]
    rw [hz] at HV
    clear hz hok
    obtain ⟨j0, hj, hy0, hy1, hy2⟩ := info_parts infoIS
    go_enter Try.func30, Try.ntmps30
    go_wp2_with fail
    refine HV.mono ?_
    rintro e w1 ⟨rfl, hb1⟩
    have s1 := hb1.size
    have hB0 := BldJ.start_nil w1 w.heap.size (fun _ => .slice none 0 0)
    go_wp2
    go_loopg [4, 13] L.length (fun g v i wr => ∃ (k : Nat) (l : List (List Int)) (f : Nat → Value), k ≤ L.length ∧ g = L.length - k ∧ i = .int .i64 k ∧ BldJ wr w.heap.size v l f ∧ Hid (l = circs L k) ∧ l.length ≤ k ∧ Below w.heap.size w wr)
    case atStart => exact ⟨0, [], _, Nat.zero_le _, rfl, rfl, hB0, rfl, Nat.le_refl _, hb1⟩
    case round =>
      clear hB0
      obtain ⟨k, l, f, hk, rfl, rfl, hB, HL, hlk, hb⟩ := hrel
      by_cases hlt : k < L.length
      · have sw := hb.size
        have hC := HCF.out k _ hb hlt
        have hcl := mCf_len L (k : Int)
        have hsu := circs_succ L k
        have hmz : circs L (k + 1) = circs L k ++ if (mCf L (k : Int)).2 = true then [(mCf L (k : Int)).1] else [] := by
          rw [hsu]
          congr 1
          unfold mCf
          by_cases q : (cres L (k : Int)).2 = (k : Int)
          · rw [if_pos q, if_pos q]; simp
          · rw [if_neg q, if_neg q]; simp
        obtain ⟨⟨c, z⟩, hm⟩ : ∃ p, mCf L (k : Int) = p := ⟨_, rfl⟩
        rw [hm] at hC hcl hmz
        simp only at hcl hmz
        have HM := Lib.hid hmz
        clear hm hsu hmz
        cases z with
        | true =>
          go_wp2_with fail
          refine hC.mono ?_
          intro e w2 hp
          obtain ⟨cv, rfl, hcv, hb2⟩ := hp.out
          obtain ⟨va, vc, rfl⟩ := hcv.shape
          have HBLD := Lib.hid (fun (w3 : World) v' (hg : _) ho => hB.step (v' := v') (w3 := w3) (o := .cells #[.slice va c.length vc] 29) sw hb2 hcv hg ho)
          have hl6 : l.length ≤ 12 := by omega
          have howl := (hB.below hb2).own
          have s2 := hb2.size
          clear hcv
          go_wp2_with (first
            | (at_builtin; refine wpList_append_own _ rfl _ _ 41 rfl w.heap.size 29 j0 (.slice none 0 0) 1 24 Try.underlying41 hj hy0 hy1 hy2 rfl (by decide) _ _ _ rfl (howl.alloc _) ⟨w2.heap.size, 0, none⟩ 1 1 [.slice va c.length vc] rfl rfl (World.news_of_block (cs := #[.slice va c.length vc]) (t := 29) (fr := (0, 0)) (heap_alloc_new w2 _)) (by simp [Value.oneCell']) (by unfold maxLen; omega) (by omega) (by simp; omega) ?_))
          intro v2 w3 hown4 hgrow4 _
          have hB2 := HBLD.out w3 v2 hgrow4 hown4
          have hb4 := ((hb.trans (hb2.mono sw)).alloc (by omega) _).grown hgrow4 (by simp; omega) (fun x e => (hB.own.lt x e).1)
          clear hown4 hgrow4
          go_wp2
          go_roundg (L.length - (k + 1))
          case measure => omega
          case rel => exact ⟨k + 1, l ++ [c], _, by omega, rfl, by simp, hB2, by (have q := HM.out; simp only [if_true] at q; show l ++ [c] = _; rw [q, ← HL.out]), by rw [List.length_append, List.length_singleton]; omega, hb4⟩
        | false =>
          go_wp2_with fail
          refine hC.mono ?_
          intro e w2 hp
          obtain ⟨cv, rfl, hcv, hb2⟩ := hp.out
          have hB2 := hB.below hb2
          have hb4 := hb.trans (hb2.mono sw)
          clear hcv
          go_wp2
          go_roundg (L.length - (k + 1))
          case measure => omega
          case rel => exact ⟨k + 1, l, f, by omega, rfl, by simp, hB2, by (have q := HM.out; simp only [Bool.false_eq_true, if_false, List.append_nil] at q; show l = _; rw [q, ← HL.out]), by omega, hb4⟩
      · have e : k = L.length := by omega
        subst e
        go_wp2
        go_ret2
        refine ⟨_, rfl, ?_, hb⟩
        rw [← HL.out]
        exact hB.done (by rw [HL.out]; exact circs_fits hn _ (Nat.le_refl _))
end Go.Proofs.Ytlpidgdlbannbaa
