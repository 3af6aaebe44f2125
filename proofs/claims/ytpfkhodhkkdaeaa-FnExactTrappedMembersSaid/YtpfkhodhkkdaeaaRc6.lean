/- TrappedMembers on both sides. -/
import Derived.Test.YtpfkhodhkkdaeaaRc5
namespace Go.Proofs.Ytpfkhodhkkdaeaa
open Go.ChangeShapes Go.WideShapes Go.ChangeAt Go.RowKit Go.Deep
set_option linter.unusedSimpArgs false
set_option linter.unusedVariables false
set_option maxHeartbeats 1000000 in
theorem sTrappedMembers (L : List (List Sq)) (w : World) (lo hi : Nat) (u : Value) (h : CpS w lo hi u L) : Calls Try.prog 43 #[u] w (PIb (mTrp L) w) := by
  obtain ⟨rfl, h1, -, hf⟩ := h
  have HV := sis_any L lo lo L.length w h1 hf
  cases hz : okSB L with
  | false =>
    rw [mTrp_no hz]
    rw [hz] at HV
    clear hz
    go_enter Try.func43, Try.ntmps43
    go_wp2_with fail
    refine HV.mono ?_
    rintro e w1 ⟨rfl, hb1⟩
    go_wp2
    go_ret2
    exact ⟨_, rfl, RdI.nil _ _ _, hb1⟩
  | true =>
    have hok := okSB_of hz
    have n6 := hok.2.1
    have HT := Lib.hid (fun w' (hw : Below w.heap.size w w') => strapped L lo w' (h1.below hw) hf hok)
    rw [mTrp_yes hz]
    rw [hz] at HV
    clear hz hok
    go_enter Try.func43, Try.ntmps43
    go_wp2_with fail
    refine HV.mono ?_
    rintro e w1 ⟨rfl, hb1⟩
    have s1 := hb1.size
    go_wp2_with fail
    refine (HT.out _ hb1).mono ?_
    rintro e w2 ⟨⟨b, cap, A, rfl, hlb, hc, hA⟩, hb2⟩
    have s2 := hb2.size
    have HC := Lib.hid hc
    have HA := Lib.hid hA
    clear hc hA
    go_wp2_with fail
    refine (sset L.length b cap A _ w2 HC.out hlb (by omega) HA.out).mono ?_
    rintro e w3 ⟨⟨v, rfl, hv⟩, hb3⟩
    go_wp2
    go_ret2
    exact ⟨_, rfl, hv.mono (by omega) (Nat.le_refl _), (hb1.trans (hb2.mono s1)).trans (hb3.mono (by omega))⟩
/-- The cell p holds the row of what members keep. -/
def KptAt (L : List (List Sq)) (w : World) (p : Nat) : Prop := ∃ c, w.cell? ⟨p, 0, none⟩ = some (.slice (some ⟨c, 0, none⟩) L.length L.length) ∧ p < w.heap.size ∧ c < w.heap.size ∧ ∀ k, k < L.length → w.cell? ⟨c, k, none⟩ = some (.int .i64 ((keptL L).getD k 0))
theorem KptAt.below {L : List (List Sq)} {w w' : World} {p : Nat} (h : KptAt L w p) (hb : Below w.heap.size w w') : KptAt L w' p := by
  obtain ⟨c, h1, h2, h3, h4⟩ := h
  have s := hb.size
  exact ⟨c, (hb.cell (p := ⟨p, 0, none⟩) h2).trans h1, by omega, by omega, fun k hk => (hb.cell (p := ⟨c, k, none⟩) h3).trans (h4 k hk)⟩
theorem keeps_any (L : List (List Sq)) (p k : Nat) (w : World) (h : KptAt L w p) (hk : k < L.length) (hn : L.length ≤ 6) :
    Calls Try.prog 91 #[.int .i64 (k : Int), .pointer (some ⟨p, 0, none⟩)] w fun e w' => e = .returned (.bool (decide (0 < (keptL L).getD k 0))) ∧ w = w' := by
  obtain ⟨c, h1, h2, h3, h4⟩ := h
  have c1 := h4 k hk
  obtain ⟨y, hy⟩ : ∃ y, (keptL L).getD k 0 = y := ⟨_, rfl⟩
  rw [hy] at c1 ⊢
  clear hy h4
  by_cases h0 : 0 < y
  · go_enter Try.func91, Try.ntmps91
    go_wp2
    go_ret
    simp [h0]
  · go_enter Try.func91, Try.ntmps91
    go_wp2
    go_ret
    simp [h0]
set_option maxHeartbeats 1000000 in
set_option maxRecDepth 100000 in
theorem idxf_any (L : List (List Sq)) (p : Nat) (v : Value) (l : List Int) (w : World) (h : KptAt L w p) (hn : L.length ≤ 6) (hv : RowV w v l) (hl : l.length ≤ 1048576) (hr : ∀ x ∈ l, 0 ≤ x ∧ x < (L.length : Int)) :
    Calls Try.prog 94 #[v, .func (.func 91) #[] #[.pointer (some ⟨p, 0, none⟩)]] w fun e w' => (∃ r : Int, e = .returned (.int .i64 r) ∧ -1 ≤ r ∧ r ≤ 1048576 ∧ (0 ≤ r ↔ ∃ x ∈ l, 0 < (keptL L).getD x.toNat 0)) ∧ w = w' := by
  by_cases e : l = []
  · subst e
    obtain ⟨a, cap, rfl⟩ := hv.shape
    clear hv h
    go_enter Try.func94, Try.ntmps94
    go_wp2
    go_loopg [8] 0 (fun g i wr => i = .int .i64 0 ∧ w = wr)
    case atStart => exact ⟨rfl, rfl⟩
    case round =>
      obtain ⟨rfl, rfl⟩ := hrel
      go_wp2
      go_ret
      exact ⟨⟨_, rfl, by omega, by omega, by simp⟩, rfl⟩
  · obtain ⟨x, cap, rfl, hx, hc⟩ := hv.cons e
    clear hv e
    have HR := Lib.hid hr
    have HC := Lib.hid hc
    clear hr hc
    go_enter Try.func94, Try.ntmps94
    go_wp2
    go_loopg [8] l.length (fun g i wr => ∃ k : Nat, k ≤ l.length ∧ g = l.length - k ∧ i = .int .i64 k ∧ w = wr ∧ Hid (∀ j, j < k → ¬ 0 < (keptL L).getD (l.getD j 0).toNat 0))
    case atStart => exact ⟨0, Nat.zero_le _, rfl, rfl, rfl, fun j hj => absurd hj (Nat.not_lt_zero _)⟩
    case round =>
      obtain ⟨k, hk, rfl, rfl, rfl, H⟩ := hrel
      by_cases hlt : k < l.length
      · have c1 := HC.out k hlt
        obtain ⟨y, hy⟩ : ∃ y, l.getD k 0 = y := ⟨_, rfl⟩
        have hym := mem_getD hlt
        rw [hy] at c1 hym
        obtain ⟨y1, y2⟩ := HR.out y hym
        obtain ⟨j, rfl⟩ : ∃ j : Nat, y = j := ⟨y.toNat, by omega⟩
        have hj : j < L.length := by omega
        have hK := keeps_any L p j w h hj hn
        have HYM := Lib.hid hym
        have HY := Lib.hid hy
        obtain ⟨z, hz⟩ : ∃ z, decide (0 < (keptL L).getD j 0) = z := ⟨_, rfl⟩
        rw [hz] at hK
        have HZ := Lib.hid hz
        clear hz hy hym
        cases z with
        | true =>
          go_wp2_with fail
          refine hK.mono ?_
          rintro e w1 ⟨rfl, rfl⟩
          go_wp2
          go_ret
          exact ⟨⟨_, rfl, by omega, by omega, ⟨fun _ => ⟨(j : Int), HYM.out, by simpa using of_decide_eq_true HZ.out⟩, fun _ => by omega⟩⟩, rfl⟩
        | false =>
          go_wp2_with fail
          refine hK.mono ?_
          rintro e w1 ⟨rfl, rfl⟩
          go_wp2
          go_roundg (l.length - (k + 1))
          case measure => omega
          case rel =>
            refine ⟨k + 1, by omega, rfl, by simp, rfl, fun q hq => ?_⟩
            by_cases eq : q = k
            · subst eq; rw [HY.out]; simpa using of_decide_eq_false HZ.out
            · exact H.out q (by omega)
      · have e : k = l.length := by omega
        subst e
        go_wp2
        go_ret
        refine ⟨⟨_, rfl, by omega, by omega, ⟨fun q => by omega, fun ⟨y, hy, h0⟩ => ?_⟩⟩, rfl⟩
        obtain ⟨q, hq, rfl⟩ := getD_of_mem hy
        have q9 := H.out q hq
        simp only [List.getD_eq_getElem?_getD] at q9 h0
        omega
theorem contf_any (L : List (List Sq)) (p : Nat) (v : Value) (l : List Int) (w : World) (h : KptAt L w p) (hn : L.length ≤ 6) (hv : RowV w v l) (hl : l.length ≤ 1048576) (hr : ∀ x ∈ l, 0 ≤ x ∧ x < (L.length : Int)) :
    Calls Try.prog 90 #[v, .func (.func 91) #[] #[.pointer (some ⟨p, 0, none⟩)]] w fun e w' => (∃ z, e = .returned (.bool z) ∧ (z = true ↔ ∃ x ∈ l, 0 < (keptL L).getD x.toNat 0)) ∧ w = w' := by
  have HI := idxf_any L p v l w h hn hv hl hr
  clear h hv hr
  go_enter Try.func90, Try.ntmps90
  go_wp2_with fail
  refine HI.mono ?_
  rintro e w1 ⟨⟨r, rfl, r1, r2, r3⟩, rfl⟩
  have R3 := Lib.hid r3
  clear r3
  by_cases h0 : 0 ≤ r
  · go_wp2
    go_ret
    exact ⟨⟨true, by first | rfl | simp [h0], ⟨fun _ => R3.out.1 h0, fun _ => rfl⟩⟩, rfl⟩
  · go_wp2
    go_ret
    exact ⟨⟨false, by first | rfl | simp [h0], ⟨(fun q => by cases q), (fun q => by have := R3.out.2 q; omega)⟩⟩, rfl⟩
theorem rchL_mem {L : List (List Sq)} {m : Int} {x : Int} : x ∈ rchL L m ↔ ∃ i, i < L.length ∧ Rch (nxS L) [m] (i : Int) ∧ x = (i : Int) := mem_setL
theorem trp_iff {L : List (List Sq)} (h : okS L) {i : Nat} : trp L i ↔ ¬ ∃ x ∈ rchL L (i : Int), 0 < (keptL L).getD x.toNat 0 := by
  constructor
  · rintro ht ⟨x, hx, h0⟩
    obtain ⟨k, hk, hR, rfl⟩ := rchL_mem.1 hx
    have := ht k hk hR
    simp only [Int.toNat_natCast] at h0
    omega
  · intro hn k hk hR
    have hb := (kept_bd h hk).1
    refine Classical.byContradiction fun hne => hn ⟨(k : Int), rchL_mem.2 ⟨k, hk, hR, rfl⟩, ?_⟩
    simp only [Int.toNat_natCast]
    omega
set_option maxHeartbeats 1000000 in
theorem itrapped (L : List (List Sq)) (lo mn : Nat) (w : World) (h : SS w lo lo L) (hf : FitsS L) (hok : okS L) (hmn : mn < L.length) :
    Calls Try.prog 79 #[.slice (some ⟨lo, 0, none⟩) L.length L.length, .int .i64 (mn : Int)] w fun e w' => e = .returned (.bool (dcd (trp L mn))) ∧ Below w.heap.size w w' := by
  have n6 := hok.2.1
  have hK := ikept L lo lo L.length w h hf hok
  have HI := Lib.hid (fun w' (hw : Below w.heap.size w w') => ireached L lo mn w' (h.below hw) hf hok hmn)
  have HT := Lib.hid (trp_iff hok (i := mn))
  have hrl : (rchL L (mn : Int)).length ≤ 6 := by have := setL_len L.length (fun i => Rch (nxS L) [(mn : Int)] (i : Int)); unfold rchL; omega
  clear h hf hok
  go_enter Try.func79, Try.ntmps79
  go_wp2_with fail
  refine hK.mono ?_
  rintro e w1 ⟨rfl, hr, hb1⟩
  have s1 := hb1.size
  have hlt := hr.lt
  have hb2 := hb1.alloc s1 (.cells #[.slice (some ⟨w.heap.size, 0, none⟩) L.length L.length] 29)
  have hkp : KptAt L (w1.alloc (.cells #[.slice (some ⟨w.heap.size, 0, none⟩) L.length L.length] 29)) w1.heap.size := ⟨w.heap.size, by go_simp, by simp, by simp; omega, fun k hk => (hr.alloc _).cell hk⟩
  clear hr
  go_wp2_with fail
  refine (HI.out _ hb2).mono ?_
  rintro e w3 ⟨⟨v, rfl, hv⟩, hb3⟩
  have hkp3 := hkp.below hb3
  have HC := contf_any L w1.heap.size v _ w3 hkp3 n6 hv.rd.1 (by omega) (fun x hx => by
    obtain ⟨k, hk, _, rfl⟩ := rchL_mem.1 hx
    omega)
  have hbe := hb2.trans (hb3.mono hb2.size)
  clear hkp hkp3 hv
  go_wp2_with fail
  refine HC.mono ?_
  rintro e w4 ⟨⟨z, rfl, hz⟩, rfl⟩
  have hzz : dcd (trp L mn) = !z := by
    rw [Bool.eq_iff_iff, dcd_iff, HT.out, ← hz]
    cases z <;> simp
  have HZZ := Lib.hid hzz
  clear hzz hz
  go_wp2
  go_ret
  rw [HZZ.out]
  exact ⟨rfl, hbe⟩
set_option maxHeartbeats 1000000 in
set_option maxRecDepth 100000 in
theorem who_trapped (L : List (List Sq)) (lo : Nat) (w : World) (h : SS w lo lo L) (hf : FitsS L) (hok : okS L) :
    Calls Try.prog 78 #[.slice (some ⟨lo, 0, none⟩) L.length L.length, .func (.func 79) #[.slice (some ⟨lo, 0, none⟩) L.length L.length] #[]] w fun e w' => (∃ v, e = .returned v ∧ OwI w' w.heap.size w'.heap.size v (trpL L)) ∧ Below w.heap.size w w' := by
  obtain ⟨i0, hi, hz0, hz1, hz2⟩ := info_parts infoI
  have n6 := hok.2.1
  have HT := Lib.hid (fun (k : Nat) (w' : World) (hk : k < L.length) (hw : Below w.heap.size w w') => itrapped L lo k w' (h.below hw) hf hok hk)
  have hown0 : w.ownsRow w.heap.size 2 1 (.slice none 0 0) ([] : List Int).length (([] : List Int).map (Value.int .i64)) := ⟨rfl, .inl ⟨rfl, rfl⟩⟩
  clear h hf hok
  go_enter Try.func78, Try.ntmps78
  go_wp2
  go_loopg [5, 9] L.length (fun g v i wr => ∃ (k : Nat) (l : List Int), k ≤ L.length ∧ g = L.length - k ∧ i = .int .i64 k ∧ l.length ≤ k ∧ Hid (l = setL k (trp L)) ∧ wr.ownsRow w.heap.size 2 1 v l.length (l.map (Value.int .i64)) ∧ Below w.heap.size w wr)
  case atStart => exact ⟨0, [], Nat.zero_le _, rfl, rfl, Nat.le_refl _, rfl, hown0, Below.refl _ _⟩
  case round =>
    clear hown0
    obtain ⟨k, l, hk, rfl, rfl, hll, HL, hown, hb⟩ := hrel
    by_cases hkn : k < L.length
    · have hC := HT.out k _ hkn hb
      have hs := setL_succ k (trp L)
      obtain ⟨z, hz⟩ : ∃ z, dcd (trp L k) = z := ⟨_, rfl⟩
      rw [hz] at hC hs
      have HS := Lib.hid hs
      have sw := hb.size
      clear hz hs
      cases z with
      | true =>
        have HE : Hid (l ++ [(k : Int)] = setL (k + 1) (trp L)) := by show l ++ [(k : Int)] = _; rw [HS.out, ← HL.out]; simp
        go_wp2_with fail
        refine hC.mono ?_
        rintro e w2 ⟨rfl, hb2⟩
        have hown2 := own_blockJ hown fun g _ hg => hb2.block g hg
        have s2 := hb2.size
        go_wp2_with (first
          | (at_builtin; refine wpList_append_own _ rfl _ _ 29 rfl w.heap.size 2 i0 (.int .i64 0) 1 8 Try.underlying29 hi hz0 hz1 hz2 rfl (by decide) _ _ _ rfl (hown2.alloc _) ⟨w2.heap.size, 0, none⟩ 1 1 [.int .i64 (k : Int)] rfl rfl ?c1 ?c2 ?c3 ?c4 ?c5 ?_))
        case c1 => exact World.news_of_block (cs := #[.int .i64 (k : Int)]) (t := 2) (fr := (0, 0)) (heap_alloc_new w2 _)
        case c2 => simp [Value.oneCell']
        case c3 => unfold maxLen; omega
        case c4 => omega
        case c5 => simp; omega
        intro v' w3 hown3 hgrow _
        have hb3 := ((hb.trans (hb2.mono sw)).alloc (by omega) _).grown hgrow (by simp; omega) (fun x e => (hown.lt x e).1)
        have HO : Hid (w3.ownsRow w.heap.size 2 1 v' (l ++ [(k : Int)]).length ((l ++ [(k : Int)]).map (Value.int .i64))) := by rw [snoc_len, snoc_map]; exact hown3
        have HLN := Lib.hid (snoc_len l (k : Int))
        clear hown3 hgrow
        go_wp2
        go_roundg (L.length - (k + 1))
        case measure => omega
        case rel => exact ⟨k + 1, l ++ [(k : Int)], by omega, rfl, by simp, by rw [HLN.out]; omega, HE, HO.out, hb3⟩
      | false =>
        have HE : Hid (l = setL (k + 1) (trp L)) := by show l = _; rw [HS.out, ← HL.out]; simp
        go_wp2_with fail
        refine hC.mono ?_
        rintro e w2 ⟨rfl, hb2⟩
        have hown2 := own_blockJ hown fun g _ hg => hb2.block g hg
        have hb3 := hb.trans (hb2.mono sw)
        go_wp2
        go_roundg (L.length - (k + 1))
        case measure => omega
        case rel => exact ⟨k + 1, l, by omega, rfl, by simp, by omega, HE, hown2, hb3⟩
    · have e : k = L.length := by omega
      subst e
      go_wp2
      go_ret
      refine ⟨⟨_, rfl, ?_⟩, hb⟩
      unfold trpL
      rw [← HL.out]
      exact ow_of_own hown (Nat.le_refl _) (by omega)
set_option maxHeartbeats 1000000 in
theorem iTrappedMembers (L : List (List Sq)) (w : World) (lo hi : Nat) (u : Value) (h : CpS w lo hi u L) : Calls Try.prog 44 #[u] w (QIb (mTrp L) w) := by
  obtain ⟨rfl, h1, -, hf⟩ := h
  have HV := iis_any L lo lo L.length w h1 hf
  cases hz : okSB L with
  | false =>
    rw [mTrp_no hz]
    rw [hz] at HV
    clear hz
    go_enter Try.func44, Try.ntmps44
    go_wp2_with fail
    refine HV.mono ?_
    rintro e w1 ⟨rfl, hb1⟩
    go_wp2
    go_ret2
    exact ⟨_, rfl, OwI.nil _ _ _, hb1⟩
  | true =>
    have hok := okSB_of hz
    have HT := Lib.hid (fun w' (hw : Below w.heap.size w w') => who_trapped L lo w' (h1.below hw) hf hok)
    rw [mTrp_yes hz]
    rw [hz] at HV
    clear hz hok
    go_enter Try.func44, Try.ntmps44
    go_wp2_with fail
    refine HV.mono ?_
    rintro e w1 ⟨rfl, hb1⟩
    go_wp2_with fail
    refine (HT.out _ hb1).mono ?_
    rintro e w2 ⟨⟨v, rfl, hv⟩, hb2⟩
    have s1 := hb1.size
    go_wp2
    go_ret2
    exact ⟨_, rfl, hv.mono s1 (Nat.le_refl _), hb1.trans (hb2.mono s1)⟩
end Go.Proofs.Ytpfkhodhkkdaeaa
