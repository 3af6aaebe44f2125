/- UnitShares on both sides. -/
import Derived.Test.YtlpidgdlbannbaaSh10
namespace Go.Proofs.Ytlpidgdlbannbaa
open Go.ChangeShapes Go.WideShapes Go.ChangeAt Go.RowKit Go.Deep
set_option linter.unusedSimpArgs false
set_option linter.unusedVariables false
/-- The shares of one voice. -/
def usOf (v : Vc) : List Sq := if v.1 = true then [] else [(v.2.getD 0 0, 12)]
def usL (L : List Vc) : List (List Sq) := L.map usOf
theorem usL_len (L : List Vc) : (usL L).length = L.length := by simp [usL]
theorem usL_at (L : List Vc) {k : Nat} (h : k < L.length) : (usL L).getD k [] = usOf (L.getD k (false, [])) := by simp [usL, List.getD, h]
theorem usOf_len (v : Vc) : (usOf v).length ≤ 1 := by unfold usOf; split <;> simp
theorem usL_fits {L : List Vc} (hf : Fits L) : FitsS (usL L) := by
  refine ⟨by rw [usL_len]; exact hf.1, fun k hk => ?_⟩
  rw [usL_len] at hk
  rw [usL_at L hk]
  have := usOf_len (L.getD k (false, []))
  omega
/-- Voice k speaks or trusts someone. -/
def spk (L : List Vc) (k : Nat) : Prop := (L.getD k (false, [])).1 = true ∨ (L.getD k (false, [])).2 ≠ []
noncomputable def usB (L : List Vc) : Bool := @decide (okLB L = true ∧ L.length ≤ 6 ∧ ∀ k, k < L.length → spk L k) (Classical.propDecidable _)
theorem usB_yes {L : List Vc} (h1 : okLB L = true) (h2 : L.length ≤ 6) (h3 : ∀ k, k < L.length → spk L k) : usB L = true := by unfold usB; exact @decide_eq_true _ (Classical.propDecidable _) ⟨h1, h2, h3⟩
theorem usB_no {L : List Vc} (h : ¬ (okLB L = true ∧ L.length ≤ 6 ∧ ∀ k, k < L.length → spk L k)) : usB L = false := by unfold usB; exact @decide_eq_false _ (Classical.propDecidable _) h
noncomputable def mUnit (L : List Vc) : List (List Sq) × Bool := if usB L = true then (usL L, true) else ([], false)
theorem mUnit_yes {L : List Vc} (h : usB L = true) : mUnit L = (usL L, true) := by unfold mUnit; rw [if_pos h]
theorem mUnit_no {L : List Vc} (h : usB L = false) : mUnit L = ([], false) := by unfold mUnit; rw [if_neg (by rw [h]; decide)]
theorem ow1_single (w : World) (y p : Int) {lo hi : Nat} (h1 : lo ≤ w.heap.size) (h2 : w.heap.size < hi) : Ow1S (w.alloc (.cells #[.int .i64 y, .int .i64 p] 86)) lo hi (.slice (some ⟨w.heap.size, 0, none⟩) 1 1) [(y, p)] :=
  .inr ⟨w.heap.size, 1, 2, fun j => if j = 0 then .int .i64 y else .int .i64 p, rfl, h1, h2, Nat.le_refl _, ⟨#[.int .i64 y, .int .i64 p], heap_alloc_new w _, rfl, fun i hi => by
    have : i = 0 ∨ i = 1 := by omega
    rcases this with rfl | rfl <;> rfl⟩, fun i hi => by
    have : i = 0 := by simpa using hi
    subst this
    exact ⟨rfl, rfl⟩⟩
theorem okLB_bd {L : List Vc} (h : okLB L = true) : 1 ≤ L.length := by
  unfold okLB at h
  exact (@of_decide_eq_true _ (Classical.propDecidable _) h).1
set_option maxHeartbeats 2000000 in
set_option maxRecDepth 100000 in
theorem sUnitShares (L : List Vc) (w : World) (lo hi : Nat) (u : Value) (h : CpV w lo hi u L) : Calls Try.prog 39 #[u] w (PSb (mUnit L) w) := by
  obtain ⟨rfl, h1, -, hf⟩ := h
  have HV := sok_any L lo lo L.length w h1 hf
  cases hz : okLB L with
  | false =>
    rw [mUnit_no (usB_no (fun q => by rw [hz] at q; cases q.1))]
    rw [hz] at HV
    clear hz
    go_enter Try.func39, Try.ntmps39
    go_wp2_with fail
    refine HV.mono ?_
    rintro e w1 ⟨rfl, hb1⟩
    go_wp2
    go_ret2
    exact ⟨_, rfl, RdS.nil _ _ _, hb1⟩
  | true =>
    have hl1 := okLB_bd hz
    rw [hz] at HV
    by_cases h6 : L.length ≤ 6
    · have i1 : inB (L.length : Int) 1 6 = true := inB_yes (by omega) (by omega)
      obtain ⟨i0, hi, hz0, hz1, hz2⟩ := info_parts infoSh
      obtain ⟨j0, hj, hy0, hy1, hy2⟩ := info_parts infoShS
      have hf1 := hf.1
      have HF := Lib.hid hf
      have HT := Lib.hid (fun k (hk : k < L.length) => usL_at L hk)
      have HOK := Lib.hid hz
      clear hf hz
      go_enter Try.func39, Try.ntmps39
      go_wp2_with fail
      refine HV.mono ?_
      rintro e w1 ⟨rfl, hb1⟩
      have s1 := hb1.size
      have hown0 : (w1.alloc (.cells #[] 84)).ownsRow w.heap.size 84 1 (.slice (some ⟨w1.heap.size, 0, none⟩) 0 0) 0 ((List.range 0).map (fun _ => Value.bool false)) := World.ownsRow_lit w1 #[] 0 s1 (by unfold maxLen; omega) rfl
      have hb0 : Below w.heap.size w (w1.alloc (.cells #[] 84)) := hb1.alloc s1 _
      go_wp2_with (go_at_call 73; refine (in_val _ _ _ _).mono ?_; rintro e w1' ⟨rfl, rfl⟩)
      go_loopg [4, 5] L.length (fun g v i wr => ∃ (k : Nat) (f : Nat → Value), k ≤ L.length ∧ g = L.length - k ∧ i = .int .i64 k ∧ wr.ownsRow w.heap.size 84 1 v k ((List.range k).map f) ∧ Hid (∀ i, i < k → Ow1S wr w.heap.size wr.heap.size (f i) ((usL L).getD i [])) ∧ Hid (∀ i, i < k → spk L i) ∧ Below w.heap.size w wr)
      case atStart => exact ⟨0, _, Nat.zero_le _, rfl, rfl, hown0, fun i hi => absurd hi (Nat.not_lt_zero _), fun i hi => absurd hi (Nat.not_lt_zero _), hb0⟩
      case round =>
        clear hown0 hb0
        obtain ⟨k, f, hk, rfl, rfl, hown, H, HS, hb⟩ := hrel
        by_cases hlt : k < L.length
        · obtain ⟨c, a1, a2, a3⟩ := (h1.below hb).at hlt
          have hlen := HF.out.2 k hlt
          have hat := HT.out k hlt
          obtain ⟨⟨s, t⟩, hq⟩ : ∃ q, L.getD k (false, []) = q := ⟨_, rfl⟩
          rw [hq] at a1 a2 a3 hlen hat
          simp only at a1 a2 a3 hlen
          have HAT := Lib.hid hat
          have HQ := Lib.hid hq
          clear hq hat
          have sw := hb.size
          have lbw := Nat.lt_of_lt_of_le h1.lt sw
          have nbw := Nat.ne_of_lt lbw
          have ht6 : k ≤ 6 := by omega
          cases s with
          | true =>
            have hu2 : Ow1S (wr.alloc (.cells #[] 86)) w.heap.size (wr.alloc (.cells #[] 86)).heap.size (.slice (some ⟨wr.heap.size, 0, none⟩) 0 0) ((usL L).getD k []) := by rw [HAT.out]; exact ow1_lit wr sw (by simp)
            have hb3 : Below wr.heap.size wr (wr.alloc (.cells #[] 86)) := (Below.refl _ _).alloc (Nat.le_refl _) _
            have hown3 := own_block hown fun g _ hg => blk_alloc_lt wr (.cells #[] 86) g hg
            have HST := Lib.hid (fun (w3 : World) v' (hg : ((wr.alloc (.cells #[] 86)).alloc (.cells #[.slice (some ⟨wr.heap.size, 0, none⟩) 0 0] 84)).grownBy w3 u4.ownBlock) ho => OwS_one_step (v' := v') H.out hown hb3 hu2 hg ho)
            clear hu2
            go_wp2_with (first
              | (at_builtin; refine wpList_append_own _ rfl _ _ 50 rfl w.heap.size 84 j0 (.slice none 0 0) 1 24 Try.underlying50 hj hy0 hy1 hy2 rfl (by decide) _ _ _ rfl (hown3.alloc _) ⟨wr.heap.size + 1, 0, none⟩ 1 1 [.slice (some ⟨wr.heap.size, 0, none⟩) 0 0] rfl rfl ?d1 ?d2 ?d3 ?d4 ?d5 ?_))
            case d1 => exact World.news_of_block (cs := #[.slice (some ⟨wr.heap.size, 0, none⟩) 0 0]) (t := 84) (fr := (0, 0)) (by have := heap_alloc_new (wr.alloc (.cells #[] 86)) (.cells #[.slice (some ⟨wr.heap.size, 0, none⟩) 0 0] 84); simpa using this)
            case d2 => simp [Value.oneCell']
            case d3 => unfold maxLen; omega
            case d4 => omega
            case d5 => simp; omega
            intro v2 w3 hown4 hgrow4 _
            obtain ⟨f', q1, q2⟩ := HST.out w3 v2 hgrow4 hown4
            have Q2 := Lib.hid q2
            have hb4 := ((hb.trans (hb3.mono sw)).alloc (by simp; omega) _).grown hgrow4 (by simp; omega) (fun x e => (hown.lt x e).1)
            clear hown4 hgrow4 q2 HST hown3
            go_wp2
            go_roundg (L.length - (k + 1))
            case measure => omega
            case rel =>
              refine ⟨k + 1, f', by omega, rfl, by simp, q1, Q2, fun i hi => ?_, hb4⟩
              by_cases ei : i = k
              · subst ei; unfold spk; rw [HQ.out]; exact .inl rfl
              · exact HS.out i (by omega)
          | false =>
            by_cases hte : t = []
            · subst hte
              have hno : usB L = false := usB_no (fun q => by have := q.2.2 k hlt; unfold spk at this; rw [HQ.out] at this; simp at this)
              have HNO := Lib.hid hno
              clear hno a3 HAT
              go_wp2
              go_ret2
              rw [mUnit_no HNO.out]
              exact ⟨_, rfl, RdS.nil _ _ _, hb⟩
            · have hlp := List.length_pos_iff.2 hte
              have hne0 : ((t.length : Int) == 0) = false := by simp [hte]
              obtain ⟨x, cp, hx0, hx, hc⟩ := a3.cons hte
              obtain ⟨rfl, -⟩ : x = ⟨c, 0, none⟩ ∧ cp = t.length := by simpa [eq_comm] using hx0
              have c1 := hc 0 hlp
              rw [Addr.add_lit, Nat.zero_add] at c1
              have hat : (usL L).getD k [] = [(t.getD 0 0, 12)] := HAT.out
              obtain ⟨y, hy⟩ : ∃ y, t.getD 0 0 = y := ⟨_, rfl⟩
              rw [hy] at c1 hat
              have HTE := Lib.hid hte
              have hu2 : Ow1S (wr.alloc (.cells #[.int .i64 y, .int .i64 12] 86)) w.heap.size (wr.alloc (.cells #[.int .i64 y, .int .i64 12] 86)).heap.size (.slice (some ⟨wr.heap.size, 0, none⟩) 1 1) ((usL L).getD k []) := by rw [hat]; exact ow1_single wr y 12 sw (by simp)
              have hb3 : Below wr.heap.size wr (wr.alloc (.cells #[.int .i64 y, .int .i64 12] 86)) := (Below.refl _ _).alloc (Nat.le_refl _) _
              have hown3 := own_block hown fun g _ hg => blk_alloc_lt wr (.cells #[.int .i64 y, .int .i64 12] 86) g hg
              have HST := Lib.hid (fun (w3 : World) v' (hg : ((wr.alloc (.cells #[.int .i64 y, .int .i64 12] 86)).alloc (.cells #[.slice (some ⟨wr.heap.size, 0, none⟩) 1 1] 84)).grownBy w3 u4.ownBlock) ho => OwS_one_step (v' := v') H.out hown hb3 hu2 hg ho)
              clear hu2 hy hat HAT hx0 hc hte a3
              go_wp2_with (first
                | (at_builtin; refine wpList_append_own _ rfl _ _ 50 rfl w.heap.size 84 j0 (.slice none 0 0) 1 24 Try.underlying50 hj hy0 hy1 hy2 rfl (by decide) _ _ _ rfl (hown3.alloc _) ⟨wr.heap.size + 1, 0, none⟩ 1 1 [.slice (some ⟨wr.heap.size, 0, none⟩) 1 1] rfl rfl ?g1 ?g2 ?g3 ?g4 ?g5 ?_))
              try (case g1 => exact World.news_of_block (cs := #[.slice (some ⟨wr.heap.size, 0, none⟩) 1 1]) (t := 84) (fr := (0, 0)) (by have := heap_alloc_new (wr.alloc (.cells #[.int .i64 y, .int .i64 12] 86)) (.cells #[.slice (some ⟨wr.heap.size, 0, none⟩) 1 1] 84); simpa using this))
              case g2 => simp [Value.oneCell']
              case g3 => unfold maxLen; omega
              case g4 => omega
              case g5 => first | omega | (simp; omega)
              intro v2 w3 hown4 hgrow4 _
              obtain ⟨f', q1, q2⟩ := HST.out w3 v2 hgrow4 hown4
              have Q2 := Lib.hid q2
              have hb4 := ((hb.trans (hb3.mono sw)).alloc (by simp; omega) _).grown hgrow4 (by simp; omega) (fun x e => (hown.lt x e).1)
              clear hown4 hgrow4 q2 HST hown3
              go_wp2
              go_roundg (L.length - (k + 1))
              case measure => omega
              case rel =>
                refine ⟨k + 1, f', by omega, rfl, by simp, q1, Q2, fun i hi => ?_, hb4⟩
                by_cases ei : i = k
                · subst ei; unfold spk; rw [HQ.out]; exact .inr HTE.out
                · exact HS.out i (by omega)
        · have e : k = L.length := by omega
          subst e
          go_wp2
          go_ret2
          rw [mUnit_yes (usB_yes HOK.out h6 HS.out)]
          refine ⟨_, rfl, ?_, hb⟩
          exact rdS_of (f := f) (by rw [usL_len]; exact hown) (by rw [usL_len]; exact H.out) (usL_fits HF.out)
    · have i1 : inB (L.length : Int) 1 6 = false := inB_no (by omega)
      rw [mUnit_no (usB_no (fun q => h6 q.2.1))]
      clear hz
      go_enter Try.func39, Try.ntmps39
      go_wp2_with fail
      refine HV.mono ?_
      rintro e w1 ⟨rfl, hb1⟩
      go_wp2_with (go_at_call 73; refine (in_val _ _ _ _).mono ?_; rintro e w1' ⟨rfl, rfl⟩)
      go_ret2
      exact ⟨_, rfl, RdS.nil _ _ _, hb1⟩
set_option maxHeartbeats 2000000 in
set_option maxRecDepth 100000 in
theorem iUnitShares (L : List Vc) (w : World) (lo hi : Nat) (u : Value) (h : CpV w lo hi u L) : Calls Try.prog 40 #[u] w (QSb (mUnit L) w) := by
  obtain ⟨rfl, h1, -, hf⟩ := h
  have HV := iok_any L lo lo L.length w h1 hf
  cases hz : okLB L with
  | false =>
    rw [mUnit_no (usB_no (fun q => by rw [hz] at q; cases q.1))]
    rw [hz] at HV
    clear hz
    go_enter Try.func40, Try.ntmps40
    go_wp2_with fail
    refine HV.mono ?_
    rintro e w1 ⟨rfl, hb1⟩
    go_wp2
    go_ret2
    exact ⟨_, rfl, OwS.nil _ _ _, hb1⟩
  | true =>
    have hl1 := okLB_bd hz
    rw [hz] at HV
    by_cases h6 : L.length ≤ 6
    · have hmk := run_make_row' (P := Try.prog) 50 84 (.slice none 0 0) 24 Try.underlying50 infoShS rfl .i64 .i64 L.length (by omega) (by omega)
      have hf1 := hf.1
      have HF := Lib.hid hf
      have HT := Lib.hid (fun k (hk : k < L.length) => usL_at L hk)
      have HTL := Lib.hid (usL_len L)
      have HOK := Lib.hid hz
      clear hf hz
      go_enter Try.func40, Try.ntmps40
      go_wp2_with fail
      refine HV.mono ?_
      rintro e w1 ⟨rfl, hb1⟩
      have s1 := hb1.size
      have hL0 := LaidS.start w1 L.length (usL L) s1 (fun _ => .slice none 0 0)
      have hb0 : Below w.heap.size w (w1.alloc (.cells (madeCells #[.slice none 0 0] L.length) 84)) := hb1.alloc s1 _
      go_wp2
      go_loopg [20] L.length (fun g i wr => ∃ (k : Nat) (f : Nat → Value), k ≤ L.length ∧ g = L.length - k ∧ i = .int .i64 k ∧ LaidS wr w.heap.size w1.heap.size L.length (usL L) k f ∧ Hid (∀ i, i < k → spk L i) ∧ Below w.heap.size w wr)
      case atStart => exact ⟨0, _, Nat.zero_le _, rfl, rfl, hL0, fun i hi => absurd hi (Nat.not_lt_zero _), hb0⟩
      case round =>
        clear hL0 hb0 hmk
        obtain ⟨k, f, hk, rfl, rfl, hL, HS, hb⟩ := hrel
        have sw := hb.size
        have lrow := hL.row.lt
        by_cases hlt : k < L.length
        · obtain ⟨c, a1, a2, a3⟩ := (h1.below hb).at hlt
          have hlen := HF.out.2 k hlt
          have hat := HT.out k hlt
          obtain ⟨⟨s, t⟩, hq⟩ : ∃ q, L.getD k (false, []) = q := ⟨_, rfl⟩
          rw [hq] at a1 a2 a3 hlen hat
          simp only at a1 a2 a3 hlen
          have HAT := Lib.hid hat
          have HQ := Lib.hid hq
          clear hq hat
          have lbw := Nat.lt_of_lt_of_le h1.lt sw
          have nbw := Nat.ne_of_lt lbw
          have bal : Below wr.heap.size wr (wr.alloc (.cells #[.bool s, .slice (some ⟨c, 0, none⟩) t.length t.length] 64)) := (Below.refl _ _).alloc (Nat.le_refl _) _
          cases s with
          | true =>
            have hL2 := (hL.below bal).skip (by rw [HAT.out]; rfl)
            have hb2 := hb.trans (bal.mono sw)
            clear bal
            go_wp2
            go_roundg (L.length - (k + 1))
            case measure => omega
            case rel =>
              refine ⟨k + 1, _, by omega, rfl, by simp, hL2, fun i hi => ?_, hb2⟩
              by_cases ei : i = k
              · subst ei; unfold spk; rw [HQ.out]; exact .inl rfl
              · exact HS.out i (by omega)
          | false =>
            by_cases hte : t = []
            · subst hte
              have hno : usB L = false := usB_no (fun q => by have := q.2.2 k hlt; unfold spk at this; rw [HQ.out] at this; simp at this)
              have HNO := Lib.hid hno
              have hb2 := hb.trans (bal.mono sw)
              clear hno a3 HAT bal
              go_wp2
              go_ret2
              rw [mUnit_no HNO.out]
              exact ⟨_, rfl, OwS.nil _ _ _, hb2⟩
            · have hlp := List.length_pos_iff.2 hte
              have hne0 : ((t.length : Int) == 0) = false := by simp [hte]
              obtain ⟨x, cp, hx0, hx, hc⟩ := a3.cons hte
              obtain ⟨rfl, -⟩ : x = ⟨c, 0, none⟩ ∧ cp = t.length := by simpa [eq_comm] using hx0
              have c1 := hc 0 hlp
              rw [Addr.add_lit, Nat.zero_add] at c1
              have nx : c ≠ wr.heap.size := Nat.ne_of_lt hx
              have hat : (usL L).getD k [] = [(t.getD 0 0, 12)] := HAT.out
              obtain ⟨y, hy⟩ : ∃ y, t.getD 0 0 = y := ⟨_, rfl⟩
              rw [hy] at c1 hat
              have HTE := Lib.hid hte
              have bal2 : Below wr.heap.size wr ((wr.alloc (.cells #[.bool false, .slice (some ⟨c, 0, none⟩) t.length t.length] 64)).alloc (.cells #[.int .i64 y, .int .i64 12] 86)) := bal.alloc (by simp) _
              have hL3 := hL.lay bal2 (u := .slice (some ⟨wr.heap.size + 1, 0, none⟩) 1 1) (by rw [hat]; have q := ow1_single (wr.alloc (.cells #[.bool false, .slice (some ⟨c, 0, none⟩) t.length t.length] 64)) y 12 (lo := wr.heap.size) (hi := wr.heap.size + 1 + 1) (by simp) (by simp); simpa using q)
              have hb3 := (hb.trans (bal2.mono sw)).setCell (p := ⟨w1.heap.size, k, none⟩) s1 (.slice (some ⟨wr.heap.size + 1, 0, none⟩) 1 1)
              rw [World.setCell_alloc_past _ _ _ _ (by simp; omega), World.setCell_alloc_past _ _ _ _ lrow] at hL3 hb3
              have HL3 := Lib.hid hL3
              have HB3 := Lib.hid hb3
              have c0 := hL.row.cell hlt
              have f0 := hL.row.frozen k
              have hcf : cf f k k = .slice none 0 0 := by simp [cf]
              rw [hcf] at c0
              have nrow : w1.heap.size ≠ wr.heap.size := Nat.ne_of_lt lrow
              clear hy hat HAT hx0 hc hte a3 hcf bal bal2 hL3 hb3
              go_wp2
              go_roundg (L.length - (k + 1))
              case measure => omega
              case rel =>
                refine ⟨k + 1, _, by omega, rfl, by simp, HL3.out, fun i hi => ?_, HB3.out⟩
                by_cases ei : i = k
                · subst ei; unfold spk; rw [HQ.out]; exact .inr HTE.out
                · exact HS.out i (by omega)
        · have e : k = L.length := by omega
          subst e
          go_wp2
          go_ret2
          rw [mUnit_yes (usB_yes HOK.out h6 HS.out)]
          refine ⟨_, rfl, ?_, hb⟩
          rw [← HTL.out] at hL
          have q := hL.done (usL_fits HF.out) L.length
          rw [HTL.out] at q
          exact q
    · rw [mUnit_no (usB_no (fun q => h6 q.2.1))]
      clear hz
      go_enter Try.func40, Try.ntmps40
      go_wp2_with fail
      refine HV.mono ?_
      rintro e w1 ⟨rfl, hb1⟩
      go_wp2
      go_ret2
      exact ⟨_, rfl, OwS.nil _ _ _, hb1⟩
end Go.Proofs.Ytlpidgdlbannbaa
