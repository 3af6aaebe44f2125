/- TakeBack on both sides. -/
import Derived.Test.YtlpidgdlbannbaaSh9
namespace Go.Proofs.Ytlpidgdlbannbaa
open Go.ChangeShapes Go.WideShapes Go.ChangeAt Go.RowKit Go.Deep
set_option linter.unusedSimpArgs false
set_option linter.unusedVariables false
/-- The list in which member m has no shares. -/
def tkL (L : List (List Sq)) (m : Int) : List (List Sq) := (List.range L.length).map fun i : Nat => if (i : Int) = m then [] else L.getD i []
theorem tkL_len (L : List (List Sq)) (m : Int) : (tkL L m).length = L.length := by simp [tkL]
theorem tkL_at (L : List (List Sq)) (m : Int) {k : Nat} (h : k < L.length) : (tkL L m).getD k [] = if (k : Int) = m then [] else L.getD k [] := by simp [tkL, List.getD, h]
theorem tkL_fits {L : List (List Sq)} (m : Int) (hf : FitsS L) : FitsS (tkL L m) := by
  refine ⟨by rw [tkL_len]; exact hf.1, fun k hk => ?_⟩
  rw [tkL_len] at hk
  rw [tkL_at L m hk]
  split
  · simp
  · exact hf.2 k hk
noncomputable def mTake (L : List (List Sq)) (m : Int) : List (List Sq) × Bool := if hmSB L m = true then (tkL L m, true) else ([], false)
theorem mTake_yes {L : List (List Sq)} {m : Int} (h : hmSB L m = true) : mTake L m = (tkL L m, true) := by unfold mTake; rw [if_pos h]
theorem mTake_no {L : List (List Sq)} {m : Int} (h : hmSB L m = false) : mTake L m = ([], false) := by unfold mTake; rw [if_neg (by rw [h]; decide)]
set_option maxHeartbeats 2000000 in
set_option maxRecDepth 100000 in
theorem sTakeBack (L : List (List Sq)) (m : Int) (w : World) (lo hi : Nat) (u : Value) (h : CpS w lo hi u L) (hwf : (Lit.int .i64 m).wf = true) : Calls Try.prog 48 #[u, .int .i64 m] w (PSb (mTake L m) w) := by
  obtain ⟨rfl, h1, -, hf⟩ := h
  have HV := s_member L lo lo L.length m w h1 hf
  cases hz : hmSB L m with
  | false =>
    rw [mTake_no hz]
    rw [hz] at HV
    clear hz
    go_enter Try.func48, Try.ntmps48
    go_wp2_with fail
    refine HV.mono ?_
    rintro e w1 ⟨rfl, hb1⟩
    go_wp2
    go_ret2
    exact ⟨_, rfl, RdS.nil _ _ _, hb1⟩
  | true =>
    rw [mTake_yes hz]
    rw [hz] at HV
    clear hz
    obtain ⟨i0, hi, hz0, hz1, hz2⟩ := info_parts infoSh
    obtain ⟨j0, hj, hy0, hy1, hy2⟩ := info_parts infoShS
    have hf1 := hf.1
    have HF := Lib.hid hf
    have HT := Lib.hid (fun k (hk : k < L.length) => tkL_at L m hk)
    clear hf
    go_enter Try.func48, Try.ntmps48
    go_wp2_with fail
    refine HV.mono ?_
    rintro e w1 ⟨rfl, hb1⟩
    have s1 := hb1.size
    have hown0 : (w1.alloc (.cells #[] 84)).ownsRow w.heap.size 84 1 (.slice (some ⟨w1.heap.size, 0, none⟩) 0 0) 0 ((List.range 0).map (fun _ => Value.bool false)) := World.ownsRow_lit w1 #[] 0 s1 (by unfold maxLen; omega) rfl
    have hb0 : Below w.heap.size w (w1.alloc (.cells #[] 84)) := hb1.alloc s1 _
    go_wp2
    go_loopg [6, 7] L.length (fun g v i wr => ∃ (k : Nat) (f : Nat → Value), k ≤ L.length ∧ g = L.length - k ∧ i = .int .i64 k ∧ wr.ownsRow w.heap.size 84 1 v k ((List.range k).map f) ∧ Hid (∀ i, i < k → Ow1S wr w.heap.size wr.heap.size (f i) ((tkL L m).getD i [])) ∧ Below w.heap.size w wr)
    case atStart => exact ⟨0, _, Nat.zero_le _, rfl, rfl, hown0, fun i hi => absurd hi (Nat.not_lt_zero _), hb0⟩
    case round =>
      clear hown0 hb0
      obtain ⟨k, f, hk, rfl, rfl, hown, H, hb⟩ := hrel
      by_cases hlt : k < L.length
      · obtain ⟨c, a2, a3⟩ := (h1.below hb).at hlt
        have hlen := HF.out.2 k hlt
        have hat := HT.out k hlt
        obtain ⟨t, hq⟩ : ∃ q, L.getD k [] = q := ⟨_, rfl⟩
        rw [hq] at a2 a3 hlen hat
        have HAT := Lib.hid hat
        clear hq hat
        have sw := hb.size
        have lbw := Nat.lt_of_lt_of_le h1.lt sw
        have nbw := Nat.ne_of_lt lbw
        have hl0 : (wr.alloc (.cells #[] 86)).ownsRow wr.heap.size 86 2 (.slice (some ⟨wr.heap.size, 0, none⟩) 0 0) 0 [] := World.ownsRow_lit wr #[] 0 (Nat.le_refl _) (by unfold maxLen; omega) rfl
        have hbl : Below wr.heap.size wr (wr.alloc (.cells #[] 86)) := (Below.refl _ _).alloc (Nat.le_refl _) _
        have HN := Lib.hid (flatS_news (a3.below hbl))
        have HO := Lib.hid (flatS_one t)
        have HL := Lib.hid (flatS_len t)
        clear a3
        go_wp2_with (first
          | (at_builtin; refine wpList_append_own _ rfl _ _ 84 rfl wr.heap.size 86 i0 (.agg #[.int .i64 0, .int .i64 0]) 2 16 Try.underlying84 hi hz0 hz1 hz2 rfl (by decide) _ _ _ rfl hl0 ⟨c, 0, none⟩ t.length t.length (flatS t) rfl ?c1 HN.out HO.out ?c3 ?c4 ?c5 ?_))
        case c1 => exact HL.out
        case c3 => unfold maxLen; omega
        case c4 => omega
        case c5 => simp
        intro v1 w2 hown1 hgrow1 _
        have hb2 := hbl.grown hgrow1 (by simp) (fun k hk => by cases hk; exact Nat.le_refl _)
        have hu : Ow1S w2 wr.heap.size w2.heap.size v1 t := ow1_of (by simpa using hown1) (Nat.le_refl _)
        clear hown1 hgrow1 hbl hl0 HN HO HL
        have s2 := hb2.size
        have hown2 := own_block hown fun g e hg => hb2.block g hg
        by_cases hme : (k : Int) = m
        · subst hme
          have hu2 : Ow1S (w2.alloc (.cells #[] 86)) w.heap.size (w2.alloc (.cells #[] 86)).heap.size (.slice (some ⟨w2.heap.size, 0, none⟩) 0 0) ((tkL L (k : Int)).getD k []) := by rw [HAT.out, if_pos rfl]; exact ow1_lit w2 (by omega) (by simp)
          have hb3 : Below wr.heap.size wr (w2.alloc (.cells #[] 86)) := hb2.alloc s2 _
          have hown3 := own_block hown2 fun g _ hg => blk_alloc_lt w2 (.cells #[] 86) g hg
          have HST := Lib.hid (fun (w3 : World) v' (hg : ((w2.alloc (.cells #[] 86)).alloc (.cells #[.slice (some ⟨w2.heap.size, 0, none⟩) 0 0] 84)).grownBy w3 u6.ownBlock) ho => OwS_one_step (v' := v') H.out hown hb3 hu2 hg ho)
          clear hu2 hu HAT
          go_wp2_with (first
            | (at_builtin; refine wpList_append_own _ rfl _ _ 50 rfl w.heap.size 84 j0 (.slice none 0 0) 1 24 Try.underlying50 hj hy0 hy1 hy2 rfl (by decide) _ _ _ rfl (hown3.alloc _) ⟨w2.heap.size + 1, 0, none⟩ 1 1 [.slice (some ⟨w2.heap.size, 0, none⟩) 0 0] rfl rfl ?d1 ?d2 ?d3 ?d4 ?d5 ?_))
          case d1 => exact World.news_of_block (cs := #[.slice (some ⟨w2.heap.size, 0, none⟩) 0 0]) (t := 84) (fr := (0, 0)) (by have := heap_alloc_new (w2.alloc (.cells #[] 86)) (.cells #[.slice (some ⟨w2.heap.size, 0, none⟩) 0 0] 84); simpa using this)
          case d2 => simp [Value.oneCell']
          case d3 => unfold maxLen; omega
          case d4 => omega
          case d5 => simp; omega
          intro v2 w3 hown4 hgrow4 _
          obtain ⟨f', q1, q2⟩ := HST.out w3 v2 hgrow4 hown4
          have Q2 := Lib.hid q2
          have hb4 := ((hb.trans (hb3.mono sw)).alloc (by simp; omega) _).grown hgrow4 (by simp; omega) (fun x e => (hown.lt x e).1)
          clear hown4 hgrow4 q2 HST hown3
          go_wp2
          go_roundg (L.length - (k + 1))
          case measure => omega
          case rel => exact ⟨k + 1, f', by omega, rfl, by simp, q1, Q2, hb4⟩
        · have he : ((k : Int) == m) = false := by simp [hme]
          obtain ⟨va, vc, rfl⟩ := hu.shape
          have hu2 : Ow1S w2 w.heap.size w2.heap.size (.slice va t.length vc) ((tkL L m).getD k []) := by rw [HAT.out, if_neg hme]; exact hu.mono sw (Nat.le_refl _)
          have HST := Lib.hid (fun (w3 : World) v' (hg : (w2.alloc (.cells #[.slice va t.length vc] 84)).grownBy w3 u6.ownBlock) ho => OwS_one_step (v' := v') H.out hown hb2 hu2 hg ho)
          clear hu2 hu HAT
          go_wp2_with (first
            | (at_builtin; refine wpList_append_own _ rfl _ _ 50 rfl w.heap.size 84 j0 (.slice none 0 0) 1 24 Try.underlying50 hj hy0 hy1 hy2 rfl (by decide) _ _ _ rfl (hown2.alloc _) ⟨w2.heap.size, 0, none⟩ 1 1 [.slice va t.length vc] rfl rfl ?g1 ?g2 ?g3 ?g4 ?g5 ?_))
          case g1 => exact World.news_of_block (cs := #[.slice va t.length vc]) (t := 84) (fr := (0, 0)) (heap_alloc_new w2 _)
          case g2 => simp [Value.oneCell']
          case g3 => unfold maxLen; omega
          case g4 => omega
          case g5 => simp; omega
          intro v2 w3 hown4 hgrow4 _
          obtain ⟨f', q1, q2⟩ := HST.out w3 v2 hgrow4 hown4
          have Q2 := Lib.hid q2
          have hb4 := ((hb.trans (hb2.mono sw)).alloc (by omega) _).grown hgrow4 (by simp; omega) (fun x e => (hown.lt x e).1)
          clear hown4 hgrow4 q2 HST hown2
          go_wp2
          go_roundg (L.length - (k + 1))
          case measure => omega
          case rel => exact ⟨k + 1, f', by omega, rfl, by simp, q1, Q2, hb4⟩
      · have e : k = L.length := by omega
        subst e
        go_wp2
        go_ret2
        refine ⟨_, rfl, ?_, hb⟩
        exact rdS_of (f := f) (by rw [tkL_len]; exact hown) (by rw [tkL_len]; exact H.out) (tkL_fits m HF.out)
set_option maxHeartbeats 2000000 in
set_option maxRecDepth 100000 in
theorem iTakeBack (L : List (List Sq)) (m : Int) (w : World) (lo hi : Nat) (u : Value) (h : CpS w lo hi u L) (hwf : (Lit.int .i64 m).wf = true) : Calls Try.prog 49 #[u, .int .i64 m] w (QSb (mTake L m) w) := by
  obtain ⟨rfl, h1, -, hf⟩ := h
  have HV := has_sharer L lo lo L.length m w h1 hf
  cases hz : hmSB L m with
  | false =>
    rw [mTake_no hz]
    rw [hz] at HV
    clear hz
    go_enter Try.func49, Try.ntmps49
    go_wp2_with fail
    refine HV.mono ?_
    rintro e w1 ⟨rfl, hb1⟩
    go_wp2
    go_ret2
    exact ⟨_, rfl, OwS.nil _ _ _, hb1⟩
  | true =>
    rw [mTake_yes hz]
    rw [hz] at HV
    clear hz
    have hmk := run_make_row' (P := Try.prog) 50 84 (.slice none 0 0) 24 Try.underlying50 infoShS rfl .i64 .i64 L.length (by have := hf.1; omega) (by have := hf.1; omega)
    have hf1 := hf.1
    have HF := Lib.hid hf
    have HT := Lib.hid (fun k (hk : k < L.length) => tkL_at L m hk)
    have HTL := Lib.hid (tkL_len L m)
    clear hf
    go_enter Try.func49, Try.ntmps49
    go_wp2_with fail
    refine HV.mono ?_
    rintro e w1 ⟨rfl, hb1⟩
    have s1 := hb1.size
    have hL0 := LaidS.start w1 L.length (tkL L m) s1 (fun _ => .slice none 0 0)
    have hb0 : Below w.heap.size w (w1.alloc (.cells (madeCells #[.slice none 0 0] L.length) 84)) := hb1.alloc s1 _
    go_wp2
    go_loopg [18] L.length (fun g i wr => ∃ (k : Nat) (f : Nat → Value), k ≤ L.length ∧ g = L.length - k ∧ i = .int .i64 k ∧ LaidS wr w.heap.size w1.heap.size L.length (tkL L m) k f ∧ Below w.heap.size w wr)
    case atStart => exact ⟨0, _, Nat.zero_le _, rfl, rfl, hL0, hb0⟩
    case round =>
      clear hL0 hb0 hmk
      obtain ⟨k, f, hk, rfl, rfl, hL, hb⟩ := hrel
      have sw := hb.size
      have lrow := hL.row.lt
      by_cases hlt : k < L.length
      · obtain ⟨c, a2, a3⟩ := (h1.below hb).at hlt
        have hlen := HF.out.2 k hlt
        have hat := HT.out k hlt
        obtain ⟨t, hq⟩ : ∃ q, L.getD k [] = q := ⟨_, rfl⟩
        rw [hq] at a2 a3 hlen hat
        have HAT := Lib.hid hat
        clear hq hat
        by_cases hme : (k : Int) = m
        · subst hme
          have hL2 := hL.skip (by rw [HAT.out, if_pos rfl])
          go_wp2
          go_roundg (L.length - (k + 1))
          case measure => omega
          case rel => exact ⟨k + 1, _, by omega, rfl, by simp, hL2, hb⟩
        · have he : ((k : Int) == m) = false := by simp [hme]
          have hCl := clone_sh c t.length t wr a3 hlen
          have c0 := hL.row.cell hlt
          have f0 := hL.row.frozen k
          have hcf : cf f k k = .slice none 0 0 := by simp [cf]
          rw [hcf] at c0
          clear a3 hcf
          go_wp2_with fail
          refine hCl.mono ?_
          rintro e w2 ⟨⟨v, rfl, hv⟩, hb2⟩
          have hL3 := hL.lay hb2 (u := v) (by rw [HAT.out, if_neg hme]; exact hv)
          have c0 := (hb2.cell (p := ⟨w1.heap.size, k, none⟩) lrow).trans c0
          have f0 := (hb2.frozen (p := ⟨w1.heap.size, k, none⟩) lrow).trans f0
          obtain ⟨va, vc, rfl⟩ := hv.shape
          clear hv
          go_wp2
          go_roundg (L.length - (k + 1))
          case measure => omega
          case rel => exact ⟨k + 1, _, by omega, rfl, by simp, hL3, (hb.trans (hb2.mono sw)).setCell s1 _⟩
      · have e : k = L.length := by omega
        subst e
        go_wp2
        go_ret2
        refine ⟨_, rfl, ?_, hb⟩
        rw [← HTL.out] at hL
        have q := hL.done (tkL_fits m HF.out) L.length
        rw [HTL.out] at q
        exact q
end Go.Proofs.Ytlpidgdlbannbaa
