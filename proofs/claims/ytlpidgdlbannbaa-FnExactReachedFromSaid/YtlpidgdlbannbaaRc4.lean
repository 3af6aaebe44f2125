/- ReachedFrom on both sides. -/
import Derived.Test.YtlpidgdlbannbaaRc3
namespace Go.Proofs.Ytlpidgdlbannbaa
open Go.ChangeShapes Go.WideShapes Go.ChangeAt Go.RowKit Go.Deep
set_option linter.unusedSimpArgs false
set_option linter.unusedVariables false
set_option maxRecDepth 100000 in
theorem infoB : (Try.prog.info? 4).map (fun i => (i.zero, i.size, i.bytes)) = some (some (.bool false), 1, 1) := by kernel_rfl
/-- The matrix of parts, read: cell k of row i. -/
theorem RdJ.cells {w : World} {lo hi : Nat} {v : Value} {P : List (List Int)} (h : RdJ w lo hi v P) (hp : 0 < P.length) : ∃ b cap, v = .slice (some ⟨b, 0, none⟩) P.length cap ∧ b < w.heap.size ∧
    ∀ i, i < P.length → 0 < (P.getD i []).length → ∃ c cp, w.cell? ⟨b, i, none⟩ = some (.slice (some ⟨c, 0, none⟩) (P.getD i []).length cp) ∧ c < w.heap.size ∧ ∀ k, k < (P.getD i []).length → w.cell? ⟨c, k, none⟩ = some (.int .i64 ((P.getD i []).getD k 0)) := by
  obtain ⟨⟨-, rfl⟩ | ⟨b, cap, N, f, rfl, h1, h2, h3, h4, h5⟩, hf⟩ := h
  · simp at hp
  · refine ⟨b, cap, rfl, h4.lt, fun i hi hpos => ?_⟩
    obtain ⟨⟨-, q⟩ | ⟨c, cp, M, g, q, q1, q2, q3, q4, q5⟩, -⟩ := h5 i hi
    · rw [q] at hpos; simp at hpos
    · exact ⟨c, cp, by rw [h4.cell (i := i) (by omega), q], q4.lt, fun k hk => by rw [q4.cell (i := k) (by omega), q5 k hk]⟩
set_option maxHeartbeats 4000000 in
set_option maxRecDepth 100000 in
theorem sreached (P : List (List Int)) (nx : Int → List Int) (n m lo hi : Nat) (v : Value) (w : World) (hv : RdJ w lo hi v P) (hn : P.length = n) (hn6 : n ≤ 1048576) (hm : m < n)
    (hrow : ∀ i, i < n → (P.getD i []).length = n) (hadj : ∀ i k, i < n → k < n → (0 < (P.getD i []).getD k 0 ↔ (k : Int) ∈ nx (i : Int))) (hrng : ∀ i : Nat, i < n → ∀ z ∈ nx (i : Int), 0 ≤ z ∧ z < (n : Int)) :
    Calls Try.prog 80 #[v, .int .i64 (m : Int)] w fun e w' => (∃ A : Nat → Bool, e = .returned (.slice (some ⟨w.heap.size, 0, none⟩) n n) ∧ w'.rowIs w.heap.size 4 n (fun j => .bool (A j)) ∧ ∀ j, j < n → (A j = true ↔ Rch nx [(m : Int)] (j : Int))) ∧ Below w.heap.size w w' := by
  have hmk := run_make_row' (P := Try.prog) 93 4 (.bool false) 1 Try.underlying93 infoB rfl .i64 .i64 n (by omega) (by omega)
  obtain ⟨b, cap, rfl, hb0, hcells⟩ := hv.cells (by omega)
  rw [hn] at hcells ⊢
  have HC := Lib.hid (show ∀ i, i < n → ∃ c cp, w.cell? ⟨b, i, none⟩ = some (.slice (some ⟨c, 0, none⟩) n cp) ∧ c < w.heap.size ∧ ∀ k, k < n → w.cell? ⟨c, k, none⟩ = some (.int .i64 ((P.getD i []).getD k 0)) from fun i hi => by
    have q := hcells i hi (by rw [hrow i hi]; omega)
    rw [hrow i hi] at q
    exact q)
  have HA := Lib.hid hadj
  have HR := Lib.hid hrng
  have hr0 : ((w.alloc (.cells (madeCells #[.bool false] n) 4)).setCell ⟨w.heap.size, m, none⟩ (.bool true)).rowIs w.heap.size 4 n (fun j => .bool (if j = m then true else false)) := ((World.rowIs_made w _ _ _).set m _).congr (fun j _ => by split <;> rfl)
  have hbr : Below w.heap.size w ((w.alloc (.cells (madeCells #[.bool false] n) 4)).setCell ⟨w.heap.size, m, none⟩ (.bool true)) := ((Below.refl _ _).alloc (Nat.le_refl _) _).setCell (Nat.le_refl _) _
  have c00 : (w.alloc (.cells (madeCells #[.bool false] n) 4)).cell? ⟨w.heap.size, m, none⟩ = some (.bool false) := (World.rowIs_made w (.bool false) n 4).cell hm
  have f00 : (w.alloc (.cells (madeCells #[.bool false] n) 4)).frozen? ⟨w.heap.size, m, none⟩ = false := (World.rowIs_made w (.bool false) n 4).frozen m
  have hM0 : Mkd nx m n (fun j => if j = m then true else false) 0 := Mkd.start hm
  rw [World.setCell_alloc_new] at hr0 hbr
  clear hcells hrow hadj hrng hv hn
  go_enter Try.func80, Try.ntmps80
  go_wp2
  go_loopg [6] n (fun g rr wr => ∃ (r : Nat) (A : Nat → Bool), r ≤ n ∧ g = n - r ∧ rr = .int .i64 r ∧ wr.rowIs w.heap.size 4 n (fun j => .bool (A j)) ∧ Mkd nx m n A r ∧ Below w.heap.size w wr)
  case atStart => exact ⟨0, _, Nat.zero_le _, rfl, rfl, hr0, hM0, hbr⟩
  case round =>
    clear c00 f00 hr0 hbr hM0 hmk
    obtain ⟨r, A0, hr, rfl, rfl, hrow, hM, hb⟩ := hrel
    by_cases hrn : r < n
    · have hR0 := hM.begin
      go_wp2
      go_loopg [7] n (fun g ii wi => ∃ (i : Nat) (A : Nat → Bool), i ≤ n ∧ g = n - i ∧ ii = .int .i64 i ∧ wi.rowIs w.heap.size 4 n (fun j => .bool (A j)) ∧ Rnd nx m n A0 A i 0 ∧ Below w.heap.size w wi)
      case atStart => exact ⟨0, A0, Nat.zero_le _, rfl, rfl, hrow, hR0, hb⟩
      case round =>
        clear hrow hR0 hb
        obtain ⟨i, A1, hi, rfl, rfl, hrow, hR, hb⟩ := hrel
        by_cases hin : i < n
        · go_wp2
          go_loopg [8] n (fun g kk wi => ∃ (k : Nat) (A : Nat → Bool), k ≤ n ∧ g = n - k ∧ kk = .int .i64 k ∧ wi.rowIs w.heap.size 4 n (fun j => .bool (A j)) ∧ Rnd nx m n A0 A i k ∧ Below w.heap.size w wi)
          case atStart => exact ⟨0, A1, Nat.zero_le _, rfl, rfl, hrow, hR, hb⟩
          case round =>
            clear hrow hR hb
            obtain ⟨k, A, hk, rfl, rfl, hrow, hR, hb⟩ := hrel
            by_cases hkn : k < n
            · have a1 := hrow.cell hin
              have a2 := hrow.cell hkn
              have f2 := hrow.frozen k
              obtain ⟨c, cp, d1, d2, d3⟩ := HC.out i hin
              have d3 := d3 k hkn
              have e1 := (hb.cell (p := ⟨b, i, none⟩) hb0).trans d1
              have e2 := (hb.cell (p := ⟨c, k, none⟩) d2).trans d3
              have hai := HA.out i k hin hkn
              obtain ⟨x, hx⟩ : ∃ x, (P.getD i []).getD k 0 = x := ⟨_, rfl⟩
              rw [hx] at e2 hai
              have HAI := Lib.hid hai
              obtain ⟨za, hza⟩ : ∃ z, A i = z := ⟨_, rfl⟩
              obtain ⟨zk, hzk⟩ : ∃ z, A k = z := ⟨_, rfl⟩
              rw [hza] at a1
              rw [hzk] at a2
              have HZA := Lib.hid hza
              have HROW := Lib.hid hrow
              have HRR := Lib.hid hR
              clear d1 d3 hai hx hza hzk hrow hR
              cases za with
              | false =>
                go_wp2
                go_roundg (n - (k + 1))
                case measure => omega
                case rel => exact ⟨k + 1, A, by omega, rfl, by simp, HROW.out, HRR.out.skip (.inl HZA.out), hb⟩
              | true =>
                by_cases hx : 0 < x
                · have hx' : decide (x ≤ 0) = false := by simp; omega
                  go_wp2
                  go_roundg (n - (k + 1))
                  case measure => omega
                  case rel =>
                    refine ⟨k + 1, _, by omega, rfl, by simp, (HROW.out.set k _).congr (fun j _ => ?_), HRR.out.mark hin HZA.out (HAI.out.1 hx), hb.setCell (Nat.le_refl _) _⟩
                    show (if j = k then Value.bool true else .bool (A j)) = .bool (if j = k then true else A j)
                    split <;> rfl
                · go_wp2
                  go_roundg (n - (k + 1))
                  case measure => omega
                  case rel => exact ⟨k + 1, A, by omega, rfl, by simp, HROW.out, HRR.out.skip (.inr fun q => by have := HAI.out.2 q; omega), hb⟩
            · have e : k = n := by omega
              subst e
              have hR2 := hR.row
              go_wp2
              go_roundg (k - (i + 1))
              case measure => omega
              case rel => exact ⟨i + 1, A, by omega, rfl, by simp, hrow, hR2, hb⟩
        · have e : i = n := by omega
          subst e
          have hM2 := hR.done hM (by omega) HR.out
          go_wp2
          go_roundg (i - (r + 1))
          case measure => omega
          case rel => exact ⟨r + 1, A1, by omega, rfl, by simp, hrow, hM2, hb⟩
    · have e : r = n := by omega
      subst e
      go_wp2
      go_ret
      exact ⟨⟨A0, rfl, hrow, fun j hj => hM.result hj⟩, hb⟩
set_option maxHeartbeats 1000000 in
set_option maxRecDepth 100000 in
/-- The set of the marked members. -/
theorem sset (n b cap : Nat) (A : Nat → Bool) (p : Nat → Prop) (w : World) (h : ∀ j, j < n → w.cell? ⟨b, j, none⟩ = some (.bool (A j))) (lb : b < w.heap.size) (hn : n ≤ 1000) (hA : ∀ j, j < n → (A j = true ↔ p j)) :
    Calls Try.prog 79 #[.slice (some ⟨b, 0, none⟩) n cap] w fun e w' => (∃ v, e = .returned v ∧ RdI w' w.heap.size w'.heap.size v (setL n p)) ∧ Below w.heap.size w w' := by
  obtain ⟨i0, hi, hz0, hz1, hz2⟩ := info_parts infoI
  have HA := Lib.hid hA
  have HH := Lib.hid h
  clear h
  have hown0 : (w.alloc (.cells #[] 2)).ownsRow w.heap.size 2 1 (.slice (some ⟨w.heap.size, 0, none⟩) 0 0) ([] : List Int).length (([] : List Int).map (Value.int .i64)) := World.ownsRow_lit w #[] 0 (Nat.le_refl _) (by unfold maxLen; omega) rfl
  have hb0 : Below w.heap.size w (w.alloc (.cells #[] 2)) := (Below.refl _ _).alloc (Nat.le_refl _) _
  clear hA
  go_enter Try.func79, Try.ntmps79
  go_wp2
  go_loopg [3, 4] n (fun g v i wr => ∃ (k : Nat) (l : List Int), k ≤ n ∧ g = n - k ∧ i = .int .i64 k ∧ l.length ≤ k ∧ Hid (l = setL k p) ∧ wr.ownsRow w.heap.size 2 1 v l.length (l.map (Value.int .i64)) ∧ Below w.heap.size w wr)
  case atStart => exact ⟨0, [], Nat.zero_le _, rfl, rfl, Nat.le_refl _, rfl, hown0, hb0⟩
  case round =>
    clear hown0 hb0
    obtain ⟨k, l, hk, rfl, rfl, hll, HL, hown, hb⟩ := hrel
    by_cases hkn : k < n
    · have c1 : wr.cell? ⟨b, k, none⟩ = some (.bool (A k)) := (hb.cell (p := ⟨b, k, none⟩) lb).trans (HH.out k hkn)
      have hs := setL_succ k p
      have ha := HA.out k hkn
      obtain ⟨z, hz⟩ : ∃ z, A k = z := ⟨_, rfl⟩
      rw [hz] at c1 ha
      have HS := Lib.hid hs
      have sw := hb.size
      clear hz hs
      cases z with
      | true =>
        have hp := ha.1 rfl
        have HE : Hid (l ++ [(k : Int)] = setL (k + 1) p) := by show l ++ [(k : Int)] = _; rw [HS.out, if_pos (dcd_yes hp), ← HL.out]
        clear ha
        go_wp2_with (first
          | (at_builtin; refine wpList_append_own _ rfl _ _ 29 rfl w.heap.size 2 i0 (.int .i64 0) 1 8 Try.underlying29 hi hz0 hz1 hz2 rfl (by decide) _ _ _ rfl (hown.alloc _) ⟨wr.heap.size, 0, none⟩ 1 1 [.int .i64 (k : Int)] rfl rfl ?c1 ?c2 ?c3 ?c4 ?c5 ?_))
        case c1 => exact World.news_of_block (cs := #[.int .i64 (k : Int)]) (t := 2) (fr := (0, 0)) (heap_alloc_new wr _)
        case c2 => simp [Value.oneCell']
        case c3 => unfold maxLen; omega
        case c4 => omega
        case c5 => simp; omega
        intro v' w1 hown1 hgrow _
        have hb1 := (hb.alloc sw _).grown hgrow (by simp; omega) (fun x e => (hown.lt x e).1)
        have HO1 : Hid (w1.ownsRow w.heap.size 2 1 v' (l ++ [(k : Int)]).length ((l ++ [(k : Int)]).map (Value.int .i64))) := by rw [snoc_len, snoc_map]; exact hown1
        have HLN := Lib.hid (snoc_len l (k : Int))
        clear hown1 hgrow
        go_wp2
        go_roundg (n - (k + 1))
        case measure => omega
        case rel => exact ⟨k + 1, l ++ [(k : Int)], by omega, rfl, by simp, by rw [HLN.out]; omega, HE, HO1.out, hb1⟩
      | false =>
        have hp : ¬ p k := fun q => by have := ha.2 q; cases this
        have HE : Hid (l = setL (k + 1) p) := by show l = _; rw [HS.out, if_neg (by rw [dcd_no hp]; decide), List.append_nil, ← HL.out]
        clear ha
        go_wp2
        go_roundg (n - (k + 1))
        case measure => omega
        case rel => exact ⟨k + 1, l, by omega, rfl, by simp, by omega, HE, hown, hb⟩
    · have e : k = n := by omega
      subst e
      go_wp2
      go_ret
      refine ⟨⟨_, rfl, ?_⟩, hb⟩
      rw [← HL.out]
      exact (ow_of_own hown (Nat.le_refl _) (by omega)).rd
/-- What a ballot of member m comes to. -/
noncomputable def rchL (L : List (List Sq)) (m : Int) : List Int := setL L.length fun i => Rch (nxS L) [m] (i : Int)
noncomputable def mRch (L : List (List Sq)) (m : Int) : List Int × Bool := if hmSB L m = true then (rchL L m, true) else ([], false)
theorem mRch_yes {L : List (List Sq)} {m : Int} (h : hmSB L m = true) : mRch L m = (rchL L m, true) := by unfold mRch; rw [if_pos h]
theorem mRch_no {L : List (List Sq)} {m : Int} (h : hmSB L m = false) : mRch L m = ([], false) := by unfold mRch; rw [if_neg (by rw [h]; decide)]
theorem hmSB_of {L : List (List Sq)} {m : Int} (h : hmSB L m = true) : okS L ∧ 0 ≤ m ∧ m < (L.length : Int) := by
  unfold hmSB at h
  rw [Bool.and_eq_true] at h
  refine ⟨okSB_of h.1, ?_⟩
  have := h.2
  unfold inB at this
  simp at this
  omega
set_option maxHeartbeats 1000000 in
theorem sReachedFrom (L : List (List Sq)) (m : Int) (w : World) (lo hi : Nat) (u : Value) (h : CpS w lo hi u L) (hwf : (Lit.int .i64 m).wf = true) : Calls Try.prog 45 #[u, .int .i64 m] w (PIb (mRch L m) w) := by
  obtain ⟨rfl, h1, -, hf⟩ := h
  have HV := s_member L lo lo L.length m w h1 hf
  cases hz : hmSB L m with
  | false =>
    rw [mRch_no hz]
    rw [hz] at HV
    clear hz
    go_enter Try.func45, Try.ntmps45
    go_wp2_with fail
    refine HV.mono ?_
    rintro e w1 ⟨rfl, hb1⟩
    go_wp2
    go_ret2
    exact ⟨_, rfl, RdI.nil _ _ _, hb1⟩
  | true =>
    obtain ⟨hok, m1, m2⟩ := hmSB_of hz
    rw [mRch_yes hz]
    rw [hz] at HV
    obtain ⟨mn, rfl⟩ : ∃ mn : Nat, m = mn := ⟨m.toNat, by omega⟩
    have hmn : mn < L.length := by omega
    have n6 := hok.2.1
    have HP := Lib.hid (fun w' (hw : Below w.heap.size w w') => sparts L lo lo L.length w' (h1.below hw) hf hok)
    have HR := Lib.hid (fun (lo' hi' : Nat) (v : Value) (w' : World) (hv : RdJ w' lo' hi' v (partsT L L.length)) => sreached (partsT L L.length) (nxS L) L.length mn lo' hi' v w' hv (partsT_len L L.length) (by omega) hmn (fun i hi => by rw [partsT_at L hi, rowP_len]) (fun i k hi hk => adj_iff hok hi hk) (fun i hi => nx_rng hok hi))
    clear hz hok
    go_enter Try.func45, Try.ntmps45
    go_wp2_with fail
    refine HV.mono ?_
    rintro e w1 ⟨rfl, hb1⟩
    go_wp2_with fail
    refine (HP.out _ hb1).mono ?_
    rintro e w2 ⟨⟨v, rfl, hv⟩, hb2⟩
    have s1 := hb1.size
    have s2 := hb2.size
    go_wp2_with fail
    refine (HR.out _ _ _ _ hv).mono ?_
    rintro e w3 ⟨⟨A, rfl, hrow, hA⟩, hb3⟩
    have s3 := hb3.size
    have HA := Lib.hid hA
    clear hA hv
    go_wp2_with fail
    refine (sset L.length _ _ A _ _ (fun j hj => hrow.cell hj) hrow.lt (by omega) HA.out).mono ?_
    rintro e w4 ⟨⟨v4, rfl, hv4⟩, hb4⟩
    have s4 := hb4.size
    go_wp2
    go_ret2
    exact ⟨_, rfl, hv4.mono (by omega) (Nat.le_refl _), ((hb1.trans (hb2.mono s1)).trans (hb3.mono (by omega))).trans (hb4.mono (by omega))⟩
set_option maxHeartbeats 1000000 in
theorem ireached (L : List (List Sq)) (lo mn : Nat) (w : World) (h : SS w lo lo L) (hf : FitsS L) (hok : okS L) (hmn : mn < L.length) :
    Calls Try.prog 84 #[.slice (some ⟨lo, 0, none⟩) L.length L.length, .int .i64 (mn : Int)] w fun e w' => (∃ v, e = .returned v ∧ OwI w' w.heap.size w'.heap.size v (rchL L (mn : Int))) ∧ Below w.heap.size w w' := by
  have n6 := hok.2.1
  have hbl : Below w.heap.size w (w.alloc (.cells #[.int .i64 (mn : Int)] 2)) := (Below.refl _ _).alloc (Nat.le_refl _) _
  have hO : OwnI (w.alloc (.cells #[.int .i64 (mn : Int)] 2)) w.heap.size [(mn : Int)] := World.rowIs_alloc w #[.int .i64 (mn : Int)] 2 _ (fun i hi => by
    have e : i = 0 := by simpa using hi
    subst e
    rfl)
  have HRE := reach_shares L lo L.length [(mn : Int)] w.heap.size 1 _ n6 hO (by simp) (fun x hx => by
    have e : x = (mn : Int) := by simpa using hx
    subst e
    omega) (by simp)
    (fun j w' hj hb => (recv_any L lo lo L.length j w' ((h.below hbl).below hb) hf hj).mono fun e w'' ⟨⟨n, he, hn, ho⟩, hb'⟩ => ⟨⟨_, he, hn ▸ ho.row _, fun k e => by
      have e : w'.heap.size = k := by simpa [Value.ownBlock] using e
      have q := World.rowIs.lt ho
      omega⟩, hb'⟩)
    (fun j hj => ⟨by rw [nxS_at, List.length_map]; exact hf.2 j hj, nx_rng hok hj⟩)
  clear h hf hok hO
  go_enter Try.func84, Try.ntmps84
  go_wp2_with fail
  refine HRE.mono ?_
  rintro e w1 ⟨⟨v, rfl, hv⟩, hb1⟩
  go_wp2
  go_ret
  exact ⟨⟨_, rfl, hv.mono (by simp) (Nat.le_refl _)⟩, hbl.trans (hb1.mono (by simp))⟩
set_option maxHeartbeats 1000000 in
theorem iReachedFrom (L : List (List Sq)) (m : Int) (w : World) (lo hi : Nat) (u : Value) (h : CpS w lo hi u L) (hwf : (Lit.int .i64 m).wf = true) : Calls Try.prog 47 #[u, .int .i64 m] w (QIb (mRch L m) w) := by
  obtain ⟨rfl, h1, -, hf⟩ := h
  have HV := has_sharer L lo lo L.length m w h1 hf
  cases hz : hmSB L m with
  | false =>
    rw [mRch_no hz]
    rw [hz] at HV
    clear hz
    go_enter Try.func47, Try.ntmps47
    go_wp2_with fail
    refine HV.mono ?_
    rintro e w1 ⟨rfl, hb1⟩
    go_wp2
    go_ret2
    exact ⟨_, rfl, OwI.nil _ _ _, hb1⟩
  | true =>
    obtain ⟨hok, m1, m2⟩ := hmSB_of hz
    rw [mRch_yes hz]
    rw [hz] at HV
    obtain ⟨mn, rfl⟩ : ∃ mn : Nat, m = mn := ⟨m.toNat, by omega⟩
    have HI := Lib.hid (fun w' (hw : Below w.heap.size w w') => ireached L lo mn w' (h1.below hw) hf hok (by omega))
    clear hz hok
    go_enter Try.func47, Try.ntmps47
    go_wp2_with fail
    refine HV.mono ?_
    rintro e w1 ⟨rfl, hb1⟩
    go_wp2_with fail
    refine (HI.out _ hb1).mono ?_
    rintro e w2 ⟨⟨v, rfl, hv⟩, hb2⟩
    have s1 := hb1.size
    go_wp2
    go_ret2
    exact ⟨_, rfl, hv.mono s1 (Nat.le_refl _), hb1.trans (hb2.mono s1)⟩
end Go.Proofs.Ytlpidgdlbannbaa
