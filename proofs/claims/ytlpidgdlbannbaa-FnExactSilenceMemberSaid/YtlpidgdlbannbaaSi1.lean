/- The specification's copy of a list of voices, and the list in which a member is silent. -/
import Derived.Test.YtlpidgdlbannbaaK4
import Derived.Test.YtlpidgdlbannbaaVr2
import Derived.Deep.RegionHeld3
import Derived.Deep.AppendLies
import Derived.Laws.OwnMore
namespace Go.Proofs.Ytlpidgdlbannbaa
open Go.ChangeShapes Go.WideShapes Go.ChangeAt Go.RowKit Go.Deep
set_option linter.unusedSimpArgs false
set_option linter.unusedVariables false
def silL (L : List Vc) (m : Int) : List Vc := (List.range L.length).map fun i : Nat => if (i : Int) = m then (false, []) else L.getD i (false, [])
theorem silL_len (L : List Vc) (m : Int) : (silL L m).length = L.length := by simp [silL]
theorem silL_at (L : List Vc) (m : Int) {k : Nat} (h : k < L.length) : (silL L m).getD k (false, []) = if (k : Int) = m then (false, []) else L.getD k (false, []) := by simp [silL, List.getD, h]
theorem silL_fits {L : List Vc} (m : Int) (hf : Fits L) : Fits (silL L m) := by
  refine ⟨by rw [silL_len]; exact hf.1, fun k hk => ?_⟩
  rw [silL_len] at hk
  rw [silL_at L m hk]
  split
  · simp
  · exact hf.2 k hk
theorem own_blockV {w w' : World} {base size n : Nat} {e : TypeId} {v : Value} {xs : List Value} (h : w.ownsRow base e size v n xs) (hb : ∀ g, v.ownBlock = some g → g < w.heap.size → w'.heap[g]? = w.heap[g]?) : w'.ownsRow base e size v n xs := by
  obtain ⟨h0, h | ⟨g, cap, cur, rfl, h1, h2, h3⟩⟩ := h
  · exact ⟨h0, .inl h⟩
  · exact ⟨h0, .inr ⟨g, cap, cur, rfl, h1, (hb g rfl (Array.getElem?_eq_some_iff.1 h2).1).trans h2, h3⟩⟩
/-- A row of numbers lies in no block that holds voices. -/
theorem OwI.off {w : World} {lo hi : Nat} {u : Value} {t : List Int} (h : OwI w lo hi u t) (c : Nat) (hc : u.ownBlock = some c) (cs : Array Value) (fr : Nat × Nat) (hg : w.heap[c]? = some (.cells cs 64 fr)) : False := by
  obtain ⟨⟨rfl, -⟩ | ⟨c', cap, N, f, rfl, h1, h2, h3, h4, h5⟩, -⟩ := h
  · cases hc
  · have hc : c' = c := by simpa [Value.ownBlock] using hc
    subst hc
    obtain ⟨cs', q, -⟩ := h4
    rw [hg] at q
    injection q with q
    injection q with _ q
    exact absurd q (by decide)
theorem OwI.offRow {w : World} {lo hi b N : Nat} {f : Nat → Value} {u : Value} {t : List Int} (h : OwI w lo hi u t) (hr : w.rowIs b 64 N f) : u.ownBlock ≠ some b := by
  intro e
  obtain ⟨cs, q, -⟩ := hr
  exact h.off b e _ _ q
theorem OwI.offOwn {w : World} {lo hi base n : Nat} {u v : Value} {t : List Int} {xs : List Value} (h : OwI w lo hi u t) (hv : w.ownsRow base 64 2 v n xs) (c : Nat) (hc : u.ownBlock = some c) : v.ownBlock ≠ some c := by
  intro e
  obtain ⟨_, ⟨rfl, -⟩ | ⟨g, cap', cur, rfl, _, hg, _⟩⟩ := hv
  · cases e
  · have e : g = c := by simpa [Value.ownBlock] using e
    subst e
    exact h.off g hc _ _ hg
/-- A copy in a block of the call's own. -/
theorem ow_of_copy {w w' : World} {g cap : Nat} {l : List Int} (h1 : w.heap.size ≤ g) (h2 : g < w'.heap.size) (h : w'.ownsRow w.heap.size 2 1 (.slice (some ⟨g, 0, none⟩) l.length cap) l.length (l.map (Value.int .i64))) (hl : l.length ≤ 1048576) : OwI w' w.heap.size w'.heap.size (.slice (some ⟨g, 0, none⟩) l.length cap) l := by
  obtain ⟨_, ⟨q, -⟩ | ⟨g', cap', cur, q, hb, hg, hn, hcap, hs, ht⟩⟩ := h
  · cases q
  · simp only [Value.slice.injEq, Option.some.injEq, Addr.mk.injEq] at q
    obtain ⟨⟨rfl, -⟩, -, rfl⟩ := q
    refine ⟨.inr ⟨g, cap, cur.size, fun i => (cur[i]?).getD (.bool false), rfl, h1, h2, by omega, ⟨cur, hg, rfl, fun i hi => by simp [hi]⟩, fun i hi => ?_⟩, hl⟩
    have h3 : (cur.toList.take (l.length * 1))[i]? = (l.map (Value.int .i64))[i]? := by rw [ht]
    rw [Nat.mul_one, List.getElem?_take_of_lt hi, Array.getElem?_toList] at h3
    show (cur[i]?).getD (.bool false) = _
    rw [h3]
    simp [List.getD, hi]
/-- v has been built by append of the first k voices of L. -/
structure BldV (w : World) (base : Nat) (v : Value) (L : List Vc) (k : Nat) (g : Nat → Value) : Prop where
  own : w.ownsRow base 64 2 v k ((List.range (k * 2)).map g)
  rows : ∀ i, i < k → g (i * 2) = .bool (L.getD i (false, [])).1 ∧ OwI w base w.heap.size (g (i * 2 + 1)) (L.getD i (false, [])).2
theorem BldV.below {w w' : World} {base : Nat} {v : Value} {L : List Vc} {k : Nat} {g : Nat → Value} (h : BldV w base v L k g) (hb : Below w.heap.size w w') : BldV w' base v L k g :=
  ⟨own_blockV h.own fun g _ hg => hb.block g hg, fun i hi => ⟨(h.rows i hi).1, ((h.rows i hi).2.blockV fun c _ hc => hb.block c hc).mono (Nat.le_refl _) hb.size⟩⟩
theorem BldV.step {wr w1 w3 : World} {base : Nat} {v v' u : Value} {L : List Vc} {k : Nat} {g : Nat → Value} {s : Bool} {o : Obj} (h : BldV wr base v L k g) (hb0 : base ≤ wr.heap.size)
    (hb : Below wr.heap.size wr w1) (hu : OwI w1 wr.heap.size w1.heap.size u (L.getD k (false, [])).2) (hs : s = (L.getD k (false, [])).1) (hg : (w1.alloc o).grownBy w3 v.ownBlock) (hown : w3.ownsRow base 64 2 v' (k + 1) ((List.range (k * 2)).map g ++ [.bool s, u])) :
    BldV w3 base v' L (k + 1) (fun j => if j = k * 2 then .bool s else if j = k * 2 + 1 then u else g j) := by
  have hsz : w1.heap.size ≤ w3.heap.size := Nat.le_trans (by simp) hg.size
  have h1 := h.below hb
  have move : ∀ x t lo, OwI w1 lo w1.heap.size x t → OwI w3 lo w3.heap.size x t := fun x t lo hx =>
    (hx.blockV fun c e hc => ((hg.block c (by simp; omega) (fun q => hx.offOwn h1.own c e q.symm)).trans (blk_alloc_lt _ _ _ hc))).mono (Nat.le_refl _) hsz
  refine ⟨?_, fun i hi => ?_⟩
  · have e : (List.range ((k + 1) * 2)).map (fun j => if j = k * 2 then Value.bool s else if j = k * 2 + 1 then u else g j) = (List.range (k * 2)).map g ++ [.bool s, u] := by
      rw [show (k + 1) * 2 = (k * 2 + 1) + 1 by omega, List.range_succ, List.range_succ, List.map_append, List.map_append, List.append_assoc]
      congr 1
      · refine List.map_congr_left fun i hi => ?_
        have : i < k * 2 := by simpa using hi
        rw [if_neg (by omega), if_neg (by omega)]
      · simp
    rw [e]; exact hown
  · have n1 : ¬ i * 2 + 1 = k * 2 := by omega
    simp only [if_neg n1]
    by_cases e : i = k
    · subst e
      simp only [if_true]
      exact ⟨by rw [hs], (move _ _ _ hu).mono hb0 (Nat.le_refl _)⟩
    · have n2 : ¬ i * 2 = k * 2 := by omega
      have n3 : ¬ i * 2 + 1 = k * 2 + 1 := by omega
      have n4 : ¬ i * 2 = k * 2 + 1 := by omega
      simp only [if_neg n2, if_neg n3, if_neg n4]
      exact ⟨(h.rows i (by omega)).1, move _ _ _ (h1.rows i (by omega)).2⟩
theorem BldV.done {w : World} {base : Nat} {v : Value} {L : List Vc} {g : Nat → Value} (h : BldV w base v L L.length g) (hf : Fits L) : RdV w base w.heap.size v L := by
  obtain ⟨⟨_, ⟨rfl, h0⟩ | ⟨b, cap, cur, rfl, hb, hg, hn, hcap, hs, ht⟩⟩, hr⟩ := h
  · exact ⟨.inl ⟨rfl, List.eq_nil_of_length_eq_zero h0⟩, hf⟩
  · have hat : ∀ j, j < L.length * 2 → (cur[j]?).getD (.bool false) = g j := fun j hj => by
      have h1 : (cur.toList.take (L.length * 2))[j]? = ((List.range (L.length * 2)).map g)[j]? := by rw [ht]
      rw [List.getElem?_take_of_lt hj, Array.getElem?_toList] at h1
      rw [h1]; simp [hj]
    refine ⟨.inr ⟨b, cap, cur.size, fun i => (cur[i]?).getD (.bool false), rfl, hb, (Array.getElem?_eq_some_iff.1 hg).1, by omega, ⟨cur, hg, rfl, fun i hi => by simp [hi]⟩, fun i hi => ?_⟩, hf⟩
    have e1 := hat (i * 2) (by omega)
    have e2 := hat (i * 2 + 1) (by omega)
    simp only
    rw [e1, e2]
    exact hr i hi
theorem RdV.hush {w : World} {lo hi b cap j : Nat} {L : List Vc} (h : RdV w lo hi (.slice (some ⟨b, 0, none⟩) L.length cap) L) (hj : j < L.length) :
    (∃ x y, w.cell? ⟨b, j * 2, none⟩ = some x ∧ w.cell? ⟨b, j * 2 + 1, none⟩ = some y) ∧ w.frozen? ⟨b, j * 2, none⟩ = false ∧ w.frozen? ⟨b, j * 2 + 1, none⟩ = false ∧ lo ≤ b ∧
      RdV ((w.setCell ⟨b, j * 2, none⟩ (.bool false)).setCell ⟨b, j * 2 + 1, none⟩ (.slice none 0 0)) lo hi (.slice (some ⟨b, 0, none⟩) L.length cap) (silL L j) := by
  obtain ⟨⟨q, -⟩ | ⟨b', cap', N, f, q, h1, h2, h3, h4, h5⟩, hf⟩ := h
  · cases q
  · simp only [Value.slice.injEq, Option.some.injEq, Addr.mk.injEq] at q
    obtain ⟨⟨rfl, -⟩, -, rfl⟩ := q
    refine ⟨⟨_, _, h4.cell (i := j * 2) (by omega), h4.cell (i := j * 2 + 1) (by omega)⟩, h4.frozen _, h4.frozen _, h1, ?_, silL_fits _ hf⟩
    refine .inr ⟨b, cap, N, fun i => if i = j * 2 + 1 then .slice none 0 0 else if i = j * 2 then .bool false else f i, by rw [silL_len], h1, h2, by rw [silL_len]; exact h3, ((h4.set (j * 2) _).set (j * 2 + 1) _).congr (fun i _ => rfl), fun i hi => ?_⟩
    rw [silL_len] at hi
    rw [silL_at L _ hi]
    have n1 : ¬ i * 2 = j * 2 + 1 := by omega
    have n2 : ¬ i * 2 + 1 = j * 2 := by omega
    simp only [if_neg n1, if_neg n2]
    by_cases e : i = j
    · subst e
      simp only [if_true]
      exact ⟨trivial, OwI.nil _ _ _⟩
    · have n3 : ¬ i * 2 = j * 2 := by omega
      have n4 : ¬ i * 2 + 1 = j * 2 + 1 := by omega
      have n5 : ¬ (i : Int) = (j : Int) := by omega
      simp only [if_neg n3, if_neg n4, if_neg n5]
      refine ⟨(h5 i hi).1, (h5 i hi).2.blockV fun c e1 _ => ?_⟩
      have hne : c ≠ b := fun q => (h5 i hi).2.offRow h4 (q ▸ e1)
      exact (blk_setCell_other _ _ _ _ hne).trans (blk_setCell_other _ _ _ _ hne)
set_option maxHeartbeats 1000000 in
set_option maxRecDepth 100000 in
theorem sown (L : List Vc) (B b cap : Nat) (w : World) (h : Vs w B b L) (hf : Fits L) :
    Calls Try.prog 104 #[.slice (some ⟨b, 0, none⟩) L.length cap] w fun e w' => (∃ v, e = .returned v ∧ RdV w' w.heap.size w'.heap.size v L) ∧ Below w.heap.size w w' := by
  obtain ⟨i0, hi, hz0, hz1, hz2⟩ := info_parts infoV
  have HF := Lib.hid hf
  have hf1 := hf.1
  clear hf
  go_enter Try.func104, Try.ntmps104
  go_wp2
  have hB0 : BldV (w.alloc (.cells #[] 64)) w.heap.size (.slice (some ⟨w.heap.size, 0, none⟩) 0 0) L 0 (fun _ => .bool false) := ⟨World.ownsRow_lit w #[] 0 (Nat.le_refl _) (by unfold maxLen; omega) rfl, fun i hi => absurd hi (Nat.not_lt_zero _)⟩
  have hb0 : Below w.heap.size w (w.alloc (.cells #[] 64)) := (Below.refl _ _).alloc (Nat.le_refl _) _
  go_loopg [3, 4] L.length (fun g v i wr => ∃ (k : Nat) (q : Nat → Value), k ≤ L.length ∧ g = L.length - k ∧ i = .int .i64 k ∧ BldV wr w.heap.size v L k q ∧ Below w.heap.size w wr)
  case atStart => exact ⟨0, _, Nat.zero_le _, rfl, rfl, hB0, hb0⟩
  case round =>
    clear hB0 hb0
    obtain ⟨k, q, hk, rfl, rfl, hB, hb⟩ := hrel
    by_cases hlt : k < L.length
    · obtain ⟨c, a1, a2, a3⟩ := (h.below hb).at hlt
      have hlen := HF.out.2 k hlt
      obtain ⟨⟨s, t⟩, hq⟩ : ∃ q, L.getD k (false, []) = q := ⟨_, rfl⟩
      rw [hq] at a1 a2 a3 hlen
      simp only at a1 a2 a3 hlen
      have HQ := Lib.hid hq
      have HC := own_any ⟨c, 0, none⟩ t.length t wr.drew (a3.below (Below.refl _ _).drew) hlen
      have lb2 := h.lt
      have lbs := hb.size
      have hown := hB.own
      have HB := Lib.hid hB
      have av2 : u3.ownBlock ≠ some b := fun e => by have := (hown.lt _ e).1; omega
      have lbw : b < wr.heap.size := by omega
      clear hq a3 hB
      go_wp2_with fail
      go_region_held3 (fun w' => w'.cell? ⟨b, k * 2, none⟩ = some (.bool s) ∧ w'.cell? ⟨b, k * 2 + 1, none⟩ = some (.slice (some ⟨c, 0, none⟩) t.length t.length))
        (first
          | go_keep
          | (go_split_ands
             refine ⟨?_, ?_⟩
             · (rw [hb1.cell (by show b < wr.heap.size; exact lbw)]; assumption)
             · (rw [hb1.cell (by show b < wr.heap.size; exact lbw)]; assumption))
          | (go_split_ands
             refine ⟨?_, ?_⟩
             · (rw [hgrow.cell_far _ (by have := hb1.size; simp at this ⊢; omega) (Ne.symm av2)]; assumption)
             · (rw [hgrow.cell_far _ (by have := hb1.size; simp at this ⊢; omega) (Ne.symm av2)]; assumption)))
        (first
          | (go_simp; go_at_call 117; refine HC.mono ?_; rintro e w1 ⟨⟨gc, cp, rfl, g1, g2, hcw⟩, hb1⟩)
          | (refine step_append_lies _ (by rfl) _ _ _ (by rfl) w.heap.size 64 i0 _ 2 32 Try.underlying25 hi hz0 hz1 hz2 rfl (by omega) u3 _ _ (by rfl) ((own_blockV hown fun g _ hg => (hb1.block g (by simpa using hg)).trans rfl).alloc _)
              ⟨w1.heap.size, 0, none⟩ 1 1 [.bool s, .slice (some ⟨gc, 0, none⟩) t.length cp] (by rfl) (by rfl) (World.news_of_block (cs := #[.bool s, .slice (some ⟨gc, 0, none⟩) t.length cp]) (t := 64) (fr := (0, 0)) (heap_alloc_new w1 _)) (by simp [Value.oneCell'])
              (by omega) (by unfold maxLen; omega) (by omega) (by have := hb1.size; simp at this ⊢; omega) (w1.heap.size + 1) (by simp) ?_; intro gg cap' w3 hown1 hgrow hat hlt'))
      have hu := ow_of_copy g1 g2 hcw hlen
      have hbw : Below wr.heap.size wr w1 := (Below.refl _ _).drew.trans hb1
      have HS := Lib.hid (HB.out.step (o := .cells #[.bool s, .slice (some ⟨gc, 0, none⟩) t.length cp] 64) (s := s) lbs hbw (by rw [HQ.out]; exact hu) (by rw [HQ.out]) hgrow hown1)
      have hb3 := ((hb.trans (hbw.mono lbs)).alloc (by have := hbw.size; omega) (.cells #[.bool s, .slice (some ⟨gc, 0, none⟩) t.length cp] 64)).grown hgrow (by have := hbw.size; simp; omega) (fun x e => (hown.lt x e).1)
      clear hu hbw hgrow hown1 hcw hat
      go_wp2
      go_roundg (L.length - (k + 1))
      case measure => omega
      case rel => exact ⟨k + 1, _, by omega, rfl, by simp, HS.out, hb3⟩
    · have e : k = L.length := by omega
      subst e
      go_wp2
      go_ret
      exact ⟨⟨_, rfl, hB.done HF.out⟩, hb⟩
set_option maxHeartbeats 1000000 in
set_option maxRecDepth 100000 in
theorem ssilence (L : List Vc) (B b cap j : Nat) (w : World) (h : Vs w B b L) (hf : Fits L) (hj : j < L.length) :
    Calls Try.prog 70 #[.slice (some ⟨b, 0, none⟩) L.length cap, .int .i64 (j : Int)] w fun e w' => (∃ v, e = .returned v ∧ RdV w' w.heap.size w'.heap.size v (silL L j)) ∧ Below w.heap.size w w' := by
  have HO := sown L B b cap w h hf
  have hf1 := hf.1
  have hne : L ≠ [] := fun e => by subst e; simp at hj
  go_enter Try.func70, Try.ntmps70
  go_wp2_with fail
  refine HO.mono ?_
  rintro e w1 ⟨⟨v, rfl, hv⟩, hb1⟩
  obtain ⟨g, cp, rfl⟩ : ∃ g cp, v = .slice (some ⟨g, 0, none⟩) L.length cp := by
    obtain ⟨⟨-, q⟩ | ⟨g, cp, N, f, q, -⟩, -⟩ := hv
    · exact absurd q hne
    · exact ⟨g, cp, q⟩
  obtain ⟨⟨x, y, c1, c2⟩, f1, f2, hlo, hr⟩ := hv.hush hj
  have HR := Lib.hid hr
  clear hv hr
  go_wp2
  go_ret
  refine ⟨⟨_, rfl, ?_⟩, (hb1.setCell hlo _).setCell hlo _⟩
  have q := HR.out
  simpa [World.setCell] using q
theorem smem (L : List Vc) (b cap : Nat) (m : Int) (w : World) (hl : L.length ≤ 1048576) :
    Calls Try.prog 69 #[.slice (some ⟨b, 0, none⟩) L.length cap, .int .i64 m] w fun e w' => e = .returned (.bool (inB m 0 ((L.length : Int) - 1))) ∧ w = w' := by
  have wrl : IntKind.i64.wrap ((L.length : Int) - 1) = (L.length : Int) - 1 := by rw [IntKind.wrap_i64]; omega
  go_enter Try.func69, Try.ntmps69
  go_wp2_with fail
  refine (in_val _ _ _ _).mono ?_
  rintro e w2 ⟨rfl, rfl⟩
  go_wp2
  go_ret
  exact ⟨rfl, rfl⟩
noncomputable def mSil (L : List Vc) (m : Int) : List Vc × Bool := if hmB L m = true then (silL L m, true) else ([], false)
theorem mSil_yes {L : List Vc} {m : Int} (h : hmB L m = true) : mSil L m = (silL L m, true) := by unfold mSil; rw [if_pos h]
theorem mSil_no {L : List Vc} {m : Int} (h : hmB L m = false) : mSil L m = ([], false) := by unfold mSil; rw [if_neg (by rw [h]; decide)]
set_option maxHeartbeats 1000000 in
set_option maxRecDepth 100000 in
theorem sSil (L : List Vc) (m : Int) (w : World) (lo hi : Nat) (u : Value) (h : CpV w lo hi u L) (hwf : (Lit.int .i64 m).wf = true) : Calls Try.prog 36 #[u, .int .i64 m] w (PVb (mSil L m) w) := by
  obtain ⟨rfl, h1, -, hf⟩ := h
  have HV := sok_any L lo lo L.length w h1 hf
  have HM := fun w' => smem L lo L.length m w' hf.1
  cases hz : okLB L with
  | false =>
    rw [mSil_no (by unfold hmB; rw [hz]; rfl)]
    rw [hz] at HV
    clear hz HM
    go_enter Try.func36, Try.ntmps36
    go_wp2_with fail
    refine HV.mono ?_
    rintro e w1 ⟨rfl, hb1⟩
    go_wp2
    go_ret2
    exact ⟨_, rfl, RdV.nil _ _ _, hb1⟩
  | true =>
    rw [hz] at HV
    cases hi : inB m 0 ((L.length : Int) - 1) with
    | false =>
      rw [mSil_no (by unfold hmB; rw [hz, hi]; rfl)]
      rw [hi] at HM
      clear hz hi
      go_enter Try.func36, Try.ntmps36
      go_wp2_with fail
      refine HV.mono ?_
      rintro e w1 ⟨rfl, hb1⟩
      go_wp2_with fail
      refine (HM _).mono ?_
      rintro e w2 ⟨rfl, rfl⟩
      go_wp2
      go_ret2
      exact ⟨_, rfl, RdV.nil _ _ _, hb1⟩
    | true =>
      rw [mSil_yes (by unfold hmB; rw [hz, hi]; rfl)]
      have hbd : 0 ≤ m ∧ m ≤ (L.length : Int) - 1 := by
        by_cases q : 0 ≤ m ∧ m ≤ (L.length : Int) - 1
        · exact q
        · rw [inB_no q] at hi; cases hi
      rw [hi] at HM
      obtain ⟨j, rfl⟩ : ∃ j : Nat, m = j := ⟨m.toNat, by omega⟩
      have hj : j < L.length := by omega
      have HS := fun w' (hw : Below w.heap.size w w') => ssilence L lo lo L.length j w' (h1.below hw) hf hj
      clear hz hi hbd
      go_enter Try.func36, Try.ntmps36
      go_wp2_with fail
      refine HV.mono ?_
      rintro e w1 ⟨rfl, hb1⟩
      go_wp2_with fail
      refine (HM _).mono ?_
      rintro e w2 ⟨rfl, rfl⟩
      go_wp2_with fail
      refine (HS _ hb1).mono ?_
      rintro e w3 ⟨⟨v, rfl, hv⟩, hb3⟩
      go_wp2
      go_ret2
      exact ⟨_, rfl, hv.mono hb1.size (Nat.le_refl _), hb1.trans (hb3.mono hb1.size)⟩
end Go.Proofs.Ytlpidgdlbannbaa
