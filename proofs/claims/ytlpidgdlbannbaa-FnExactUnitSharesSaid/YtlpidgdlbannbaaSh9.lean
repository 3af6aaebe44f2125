/- Lists of lists of shares that a call builds by append, or lays into a row that it made. -/
import Derived.Test.YtlpidgdlbannbaaSh8
import Derived.Laws.OwnMore
namespace Go.Proofs.Ytlpidgdlbannbaa
open Go.ChangeShapes Go.WideShapes Go.ChangeAt Go.RowKit Go.Deep
set_option linter.unusedSimpArgs false
set_option linter.unusedVariables false
theorem own_block {w w' : World} {base size n : Nat} {e : TypeId} {v : Value} {xs : List Value} (h : w.ownsRow base e size v n xs) (hb : ∀ g, v.ownBlock = some g → g < w.heap.size → w'.heap[g]? = w.heap[g]?) : w'.ownsRow base e size v n xs := by
  obtain ⟨h0, h | ⟨g, cap, cur, rfl, h1, h2, h3⟩⟩ := h
  · exact ⟨h0, .inl h⟩
  · exact ⟨h0, .inr ⟨g, cap, cur, rfl, h1, (hb g rfl (Array.getElem?_eq_some_iff.1 h2).1).trans h2, h3⟩⟩
theorem Ow1S.shape {w : World} {lo hi : Nat} {v : Value} {t : List Sq} (h : Ow1S w lo hi v t) : ∃ a cap, v = .slice a t.length cap := by
  rcases h with ⟨rfl, rfl⟩ | ⟨c, cap, N, f, rfl, -⟩
  · exact ⟨none, 0, rfl⟩
  · exact ⟨_, cap, rfl⟩
/-- A row of shares lies in no block that an own row of lists lies in. -/
theorem Ow1S.apart {w : World} {lo hi base n : Nat} {u v : Value} {t : List Sq} {xs : List Value} (h : Ow1S w lo hi u t) (hv : w.ownsRow base 84 1 v n xs) (c : Nat) (hc : u.ownBlock = some c) : v.ownBlock ≠ some c := by
  intro e
  rcases h with ⟨rfl, -⟩ | ⟨c', cap, N, f, rfl, h1, h2, h3, h4, h5⟩
  · cases hc
  · have hc : c' = c := by simpa [Value.ownBlock] using hc
    subst hc
    obtain ⟨_, ⟨rfl, -⟩ | ⟨g, cap', cur, rfl, _, hg, _⟩⟩ := hv
    · cases e
    · have e : g = c' := by simpa [Value.ownBlock] using e
      subst e
      obtain ⟨cs, q, -⟩ := h4
      rw [hg] at q
      injection q with q
      injection q with _ q
      exact absurd q (by decide)
theorem OwS_one_step {w0 wr w1 w3 : World} {v v' u : Value} {k : Nat} {T : List (List Sq)} {f : Nat → Value} {o : Obj}
    (H : ∀ i, i < k → Ow1S wr w0.heap.size wr.heap.size (f i) (T.getD i [])) (hv : wr.ownsRow w0.heap.size 84 1 v k ((List.range k).map f))
    (hb : Below wr.heap.size wr w1) (hu : Ow1S w1 w0.heap.size w1.heap.size u (T.getD k [])) (hg : (w1.alloc o).grownBy w3 v.ownBlock) (hown : w3.ownsRow w0.heap.size 84 1 v' (k + 1) ((List.range k).map f ++ [u])) :
    ∃ f', w3.ownsRow w0.heap.size 84 1 v' (k + 1) ((List.range (k + 1)).map f') ∧ ∀ i, i < k + 1 → Ow1S w3 w0.heap.size w3.heap.size (f' i) (T.getD i []) := by
  have hs : w1.heap.size ≤ w3.heap.size := Nat.le_trans (by simp) hg.size
  have hv1 : w1.ownsRow w0.heap.size 84 1 v k ((List.range k).map f) := own_block hv fun g e hlt => hb.block g hlt
  have move : ∀ x t, Ow1S w1 w0.heap.size w1.heap.size x t → Ow1S w3 w0.heap.size w3.heap.size x t := fun x t hx =>
    (hx.block fun c e hc => ((hg.block c (by simp; omega) (fun q => hx.apart hv1 c e q.symm)).trans (blk_alloc_lt _ _ _ hc))).mono (Nat.le_refl _) hs
  refine ⟨fun i => if i = k then u else f i, ?_, fun i hi => ?_⟩
  · have e : (List.range (k + 1)).map (fun i => if i = k then u else f i) = (List.range k).map f ++ [u] := by
      rw [List.range_succ, List.map_append]
      congr 1
      · refine List.map_congr_left fun i hi => ?_
        have : i < k := by simpa using hi
        simp [Nat.ne_of_lt this]
      · simp
    rw [e]; exact hown
  · by_cases e : i = k
    · subst e
      simp only [if_true]
      exact move _ _ hu
    · simp only [if_neg e]
      exact move _ _ (((H i (by omega)).block fun c _ hc => hb.block c hc).mono (Nat.le_refl _) hb.size)
/-- What the loop of appends has built. -/
theorem rdS_of {w : World} {base : Nat} {v : Value} {L : List (List Sq)} {f : Nat → Value} (hv : w.ownsRow base 84 1 v L.length ((List.range L.length).map f)) (H : ∀ i, i < L.length → Ow1S w base w.heap.size (f i) (L.getD i [])) (hf : FitsS L) : RdS w base w.heap.size v L := by
  obtain ⟨_, ⟨rfl, h0⟩ | ⟨g, cap, cur, rfl, hb, hg, hn, hcap, hs, ht⟩⟩ := hv
  · exact ⟨.inl ⟨rfl, List.eq_nil_of_length_eq_zero h0⟩, hf⟩
  · refine ⟨.inr ⟨g, cap, cur.size, fun i => (cur[i]?).getD (.bool false), rfl, hb, (Array.getElem?_eq_some_iff.1 hg).1, by omega, ⟨cur, hg, rfl, fun i hi => by simp [hi]⟩, fun i hi => ?_⟩, hf⟩
    have h1 : (cur.toList.take (L.length * 1))[i]? = ((List.range L.length).map f)[i]? := by rw [ht]
    rw [Nat.mul_one, List.getElem?_take_of_lt hi, Array.getElem?_toList] at h1
    have h2 : (cur[i]?).getD (.bool false) = f i := by rw [h1]; simp [hi]
    show Ow1S w base w.heap.size ((cur[i]?).getD (.bool false)) _
    rw [h2]
    exact H i hi
/-- The cells of a list of shares. -/
def flatS (t : List Sq) : List Value := (List.range (t.length * 2)).map (shf t t.length)
theorem flatS_len (t : List Sq) : (flatS t).length = t.length * 2 := by simp [flatS]
theorem flatS_news {w : World} {c : Nat} {t : List Sq} (h : Shs w c t) : ∀ j u, (flatS t)[j]? = some u → w.cell? ((⟨c, 0, none⟩ : Addr).add j) = some u := by
  intro j u hu
  rw [Addr.add_lit, Nat.zero_add]
  have hj : j < t.length * 2 := by
    have := (List.getElem?_eq_some_iff.1 hu).1
    simpa [flatS] using this
  rw [World.rowIs.cell h hj, ← hu]
  simp [flatS, hj]
theorem flatS_one (t : List Sq) : ∀ u ∈ flatS t, u.oneCell' = true := by
  intro u hu
  obtain ⟨j, hj, rfl⟩ := List.mem_map.1 hu
  unfold shf
  split
  · split <;> rfl
  · rfl
/-- What append has made of an own slice of shares. -/
theorem ow1_of {w : World} {base hi : Nat} {v : Value} {t : List Sq} (h : w.ownsRow base 86 2 v t.length (flatS t)) (hh : w.heap.size ≤ hi) : Ow1S w base hi v t := by
  obtain ⟨_, ⟨rfl, h0⟩ | ⟨g, cap, cur, rfl, hb, hg, hn, hcap, hs, ht⟩⟩ := h
  · exact .inl ⟨rfl, List.eq_nil_of_length_eq_zero h0⟩
  · have hlt : g < w.heap.size := (Array.getElem?_eq_some_iff.1 hg).1
    have hat : ∀ j, j < t.length * 2 → (cur[j]?).getD (.bool false) = shf t t.length j := fun j hj => by
      have h1 : (cur.toList.take (t.length * 2))[j]? = (flatS t)[j]? := by rw [ht]
      rw [List.getElem?_take_of_lt hj, Array.getElem?_toList] at h1
      rw [h1]
      simp [flatS, hj]
    refine .inr ⟨g, cap, cur.size, fun i => (cur[i]?).getD (.bool false), rfl, hb, by omega, by omega, ⟨cur, hg, rfl, fun i hi => by simp [hi]⟩, fun i hi => ⟨?_, ?_⟩⟩
    · show (cur[i * 2]?).getD (.bool false) = _
      rw [hat _ (by omega)]
      have e1 : i * 2 / 2 = i := by omega
      have e2 : i * 2 % 2 = 0 := by omega
      simp [shf, e1, e2, hi]
    · show (cur[i * 2 + 1]?).getD (.bool false) = _
      rw [hat _ (by omega)]
      have e1 : (i * 2 + 1) / 2 = i := by omega
      have e2 : (i * 2 + 1) % 2 = 1 := by omega
      simp [shf, e1, e2, hi]
theorem ow1_lit (w : World) {lo hi : Nat} (h1 : lo ≤ w.heap.size) (h2 : w.heap.size < hi) : Ow1S (w.alloc (.cells #[] 86)) lo hi (.slice (some ⟨w.heap.size, 0, none⟩) 0 0) [] :=
  .inr ⟨w.heap.size, 0, 0, fun _ => .bool false, rfl, h1, h2, Nat.le_refl _, ⟨#[], heap_alloc_new w _, rfl, fun i hi => absurd hi (Nat.not_lt_zero _)⟩, fun i hi => absurd hi (Nat.not_lt_zero _)⟩
set_option maxRecDepth 100000 in
/-- slices.Clone of a copied list of shares. -/
theorem clone_sh (c cap : Nat) (t : List Sq) (w : World) (h : Shs w c t) (hl : t.length ≤ 1048576) :
    Calls Try.prog 85 #[.slice (some ⟨c, 0, none⟩) t.length cap] w fun e w' => (∃ v, e = .returned v ∧ Ow1S w' w.heap.size w'.heap.size v t) ∧ Below w.heap.size w w' := by
  have heq : ∀ w : World, Sem.run Try.prog (binOp BinOp.eql 84 (.slice (some ⟨c, 0, none⟩) t.length cap) (.slice none 0 0)) w = .ok (.bool false) w := fun w => by
    first | rfl | kernel_rfl | (unfold binOp; simp [Try.underlying84, go_sem]; done)
  obtain ⟨i0, hi, hz0, hz1, hz2⟩ := info_parts infoSh
  have hown0 : (w.alloc (.cells #[] 86)).ownsRow w.heap.size 86 2 (.slice (some ⟨w.heap.size, 0, none⟩) 0 0) 0 [] := World.ownsRow_lit w #[] 0 (Nat.le_refl _) (by unfold maxLen; omega) rfl
  have hb0 : Below w.heap.size w (w.alloc (.cells #[] 86)) := (Below.refl _ _).alloc (Nat.le_refl _) _
  have HN := Lib.hid (flatS_news (h.below hb0))
  have HO := Lib.hid (flatS_one t)
  have HL := Lib.hid (flatS_len t)
  clear h
  go_enter Try.func85, Try.ntmps85
  go_wp2_with (first
    | (at_builtin; refine wpList_append_own _ rfl _ _ 84 rfl w.heap.size 86 i0 (.agg #[.int .i64 0, .int .i64 0]) 2 16 Try.underlying84 hi hz0 hz1 hz2 rfl (by decide) _ _ _ rfl hown0 ⟨c, 0, none⟩ t.length cap (flatS t) rfl ?c1 HN.out HO.out ?c3 ?c4 ?c5 ?_)
    | go_in)
  case c1 => exact HL.out
  case c3 => unfold maxLen; omega
  case c4 => omega
  case c5 => simp
  · intro v' w2 hown' hgrow hnil
    have hb2 := hb0.grown hgrow (by simp) (fun k hk => by cases hk; exact Nat.le_refl _)
    have hC : Ow1S w2 w.heap.size w2.heap.size v' t := ow1_of (by simpa using hown') (Nat.le_refl _)
    clear hown' hgrow hnil hown0
    go_wp2
    go_ret
    exact ⟨⟨_, rfl, hC⟩, hb2⟩
/-- Cell j of a row of lists of which the first k are laid. -/
def cf (f : Nat → Value) (k : Nat) : Nat → Value := fun j => if j < k then f j else .slice none 0 0
/-- The first k lists of T lie in the row in block b, each in a block of its own from base on. -/
structure LaidS (w : World) (base b n : Nat) (T : List (List Sq)) (k : Nat) (f : Nat → Value) : Prop where
  row : w.rowIs b 84 n (cf f k)
  low : base ≤ b
  own : ∀ i, i < k → Ow1S w base w.heap.size (f i) (T.getD i [])
  inj : ∀ i j c, i < j → j < k → (f i).ownBlock = some c → (f j).ownBlock ≠ some c
theorem LaidS.ne {w : World} {base b n : Nat} {T : List (List Sq)} {k : Nat} {f : Nat → Value} (h : LaidS w base b n T k f) (i : Nat) (hi : i < k) : (f i).ownBlock ≠ some b := by
  intro e
  rcases h.own i hi with ⟨q, -⟩ | ⟨c, cap, N, f', q, h1, h2, h3, h4, h5⟩
  · rw [q] at e; cases e
  · rw [q] at e
    have e : c = b := by simpa [Value.ownBlock] using e
    subst e
    obtain ⟨c1, q1, _⟩ := h4
    obtain ⟨c2, q2, _⟩ := h.row
    rw [q1] at q2
    injection q2 with q2
    injection q2 with _ q2
    exact absurd q2 (by decide)
theorem LaidS.start (w : World) (n : Nat) (T : List (List Sq)) {base : Nat} (h : base ≤ w.heap.size) (f : Nat → Value) : LaidS (w.alloc (.cells (madeCells #[.slice none 0 0] n) 84)) base w.heap.size n T 0 f :=
  ⟨(World.rowIs_made w _ _ _).congr (fun j _ => by simp [cf]), h, fun i hi => absurd hi (Nat.not_lt_zero _), fun i j c _ hj => absurd hj (Nat.not_lt_zero _)⟩
theorem LaidS.below {w w' : World} {base b n : Nat} {T : List (List Sq)} {k : Nat} {f : Nat → Value} (h : LaidS w base b n T k f) (hb : Below w.heap.size w w') : LaidS w' base b n T k f :=
  ⟨h.row.of_block (hb.block b h.row.lt), h.low, fun i hi => ((h.own i hi).block fun c _ hc => hb.block c hc).mono (Nat.le_refl _) hb.size, h.inj⟩
/-- A list is left as it is: nil, for an empty one. -/
theorem LaidS.skip {w : World} {base b n : Nat} {T : List (List Sq)} {k : Nat} {f : Nat → Value} (h : LaidS w base b n T k f) (hT : T.getD k [] = []) : LaidS w base b n T (k + 1) (fun i => if i = k then .slice none 0 0 else f i) := by
  refine ⟨h.row.congr (fun j _ => ?_), h.low, fun i hi => ?_, fun i j c hij hj => ?_⟩
  · unfold cf
    by_cases e : j = k
    · subst e; simp
    · by_cases hjk : j < k
      · rw [if_pos hjk, if_pos (by omega)]; simp [e]
      · rw [if_neg hjk, if_neg (by omega)]
  · by_cases e : i = k
    · subst e; simp only [if_true]; exact .inl ⟨rfl, hT⟩
    · simp only [if_neg e]; exact h.own i (by omega)
  · have hi : i ≠ k := by omega
    simp only [if_neg hi]
    by_cases e : j = k
    · subst e; simp only [if_true]; intro _ q; cases q
    · simp only [if_neg e]; exact h.inj i j c hij (by omega)
/-- A fresh list is laid. -/
theorem LaidS.lay {w w1 : World} {base b n : Nat} {T : List (List Sq)} {k : Nat} {f : Nat → Value} {u : Value} (h : LaidS w base b n T k f) (hb : Below w.heap.size w w1) (hu : Ow1S w1 w.heap.size w1.heap.size u (T.getD k [])) :
    LaidS (w1.setCell ⟨b, k, none⟩ u) base b n T (k + 1) (fun i => if i = k then u else f i) := by
  have hsz : (w1.setCell ⟨b, k, none⟩ u).heap.size = w1.heap.size := by simp [World.setCell]
  have hlow := h.low
  have hrl := h.row.lt
  have hne := h.ne
  have hw := h.below hb
  have keep : ∀ x t lo, Ow1S w1 lo w1.heap.size x t → x.ownBlock ≠ some b → Ow1S (w1.setCell ⟨b, k, none⟩ u) lo (w1.setCell ⟨b, k, none⟩ u).heap.size x t := fun x t lo hx hn =>
    (hx.block fun c e hc => blk_setCell_other _ _ _ _ (fun q => hn (by rw [e]; exact congrArg some q))).mono (Nat.le_refl _) (by rw [hsz]; exact Nat.le_refl _)
  refine ⟨(hw.row.set k u).congr (fun j _ => ?_), h.low, fun i hi => ?_, fun i j c hij hj => ?_⟩
  · unfold cf
    by_cases e : j = k
    · subst e; simp
    · rw [if_neg e]
      by_cases hjk : j < k
      · rw [if_pos hjk, if_pos (by omega)]; simp [e]
      · rw [if_neg hjk, if_neg (by omega)]
  · by_cases e : i = k
    · subst e
      simp only [if_true]
      exact (keep _ _ _ hu (fun q => by have := (hu.inb b q).1; omega)).mono (by omega) (Nat.le_refl _)
    · simp only [if_neg e]
      exact keep _ _ _ (hw.own i (by omega)) (hne i (by omega))
  · have hi : i ≠ k := by omega
    simp only [if_neg hi]
    by_cases e : j = k
    · subst e
      simp only [if_true]
      intro q1 q2
      have a := (h.own i (by omega)).inb c q1
      have b := hu.inb c q2
      omega
    · simp only [if_neg e]; exact h.inj i j c hij (by omega)
theorem LaidS.done {w : World} {base b : Nat} {T : List (List Sq)} {f : Nat → Value} (h : LaidS w base b T.length T T.length f) (hf : FitsS T) (cap : Nat) : OwS w base w.heap.size (.slice (some ⟨b, 0, none⟩) T.length cap) T :=
  ⟨.inr ⟨b, cap, T.length, f, rfl, h.low, h.row.lt, Nat.le_refl _, h.row.congr (fun j hj => by simp [cf, hj]), h.own, h.ne, h.inj⟩, hf⟩
end Go.Proofs.Ytlpidgdlbannbaa
