/- The specification's way to what can be reached: plain mathematics, and the matrix of parts. -/
import Derived.Test.YtlpidgdlbannbaaRc2
namespace Go.Proofs.Ytlpidgdlbannbaa
open Go.ChangeShapes Go.WideShapes Go.ChangeAt Go.RowKit Go.Deep
set_option linter.unusedSimpArgs false
set_option linter.unusedVariables false
def cnt (n : Nat) (A : Nat → Bool) : Nat := ((List.range n).filter A).length
theorem cnt_le (n : Nat) (A : Nat → Bool) : cnt n A ≤ n := by
  have := List.length_filter_le A (List.range n)
  unfold cnt
  simpa using this
theorem cnt_lt {n : Nat} {A B : Nat → Bool} (h : ∀ j, A j = true → B j = true) {j : Nat} (hj : j < n) (h1 : A j = false) (h2 : B j = true) : cnt n A + 1 ≤ cnt n B := by
  have hs : (j :: (List.range n).filter A) ⊆ (List.range n).filter B := by
    intro x hx
    rcases List.mem_cons.1 hx with rfl | hx
    · simp [hj, h2]
    · simp only [List.mem_filter, List.mem_range] at hx ⊢
      exact ⟨hx.1, h x hx.2⟩
  have hn : (j :: (List.range n).filter A).Nodup := by
    rw [List.nodup_cons]
    exact ⟨by simp [h1], (List.nodup_range).sublist List.filter_sublist⟩
  have := hn.length_le_of_subset hs
  simpa [cnt] using this
theorem cnt_pos {n : Nat} {A : Nat → Bool} {m : Nat} (hm : m < n) (h : A m = true) : 1 ≤ cnt n A := by
  unfold cnt
  exact List.length_pos_iff.2 (List.ne_nil_of_mem (a := m) (by simp [hm, h]))
/-- All that can be reached is marked. -/
def Full (nx : Int → List Int) (m n : Nat) (A : Nat → Bool) : Prop := ∀ j, j < n → Rch nx [(m : Int)] (j : Int) → A j = true
structure Mkd (nx : Int → List Int) (m n : Nat) (A : Nat → Bool) (r : Nat) : Prop where
  at_ : A m = true
  sound : ∀ j, j < n → A j = true → Rch nx [(m : Int)] (j : Int)
  far : Full nx m n A ∨ r + 1 ≤ cnt n A
/-- Within a round that began with A0: what has been looked at before (i, k) has been passed on. -/
structure Rnd (nx : Int → List Int) (m n : Nat) (A0 A : Nat → Bool) (i k : Nat) : Prop where
  sub : ∀ j, A0 j = true → A j = true
  sound : ∀ j, j < n → A j = true → Rch nx [(m : Int)] (j : Int)
  past : ∀ i' k', i' < n → k' < n → (i' < i ∨ (i' = i ∧ k' < k)) → A0 i' = true → (k' : Int) ∈ nx (i' : Int) → A k' = true
theorem Mkd.begin {nx : Int → List Int} {m n : Nat} {A : Nat → Bool} {r : Nat} (h : Mkd nx m n A r) : Rnd nx m n A A 0 0 :=
  ⟨fun j h => h, h.sound, fun i' k' _ _ h => by omega⟩
theorem Rnd.row {nx : Int → List Int} {m n : Nat} {A0 A : Nat → Bool} {i : Nat} (h : Rnd nx m n A0 A i n) : Rnd nx m n A0 A (i + 1) 0 :=
  ⟨h.sub, h.sound, fun i' k' h1 h2 h3 => h.past i' k' h1 h2 (by omega)⟩
theorem Rnd.skip {nx : Int → List Int} {m n : Nat} {A0 A : Nat → Bool} {i k : Nat} (h : Rnd nx m n A0 A i k) (hs : A i = false ∨ ¬ (k : Int) ∈ nx (i : Int)) : Rnd nx m n A0 A i (k + 1) :=
  ⟨h.sub, h.sound, fun i' k' h1 h2 h3 h4 h5 => by
    by_cases e : i' = i ∧ k' = k
    · obtain ⟨rfl, rfl⟩ := e
      rcases hs with hs | hs
      · rw [h.sub _ h4] at hs; cases hs
      · exact absurd h5 hs
    · exact h.past i' k' h1 h2 (by omega) h4 h5⟩
theorem Rnd.mark {nx : Int → List Int} {m n : Nat} {A0 A : Nat → Bool} {i k : Nat} (h : Rnd nx m n A0 A i k) (hi : i < n) (h1 : A i = true) (h2 : (k : Int) ∈ nx (i : Int)) : Rnd nx m n A0 (fun j => if j = k then true else A j) i (k + 1) :=
  ⟨fun j hj => by
    show (if j = k then true else A j) = true
    split
    · rfl
    · exact h.sub j hj, fun j hj ha => by
    by_cases e : j = k
    · subst e; exact (h.sound i hi h1).step h2
    · simp only [if_neg e] at ha; exact h.sound j hj ha, fun i' k' q1 q2 q3 q4 q5 => by
    show (if k' = k then true else A k') = true
    split
    · rfl
    · exact h.past i' k' q1 q2 (by omega) q4 q5⟩
theorem Rnd.done {nx : Int → List Int} {m n : Nat} {A0 A : Nat → Bool} {r : Nat} (h : Rnd nx m n A0 A n 0) (h0 : Mkd nx m n A0 r) (hm : m < n) (hr : ∀ i : Nat, i < n → ∀ z ∈ nx (i : Int), 0 ≤ z ∧ z < (n : Int)) : Mkd nx m n A (r + 1) := by
  refine ⟨h.sub _ h0.at_, h.sound, ?_⟩
  by_cases hall : ∀ j, j < n → A j = true → A0 j = true
  · left
    intro j hj hR
    have := hR (fun x => 0 ≤ x ∧ x < (n : Int) ∧ A x.toNat = true) (fun y hy => by
      have hy : y = (m : Int) := by simpa using hy
      subst hy
      exact ⟨by omega, by omega, by simpa using h.sub _ h0.at_⟩) (fun y z ⟨q1, q2, q3⟩ hz => by
      obtain ⟨i, rfl⟩ : ∃ i : Nat, y = i := ⟨y.toNat, by omega⟩
      have hi : i < n := by omega
      obtain ⟨z1, z2⟩ := hr i hi z hz
      obtain ⟨k, rfl⟩ : ∃ k : Nat, z = k := ⟨z.toNat, by omega⟩
      refine ⟨z1, z2, ?_⟩
      simp only [Int.toNat_natCast] at q3 ⊢
      exact h.past i k hi (by omega) (.inl hi) (hall i hi q3) hz)
    simpa using this.2.2
  · rcases h0.far with hf | hf
    · exact .inl fun j hj hR => h.sub j (hf j hj hR)
    · right
      have : ∃ j, j < n ∧ A j = true ∧ A0 j = false := by
        refine Classical.byContradiction fun hno => hall fun j hj ha => ?_
        cases e : A0 j with
        | true => rfl
        | false => exact absurd ⟨j, hj, ha, e⟩ hno
      obtain ⟨j, hj, h1, h2⟩ := this
      have := cnt_lt h.sub hj h2 h1
      omega
theorem Mkd.result {nx : Int → List Int} {m n : Nat} {A : Nat → Bool} (h : Mkd nx m n A n) {j : Nat} (hj : j < n) : A j = true ↔ Rch nx [(m : Int)] (j : Int) := by
  refine ⟨h.sound j hj, fun hR => ?_⟩
  rcases h.far with hf | hf
  · exact hf j hj hR
  · have := cnt_le n A
    omega
theorem Mkd.start {nx : Int → List Int} {m n : Nat} (hm : m < n) : Mkd nx m n (fun j => if j = m then true else false) 0 :=
  ⟨by simp, fun j hj ha => by
    have e : j = m := by simpa using ha
    subst e
    exact Rch.base (by simp), .inr (cnt_pos hm (by simp))⟩
/-- The parts that the first m shares of t pass to member j. -/
def pr (t : List Sq) : Nat → Nat → Int
  | 0, _ => 0
  | m + 1, j => if j = (t.getD m (0, 0)).1.toNat then (t.getD m (0, 0)).2 else pr t m j
theorem pr_pos {n i : Nat} {t : List Sq} (h : ∀ m, m < t.length → elS n i t m) (m : Nat) (hm : m ≤ t.length) (j : Nat) : 0 < pr t m j ↔ ∃ p, p < m ∧ (t.getD p (0, 0)).1 = (j : Int) := by
  induction m with
  | zero => simp [pr]
  | succ m ih =>
    have ih := ih (by omega)
    have he := h m (by omega)
    unfold pr
    split
    · rename_i e
      constructor
      · intro _; exact ⟨m, by omega, by have := he.1.1; omega⟩
      · intro _; have := he.2.2.2.1; omega
    · rename_i e
      rw [ih]
      constructor
      · rintro ⟨p, h1, h2⟩; exact ⟨p, by omega, h2⟩
      · rintro ⟨p, h1, h2⟩
        refine ⟨p, ?_, h2⟩
        have : p ≠ m := fun q => by subst q; rw [h2] at e; simp at e
        omega
theorem mem_getDS {t : List Sq} {p : Nat} (h : p < t.length) : t.getD p (0, 0) ∈ t := by simp [List.getD, h]
theorem getD_of_memS {t : List Sq} {x : Sq} (h : x ∈ t) : ∃ p, p < t.length ∧ t.getD p (0, 0) = x := by
  obtain ⟨p, hp, e⟩ := List.mem_iff_getElem.1 h
  exact ⟨p, hp, by simp [List.getD, hp, e]⟩
def rowP (t : List Sq) (n : Nat) : List Int := (List.range n).map (pr t t.length)
theorem rowP_len (t : List Sq) (n : Nat) : (rowP t n).length = n := by simp [rowP]
theorem rowP_at (t : List Sq) {n j : Nat} (h : j < n) : (rowP t n).getD j 0 = pr t t.length j := by simp [rowP, List.getD, h]
def partsT (L : List (List Sq)) (k : Nat) : List (List Int) := (List.range k).map fun i => rowP (L.getD i []) L.length
theorem partsT_len (L : List (List Sq)) (k : Nat) : (partsT L k).length = k := by simp [partsT]
theorem partsT_succ (L : List (List Sq)) (k : Nat) : partsT L (k + 1) = partsT L k ++ [rowP (L.getD k []) L.length] := by simp [partsT, List.range_succ]
theorem partsT_at (L : List (List Sq)) {k i : Nat} (h : i < k) : (partsT L k).getD i [] = rowP (L.getD i []) L.length := by simp [partsT, List.getD, h]
theorem partsT_fits {L : List (List Sq)} (h : L.length ≤ 6) (k : Nat) (hk : k ≤ L.length) : FitsJ (partsT L k) := by
  refine ⟨by rw [partsT_len]; omega, fun i hi => ?_⟩
  rw [partsT_len] at hi
  rw [partsT_at L hi, rowP_len]
  omega
theorem adj_iff {L : List (List Sq)} (h : okS L) {i k : Nat} (hi : i < L.length) (hk : k < L.length) : 0 < ((partsT L L.length).getD i []).getD k 0 ↔ (k : Int) ∈ nxS L (i : Int) := by
  rw [partsT_at L hi, rowP_at _ hk, pr_pos (h.2.2 i hi).1 _ (Nat.le_refl _), nxS_at]
  constructor
  · rintro ⟨p, h1, h2⟩
    rw [List.mem_map]
    exact ⟨(L.getD i []).getD p (0, 0), mem_getDS h1, h2⟩
  · intro hm
    obtain ⟨x, hx, e⟩ := List.mem_map.1 hm
    obtain ⟨p, hp, e2⟩ := getD_of_memS hx
    exact ⟨p, hp, by rw [e2]; exact e⟩
theorem nx_rng {L : List (List Sq)} (h : okS L) {i : Nat} (hi : i < L.length) : ∀ z ∈ nxS L (i : Int), 0 ≤ z ∧ z < (L.length : Int) := by
  intro z hz
  rw [nxS_at] at hz
  obtain ⟨x, hx, rfl⟩ := List.mem_map.1 hz
  obtain ⟨p, hp, e2⟩ := getD_of_memS hx
  have := ((h.2.2 i hi).1 p hp).1
  rw [e2] at this
  omega
set_option maxHeartbeats 2000000 in
set_option maxRecDepth 100000 in
theorem sparts (L : List (List Sq)) (B b cap : Nat) (w : World) (h : SS w B b L) (hf : FitsS L) (hok : okS L) :
    Calls Try.prog 81 #[.slice (some ⟨b, 0, none⟩) L.length cap] w fun e w' => (∃ v, e = .returned v ∧ RdJ w' w.heap.size w'.heap.size v (partsT L L.length)) ∧ Below w.heap.size w w' := by
  obtain ⟨j0, hj, hy0, hy1, hy2⟩ := info_parts infoIS
  have n1 := hok.2.1
  have HOK := Lib.hid hok
  have HF := Lib.hid hf
  have hmk := run_make_row' (P := Try.prog) 29 2 (.int .i64 0) 8 Try.underlying29 infoI rfl .i64 .i64 L.length (by have := hf.1; omega) (by have := hf.1; omega)
  have hB0 := BldJ.start_lit w (Nat.le_refl _) (fun _ => .slice none 0 0)
  have hb0 : Below w.heap.size w (w.alloc (.cells #[] 29)) := (Below.refl _ _).alloc (Nat.le_refl _) _
  have lb0 := h.lt
  clear hok hf
  go_enter Try.func81, Try.ntmps81
  go_wp2
  go_loopg [3, 4] L.length (fun g v i wr => ∃ (k : Nat) (l : List (List Int)) (f : Nat → Value), k ≤ L.length ∧ g = L.length - k ∧ i = .int .i64 k ∧ BldJ wr w.heap.size v l f ∧ Hid (l = partsT L k) ∧ l.length ≤ k ∧ Below w.heap.size w wr)
  case atStart => exact ⟨0, [], _, Nat.zero_le _, rfl, rfl, hB0, rfl, Nat.le_refl _, hb0⟩
  case round =>
    clear hB0 hb0
    obtain ⟨k, l, f, hk, rfl, rfl, hB, HL, hlk, hb⟩ := hrel
    obtain ⟨wo, rfl⟩ : ∃ wo : World, wo = wr := ⟨_, rfl⟩
    by_cases hlt : k < L.length
    · have sw := hb.size
      obtain ⟨c, a2, a3⟩ := (h.below hb).at hlt
      have hrow := (HOK.out.2.2 k hlt).1
      have hlen := HF.out.2 k hlt
      have hps := partsT_succ L k
      obtain ⟨t, hq⟩ : ∃ q, L.getD k [] = q := ⟨_, rfl⟩
      rw [hq] at a2 a3 hrow hps hlen
      have HR := Lib.hid hrow
      have HPS := Lib.hid hps
      have lb : b < wo.heap.size := by omega
      have lc := World.rowIs.lt a3
      have hr0 : (wo.alloc (.cells (madeCells #[.int .i64 0] L.length) 2)).rowIs wo.heap.size 2 L.length (fun j => .int .i64 (pr t 0 j)) := (World.rowIs_made wo _ _ _).congr (fun j _ => by simp [pr])
      have hbr : Below wo.heap.size wo (wo.alloc (.cells (madeCells #[.int .i64 0] L.length) 2)) := (Below.refl _ _).alloc (Nat.le_refl _) _
      clear hq hrow hps
      go_wp2
      go_loopg [6] t.length (fun g kk wi => ∃ m : Nat, m ≤ t.length ∧ g = t.length - m ∧ kk = .int .i64 m ∧ wi.rowIs wo.heap.size 2 L.length (fun j => .int .i64 (pr t m j)) ∧ Below wo.heap.size wo wi)
      case atStart => exact ⟨0, Nat.zero_le _, rfl, rfl, hr0, hbr⟩
      case round =>
        clear hr0 hbr
        obtain ⟨m, hm, rfl, rfl, hri, hbi⟩ := hrel
        have d2 := (hbi.cell (p := ⟨b, k, none⟩) lb).trans a2
        by_cases hml : m < t.length
        · obtain ⟨c1, c2⟩ := (Shs.below a3 hbi).at hml
          have hel := HR.out m hml
          unfold elS at hel
          obtain ⟨⟨y, p⟩, hy⟩ : ∃ y, t.getD m (0, 0) = y := ⟨_, rfl⟩
          have hpr : ∀ j, pr t (m + 1) j = if j = y.toNat then p else pr t m j := fun j => by
            show (if j = (t.getD m (0, 0)).1.toNat then (t.getD m (0, 0)).2 else pr t m j) = _
            rw [hy]
          rw [hy] at c1 c2 hel
          simp only at c1 c2 hel
          obtain ⟨⟨e1, e2⟩, -⟩ := hel
          obtain ⟨jy, rfl⟩ : ∃ jy : Nat, y = jy := ⟨y.toNat, by omega⟩
          have hjy : jy < L.length := by omega
          have c0 := hri.cell hjy
          have f0 := hri.frozen jy
          obtain ⟨x0, hx0⟩ : ∃ x, pr t m jy = x := ⟨_, rfl⟩
          rw [hx0] at c0
          have HPR := Lib.hid hpr
          have HM := Lib.hid hri
          have n1' : b ≠ wo.heap.size := Nat.ne_of_lt lb
          have n2' : c ≠ wo.heap.size := Nat.ne_of_lt lc
          clear hy hpr hx0 a2 hri
          go_wp2
          go_region
          all_goals go_wp2
          all_goals go_roundg (t.length - (m + 1))
          case measure => omega
          case rel =>
            refine ⟨m + 1, by omega, rfl, by simp, ((HM.out.set jy _).congr fun j _ => ?_), (hbi.setCell (Nat.le_refl _) _).drew⟩
            rw [HPR.out j]
            simp only [Int.toNat_natCast]
            split <;> rfl
        · have e : m = t.length := by omega
          subst e
          have hO : OwnI wr wo.heap.size (rowP t L.length) := by
            unfold OwnI
            rw [rowP_len]
            exact hri.congr fun j hj => by rw [rowP_at t hj]
          have hu := hO.ow L.length wo.heap.size wr.heap.size (Nat.le_refl _) hri.lt (by rw [rowP_len]; omega)
          rw [rowP_len] at hu
          have hl6 : l.length ≤ 6 := by omega
          have HBLD := Lib.hid (fun (w3 : World) v' (hg : _) ho => hB.step (v' := v') (w3 := w3) (o := .cells #[.slice (some ⟨wo.heap.size, 0, none⟩) L.length L.length] 29) sw hbi hu hg ho)
          have howl := (hB.below hbi).own
          have s2 := hbi.size
          clear hO hu hri
          go_wp2_with (first
            | (at_builtin; refine wpList_append_own _ rfl _ _ 41 rfl w.heap.size 29 j0 (.slice none 0 0) 1 24 Try.underlying41 hj hy0 hy1 hy2 rfl (by decide) _ _ _ rfl (howl.alloc _) ⟨wr.heap.size, 0, none⟩ 1 1 [.slice (some ⟨wo.heap.size, 0, none⟩) L.length L.length] rfl rfl (World.news_of_block (cs := #[.slice (some ⟨wo.heap.size, 0, none⟩) L.length L.length]) (t := 29) (fr := (0, 0)) (heap_alloc_new wr _)) (by simp [Value.oneCell']) (by unfold maxLen; omega) (by omega) (by simp; omega) ?_))
          intro v2 w3 hown4 hgrow4 _
          have hB2 := HBLD.out w3 v2 hgrow4 hown4
          have hb4 := ((hb.trans (hbi.mono sw)).alloc (by omega) _).grown hgrow4 (by simp; omega) (fun x e => (hB.own.lt x e).1)
          clear hown4 hgrow4
          go_wp2
          go_roundg (L.length - (k + 1))
          case measure => omega
          case rel => exact ⟨k + 1, l ++ [rowP t L.length], _, by omega, rfl, by simp, hB2, by (show l ++ [rowP t L.length] = _; rw [HPS.out, ← HL.out]), by rw [List.length_append, List.length_singleton]; omega, hb4⟩
    · have e : k = L.length := by omega
      subst e
      go_wp2
      go_ret
      refine ⟨⟨_, rfl, ?_⟩, hb⟩
      rw [← HL.out]
      exact (hB.done (by rw [HL.out]; exact partsT_fits n1 _ (Nat.le_refl _))).rd
end Go.Proofs.Ytlpidgdlbannbaa
