/- Several of this claim's texts in one: Rd1, Rd2. -/
import Derived.Test.YtllfopbpchjhpaaDoorFsa
import Derived.Test.YtllfopbpchjhpaaDoorFm2
import Derived.Test.YtllfopbpchjhpaaDoorGr1
/- A drawn frame: what is carried of it. -/
namespace Go.Proofs.YtllfopbpchjhpaaDoor
open Go.ChangeShapes Go.WideShapes Go.ChangeAt Go.RowKit Go.Deep
set_option linter.unusedSimpArgs false
set_option linter.unusedVariables false
theorem So.kept' {w w' : World} {b len k : Nat} {v : Value} {S : Nat → Prop} (h : So w b v len k) (hk : Kept w w' S) (hs : ∀ c, c ≤ b → ¬ S c) : So w' b v len k :=
  h.belowB (hk.below (B := b + 1) (by have := h.2.2; omega) (fun x e => by have := hs x; by_cases q : x ≤ b; exact absurd e (this q); omega)) (by omega) hk.size
theorem draw_oneN (n : Int) (hn : 1 < n) (hn2 : n ≤ 200) (b len k : Nat) (v : Value) (w : World) (h : So w b v len k) (hk : k ≤ 900) (hl : len ≤ 1048576) :
    Calls Tryd.prog 20 #[.pointer (some ⟨b, 0, none⟩), .int .i64 n] w fun e w' => ∃ z : Bool, e = .returned (.bool z) ∧ So w' b v len (k + 1) ∧ Kept w w' (fun x => x = b) := by
  have HP := draw_low b len k v n w h hk hl hn hn2
  clear h
  go_enter Tryd.func20, Tryd.ntmps20
  go_wp2_with fail
  refine HP.mono ?_
  rintro e w1 ⟨x, rfl, _, hs, hk1⟩
  go_wp2
  go_ret
  exact ⟨_, rfl, hs, hk1⟩
/-- A frame's cell block. -/
def FBox (w : World) (o : Nat) (a c : Value) : Prop := w.heap[o]? = some (.cells #[a, c] 26 (0, 0))
theorem FBox.lt {w : World} {o : Nat} {a c : Value} (h : FBox w o a c) : o < w.heap.size := (Array.getElem?_eq_some_iff.1 h).1
theorem FBox.c0 {w : World} {o : Nat} {a c : Value} (h : FBox w o a c) : w.cell? ⟨o, 0, none⟩ = some a := by simp [World.cell?, show w.heap[o]? = _ from h]
theorem FBox.c1 {w : World} {o : Nat} {a c : Value} (h : FBox w o a c) : w.cell? ⟨o, 1, none⟩ = some c := by simp [World.cell?, show w.heap[o]? = _ from h]
theorem FBox.f0 {w : World} {o : Nat} {a c : Value} (h : FBox w o a c) : w.frozen? ⟨o, 0, none⟩ = false := by simp [World.frozen?, show w.heap[o]? = _ from h]
theorem FBox.f1 {w : World} {o : Nat} {a c : Value} (h : FBox w o a c) : w.frozen? ⟨o, 1, none⟩ = false := by simp [World.frozen?, show w.heap[o]? = _ from h]
theorem FBox.set0 {w : World} {o : Nat} {a c : Value} (u : Value) (h : FBox w o a c) : FBox (w.setCell ⟨o, 0, none⟩ u) o u c := by
  unfold FBox
  rw [heap_setCell_same w o 0 #[a, c] _ u h]
  rfl
theorem FBox.set1 {w : World} {o : Nat} {a c : Value} (u : Value) (h : FBox w o a c) : FBox (w.setCell ⟨o, 1, none⟩ u) o a u := by
  unfold FBox
  rw [heap_setCell_same w o 1 #[a, c] _ u h]
  rfl
theorem FBox.block {w w' : World} {o : Nat} {a c : Value} (h : FBox w o a c) (hb : w'.heap[o]? = w.heap[o]?) : FBox w' o a c := hb.trans h
theorem FBox.apart {w : World} {o : Nat} {a c v : Value} {base n : Nat} {xs : List Value} (h : FBox w o a c) (hr : w.ownsRow base 28 1 v n xs) : some o ≠ v.ownBlock := by
  obtain ⟨_, ⟨rfl, -⟩ | ⟨g, cap', cur, rfl, _, hg, _⟩⟩ := hr
  · simp [Value.ownBlock]
  · simp only [Value.ownBlock, ne_eq, Option.some.injEq]
    intro e
    subst e
    rw [show w.heap[o]? = _ from h] at hg
    injection hg with hg
    injection hg with _ hg
    exact absurd hg (by decide)
theorem FBox.off {w : World} {o c : Nat} {a d : Value} {l : List Int} (h : FBox w o a d) (hu : OwnI w c l) : c ≠ o := by
  rintro rfl
  obtain ⟨cs, q, -⟩ := hu
  rw [show w.heap[_]? = _ from h] at q
  injection q with q
  injection q with _ q
  exact absurd q (by decide)
theorem OwnI.offOwn {w : World} {c base n : Nat} {v : Value} {l : List Int} {xs : List Value} (h : OwnI w c l) (hr : w.ownsRow base 28 1 v n xs) : some c ≠ v.ownBlock := by
  obtain ⟨_, ⟨rfl, -⟩ | ⟨g, cap', cur, rfl, _, hg, _⟩⟩ := hr
  · simp [Value.ownBlock]
  · simp only [Value.ownBlock, ne_eq, Option.some.injEq]
    intro e
    subst e
    obtain ⟨cs, q, -⟩ := h
    rw [q] at hg
    injection hg with hg
    injection hg with _ hg
    exact absurd hg (by decide)
/-- A list of pairs that has been built. -/
structure FB (w : World) (base : Nat) (v : Value) (L : List (List Int)) (f : Nat → Nat) : Prop where
  own : w.ownsRow base 28 1 v L.length ((List.range L.length).map fun i => .slice (some ⟨f i, 0, none⟩) 2 2)
  rows : ∀ i, i < L.length → base ≤ f i ∧ OwnI w (f i) (L.getD i [])
theorem OwnI.block' {w w' : World} {c : Nat} {l : List Int} (h : OwnI w c l) (hb : w'.heap[c]? = w.heap[c]?) : OwnI w' c l := World.rowIs.of_block h hb
theorem FB.at {w w' : World} {base : Nat} {v : Value} {L : List (List Int)} {f : Nat → Nat} (h : FB w base v L f) (hb : ∀ c, base ≤ c → c < w.heap.size → w'.heap[c]? = w.heap[c]?) : FB w' base v L f :=
  ⟨own_blockJ h.own fun g hg hlt => hb g (h.own.lt g hg).1 hlt, fun i hi => ⟨(h.rows i hi).1, (h.rows i hi).2.block' (hb _ (h.rows i hi).1 (World.rowIs.lt (h.rows i hi).2))⟩⟩
theorem FB.setBox {w : World} {base o k : Nat} {a c v u : Value} {L : List (List Int)} {f : Nat → Nat} (h : FB w base v L f) (hx : FBox w o a c) : FB (w.setCell ⟨o, k, none⟩ u) base v L f :=
  ⟨own_blockJ h.own fun g e hg => heap_setCell_other _ _ _ _ (show g ≠ o from fun q => hx.apart h.own (by rw [e, q])), fun i hi => ⟨(h.rows i hi).1, (h.rows i hi).2.block' (heap_setCell_other _ _ _ _ (hx.off (h.rows i hi).2))⟩⟩
theorem FB.start (w : World) {base : Nat} (h : base ≤ w.heap.size) (f : Nat → Nat) : FB (w.alloc (.cells #[] 28)) base (.slice (some ⟨w.heap.size, 0, none⟩) 0 0) [] f :=
  ⟨World.ownsRow_lit w #[] 0 h (by unfold maxLen; omega) rfl, fun i hi => absurd hi (Nat.not_lt_zero _)⟩
theorem own_two (w : World) (x y : Int) : OwnI (w.alloc (.cells #[.int .i64 x, .int .i64 y] 2)) w.heap.size [x, y] :=
  ⟨#[.int .i64 x, .int .i64 y], heap_alloc_new w _, rfl, fun i hi => by
    have : i < 2 := hi
    match i, this with
    | 0, _ => rfl
    | 1, _ => rfl⟩
theorem FB.step {wr w3 : World} {base : Nat} {v v' : Value} {L : List (List Int)} {f : Nat → Nat} {x y : Int} {o : Obj} (h : FB wr base v L f) (hb0 : base ≤ wr.heap.size)
    (hg : ((wr.alloc (.cells #[.int .i64 x, .int .i64 y] 2)).alloc o).grownBy w3 v.ownBlock)
    (hown : w3.ownsRow base 28 1 v' (L.length + 1) (((List.range L.length).map fun i => .slice (some ⟨f i, 0, none⟩) 2 2) ++ [.slice (some ⟨wr.heap.size, 0, none⟩) 2 2])) :
    FB w3 base v' (L ++ [[x, y]]) (fun i => if i = L.length then wr.heap.size else f i) := by
  have h1 : FB (wr.alloc (.cells #[.int .i64 x, .int .i64 y] 2)) base v L f := h.at fun c _ hc => blk_alloc_lt _ _ _ hc
  have hn := own_two wr x y
  have move : ∀ c l, OwnI (wr.alloc (.cells #[.int .i64 x, .int .i64 y] 2)) c l → OwnI w3 c l := fun c l hx => by
    have hc := World.rowIs.lt hx
    exact hx.block' ((hg.block c (by rw [World.size_alloc]; omega) (hx.offOwn h1.own)).trans (blk_alloc_lt _ _ _ hc))
  refine ⟨?_, fun i hi => ?_⟩
  · have e : ((List.range (L ++ [[x, y]]).length).map fun i => Value.slice (some ⟨if i = L.length then wr.heap.size else f i, 0, none⟩) 2 2) = ((List.range L.length).map fun i => Value.slice (some ⟨f i, 0, none⟩) 2 2) ++ [.slice (some ⟨wr.heap.size, 0, none⟩) 2 2] := by
      rw [List.length_append, List.length_singleton, List.range_succ, List.map_append]
      congr 1
      · refine List.map_congr_left fun i hi => ?_
        have : i < L.length := by simpa using hi
        simp [Nat.ne_of_lt this]
      · simp
    rw [e, List.length_append, List.length_singleton]; exact hown
  · have hi' : i < L.length + 1 := by simpa using hi
    by_cases e : i = L.length
    · subst e
      have e1 : (L ++ [[x, y]]).getD L.length [] = [x, y] := by simp [List.getD]
      simp only [if_true]
      rw [e1]
      exact ⟨hb0, move _ _ hn⟩
    · simp only [if_neg e]
      have e1 : (L ++ [[x, y]]).getD i [] = L.getD i [] := by simp [List.getD, List.getElem?_append_left (show i < L.length by omega)]
      rw [e1]
      exact ⟨(h.rows i (by omega)).1, move _ _ (h1.rows i (by omega)).2⟩
theorem FB.cells {w : World} {base : Nat} {v : Value} {L : List (List Int)} {f : Nat → Nat} (h : FB w base v L f) (h2 : ∀ i, i < L.length → (L.getD i []).length = 2) (hv : v ≠ .slice none 0 0) : ∃ b cp, v = .slice (some ⟨b, 0, none⟩) L.length cp ∧ Jx w b L := by
  obtain ⟨_, ⟨rfl, -⟩ | ⟨g, cap, cur, rfl, _, hg, hnc, hcm, hcs, ht⟩⟩ := h.own
  · exact absurd rfl hv
  · refine ⟨g, cap, rfl, (Array.getElem?_eq_some_iff.1 hg).1, fun k hk => ⟨f k, ?_, (h.rows k hk).2⟩⟩
    have h1 : (cur.toList.take (L.length * 1))[k]? = ((List.range L.length).map fun i => Value.slice (some ⟨f i, 0, none⟩) 2 2)[k]? := by rw [ht]
    rw [Nat.mul_one, List.getElem?_take_of_lt hk, Array.getElem?_toList] at h1
    have h3 : cur[k]? = some (.slice (some ⟨f k, 0, none⟩) 2 2) := by rw [h1]; simp [hk]
    rw [h2 k hk]
    simp [World.cell?, hg, h3]
/-- The attacks that have been drawn before key m. -/
def AtkD (n : Int) (L : List (List Int)) (m : Int) : Prop := (∀ k, k < L.length → atkOk n (L.getD k []) ∧ ∀ j, j + 1 = k → keyA (L.getD j []) < keyA (L.getD k [])) ∧ ∀ k, k < L.length → keyA (L.getD k []) < m
theorem AtkD.start (n m : Int) : AtkD n [] m := ⟨fun k hk => absurd hk (Nat.not_lt_zero _), fun k hk => absurd hk (Nat.not_lt_zero _)⟩
theorem AtkD.mono {n m m' : Int} {L : List (List Int)} (h : AtkD n L m) (hm : m ≤ m') : AtkD n L m' := ⟨h.1, fun k hk => by have := h.2 k hk; omega⟩
theorem AtkD.snoc {n m x y : Int} {L : List (List Int)} (h : AtkD n L m) (hx : 0 ≤ x) (hx2 : x < n) (hy : 0 ≤ y) (hy2 : y < n) (hm : m ≤ x * 10 + y) : AtkD n (L ++ [[x, y]]) (x * 10 + y + 1) := by
  have old : ∀ i, i < L.length → (L ++ [[x, y]]).getD i [] = L.getD i [] := fun i hi => by simp [List.getD, List.getElem?_append_left hi]
  have new : (L ++ [[x, y]]).getD L.length [] = [x, y] := by simp [List.getD]
  have ke : keyA [x, y] = x * 10 + y := rfl
  refine ⟨fun k hk => ?_, fun k hk => ?_⟩
  · have hk' : k < L.length + 1 := by simpa using hk
    by_cases e : k = L.length
    · subst e
      rw [new]
      refine ⟨⟨rfl, hx, hx2, hy, hy2⟩, fun j hj => ?_⟩
      rw [old j (by omega), ke]
      have := h.2 j (by omega)
      omega
    · rw [old k (by omega)]
      refine ⟨(h.1 k (by omega)).1, fun j hj => ?_⟩
      rw [old j (by omega)]
      exact (h.1 k (by omega)).2 j hj
  · have hk' : k < L.length + 1 := by simpa using hk
    by_cases e : k = L.length
    · subst e; rw [new, ke]; omega
    · rw [old k (by omega)]
      have := h.2 k (by omega)
      omega
end Go.Proofs.YtllfopbpchjhpaaDoor
/- A drawn frame, walked. -/
namespace Go.Proofs.YtllfopbpchjhpaaDoor
open Go.ChangeShapes Go.WideShapes Go.ChangeAt Go.RowKit Go.Deep
set_option linter.unusedSimpArgs false
set_option linter.unusedVariables false
/-- What the loops of the drawing carry: the source in b, the result's box r, the frame's box o. -/
structure DF (w0 w : World) (b len k r o : Nat) (s : Value) (n : Int) (v : Value) (L : List (List Int)) (f : Nat → Nat) : Prop where
  so : So w b s len k
  rb : FBox w r (.int .i64 0) (.slice none 0 0)
  fb : FBox w o (.int .i64 n) v
  bl : FB w (r + 1) v L f
  be : Below b w0 w
  sz : r < w.heap.size
  ne : v ≠ .slice none 0 0
theorem DF.kept {w0 w w' : World} {b len k k' r o : Nat} {s v : Value} {n : Int} {L : List (List Int)} {f : Nat → Nat} (h : DF w0 w b len k r o s n v L f) (hs : So w' b s len k') (hk : Kept w w' (fun x => x = b)) (hbr : b < r) (hro : r < o) : DF w0 w' b len k' r o s n v L f :=
  ⟨hs, h.rb.block (hk.block r h.rb.lt (fun e => by omega)), h.fb.block (hk.block o h.fb.lt (fun e => by omega)), h.bl.at fun c h1 h2 => hk.block c h2 (fun e => by omega), h.be.trans (hk.below (B := b) (by have := h.be.size; have := h.so.2.2; omega) (fun x e => by omega)), by have := hk.size; have := h.sz; omega, h.ne⟩
/-- A pair is appended. -/
theorem DF.step {w0 w w3 : World} {b len k r o : Nat} {s v v' : Value} {n x y : Int} {L : List (List Int)} {f : Nat → Nat} {ob : Obj} (h : DF w0 w b len k r o s n v L f) (hbr : b < r) (hro : r < o)
    (hg : ((w.alloc (.cells #[.int .i64 x, .int .i64 y] 2)).alloc ob).grownBy w3 v.ownBlock)
    (hown : w3.ownsRow (r + 1) 28 1 v' (L.length + 1) (((List.range L.length).map fun i => .slice (some ⟨f i, 0, none⟩) 2 2) ++ [.slice (some ⟨w.heap.size, 0, none⟩) 2 2]))
    (hne : v' ≠ .slice none 0 0) :
    FBox w3 o (.int .i64 n) v ∧ DF w0 (w3.setCell ⟨o, 1, none⟩ v') b len k r o s n v' (L ++ [[x, y]]) (fun i => if i = L.length then w.heap.size else f i) := by
  have blk : ∀ c, c < w.heap.size → some c ≠ v.ownBlock → w3.heap[c]? = w.heap[c]? := fun c hc hn =>
    (hg.block c (by rw [World.size_alloc, World.size_alloc]; omega) hn).trans ((blk_alloc_lt _ _ _ (by rw [World.size_alloc]; omega)).trans (blk_alloc_lt _ _ _ hc))
  have low : ∀ c, c ≤ r → some c ≠ v.ownBlock := fun c hc e => by have := (h.bl.own.lt c e.symm).1; omega
  have sz := h.sz
  have s3 : w.heap.size ≤ w3.heap.size := by have := hg.size; rw [World.size_alloc, World.size_alloc] at this; omega
  have fb3 : FBox w3 o (.int .i64 n) v := h.fb.block (blk o h.fb.lt (h.fb.apart h.bl.own))
  have be3 : Below (r + 1) w w3 := ⟨hg.os, hg.tape, hg.output, s3, fun c hc => blk c (by omega) (low c (by omega))⟩
  have hs := Kept.set w3 ⟨o, 1, none⟩ v' (S := fun x => x = o) rfl
  refine ⟨fb3, ?_, ?_, fb3.set1 v', ?_, ?_, by have := hs.size; omega, hne⟩
  · exact (h.so.belowB be3 (by omega) s3).kept' hs (fun c hc e => by omega)
  · exact ((h.rb.block (blk r sz (low r (Nat.le_refl _)))) : FBox w3 r _ _).block (hs.block r (by omega) (fun e => by omega))
  · exact (h.bl.step (by omega) hg hown).setBox fb3
  · exact (h.be.trans (be3.mono (by omega))).trans (hs.below (B := b) (by omega) (fun x e => by omega))
theorem new_at (w : World) (o o2 : Obj) : ((w.alloc o).alloc o2).heap[w.heap.size + 1]? = some o2 := by
  have := heap_alloc_new (w.alloc o) o2
  rw [World.size_alloc] at this
  exact this
theorem DF.setN {w0 w : World} {b len k r o : Nat} {s v : Value} {n : Int} {L : List (List Int)} {f : Nat → Nat} (h : DF w0 w b len k r o s n v L f) (hbr : b < r) (hro : r < o) (m : Int) : DF w0 (w.setCell ⟨o, 0, none⟩ (.int .i64 m)) b len k r o s m v L f := by
  have hs := Kept.set w ⟨o, 0, none⟩ (.int .i64 m) (S := fun x => x = o) rfl
  have sz := h.sz
  exact ⟨h.so.kept' hs (fun c hc e => by omega), h.rb.block (hs.block r sz (fun e => by omega)), h.fb.set0 _, h.bl.setBox h.fb, h.be.trans (hs.below (B := b) (by omega) (fun x e => by omega)), by have := hs.size; omega, h.ne⟩
theorem DF.more {w0 w : World} {b len k k' r o : Nat} {s v : Value} {n : Int} {L : List (List Int)} {f : Nat → Nat} (h : DF w0 w b len k r o s n v L f) (hk : k ≤ k') : DF w0 w b len k' r o s n v L f := ⟨h.so.mono hk, h.rb, h.fb, h.bl, h.be, h.sz, h.ne⟩
set_option maxHeartbeats 4000000 in
theorem dframe (b len k : Nat) (s : Value) (w : World) (h : So w b s len k) (hk : k ≤ 10) (hl : len ≤ 1048576) :
    Calls Tryd.prog 9 #[.pointer (some ⟨b, 0, none⟩)] w (fun e w' => ∃ (n bb cp : Nat) (L : List (List Int)), e = .returned (.agg #[.int .i64 (n : Int), .slice (some ⟨bb, 0, none⟩) L.length cp]) ∧ fOk ((n : Int), L) ∧ (∀ w'', (∀ c, b < c → c < w'.heap.size → w''.heap[c]? = w'.heap[c]?) → Jx w'' bb L) ∧ L.length ≤ 110 ∧ Below b w w') := by
  obtain ⟨j0, hjS, hy0, hy1, hy2⟩ := info_parts infoIS
  have hb := h.2.2
  obtain ⟨r, hr⟩ : ∃ r, w.heap.size = r := ⟨_, rfl⟩
  have w0b := (Below.refl w.heap.size w).alloc (Nat.le_refl _) (.cells #[.int .i64 0, .slice none 0 0] 26)
  have hs0 := h.belowB w0b hb (by simp)
  have rb0 : FBox (w.alloc (.cells #[.int .i64 0, .slice none 0 0] 26)) r (.int .i64 0) (.slice none 0 0) := by rw [← hr]; exact heap_alloc_new w _
  have HP := draw_low b len k s 8 _ hs0 (by omega) hl (by omega) (by omega)
  have W0 := Lib.hid w0b
  have HR := Lib.hid hr
  have RB := Lib.hid rb0
  have z0 : (w.alloc (.cells #[.int .i64 0, .slice none 0 0] 26)).heap.size = r + 1 := by simp [hr]
  have hbr : b < r := by omega
  clear h hs0 w0b rb0
  go_enter Tryd.func9, Tryd.ntmps9
  go_wp2_with fail
  refine HP.mono ?_
  rintro e w1 ⟨x, rfl, ⟨x0, x1⟩, hs1, hk1⟩
  obtain ⟨n1, rfl⟩ : ∃ n : Nat, x = (n : Int) := ⟨x.toNat, by omega⟩
  have z1 := hk1.size
  have rb1 := RB.out.block (hk1.block r (RB.out.lt) (fun e => by omega))
  obtain ⟨p, hp⟩ : ∃ p, w1.heap.size = p := ⟨_, rfl⟩
  have hrp : r < p := by omega
  have fb0 : FB (w1.alloc (.cells #[] 28)) (r + 1) (.slice (some ⟨p, 0, none⟩) 0 0) [] (fun _ => 0) := by rw [← hp]; exact FB.start w1 (by omega) _
  have BE1 : Below b w w1 := (W0.out.mono (by omega)).trans (hk1.below (B := b) (by omega) (fun x e => by omega))
  have D0 : ∀ n : Int, DF w ((w1.alloc (.cells #[] 28)).alloc (.cells #[.int .i64 n, .slice (some ⟨p, 0, none⟩) 0 0] 26)) b len (k + 1) r (p + 1) s n (.slice (some ⟨p, 0, none⟩) 0 0) [] (fun _ => 0) := fun n => by
    have a1 := (Below.refl w1.heap.size w1).alloc (Nat.le_refl _) (.cells #[] 28)
    have a2 := a1.alloc (by simp) (.cells #[.int .i64 n, .slice (some ⟨p, 0, none⟩) 0 0] 26)
    refine ⟨hs1.belowB a2 (by omega) a2.size, rb1.block (a2.block r (by omega)), ?_, fb0.at fun c _ hc => blk_alloc_lt _ _ _ hc, BE1.trans (a2.mono (by omega)), by have := a2.size; omega, by simp⟩
    have := heap_alloc_new (w1.alloc (.cells #[] 28)) (.cells #[.int .i64 n, .slice (some ⟨p, 0, none⟩) 0 0] 26)
    rw [World.size_alloc, hp] at this
    exact this
  have DH := Lib.hid (D0 (n1 : Int))
  have HPP := Lib.hid hp
  clear hs1 hk1 rb1 fb0 BE1 D0 HP RB
  generalize hW : (w1.alloc (.cells #[] 28)).alloc (.cells #[.int .i64 (n1 : Int), .slice (some ⟨p, 0, none⟩) 0 0] 26) = W2 at DH
  have HW2 := Lib.hid hW
  go_wp2_with fail
  refine (draw_oneN 8 (by omega) (by omega) b len (k + 1) s W2 DH.out.so (by omega) hl).mono ?_
  rintro e W3 ⟨z, rfl, hs3, hk3⟩
  have hpo : r < p + 1 := by omega
  have hn1 : n1 ≤ 7 := by omega
  have D3 := Lib.hid (DH.out.kept hs3 hk3 hbr hpo)
  clear hs3 hk3 DH HW2
  have HT : Hid (∃ (W4 : World) (n : Nat), n ≤ 10 ∧ (z = true ∧ n = 10 ∧ W4 = W3.setCell ⟨p + 1, 0, none⟩ (.int .i64 10) ∨ z = false ∧ n = n1 ∧ W4 = W3) ∧ DF w W4 b len (k + 2) r (p + 1) s (n : Int) (.slice (some ⟨p, 0, none⟩) 0 0) [] (fun _ => 0)) := by
    cases z with
    | true => exact ⟨_, 10, by omega, .inl ⟨rfl, rfl, rfl⟩, (D3.out.setN hbr hpo 10).more (by omega)⟩
    | false => exact ⟨_, n1, by omega, .inr ⟨rfl, rfl, rfl⟩, D3.out.more (by omega)⟩
  obtain ⟨W4, n, hn10, hcase, D4⟩ := HT.out
  have g0 := D3.out.fb.c0
  have g1 := D3.out.fb.c1
  have g2 := D3.out.fb.f0
  have g3 := D3.out.fb.lt
  have D4H := Lib.hid D4
  have HP6 := draw_low b len (k + 2) s 6 W4 D4.so (by omega) hl (by omega) (by omega)
  clear HT D4 D3
  rcases hcase with ⟨rfl, hn0, hW4⟩ | ⟨rfl, hn0, hW4⟩
  all_goals
    (try subst hW4)
    go_wp2_with fail
    refine HP6.mono ?_
    rintro e W5 ⟨y, rfl, ⟨y0, y1⟩, hs5, hk5⟩
    have D5 := Lib.hid (D4H.out.kept hs5 hk5 hbr hpo)
    obtain ⟨d, hd⟩ : ∃ d, 2 + y = d := ⟨_, rfl⟩
    have wd : IntKind.i64.wrap (2 + y) = d := by rw [IntKind.wrap_i64]; omega
    have d1 : 2 ≤ d := by omega
    have d2 : d ≤ 7 := by omega
    clear hs5 hk5 D4H HP6 g0 g1 g2 g3
    clear hn0
    go_wp2
    go_loopg [5] n (fun g a wr => ∃ (i : Nat) (v : Value) (L : List (List Int)) (f : Nat → Nat), i ≤ n ∧ g = n - i ∧ a = .int .i64 (i : Int) ∧ Hid (DF w wr b len (k + 3 + 10 * i) r (p + 1) s (n : Int) v L f) ∧ Hid (AtkD (n : Int) L (10 * (i : Int))) ∧ Hid (L.length ≤ 10 * i))
    case atStart => exact ⟨0, _, [], _, Nat.zero_le _, rfl, rfl, Lib.hid (D5.out.more (by omega)), Lib.hid (AtkD.start _ _), Lib.hid (Nat.zero_le _)⟩
    case round =>
      clear D5
      obtain ⟨i, v, L, f, hi, rfl, rfl, HD, HA, HL⟩ := hrel
      have e0 := HD.out.fb.c0
      have e1 := HD.out.fb.c1
      have e2 := HD.out.fb.lt
      by_cases hlt : (i : Int) < (n : Int)
      · go_wp2
        go_loopg [6] n (fun g a wr => ∃ (j : Nat) (v : Value) (L : List (List Int)) (f : Nat → Nat), j ≤ n ∧ g = n - j ∧ a = .int .i64 (j : Int) ∧ Hid (DF w wr b len (k + 3 + 10 * i + j) r (p + 1) s (n : Int) v L f) ∧ Hid (AtkD (n : Int) L (10 * (i : Int) + j)) ∧ Hid (L.length ≤ 10 * i + j))
        case atStart => exact ⟨0, v, L, f, Nat.zero_le _, rfl, rfl, HD, Lib.hid (HA.out.mono (by omega)), HL⟩
        case round =>
          clear HD HA HL e0 e1 e2
          obtain ⟨j, v, L, f, hj, rfl, rfl, HD, HA, HL⟩ := hrel
          obtain ⟨wo, rfl⟩ : ∃ wo : World, wo = wr := ⟨_, rfl⟩
          have e0 := HD.out.fb.c0
          have e2 := HD.out.fb.lt
          by_cases hjl : (j : Int) < (n : Int)
          · have hcase : ∃ m : Int, 1 < m ∧ m ≤ 200 ∧ ((i = j ∧ m = 9) ∨ (i ≠ j ∧ m = d)) := by
              by_cases q : i = j
              · exact ⟨9, by omega, by omega, .inl ⟨q, rfl⟩⟩
              · exact ⟨d, by omega, by omega, .inr ⟨q, rfl⟩⟩
            obtain ⟨m, m1, m2, hm⟩ := hcase
            have HO := draw_oneN m m1 m2 b len (k + 3 + 10 * i + j) s wo HD.out.so (by omega) hl
            rcases hm with ⟨eij, rfl⟩ | ⟨eij, rfl⟩
            all_goals
              (try (have eji := eij.symm; subst eji))
              (try (have q1 : ((i : Int) == (j : Int)) = false := by simp; omega))
              (try (have q2 : ¬ (i : Int) = (j : Int) := by omega))
              go_wp2_with fail
              refine HO.mono ?_
              rintro e W6 ⟨z, rfl, hs6, hk6⟩
              have D6 := Lib.hid (HD.out.kept hs6 hk6 hbr hpo)
              clear hs6 hk6 HO e0 e2
              cases z with
              | false =>
                go_wp2
                go_roundg (n - (j + 1))
                case measure => omega
                case rel => exact ⟨j + 1, v, L, f, by omega, rfl, by first | rfl | simp, Lib.hid (D6.out.more (by omega)), Lib.hid (HA.out.mono (by omega)), Lib.hid (by have := HL.out; omega)⟩
              | true =>
                have e1 := D6.out.fb.c1
                have e2 := D6.out.fb.lt
                have e3 : p + 1 ≠ W6.heap.size := by omega
                have e4 : p + 1 ≠ W6.heap.size + 1 := by omega
                have hrs : r + 1 ≤ W6.heap.size := D6.out.sz
                have howl := D6.out.bl.own
                have HL9 : Hid (L.length ≤ 110) := Lib.hid (by have := HL.out; omega)
                go_wp2_with (first
                  | (at_builtin; refine wpList_append_own _ rfl _ _ 24 rfl (r + 1) 28 j0 (.slice none 0 0) 1 24 Tryd.underlying24 hjS hy0 hy1 hy2 rfl (by decide) _ _ _ rfl ((howl.alloc _).alloc _) ⟨W6.heap.size + 1, 0, none⟩ 1 1 [.slice (some ⟨W6.heap.size, 0, none⟩) 2 2] rfl rfl ?c1 (by simp [Value.oneCell']) (by have := HL9.out; unfold maxLen; omega) (by have := HL9.out; omega) (by simp; omega) ?_))
                case c1 => exact World.news_of_block (cs := #[.slice (some ⟨W6.heap.size, 0, none⟩) 2 2]) (t := 28) (fr := (0, 0)) (B := W6.heap.size + 1) (new_at W6 _ _)
                intro v' W7 hown7 hgrow7 hnil
                have hne7 : v' ≠ .slice none 0 0 := hnil
                obtain ⟨g7, cap7, rfl⟩ : ∃ g7 cap7, v' = .slice (some ⟨g7, 0, none⟩) (L.length + 1) cap7 := by
                  obtain ⟨_, ⟨q, -⟩ | ⟨g, cap', cur, q, -⟩⟩ := hown7
                  · exact absurd q hne7
                  · exact ⟨g, cap', q⟩
                obtain ⟨fb7, D7⟩ := D6.out.step hbr hpo hgrow7 hown7 hne7
                have D7H := Lib.hid D7
                have y1 := fb7.c1
                have y2 := fb7.f1
                have y3 := fb7.lt
                first
                  | have HA7 := Lib.hid (HA.out.snoc (x := (i : Int)) (y := (j : Int)) (by omega) (by omega) (by omega) (by omega) (by omega))
                  | have HA7 := Lib.hid (HA.out.snoc (x := (j : Int)) (y := (j : Int)) (by omega) (by omega) (by omega) (by omega) (by omega))
                clear hown7 hgrow7 hnil hne7 D7 fb7 howl e1 e2 e3 e4 D6 HD
                go_wp2
                go_roundg (n - (j + 1))
                case measure => omega
                case rel => exact ⟨_ + 1, _, _, _, by omega, rfl, by first | rfl | simp, Lib.hid (D7H.out.more (by omega)), Lib.hid (HA7.out.mono (by omega)), Lib.hid (by have := HL.out; simp; omega)⟩
          · have ej : j = n := by omega
            subst ej
            go_wp2
            go_roundg (j - (i + 1))
            case measure => omega
            case rel => exact ⟨i + 1, v, L, f, by omega, rfl, by first | rfl | simp, Lib.hid (HD.out.more (by omega)), Lib.hid (HA.out.mono (by omega)), Lib.hid (by have := HL.out; omega)⟩
      · have ei : i = n := by omega
        subst ei
        have y0 := HD.out.rb.c0
        have y1 := HD.out.rb.c1
        have y2 := HD.out.rb.f0
        have y3 := HD.out.rb.f1
        have y4 := HD.out.rb.lt
        have h2 : ∀ k, k < L.length → (L.getD k []).length = 2 := fun k hk => ((HA.out.1 k hk).1).1
        obtain ⟨bb, cp, rfl, hJ⟩ := HD.out.bl.cells h2 HD.out.ne
        have HJ := Lib.hid hJ
        have hF : Hid (fOk ((i : Int), L)) := Lib.hid ⟨by show (0 : Int) ≤ (i : Int); omega, by show (i : Int) ≤ 10; omega, HA.out.1⟩
        have HLL : Hid (L.length ≤ 110) := Lib.hid (by have := HL.out; omega)
        have hbel := HD.out.be
        have bl2 := (HD.out.bl.setBox (k := 0) (u := .int .i64 (i : Int)) HD.out.rb).setBox (k := 1) (u := .slice (some ⟨bb, 0, none⟩) L.length cp) (HD.out.rb.set0 (.int .i64 (i : Int)))
        have HJ2 := Lib.hid (fun (w'' : World) (hw : ∀ c, b < c → c < ((wr.setCell ⟨r, 0, none⟩ (.int .i64 (i : Int))).setCell ⟨r, 1, none⟩ (.slice (some ⟨bb, 0, none⟩) L.length cp)).heap.size → w''.heap[c]? = ((wr.setCell ⟨r, 0, none⟩ (.int .i64 (i : Int))).setCell ⟨r, 1, none⟩ (.slice (some ⟨bb, 0, none⟩) L.length cp)).heap[c]?) => (show Jx w'' bb L from by
          obtain ⟨bb2, cp2, e9, hJ2⟩ := (bl2.at (w' := w'') fun c h1 h3 => hw c (by omega) h3).cells h2 (by simp)
          simp at e9
          obtain ⟨e91, e92⟩ := e9
          subst e91
          exact hJ2))
        have k1 := Kept.set wr ⟨r, 0, none⟩ (.int .i64 (i : Int)) (S := fun x => x = r) rfl
        have k2 := Kept.set (wr.setCell ⟨r, 0, none⟩ (.int .i64 (i : Int))) ⟨r, 1, none⟩ (.slice (some ⟨bb, 0, none⟩) L.length cp) (S := fun x => x = r) rfl
        have HBE := Lib.hid (hbel.trans ((k1.trans k2).below (B := b) (by have := HD.out.sz; omega) (fun x e => by omega)))
        clear hbel bl2 hJ k1 k2 HD HA HL h2
        go_wp2
        refine bodyPost_ret (v := .agg #[.int .i64 (i : Int), .slice (some ⟨bb, 0, none⟩) L.length cp]) (by simp [results, Tryd.results9, go_sem, *]) rfl ⟨i, bb, cp, L, rfl, hF.out, HJ2.out, HLL.out, HBE.out⟩
theorem rframe (s : Value) (len : Nat) (w : World) (hv : ByteV w.heap.size w s len) (hl : len ≤ 1048576) :
    Calls Tryd.prog 5 #[s] w (fun e w' => ∃ (n bb cp : Nat) (L : List (List Int)), e = .returned (.agg #[.int .i64 (n : Int), .slice (some ⟨bb, 0, none⟩) L.length cp]) ∧ fOk ((n : Int), L) ∧ Jx w' bb L ∧ L.length ≤ 110 ∧ Below w.heap.size w w') := by
  obtain ⟨a, cap, rfl⟩ := hv.shape
  obtain ⟨r, hr⟩ : ∃ r, w.heap.size = r := ⟨_, rfl⟩
  have w0b := (Below.refl w.heap.size w).alloc (Nat.le_refl _) (.cells #[.int .i64 0, .slice none 0 0] 26)
  have rb0 : FBox (w.alloc (.cells #[.int .i64 0, .slice none 0 0] 26)) r (.int .i64 0) (.slice none 0 0) := by rw [← hr]; exact heap_alloc_new w _
  have z0 : (w.alloc (.cells #[.int .i64 0, .slice none 0 0] 26)).heap.size = r + 1 := by simp [hr]
  have HV := Lib.hid (hv.below w0b)
  have HR := Lib.hid hr
  have W0 := Lib.hid w0b
  have RB := Lib.hid rb0
  clear hv w0b rb0
  go_enter Tryd.func5, Tryd.ntmps5
  go_wp2_with fail
  refine (from_any a len cap _).mono ?_
  rintro e w1 ⟨rfl, hs1, hb1⟩
  rw [z0] at hs1 hb1 ⊢
  have hv1 : ByteV (r + 1) w1 (.slice a len cap) len := by
    obtain h | ⟨x, c, e, hx, hc⟩ := HV.out
    · exact .inl h
    · refine .inr ⟨x, c, e, fun q => ?_, fun i hi => ?_⟩
      · have := hx q; omega
      · obtain ⟨y, hy, hy2⟩ := hc i hi
        refine ⟨y, (hb1.cell (p := x.add i) ?_).trans hy, hy2⟩
        rw [block_add]; have := hx (by omega); omega
  have so1 : So w1 (r + 1) (.slice a len cap) len 0 := ⟨⟨0, 0, Nat.le_refl _, hs1⟩, hv1, World.block_lt_of_cell? _ _ hs1.code⟩
  have HD := dframe (r + 1) len 0 (.slice a len cap) w1 so1 (by omega) hl
  have rb1 := Lib.hid (RB.out.block (hb1.block r (by omega)))
  have BE1 := Lib.hid (W0.out.trans (hb1.mono (by omega)))
  clear hs1 hv1 so1 hb1
  go_wp2_with fail
  refine HD.mono ?_
  rintro e w2 ⟨n, bb, cp, L, rfl, hF, hJ, hL, hb2⟩
  have rb2 := rb1.out.block (hb2.block r (by omega))
  have y0 := rb2.c0
  have y1 := rb2.c1
  have y2 := rb2.f0
  have y3 := rb2.f1
  have y4 := rb2.lt
  have k1 := Kept.set w2 ⟨r, 0, none⟩ (.int .i64 (n : Int)) (S := fun x => x = r) rfl
  have k2 := Kept.set (w2.setCell ⟨r, 0, none⟩ (.int .i64 (n : Int))) ⟨r, 1, none⟩ (.slice (some ⟨bb, 0, none⟩) L.length cp) (S := fun x => x = r) rfl
  have k12 := k1.trans k2
  have hs12 := k12.size
  have HJ2 := Lib.hid (hJ _ (fun c h1 h2 => k12.block c h2 (fun e => by omega)))
  have HF := Lib.hid hF
  have hrw : w.heap.size ≤ r := by rw [HR.out]; exact Nat.le_refl _
  have s1 := BE1.out.size
  have s2 := hb2.size
  have HBE := Lib.hid ((BE1.out.trans (hb2.mono (by omega))).trans (k12.below (B := w.heap.size) (by omega) (fun x e => by omega)))
  clear hJ hF k1 k2 k12 hb2 rb2 HD
  go_wp2
  exact bodyPost_ret (v := .agg #[.int .i64 (n : Int), .slice (some ⟨bb, 0, none⟩) L.length cp]) (by simp [results, Tryd.results5, go_sem, *]) rfl ⟨n, bb, cp, L, rfl, HF.out, HJ2.out, hL, HBE.out⟩
end Go.Proofs.YtllfopbpchjhpaaDoor
