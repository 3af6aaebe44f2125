/- What a loop over an iterator carries: cells, a matrix, the marks of the loops before it. -/
import Derived.Test.YtnpolmanebmmcaaMx1
namespace Go.Proofs.Ytnpolmanebmmcaa
open Go.ChangeShapes Go.WideShapes Go.ChangeAt Go.RowKit Go.Deep Go.Shelf
set_option linter.unusedSimpArgs false
set_option linter.unusedVariables false
def mark1 (D : Nat) : Deferred := { target := .collected D, args := #[] }
/-- The cells cs hold their values, the matrix M lies within lo and hi, the blocks ds take deferred calls. -/
structure IV (w : World) (cs : List (Nat × Nat × Value)) (lo hi : Nat) (v : Value) (M : List (List Int)) (ds : List Nat) (W : World) : Prop where
  bel : Below w.heap.size w W
  cl : ∀ q ∈ cs, W.cell? ⟨q.1, q.2.1, none⟩ = some q.2.2
  own : OwJ W lo hi v M
  mks : ∀ D ∈ ds, W.heap[D]? = some (.deferred (some []))
  nd : ds.Nodup
  dge : ∀ D ∈ ds, hi ≤ D
  sz : hi ≤ W.heap.size
theorem IV.cell {w W : World} {cs : List (Nat × Nat × Value)} {lo hi : Nat} {v : Value} {M : List (List Int)} {ds : List Nat} (h : IV w cs lo hi v M ds W) {b o : Nat} {u : Value} (hm : (b, o, u) ∈ cs) : W.cell? ⟨b, o, none⟩ = some u := h.cl _ hm
theorem IV.dlt {w W : World} {cs : List (Nat × Nat × Value)} {lo hi : Nat} {v : Value} {M : List (List Int)} {ds : List Nat} (h : IV w cs lo hi v M ds W) : ∀ D ∈ ds, D < W.heap.size := fun D hD => (Array.getElem?_eq_some_iff.1 (h.mks D hD)).1
theorem IV.clt {w W : World} {cs : List (Nat × Nat × Value)} {lo hi : Nat} {v : Value} {M : List (List Int)} {ds : List Nat} (h : IV w cs lo hi v M ds W) : ∀ q ∈ cs, q.1 < W.heap.size := fun q hq => World.block_lt_of_cell? _ _ (h.cl q hq)
/-- It lies on where all that lay lies on. -/
theorem IV.below {w W W' : World} {cs : List (Nat × Nat × Value)} {lo hi : Nat} {v : Value} {M : List (List Int)} {ds : List Nat} (h : IV w cs lo hi v M ds W) (hb : Below W.heap.size W W') : IV w cs lo hi v M ds W' :=
  ⟨h.bel.trans (hb.mono h.bel.size), fun q hq => (hb.cell (p := ⟨q.1, q.2.1, none⟩) (h.clt q hq)).trans (h.cl q hq), h.own.below hb, fun D hD => (hb.block D (h.dlt D hD)).trans (h.mks D hD), h.nd, h.dge, Nat.le_trans h.sz hb.size⟩
/-- It abides the turn of a block laid since B. -/
theorem IV.own_from {w W0 : World} {cs : List (Nat × Nat × Value)} {lo hi : Nat} {v : Value} {M0 : List (List Int)} {ds : List Nat} (h0 : IV w cs lo hi v M0 ds W0) {β : Type} (f : β → List (List Int)) : OwnFrom W0.heap.size (fun s W => IV w cs lo hi v (f s) ds W) := fun s W W' row hs hg hr => by
  have hrow : ∀ k, k < W0.heap.size → k < W.heap.size → W'.heap[k]? = W.heap[k]? := fun k hk hw => hg.block k hw (fun e => by have := (hr k e.symm).1; omega)
  refine ⟨hs.bel.grown hg hs.bel.size (fun k e => Nat.le_trans h0.bel.size (hr k e).1), fun q hq => ?_, ?_, fun D hD => ?_, hs.nd, hs.dge, Nat.le_trans hs.sz hg.size⟩
  · exact (World.cell?_of_block (hrow q.1 (h0.clt q hq) (hs.clt q hq))).trans (hs.cl q hq)
  · exact hs.own.at fun c _ h2 h3 => hrow c (Nat.lt_of_lt_of_le h2 h0.sz) h3
  · exact (hrow D (h0.dlt D hD) (hs.dlt D hD)).trans (hs.mks D hD)
/-- A store into the matrix. -/
theorem IV.store {w W : World} {cs : List (Nat × Nat × Value)} {lo hi : Nat} {v : Value} {M M' : List (List Int)} {ds : List Nat} (h : IV w cs lo hi v M ds W) {c j : Nat} {u : Value} (h1 : lo ≤ c) (h2 : c < hi) (hw : w.heap.size ≤ lo) (hcs : ∀ q ∈ cs, q.1 < lo ∨ hi ≤ q.1)
    (ho : OwJ (W.setCell ⟨c, j, none⟩ u) lo hi v M') : IV w cs lo hi v M' ds (W.setCell ⟨c, j, none⟩ u) := by
  refine ⟨h.bel.setCell (by show _ ≤ c; omega) _, fun q hq => ?_, ho, fun D hD => ?_, h.nd, h.dge, by simp [World.setCell]; exact h.sz⟩
  · have hne : q.1 ≠ c := by have := hcs q hq; omega
    exact (World.cell?_of_block (a := ⟨q.1, q.2.1, none⟩) (heap_setCell_other _ _ _ _ (show q.1 ≠ c from hne))).trans (h.cl q hq)
  · have := h.dge D hD
    exact (heap_setCell_other _ _ _ _ (show D ≠ c by omega)).trans (h.mks D hD)
theorem IV.drew {w W : World} {cs : List (Nat × Nat × Value)} {lo hi : Nat} {v : Value} {M : List (List Int)} {ds : List Nat} (h : IV w cs lo hi v M ds W) : IV w cs lo hi v M ds W.drew := h.below (Below.refl _ _).drew
/-- Fewer cells. -/
theorem IV.sub {w W : World} {cs cs' : List (Nat × Nat × Value)} {lo hi : Nat} {v : Value} {M : List (List Int)} {ds : List Nat} (h : IV w cs lo hi v M ds W) (hs : ∀ q ∈ cs', q ∈ cs) : IV w cs' lo hi v M ds W :=
  ⟨h.bel, fun q hq => h.cl q (hs q hq), h.own, h.mks, h.nd, h.dge, h.sz⟩
/-- One more cell. -/
theorem IV.more {w W : World} {cs : List (Nat × Nat × Value)} {lo hi : Nat} {v : Value} {M : List (List Int)} {ds : List Nat} (h : IV w cs lo hi v M ds W) (q : Nat × Nat × Value) (hq : W.cell? ⟨q.1, q.2.1, none⟩ = some q.2.2) : IV w (q :: cs) lo hi v M ds W :=
  ⟨h.bel, fun p hp => by rcases List.mem_cons.1 hp with rfl | hp; exact hq; exact h.cl p hp, h.own, h.mks, h.nd, h.dge, h.sz⟩
/-- One more mark. -/
theorem IV.mark {w W : World} {cs : List (Nat × Nat × Value)} {lo hi : Nat} {v : Value} {M : List (List Int)} {ds : List Nat} (h : IV w cs lo hi v M ds W) {D : Nat} (hD : W.heap[D]? = some (.deferred (some []))) (hn : D ∉ ds) (hg : hi ≤ D) : IV w cs lo hi v M (D :: ds) W :=
  ⟨h.bel, h.cl, h.own, fun E hE => by rcases List.mem_cons.1 hE with rfl | hE; exact hD; exact h.mks E hE, List.nodup_cons.2 ⟨hn, h.nd⟩, fun E hE => by rcases List.mem_cons.1 hE with rfl | hE; exact hg; exact h.dge E hE, h.sz⟩
theorem leaves_marks {F : Fence} {n : Nat} {P : Program} {fn : Func} {tmps : Array Value} {R : Ending → World → Prop} (J : World → Prop) :
    ∀ (ds : List Nat) (W : World), (∀ D ∈ ds, W.heap[D]? = some (.deferred (some []))) → ds.Nodup → (∀ W D, D ∈ ds → J W → W.heap[D]? = some (.deferred (some [])) → J (W.putObj D (.deferred none))) → J W →
      (∀ W', J W' → ∃ v, (results fn tmps).run P W' = .ok v W' ∧ R (.returned v) W') → LeavesInM F n P fn tmps R (ds.map mark1) .returning W
  | [], W, _, _, _, hJ, hd => hd W hJ
  | D :: ds, W, hm, hn, hk, hJ, hd => by
    have hD := hm D (by simp)
    obtain ⟨n1, n2⟩ := List.nodup_cons.1 hn
    refine ⟨by simp, .inl ⟨D, _, rfl, run_takeDeferred hD, ?_⟩⟩
    refine leaves_marks J ds _ (fun E hE => ?_) n2 (fun W E hE => hk W E (by simp [hE])) (hk W D (by simp) hJ hD) hd
    exact (World.putObj_heap_other (by intro e; subst e; exact n1 hE)).trans (hm E (by simp [hE]))
/-- What stays of it when the marks are taken. -/
theorem IV.leaves {F : Fence} {n : Nat} {P : Program} {fn : Func} {tmps : Array Value} {R : Ending → World → Prop} {w W : World} {cs : List (Nat × Nat × Value)} {lo hi : Nat} {v : Value} {M : List (List Int)} {ds : List Nat} (h : IV w cs lo hi v M ds W) (hw : w.heap.size ≤ hi)
    (hd : ∀ W', Below w.heap.size w W' ∧ OwJ W' lo hi v M ∧ hi ≤ W'.heap.size → ∃ u, (results fn tmps).run P W' = .ok u W' ∧ R (.returned u) W') : LeavesInM F n P fn tmps R (ds.map mark1) .returning W := by
  refine leaves_marks (fun W' => Below w.heap.size w W' ∧ OwJ W' lo hi v M ∧ hi ≤ W'.heap.size) ds W h.mks h.nd (fun W' D hD hJ hm => ?_) ⟨h.bel, h.own, h.sz⟩ hd
  obtain ⟨j1, j2, j3⟩ := hJ
  have hge := h.dge D hD
  refine ⟨j1.grown (grownBy_putObj' W' D _) j1.size (fun k e => by cases e; omega), j2.at fun c _ h2 _ => World.putObj_heap_other (by omega), by simpa using j3⟩
end Go.Proofs.Ytnpolmanebmmcaa
