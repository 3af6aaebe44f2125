/- The kinds of values that a law copies, compares, marks: lists of numbers. -/
import Derived.Test.YtkaakomiimcbmaaVq4
namespace Go.Proofs.Ytkaakomiimcbmaa
open Go.ChangeShapes Go.WideShapes Go.ChangeAt Go.RowKit Go.Deep
set_option linter.unusedSimpArgs false
set_option linter.unusedVariables false
theorem Kept.cell {w w' : World} {S : Nat → Prop} (h : Kept w w' S) {p : Addr} (hp : p.block < w.heap.size) (hs : ¬ S p.block) : w'.cell? p = w.cell? p := World.cell?_of_block (h.block p.block hp hs)
/-- v, read in w, is the list l; its memory lies in blocks from lo to below hi. -/
def RdI (w : World) (lo hi : Nat) (v : Value) (l : List Int) : Prop := RowV w v l ∧ InB v lo hi ∧ l.length ≤ 1048576
theorem RdI.below {w w' : World} {lo hi : Nat} {v : Value} {l : List Int} (h : RdI w lo hi v l) (hb : Below w.heap.size w w') : RdI w' lo hi v l := ⟨h.1.below hb, h.2.1, h.2.2⟩
theorem RdI.kept {w w' : World} {lo hi : Nat} {v : Value} {l : List Int} {S : Nat → Prop} (h : RdI w lo hi v l) (hk : Kept w w' S) (hs : ∀ b, lo ≤ b → b < hi → ¬ S b) : RdI w' lo hi v l :=
  ⟨h.1.kept hk (fun k e => hs k (h.2.1 k e).1 (h.2.1 k e).2), h.2.1, h.2.2⟩
theorem RdI.mono {w : World} {lo hi lo' hi' : Nat} {v : Value} {l : List Int} (h : RdI w lo hi v l) (h1 : lo' ≤ lo) (h2 : hi ≤ hi') : RdI w lo' hi' v l :=
  ⟨h.1, fun k e => ⟨Nat.le_trans h1 (h.2.1 k e).1, Nat.lt_of_lt_of_le (h.2.1 k e).2 h2⟩, h.2.2⟩
theorem RdI.nil (w : World) (lo hi : Nat) : RdI w lo hi (.slice none 0 0) [] := ⟨.inl ⟨rfl, rfl⟩, (fun k e => by cases e), by simp⟩
theorem eqRdI {v v' : Value} {l : List Int} {w : World} {lo hi lo' hi' : Nat} (h : RdI w lo hi v l) (h' : RdI w lo' hi' v' l) :
    Calls Try.prog 15 #[v, v'] w fun e w' => e = .returned (.bool true) ∧ Below w.heap.size w w' := eqI v v' l w h.1 h'.1 (by have := h.2.2; omega)
/-- v is the list l in memory of the call's own, a row in one block from lo to below hi. -/
def OwI (w : World) (lo hi : Nat) (v : Value) (l : List Int) : Prop :=
  ((v = .slice none 0 0 ∧ l = []) ∨ ∃ (c cap N : Nat) (f : Nat → Value), v = .slice (some ⟨c, 0, none⟩) l.length cap ∧ lo ≤ c ∧ c < hi ∧ l.length ≤ N ∧ w.rowIs c 2 N f ∧ ∀ i, i < l.length → f i = .int .i64 (l.getD i 0)) ∧ l.length ≤ 1048576
theorem OwI.rd {w : World} {lo hi : Nat} {v : Value} {l : List Int} (h : OwI w lo hi v l) : RdI w lo hi v l := by
  obtain ⟨h | ⟨c, cap, N, f, rfl, h1, h2, h3, h4, h5⟩, hl⟩ := h
  · exact ⟨.inl h, (fun k e => by obtain ⟨rfl, -⟩ := h; cases e), hl⟩
  · refine ⟨.inr ⟨_, cap, rfl, fun _ => h4.lt, fun i hi => ?_⟩, fun k e => ?_, hl⟩
    · rw [Addr.add_lit, Nat.zero_add, h4.cell (i := i) (by omega), h5 i hi]
    · have e : c = k := by simpa [Value.ownBlock] using e
      omega
theorem OwI.below {w w' : World} {lo hi : Nat} {v : Value} {l : List Int} (h : OwI w lo hi v l) (hb : Below w.heap.size w w') : OwI w' lo hi v l := by
  obtain ⟨h | ⟨c, cap, N, f, rfl, h1, h2, h3, h4, h5⟩, hl⟩ := h
  · exact ⟨.inl h, hl⟩
  · exact ⟨.inr ⟨c, cap, N, f, rfl, h1, h2, h3, h4.of_block (hb.block c h4.lt), h5⟩, hl⟩
theorem OwI.kept {w w' : World} {lo hi : Nat} {v : Value} {l : List Int} {S : Nat → Prop} (h : OwI w lo hi v l) (hk : Kept w w' S) (hs : ∀ b, lo ≤ b → b < hi → ¬ S b) : OwI w' lo hi v l := by
  obtain ⟨h | ⟨c, cap, N, f, rfl, h1, h2, h3, h4, h5⟩, hl⟩ := h
  · exact ⟨.inl h, hl⟩
  · exact ⟨.inr ⟨c, cap, N, f, rfl, h1, h2, h3, hk.row h4 (hs c h1 h2), h5⟩, hl⟩
theorem OwI.mono {w : World} {lo hi lo' hi' : Nat} {v : Value} {l : List Int} (h : OwI w lo hi v l) (e1 : lo' ≤ lo) (e2 : hi ≤ hi') : OwI w lo' hi' v l := by
  obtain ⟨h | ⟨c, cap, N, f, rfl, h1, h2, h3, h4, h5⟩, hl⟩ := h
  · exact ⟨.inl h, hl⟩
  · exact ⟨.inr ⟨c, cap, N, f, rfl, by omega, by omega, h3, h4, h5⟩, hl⟩
theorem OwI.nil (w : World) (lo hi : Nat) : OwI w lo hi (.slice none 0 0) [] := ⟨.inl ⟨rfl, rfl⟩, by simp⟩
theorem OwnI.ow {w : World} {c : Nat} {l : List Int} (h : OwnI w c l) (cap lo hi : Nat) (h1 : lo ≤ c) (h2 : c < hi) (hl : l.length ≤ 1048576) : OwI w lo hi (.slice (some ⟨c, 0, none⟩) l.length cap) l :=
  ⟨.inr ⟨c, cap, l.length, _, rfl, h1, h2, Nat.le_refl _, h, fun i hi => rfl⟩, hl⟩
/-- What append has made of a slice of the call's own. -/
theorem ow_of_own {w : World} {base hi : Nat} {v : Value} {l : List Int} (h : w.ownsRow base 2 1 v l.length (l.map (Value.int .i64))) (hh : w.heap.size ≤ hi) (hl : l.length ≤ 1048576) : OwI w base hi v l := by
  obtain ⟨_, h⟩ := h
  rcases h with ⟨rfl, h0⟩ | ⟨g, cap, cur, rfl, hb, hg, hn, hcap, hs, ht⟩
  · exact ⟨.inl ⟨rfl, List.eq_nil_of_length_eq_zero h0⟩, hl⟩
  · have hlt : g < w.heap.size := (Array.getElem?_eq_some_iff.1 hg).1
    refine ⟨.inr ⟨g, cap, cur.size, fun i => (cur[i]?).getD (.bool false), rfl, hb, by omega, ?_, ?_, fun i hi => ?_⟩, hl⟩
    · omega
    · exact ⟨cur, hg, rfl, fun i hi => by simp [hi]⟩
    · have h1 : (cur.toList.take (l.length * 1))[i]? = (l.map (Value.int .i64))[i]? := by rw [ht]
      rw [Nat.mul_one, List.getElem?_take_of_lt hi, Array.getElem?_toList] at h1
      simp [h1, List.getD, hi]
/-- Marks from k to below r lie in the list at v. -/
def MkI (w : World) (lo hi : Nat) (v : Value) (k r : Int) : Prop :=
  (∃ a cap, v = .slice a 0 cap ∧ r = k) ∨ ∃ (c n cap N : Nat) (f : Nat → Value), v = .slice (some ⟨c, 0, none⟩) n cap ∧ lo ≤ c ∧ c < hi ∧ n ≤ N ∧ n ≤ 1048576 ∧ w.rowIs c 2 N f ∧ (∀ i, i < n → f i = .int .i64 (k + i)) ∧ r = k + n
theorem MkI.below {w w' : World} {lo hi : Nat} {v : Value} {k r : Int} (h : MkI w lo hi v k r) (hb : Below w.heap.size w w') : MkI w' lo hi v k r := by
  rcases h with h | ⟨c, n, cap, N, f, rfl, h1, h2, h3, h0, h4, h5, h6⟩
  · exact .inl h
  · exact .inr ⟨c, n, cap, N, f, rfl, h1, h2, h3, h0, h4.of_block (hb.block c h4.lt), h5, h6⟩
/-- The copy of a list of numbers. -/
def CpI (w : World) (lo hi : Nat) (v : Value) (l : List Int) : Prop := v = .slice (some ⟨lo, 0, none⟩) l.length l.length ∧ OwnI w lo l ∧ lo < hi ∧ l.length ≤ 1048576
theorem CpI.below {w w' : World} {lo hi : Nat} {v : Value} {l : List Int} (h : CpI w lo hi v l) (hb : Below w.heap.size w w') : CpI w' lo hi v l := ⟨h.1, h.2.1.below hb, h.2.2⟩
theorem CpI.ow {w : World} {lo hi : Nat} {v : Value} {l : List Int} (h : CpI w lo hi v l) : OwI w lo hi v l := by
  obtain ⟨rfl, h1, h2, h3⟩ := h
  exact h1.ow _ _ _ (Nat.le_refl _) h2 h3
theorem eqCpI {v v' : Value} {l : List Int} {w : World} {lo hi lo' hi' : Nat} (h : CpI w lo hi v l) (h' : CpI w lo' hi' v' l) :
    Calls Try.prog 15 #[v, v'] w fun e w' => e = .returned (.bool true) ∧ Below w.heap.size w w' := eqRdI h.ow.rd h'.ow.rd
theorem toCpI (v : Value) (l : List Int) (w : World) (h : RowV w v l) (hl : l.length ≤ 1048576) :
    Calls Try.prog 12 #[v] w fun e w' => ∃ u, e = .returned u ∧ CpI w' w.heap.size w'.heap.size u l ∧ Below w.heap.size w w' :=
  (toI v l w h hl).mono fun e w' ⟨he, ho, hb⟩ => ⟨_, he, ⟨rfl, ho, World.rowIs.lt ho, hl⟩, hb⟩
end Go.Proofs.Ytkaakomiimcbmaa
