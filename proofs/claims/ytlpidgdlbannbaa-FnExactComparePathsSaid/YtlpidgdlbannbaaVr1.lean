/- Copies of lists of numbers: the specification's l00Own, slices.Clone. -/
import Derived.Test.YtlpidgdlbannbaaVq4
import Derived.Deep.AppendLies
namespace Go.Proofs.Ytlpidgdlbannbaa
open Go.ChangeShapes Go.WideShapes Go.ChangeAt Go.RowKit Go.Deep
set_option linter.unusedSimpArgs false
set_option linter.unusedVariables false
/-- A copy of l, in a block of the call's own. -/
def CopyP (l : List Int) (w : World) (e : Ending) (w' : World) : Prop :=
  (∃ g cap, e = .returned (.slice (some ⟨g, 0, none⟩) l.length cap) ∧ w.heap.size ≤ g ∧ g < w'.heap.size ∧ w'.ownsRow w.heap.size 2 1 (.slice (some ⟨g, 0, none⟩) l.length cap) l.length (l.map (Value.int .i64))) ∧ Below w.heap.size w w'
theorem copy_of {l : List Int} {w w0 w' : World} {v' : Value} (h : w'.ownsRow w.heap.size 2 1 v' l.length (l.map (Value.int .i64))) (hn : v' ≠ .slice none 0 0) (hb : Below w.heap.size w w') : CopyP l w (.returned v') w' := by
  have h0 := h
  obtain ⟨_, h1⟩ := h0
  rcases h1 with ⟨h1, _⟩ | ⟨g, cap, cur, rfl, hg, hc, _⟩
  · exact absurd h1 hn
  · exact ⟨⟨g, cap, rfl, hg, (Array.getElem?_eq_some_iff.1 hc).1, h⟩, hb⟩
set_option maxRecDepth 100000 in
theorem own_any (x : Addr) (cap : Nat) (l : List Int) (w : World) (h : RowV w (.slice (some x) l.length cap) l) (hl : l.length ≤ 1048576) :
    Calls Try.prog 117 #[.slice (some x) l.length cap] w (CopyP l w) := by
  obtain ⟨i0, hi, hz0, hz1, hz2⟩ := info_parts infoI
  have hown0 : (w.alloc (.cells #[] 2)).ownsRow w.heap.size 2 1 (.slice (some ⟨w.heap.size, 0, none⟩) 0 0) 0 [] := World.ownsRow_lit w #[] 0 (Nat.le_refl _) (by unfold maxLen; omega) rfl
  have hb0 : Below w.heap.size w (w.alloc (.cells #[] 2)) := (Below.refl _ _).alloc (Nat.le_refl _) _
  have hnews : ∀ j u, (l.map (Value.int .i64))[j]? = some u → (w.alloc (.cells #[] 2)).cell? (x.add j) = some u := by
    intro j u hj
    have hlen : j < l.length := by
      have := (List.getElem?_eq_some_iff.1 hj).1
      simpa using this
    rcases h.below hb0 with ⟨h1, _⟩ | ⟨y, c, h1, _, hc⟩
    · cases h1
    · simp only [Value.slice.injEq, Option.some.injEq] at h1
      obtain ⟨rfl, -, -⟩ := h1
      rw [hc j hlen]
      simp [hlen] at hj
      simp [List.getD, hlen, hj]
  have hone : ∀ u ∈ l.map (Value.int .i64), u.oneCell' = true := by
    intro u hu
    obtain ⟨z, _, rfl⟩ := List.mem_map.1 hu
    rfl
  have HN := Lib.hid hnews
  have HO := Lib.hid hone
  clear hnews hone h
  go_enter Try.func117, Try.ntmps117
  go_wp2_with (first
    | (at_builtin; refine wpList_append_own _ rfl _ _ 29 rfl w.heap.size 2 i0 (.int .i64 0) 1 8 Try.underlying29 hi hz0 hz1 hz2 rfl (by decide) _ _ _ rfl hown0 x l.length cap (l.map (Value.int .i64)) rfl ?c1 HN.out HO.out ?c3 ?c4 ?c5 ?_)
    | go_in)
  case c1 => simp
  case c3 => unfold maxLen; omega
  case c4 => omega
  case c5 => simp
  · intro v' w2 hown' hgrow hnil
    have hb2 := hb0.grown hgrow (by simp) (fun k hk => by cases hk; exact Nat.le_refl _)
    have hC := copy_of hown' hnil hb2 (w0 := w)
    clear hown' hgrow hnil hown0
    go_wp2
    go_ret
    exact hC
set_option maxRecDepth 100000 in
theorem clone_any (x : Addr) (cap : Nat) (l : List Int) (w : World) (h : RowV w (.slice (some x) l.length cap) l) (hl : l.length ≤ 1048576) :
    Calls Try.prog 72 #[.slice (some x) l.length cap] w (CopyP l w) := by
  have heq : ∀ w : World, Sem.run Try.prog (binOp BinOp.eql 29 (.slice (some x) l.length cap) (.slice none 0 0)) w = .ok (.bool false) w := fun w => by
    first | rfl | kernel_rfl | (unfold binOp; simp [Try.underlying29, go_sem]; done)
  obtain ⟨i0, hi, hz0, hz1, hz2⟩ := info_parts infoI
  have hown0 : (w.alloc (.cells #[] 2)).ownsRow w.heap.size 2 1 (.slice (some ⟨w.heap.size, 0, none⟩) 0 0) 0 [] := World.ownsRow_lit w #[] 0 (Nat.le_refl _) (by unfold maxLen; omega) rfl
  have hb0 : Below w.heap.size w (w.alloc (.cells #[] 2)) := (Below.refl _ _).alloc (Nat.le_refl _) _
  have hnews : ∀ j u, (l.map (Value.int .i64))[j]? = some u → (w.alloc (.cells #[] 2)).cell? (x.add j) = some u := by
    intro j u hj
    have hlen : j < l.length := by
      have := (List.getElem?_eq_some_iff.1 hj).1
      simpa using this
    rcases h.below hb0 with ⟨h1, _⟩ | ⟨y, c, h1, _, hc⟩
    · cases h1
    · simp only [Value.slice.injEq, Option.some.injEq] at h1
      obtain ⟨rfl, -, -⟩ := h1
      rw [hc j hlen]
      simp [hlen] at hj
      simp [List.getD, hlen, hj]
  have hone : ∀ u ∈ l.map (Value.int .i64), u.oneCell' = true := by
    intro u hu
    obtain ⟨z, _, rfl⟩ := List.mem_map.1 hu
    rfl
  have HN := Lib.hid hnews
  have HO := Lib.hid hone
  clear hnews hone h
  go_enter Try.func72, Try.ntmps72
  go_wp2_with (first
    | (at_builtin; refine wpList_append_own _ rfl _ _ 29 rfl w.heap.size 2 i0 (.int .i64 0) 1 8 Try.underlying29 hi hz0 hz1 hz2 rfl (by decide) _ _ _ rfl hown0 x l.length cap (l.map (Value.int .i64)) rfl ?c1 HN.out HO.out ?c3 ?c4 ?c5 ?_)
    | go_in)
  case c1 => simp
  case c3 => unfold maxLen; omega
  case c4 => omega
  case c5 => simp
  · intro v' w2 hown' hgrow hnil
    have hb2 := hb0.grown hgrow (by simp) (fun k hk => by cases hk; exact Nat.le_refl _)
    have hC := copy_of hown' hnil hb2 (w0 := w)
    clear hown' hgrow hnil hown0
    go_wp2
    go_ret
    exact hC
end Go.Proofs.Ytlpidgdlbannbaa
