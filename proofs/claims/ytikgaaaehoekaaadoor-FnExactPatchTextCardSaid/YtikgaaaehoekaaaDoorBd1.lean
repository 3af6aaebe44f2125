/- strings.Builder in a program whose copy check refuses (the library's layings fall there): copyCheck, WriteString, WriteByte. -/
import Derived.Test.YtikgaaaehoekaaaDoorK2v
import Derived.Lib.Builder
import Derived.Lib.AppendStr
import Derived.Laws.Externs
namespace Go.Proofs.YtikgaaaehoekaaaDoor
open Go.ChangeShapes Go.WideShapes Go.ChangeAt Go.RowKit Go.Deep
set_option linter.unusedSimpArgs false
set_option linter.unusedVariables false
set_option maxRecDepth 100000
abbrev BdAt (B b : Nat) (p : Value) (bs : List Value) (w : World) : Prop := Lib.BuilderAt 49 5 B b p bs w
abbrev IsBd (B b : Nat) (bs : List Value) (w : World) : Prop := Lib.IsBuilder 49 5 B b bs w
theorem bdSize : (Tryd.prog.info? 49).map (·.size) = some 2 := by kernel_rfl
theorem bdLies : liesAt Tryd.prog Tryd.prog.depth 49 (2 / Tryd.prog.cellsOf 49) 0 49 1 = true := by kernel_rfl
theorem bdByte : (Tryd.prog.info? 5).map (fun i => (i.zero, i.size, i.bytes)) = some (some (.int .u8 0), 1, 1) := by kernel_rfl
theorem bdNe : (49 : Nat) ≠ 5 := by decide
theorem IsBd.below {B b : Nat} {bs : List Value} {w w' : World} (h : IsBd B b bs w) (hb : Below w.heap.size w w') : IsBd B b bs w' := by
  have q : ∀ p, BdAt B b p bs w → BdAt B b p bs w' := fun p h => by
    have hl := h.lt
    obtain ⟨h1, v, h2, ⟨h0, h3⟩, h4⟩ := h
    refine ⟨h1, v, (hb.block b hl).trans h2, ⟨h0, ?_⟩, h4⟩
    rcases h3 with h | ⟨g, cap, cur, rfl, k1, k2, k3⟩
    · exact .inl h
    · exact .inr ⟨g, cap, cur, rfl, k1, (hb.block g (Array.getElem?_eq_some_iff.1 k2).1).trans k2, k3⟩
  exact h.elim (fun x => .inl (q _ x)) (fun x => .inr (q _ x))
theorem cc_used (b : Nat) (w : World) (h0 : w.cell? ⟨b, 0, none⟩ = some (.pointer (some ⟨b, 0, none⟩))) :
    Calls Tryd.prog 28 #[.pointer (some ⟨b, 0, none⟩)] w fun e w' => e = .returned (.tuple #[]) ∧ w' = w := by
  obtain ⟨j, hj, -⟩ := Option.map_eq_some_iff.1 bdSize
  have R := Lib.run_neq_ptr_same w ⟨b, 0, none⟩ Tryd.underlying46 hj
  go_enter Tryd.func28, Tryd.ntmps28
  go_wp2
  first
    | rw [R]
    | skip
  go_wp2
  go_end0
  exact ⟨rfl, rfl⟩
theorem cc_new (b : Nat) (w : World) (h0 : w.cell? ⟨b, 0, none⟩ = some (.pointer none)) (hs : w.shape? b = some (49, 2)) (hz : w.frozen? ⟨b, 0, none⟩ = false) :
    Calls Tryd.prog 28 #[.pointer (some ⟨b, 0, none⟩)] w fun e w' => e = .returned (.tuple #[]) ∧ w' = w.setCell ⟨b, 0, none⟩ (.pointer (some ⟨b, 0, none⟩)) := by
  obtain ⟨j, hj, hjs⟩ := Option.map_eq_some_iff.1 bdSize
  have r1 : ∀ W : World, W.shape? b = some (49, 2) → (convert 46 62 (.pointer (some ⟨b, 0, none⟩))).run Tryd.prog W = .ok (.pointer (some ⟨b, 0, none⟩)) W :=
    fun W h => Lib.run_to_unsafe W ⟨b, 0, none⟩ Tryd.underlying46 Tryd.underlying62 hj (by rw [hjs]; decide) h (Nat.zero_lt_succ 1)
  have r2 : ∀ W : World, W.shape? b = some (49, 2) → (convert 62 46 (.pointer (some ⟨b, 0, none⟩))).run Tryd.prog W = .ok (.pointer (some ⟨b, 0, none⟩)) W :=
    fun W h => Lib.run_from_unsafe W ⟨b, 0, none⟩ Tryd.underlying62 Tryd.underlying46 hj h bdLies
  have r3 : ∀ W : World, (callFunc 31 #[.pointer (some ⟨b, 0, none⟩)]).run Tryd.prog W = .ok (.value (.pointer (some ⟨b, 0, none⟩))) W := fun W => by
    rw [run_callFunc_extern Tryd.func31 (by kernel_rfl) (by kernel_rfl) (by kernel_rfl) (e := Extern.AbiNoEscape.same) (by kernel_rfl), Lib.run_noEscape]
    rfl
  have R1 := r1 w hs
  have R2 := r2 w hs
  have R3 := r3 w
  clear r1 r2 r3
  go_enter Tryd.func28, Tryd.ntmps28
  go_wp2
  go_end0
  exact ⟨rfl, rfl⟩
theorem ccheck (B b : Nat) (bs : List Value) (w : World) (h : IsBd B b bs w) :
    Calls Tryd.prog 28 #[.pointer (some ⟨b, 0, none⟩)] w fun e w' => e = .returned (.tuple #[]) ∧ BdAt B b (.pointer (some ⟨b, 0, none⟩)) bs w' ∧ Below B w w' := by
  rcases h with h | h
  · exact (cc_new b w h.cell0 h.shape h.frozen0).mono fun e w' ⟨he, hw⟩ => ⟨he, hw ▸ h.used _, hw ▸ (Below.refl B w).setCell (p := ⟨b, 0, none⟩) h.1 _⟩
  · exact (cc_used b w h.cell0).mono fun e w' ⟨he, hw⟩ => ⟨he, hw ▸ h, hw ▸ Below.refl B w⟩
theorem bd_cells {B b : Nat} {v : Value} {w : World} (hb : w.heap[b]? = some (.cells #[.pointer (some ⟨b, 0, none⟩), v] 49 (0, 0))) :
    b < w.heap.size ∧ w.cell? ⟨b, 0, none⟩ = some (.pointer (some ⟨b, 0, none⟩)) ∧ w.cell? ⟨b, 1, none⟩ = some v ∧ w.frozen? ⟨b, 1, none⟩ = false :=
  ⟨(Array.getElem?_eq_some_iff.1 hb).1, by rw [Lib.cell_of_heap hb]; rfl, by rw [Lib.cell_of_heap hb]; rfl, Lib.frozen_of_heap hb 1⟩
set_option maxHeartbeats 2000000 in
/-- WriteString: the bytes behind those that stand there. -/
theorem wstr (B b : Nat) (bs : List Value) (s : ByteArray) (w : World) (h : IsBd B b bs w) (hl : bs.length + s.size ≤ 100000000) (hB : B ≤ w.heap.size) :
    Calls Tryd.prog 21 #[.pointer (some ⟨b, 0, none⟩), .string s] w fun e w' => e = .returned (.tuple #[.int .i64 s.size, .nilIface]) ∧ IsBd B b (bs ++ Lib.strCells s) w' ∧ Below B w w' := by
  obtain ⟨i0, hi, hz0, hz1, hz2⟩ := info_parts bdByte
  have HC := ccheck B b bs w h
  clear h
  go_enter Tryd.func21, Tryd.ntmps21
  go_wp2_with fail
  refine HC.mono ?_
  rintro e w1 ⟨rfl, ⟨g1, v, g2, g3, g4⟩, hb1⟩
  obtain ⟨lt, c0, c1, -⟩ := bd_cells (B := B) g2
  have s1 := hb1.size
  clear HC
  go_wp2_with (at_builtin; refine Lib.wpList_append_own_string _ rfl _ _ 47 9 rfl B 5 i0 Tryd.underlying47 Tryd.underlying9 hi hz0 hz1 hz2 _ _ _ rfl g3 s rfl ?c3 ?c4 ?c5 ?_)
  case c3 => unfold maxLen; omega
  case c4 => omega
  case c5 => omega
  intro v' w2 o2 hg _
  have k2 := (hg.block b lt (fun e => g4 e.symm)).trans g2
  obtain ⟨lt2, d0, d1, f1⟩ := bd_cells (B := B) k2
  have hbw := hb1.grown hg (by omega) (fun x e => (g3.lt x e).1)
  obtain ⟨ao, n', cap, rfl⟩ : ∃ ao n' cap, v' = .slice ao n' cap := by
    rcases o2.2 with ⟨e, -⟩ | ⟨g, cap, cur, e, -⟩
    · exact ⟨_, _, _, e⟩
    · exact ⟨_, _, _, e⟩
  have hput := Lib.BuilderAt.put (T := 49) (e := 5) (bs' := bs ++ Lib.strCells s) g1 k2 (by simpa [Lib.strCells_length] using o2) bdNe
  have HP := Lib.hid hput
  have HW := Lib.hid (hbw.setCell (p := ⟨b, 1, none⟩) g1 (.slice ao n' cap))
  clear hput hbw o2 hg g3 g2 k2 hb1 c0 c1
  go_wp2
  go_ret2
  exact ⟨rfl, .inr HP.out, HW.out⟩
set_option maxHeartbeats 2000000 in
/-- WriteByte: one byte more. -/
theorem wbyte (B b : Nat) (bs : List Value) (c : Int) (w : World) (h : IsBd B b bs w) (hl : bs.length + 1 ≤ 100000000) (hB : B ≤ w.heap.size) :
    Calls Tryd.prog 22 #[.pointer (some ⟨b, 0, none⟩), .int .u8 c] w fun e w' => e = .returned .nilIface ∧ IsBd B b (bs ++ [.int .u8 c]) w' ∧ Below B w w' := by
  obtain ⟨i0, hi, hz0, hz1, hz2⟩ := info_parts bdByte
  have HC := ccheck B b bs w h
  clear h
  go_enter Tryd.func22, Tryd.ntmps22
  go_wp2_with fail
  refine HC.mono ?_
  rintro e w1 ⟨rfl, ⟨g1, v, g2, g3, g4⟩, hb1⟩
  obtain ⟨lt, c0, c1, -⟩ := bd_cells (B := B) g2
  have s1 := hb1.size
  clear HC
  go_wp2_with (at_builtin; refine wpList_append_own _ rfl _ _ 47 rfl B 5 i0 (.int .u8 0) 1 1 Tryd.underlying47 hi hz0 hz1 hz2 rfl (by decide) _ _ _ rfl (g3.alloc _) ⟨w1.heap.size, 0, none⟩ 1 1 [.int .u8 c] rfl rfl ?c1 ?c2 ?c3 ?c4 ?c5 ?_)
  case c1 => exact World.news_of_block (cs := #[.int .u8 c]) (t := 5) (fr := (0, 0)) (heap_alloc_new w1 _)
  case c2 => simp [Value.oneCell']
  case c3 => unfold maxLen; omega
  case c4 => omega
  case c5 => simp; omega
  intro v' w2 o2 hg _
  have k2 := (hg.block b (by simp; omega) (fun e => g4 e.symm)).trans ((Lib.alloc_old w1 _ b lt).trans g2)
  obtain ⟨lt2, d0, d1, f1⟩ := bd_cells (B := B) k2
  have hbw := (hb1.alloc (by omega) (.cells #[.int .u8 c] 5)).grown hg (by simp; omega) (fun x e => (g3.lt x e).1)
  obtain ⟨ao, n', cap, rfl⟩ : ∃ ao n' cap, v' = .slice ao n' cap := by
    rcases o2.2 with ⟨e, -⟩ | ⟨g, cap, cur, e, -⟩
    · exact ⟨_, _, _, e⟩
    · exact ⟨_, _, _, e⟩
  have hput := Lib.BuilderAt.put (T := 49) (e := 5) (bs' := bs ++ [.int .u8 c]) g1 k2 (by simpa using o2) bdNe
  have HP := Lib.hid hput
  have HW := Lib.hid (hbw.setCell (p := ⟨b, 1, none⟩) g1 (.slice ao n' cap))
  clear hput hbw o2 hg g3 g2 k2 hb1 c0 c1
  go_wp2
  go_ret
  exact ⟨rfl, .inr HP.out, HW.out⟩
end Go.Proofs.YtikgaaaehoekaaaDoor
