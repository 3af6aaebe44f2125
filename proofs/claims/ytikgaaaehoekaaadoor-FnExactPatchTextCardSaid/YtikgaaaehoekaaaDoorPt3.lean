/- PatchText: the lines of a list of edits (strings.Builder): the program's call by its contract. -/
import Derived.Test.YtikgaaaehoekaaaDoorPt2
import Derived.Test.YtikgaaaehoekaaaDoorK7
namespace Go.Proofs.YtikgaaaehoekaaaDoor
open Go.ChangeShapes Go.WideShapes Go.ChangeAt Go.RowKit Go.Deep
set_option linter.unusedSimpArgs false
set_option linter.unusedVariables false
set_option maxRecDepth 100000
theorem bc_step (l A : List UInt8) : Lib.byteCells l ++ Lib.strCells (bytesOf A) ++ [.int .u8 10] = Lib.byteCells (l ++ (A ++ [10])) := by
  simp [Lib.byteCells, Lib.strCells, bytesOf]
set_option maxHeartbeats 4000000 in
theorem itolE (L : List Ed) (b cap : Nat) (w : World) (h : Es w b L) (hl : L.length ≤ 16) (hs : ∀ k, k < L.length → smE (L.getD k e0) ∧ ((L.getD k e0).1 = 1 ∨ (L.getD k e0).1 = 2 ∨ (L.getD k e0).1 = 3)) (hg : PowT w) :
    Calls Tryd.prog 14 #[.slice (some ⟨b, 0, none⟩) L.length cap, .func (.func 15) #[] #[]] w fun e w' => e = .returned (.string (bytesOf (etl L L.length))) ∧ Below w.heap.size w w' := by
  have hal := etl_len (fun k hk => (hs k hk).1)
  have HAL := Lib.hid hal
  have HS := Lib.hid hs
  have HG := Lib.hid hg
  have HX := Lib.hid h
  have hqs : ∀ k, etl L (k + 1) = etl L k ++ (eline (L.getD k e0) ++ [10]) := fun k => rfl
  have hq0 : etl L 0 = [] := rfl
  generalize etl L = P at HAL hqs hq0 ⊢
  have HQ := Lib.hid hqs
  have HQ0 := Lib.hid hq0
  have hf := Lib.hid (Lib.fresh_isBuilder 49 5 w)
  clear hal hs hg h hqs hq0
  go_enter Tryd.func14, Tryd.ntmps14
  go_wp2
  go_loopg [10] L.length (fun g i wr => ∃ k : Nat, k ≤ L.length ∧ g = L.length - k ∧ i = .int .i64 (k : Int) ∧ Hid (IsBd w.heap.size w.heap.size (Lib.byteCells (P k)) wr) ∧ Below w.heap.size w wr)
  case atStart => exact ⟨0, Nat.zero_le _, rfl, rfl, Lib.hid (by rw [HQ0.out]; exact hf.out), (Below.refl _ _).alloc (Nat.le_refl _) _⟩
  case round =>
    obtain ⟨k, hk, rfl, rfl, HB, hb⟩ := hrel
    have hsz := hb.size
    by_cases hlt : k < L.length
    · obtain ⟨a1, a2, a3, a4⟩ := (HX.out.below hb).at hlt
      obtain ⟨hsm, hkk⟩ := HS.out k hlt
      have hpl := HAL.out k hk
      have hqs := HQ.out k
      have lb := (HX.out.below hb).lt
      obtain ⟨q, hq⟩ : ∃ q, L.getD k e0 = q := ⟨_, rfl⟩
      rw [hq] at a1 a2 a3 a4 hsm hqs hkk
      obtain ⟨kd, y, t, u⟩ := q
      simp only at a1 a2 a3 a4 hkk
      have hll := eline_len hsm
      have bq := (Below.refl wr.heap.size wr).alloc (Nat.le_refl _) (.cells #[.int .i64 kd, .int .i64 y, .string t, .string u] 35)
      have HD := ieline kd y t u _ hsm hkk ((HG.out.below hb).below bq)
      obtain ⟨A, hA⟩ : ∃ A, eline (kd, y, t, u) = A := ⟨_, rfl⟩
      rw [hA] at HD hqs hll
      obtain ⟨l, hl⟩ : ∃ l, P k = l := ⟨_, rfl⟩
      rw [hl] at HB hpl hqs
      have hbc := bc_step l A
      rw [← hqs] at hbc
      have HBC := Lib.hid hbc
      have BQ := Lib.hid bq
      have hA2 : (bytesOf A).size = A.length := rfl
      have HA2 := Lib.hid hA2
      have hcl : (Lib.byteCells l).length = l.length := Lib.byteCells_length l
      have hcs : (Lib.strCells (bytesOf A)).length = A.length := by rw [Lib.strCells_length]; rfl
      have HW := fun w' (hw : Below wr.heap.size wr w') => wstr w.heap.size w.heap.size (Lib.byteCells l) (bytesOf A) w' (HB.out.below hw) (by rw [hcl, hA2]; omega) (by have := hw.size; omega)
      have HY := fun w' (hw : IsBd w.heap.size w.heap.size (Lib.byteCells l ++ Lib.strCells (bytesOf A)) w') (h2 : w.heap.size ≤ w'.heap.size) => wbyte w.heap.size w.heap.size _ 10 w' hw (by rw [List.length_append, hcl, hcs]; omega) h2
      have hbl : w.heap.size ≤ wr.heap.size := hsz
      clear hq hsm hkk hqs hA hl hbc bq hA2 hcl hcs hpl hll HB
      go_wp2_with fail
      refine HD.mono ?_
      rintro e w5 ⟨rfl, hb5⟩
      have b5 := BQ.out.trans (hb5.mono BQ.out.size)
      have HW5 := HW _ b5
      have B5 := Lib.hid (hb.trans (b5.mono hsz))
      have s5 := b5.size
      clear HD HW hb5 b5
      go_wp2_with fail
      refine HW5.mono ?_
      rintro e w6 ⟨rfl, i6, hb6⟩
      have s6 := hb6.size
      have HY6 := HY _ i6 (by omega)
      have B6 := Lib.hid (B5.out.trans hb6)
      clear HW5 HY i6 hb6
      go_wp2_with fail
      refine HY6.mono ?_
      rintro e w7 ⟨rfl, i7, hb7⟩
      have I7 := Lib.hid i7
      have B7 := Lib.hid (B6.out.trans hb7)
      clear HY6 i7 hb7
      go_wp2
      go_roundg (L.length - (k + 1))
      case measure => omega
      case rel => exact ⟨k + 1, by omega, rfl, by simp, Lib.hid (by rw [← HBC.out]; exact I7.out), B7.out⟩
    · obtain rfl : k = L.length := by omega
      have HE := Tryd.Builder_String_any w.heap.size w.heap.size (P L.length) wr HB.out hsz
      clear HB
      go_wp2_with fail
      refine HE.mono ?_
      rintro e w5 ⟨rfl, hb5⟩
      go_wp2
      go_ret
      exact ⟨rfl, hb.trans hb5⟩
set_option maxHeartbeats 2000000 in
theorem iPTx (L : List Ed) (w : World) (lo hi : Nat) (u : Value) (c : CpD w lo hi u L) (hg : PowT w) : Calls Tryd.prog 7 #[u] w (Psb (mPTx L) w) := by
  obtain ⟨rfl, h1, -, hf⟩ := c
  have HS := ipatch L lo L.length w h1 (fun k hk => hf.2 k hk) hf.1
  unfold Psb mPTx
  obtain ⟨z, hz⟩ : ∃ z, patB L = z := ⟨_, rfl⟩
  rw [hz] at HS ⊢
  cases z with
  | false =>
    rw [if_neg (by simp)]
    clear h1 hg hf
    go_enter Tryd.func7, Tryd.ntmps7
    go_wp2_with fail
    refine HS.mono ?_
    rintro e w1 ⟨rfl, hb1⟩
    go_wp2
    go_ret2
    exact ⟨rfl, hb1⟩
  | true =>
    obtain ⟨s1, s2⟩ := pat_small (patB_iff.1 hz)
    rw [if_pos rfl]
    have HT := fun w' (hw : Below w.heap.size w w') => itolE L lo L.length w' (h1.below hw) s1 (fun k hk => ⟨(s2 k hk).1, (s2 k hk).2.imp (fun h => h.1) (fun h => h.imp (fun h => h.1) (fun h => h.1))⟩) (hg.below hw)
    generalize etl L L.length = T at HT ⊢
    clear h1 hg hf s1 s2 hz
    go_enter Tryd.func7, Tryd.ntmps7
    go_wp2_with fail
    refine HS.mono ?_
    rintro e w1 ⟨rfl, hb1⟩
    have HT1 := HT _ hb1
    clear HT
    go_wp2_with fail
    refine HT1.mono ?_
    rintro e w2 ⟨rfl, hb2⟩
    go_wp2
    go_ret2
    exact ⟨rfl, hb1.trans (hb2.mono hb1.size)⟩
end Go.Proofs.YtikgaaaehoekaaaDoor
