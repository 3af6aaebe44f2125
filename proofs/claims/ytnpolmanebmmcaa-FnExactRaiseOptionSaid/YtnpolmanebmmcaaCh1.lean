/- A profile with changed rankings, for any function that changes a copy. -/
import Derived.Test.YtnpolmanebmmcaaRk
import Derived.Test.YtnpolmanebmmcaaVr1
namespace Go.Proofs.Ytnpolmanebmmcaa
open Go.ChangeShapes Go.WideShapes Go.ChangeAt Go.RowKit Go.Deep
set_option linter.unusedSimpArgs false
set_option linter.unusedVariables false
theorem ow_of_copyR {w w' : World} {g cap : Nat} {l : List Int} (h1 : w.heap.size ≤ g) (h2 : g < w'.heap.size) (h : w'.ownsRow w.heap.size 2 1 (.slice (some ⟨g, 0, none⟩) l.length cap) l.length (l.map (Value.int .i64))) (hl : l.length ≤ 1048576) : OwI w' w.heap.size w'.heap.size (.slice (some ⟨g, 0, none⟩) l.length cap) l := by
  obtain ⟨_, ⟨q, -⟩ | ⟨g', cap', cur, q, hb, hg, hn, hcap, hs, ht⟩⟩ := h
  · cases q
  · simp only [Value.slice.injEq, Option.some.injEq, Addr.mk.injEq] at q
    obtain ⟨⟨rfl, -⟩, -, rfl⟩ := q
    refine ⟨.inr ⟨g, cap, cur.size, fun i => (cur[i]?).getD (.bool false), rfl, h1, h2, by omega, ⟨cur, hg, rfl, fun i hi => by simp [hi]⟩, fun i hi => ?_⟩, hl⟩
    have h3 : (cur.toList.take (l.length * 1))[i]? = (l.map (Value.int .i64))[i]? := by rw [ht]
    rw [Nat.mul_one, List.getElem?_take_of_lt hi, Array.getElem?_toList] at h3
    show (cur[i]?).getD (.bool false) = _
    rw [h3]
    simp [List.getD, hi]
theorem cap_of_copy {w' : World} {B g cap : Nat} {l : List Int} (h : w'.ownsRow B 2 1 (.slice (some ⟨g, 0, none⟩) l.length cap) l.length (l.map (Value.int .i64))) : l.length ≤ cap := by
  obtain ⟨_, ⟨q, -⟩ | ⟨g', cap', cur, q, hb, hg, hn, -⟩⟩ := h
  · cases q
  · simp only [Value.slice.injEq, Option.some.injEq, Addr.mk.injEq] at q
    obtain ⟨⟨rfl, -⟩, -, rfl⟩ := q
    exact hn
/-- The first k rows are laid, each in memory of its own made since. -/
structure ChJ (wr : World) (b n k : Nat) (T : List (List Int)) (f : Nat → Value) : Prop where
  row : wr.rowIs b 23 n (fun j => if j < k then f j else .slice none 0 0)
  own : ∀ j, j < k → OwI wr (b + 1) wr.heap.size (f j) (T.getD j [])
  inj : ∀ i j c, i < j → j < k → (f i).ownBlock = some c → (f j).ownBlock ≠ some c
theorem ChJ.step {wr w2 : World} {b n k : Nat} {T : List (List Int)} {f : Nat → Value} {v : Value} (h : ChJ wr b n k T f) (hb : Below wr.heap.size wr w2) (hbw : b < wr.heap.size) (hv : OwI w2 wr.heap.size w2.heap.size v (T.getD k [])) :
    ChJ (w2.setCell ⟨b, k, none⟩ v) b n (k + 1) T (fun j => if j = k then v else f j) := by
  have far : ∀ {lo hi : Nat} {u : Value} {t : List Int}, b < lo → OwI w2 lo hi u t → OwI (w2.setCell ⟨b, k, none⟩ v) lo hi u t := fun hlo hu =>
    hu.block fun c e _ => heap_setCell_other _ _ _ _ (show c ≠ b from fun q => by have := (hu.inb c e).1; omega)
  have hsz : (w2.setCell ⟨b, k, none⟩ v).heap.size = w2.heap.size := by simp [World.setCell]
  refine ⟨((World.rowIs.of_block h.row (hb.block b hbw)).set k v).congr (fun j _ => ?_), fun j hj => ?_, fun i j c hij hj => ?_⟩
  · by_cases e : j = k
    · subst e; simp
    · simp only [if_neg e]
      by_cases q : j < k
      · rw [if_pos q, if_pos (by omega)]
      · rw [if_neg q, if_neg (by omega)]
  · rw [hsz]
    by_cases e : j = k
    · subst e
      simp only [if_pos rfl]
      exact (far hbw hv).mono (by omega) (Nat.le_refl _)
    · simp only [if_neg e]
      exact far (by omega) (((h.own j (by omega)).block fun c _ hc => hb.block c hc).mono (Nat.le_refl _) hb.size)
  · have hi : i ≠ k := by omega
    simp only [if_neg hi]
    by_cases e : j = k
    · simp only [if_pos e]
      intro q1 q2
      have a := ((h.own i (by omega)).inb c q1).2
      have b := (hv.inb c q2).1
      omega
    · simp only [if_neg e]; exact h.inj i j c hij (by omega)
theorem ChJ.below {w w' : World} {b n k : Nat} {T : List (List Int)} {f : Nat → Value} (h : ChJ w b n k T f) (hb : Below w.heap.size w w') : ChJ w' b n k T f :=
  ⟨World.rowIs.of_block h.row (hb.block b h.row.lt), fun j hj => ((h.own j hj).block fun c _ hc => hb.block c hc).mono (Nat.le_refl _) hb.size, h.inj⟩
theorem ChJ.done {w : World} {b n : Nat} {T : List (List Int)} {f : Nat → Value} (h : ChJ w b n n T f) (hT : T.length = n) (hf : FitsJ T) : OwJ w b w.heap.size (.slice (some ⟨b, 0, none⟩) n n) T := by
  subst hT
  refine ⟨.inr ⟨b, T.length, T.length, _, rfl, Nat.le_refl _, h.row.lt, Nat.le_refl _, h.row, fun i hi => ?_, fun i hi => ?_, fun i j c hij hj => ?_⟩, hf⟩
  · simp only [hi, if_true]
    exact (h.own i hi).mono (by omega) (Nat.le_refl _)
  · simp only [hi, if_true]
    intro e
    have := ((h.own i hi).inb b e).1
    omega
  · have hi : i < T.length := by omega
    simp only [hi, hj, if_true]
    exact h.inj i j c hij hj
set_option maxHeartbeats 4000000 in
set_option maxRecDepth 100000 in
theorem ichg (X : Pr) (b c hi : Nat) (w : World) (h : RfR w b c hi X) (hn : X.1.length ≤ 12) (F : FuncId) (HF : ∀ args w, (callFunc F args).run Try.prog w = .ok (.enter F args) w) (caps : Array Value) (T : List (List Int)) (hT : T.length = X.1.length) (fT : FitsJ T)
    (HT : ∀ k wr w1 g cap, k < X.1.length → Below w.heap.size w wr → Below wr.heap.size wr w1 → OwI w1 wr.heap.size w1.heap.size (.slice (some ⟨g, 0, none⟩) (X.1.getD k []).length cap) (X.1.getD k []) → (X.1.getD k []).length ≤ cap → Calls Try.prog F (#[.slice (some ⟨g, 0, none⟩) (X.1.getD k []).length cap] ++ caps) w1 fun e w2 => ∃ v', e = .returned v' ∧ OwI w2 wr.heap.size w2.heap.size v' (T.getD k []) ∧ Below wr.heap.size wr w2) :
    Calls Try.prog 51 #[.agg #[.slice (some ⟨b, 0, none⟩) X.1.length X.1.length, .slice (some ⟨c, 0, none⟩) X.2.length X.2.length], .func (.func F) #[] caps] w fun e w' => (∃ a c', e = .returned (.agg #[a, c']) ∧ OwR w' w.heap.size w'.heap.size a c' (T, X.2)) ∧ Below w.heap.size w w' := by
  have HX := Lib.hid h
  have hf := h.fits
  have HFT := Lib.hid hf.1.2
  have hf2 := hf.2.1
  have HH := Lib.hid HT
  obtain ⟨A, C⟩ := X
  simp only at hn hT hf2 ⊢
  have hmk := run_make_row' (P := Try.prog) 22 23 (.slice none 0 0) 24 Try.underlying22 infoIS rfl .i64 .i64 A.length (by omega) (by omega)
  obtain ⟨W3, hW3⟩ : ∃ W3, W3 = (((w.alloc (.cells #[.slice (some ⟨b, 0, none⟩) A.length A.length, .slice (some ⟨c, 0, none⟩) C.length C.length] 28)).alloc (.cells #[.slice none 0 0, .slice none 0 0] 28)).alloc (.cells (madeCells #[.slice none 0 0] A.length) 23)) := ⟨_, rfl⟩
  have b3 : Below w.heap.size w W3 := by rw [hW3]; exact (((Below.refl _ _).alloc (Nat.le_refl _) _).alloc (by simp) _).alloc (by simp; omega) _
  have p0 : W3.cell? ⟨w.heap.size, 0, none⟩ = some (.slice (some ⟨b, 0, none⟩) A.length A.length) := by rw [hW3]; go_simp
  have p1 : W3.cell? ⟨w.heap.size, 1, none⟩ = some (.slice (some ⟨c, 0, none⟩) C.length C.length) := by rw [hW3]; go_simp
  have r0 : W3.cell? ⟨w.heap.size + 1, 0, none⟩ = some (.slice none 0 0) := by rw [hW3]; go_simp
  have r1 : W3.cell? ⟨w.heap.size + 1, 1, none⟩ = some (.slice none 0 0) := by rw [hW3]; go_simp
  have q0 : W3.frozen? ⟨w.heap.size + 1, 0, none⟩ = false := by rw [hW3]; go_simp
  have q1 : W3.frozen? ⟨w.heap.size + 1, 1, none⟩ = false := by rw [hW3]; go_simp
  have hsz : W3.heap.size = w.heap.size + 3 := by rw [hW3]; simp
  have hC0 : ChJ W3 (w.heap.size + 1 + 1) A.length 0 T (fun _ => .slice none 0 0) := by
    refine ⟨?_, fun j hj => absurd hj (Nat.not_lt_zero _), fun i j c _ hj => absurd hj (Nat.not_lt_zero _)⟩
    have := World.rowIs_made ((w.alloc (.cells #[.slice (some ⟨b, 0, none⟩) A.length A.length, .slice (some ⟨c, 0, none⟩) C.length C.length] 28)).alloc (.cells #[.slice none 0 0, .slice none 0 0] 28)) (.slice none 0 0) A.length 23
    rw [World.size_alloc, World.size_alloc, ← hW3] at this
    exact this.congr fun j _ => by simp
  have HP := Lib.hid (And.intro p0 (And.intro p1 (And.intro r0 (And.intro r1 (And.intro q0 q1)))))
  have HC0 := Lib.hid hC0
  have HB3 := Lib.hid b3
  have HW3 := Lib.hid hW3
  clear h hf HT p0 p1 r0 r1 q0 q1 hC0 b3 hW3
  go_enter Try.func51, Try.ntmps51
  go_wp2
  rw [← HW3.out]
  obtain ⟨B, hBd⟩ : ∃ B, w.heap.size + 1 + 1 = B := ⟨_, rfl⟩
  have HC1 : Hid (ChJ W3 B A.length 0 T (fun _ => .slice none 0 0)) := by rw [← hBd]; exact HC0
  simp only [hBd]
  go_loopg [15] A.length (fun g i wr => ∃ (k : Nat) (f : Nat → Value), k ≤ A.length ∧ g = A.length - k ∧ i = .int .i64 k ∧ Below B W3 wr ∧ B < wr.heap.size ∧ Below w.heap.size w wr ∧ ChJ wr B A.length k T f)
  case atStart => exact ⟨0, _, Nat.zero_le _, rfl, rfl, Below.refl _ _, by omega, HB3.out, HC1.out⟩
  case round =>
    clear HC0 HC1 HB3 hmk HW3
    obtain ⟨k, f, hk, rfl, rfl, hbB, hBs, hb, hC⟩ := hrel
    by_cases hlt : k < A.length
    · obtain ⟨c', a1, a2⟩ := (HX.out.rows.below hb).at (k := k) hlt
      have hlen : (A.getD k []).length ≤ 1048576 := HFT.out k hlt
      have HF1 := HH.out k wr
      simp only at a1 a2 HF1
      obtain ⟨l, hl⟩ : ∃ l, A.getD k [] = l := ⟨_, rfl⟩
      rw [hl] at a1 a2 hlen HF1
      have HCL := clone_any ⟨c', 0, none⟩ l.length l wr (a2.row l.length) hlen
      have s1 := hC.row.cell (i := k) hlt
      have f1 := hC.row.frozen k
      simp only [Nat.lt_irrefl, if_false] at s1
      have HCC := Lib.hid hC
      have HF2 := Lib.hid HF1
      clear hl a2 hC HF1
      go_wp2_with fail
      refine HCL.mono ?_
      rintro e w1 ⟨⟨g, cp, rfl, g1, g2, hcw⟩, hb1⟩
      have hu := ow_of_copyR g1 g2 hcw hlen
      have HF3 := HF2.out w1 g cp hlt hb hb1 hu (cap_of_copy hcw)
      clear hcw hu HCL HF2
      go_wp2_with fail
      refine HF3.mono ?_
      rintro e w2 ⟨v', rfl, hv, hb2⟩
      obtain ⟨av, cv, hvv⟩ := hv.shape
      obtain ⟨n', hn'⟩ : ∃ n', (T.getD k []).length = n' := ⟨_, rfl⟩
      rw [hn'] at hvv
      subst hvv
      clear hn'
      have t1 := (hb2.cell (p := ⟨B, k, none⟩) hBs).trans s1
      have t2 := (hb2.frozen (p := ⟨B, k, none⟩) hBs).trans f1
      have hS := HCC.out.step hb2 hBs hv
      have hB2 := (hbB.trans (hb2.mono (Nat.le_of_lt hBs))).setCell (p := ⟨B, k, none⟩) (Nat.le_refl _) (.slice av n' cv)
      have hBw := (hb.trans (hb2.mono hb.size)).setCell (p := ⟨B, k, none⟩) (by show w.heap.size ≤ B; omega) (.slice av n' cv)
      have hs2 := hb2.size
      have HS := Lib.hid hS
      have HB2 := Lib.hid (And.intro hB2 hBw)
      clear hS hB2 hBw hv hb2 HF3
      go_wp2
      go_roundg (A.length - (k + 1))
      case measure => omega
      case rel => exact ⟨k + 1, _, by omega, rfl, by simp, HB2.out.1, by simp [World.setCell]; omega, HB2.out.2, HS.out⟩
    · obtain rfl : k = A.length := by omega
      obtain ⟨p0, p1, r0, r1, q0, q1⟩ := HP.out
      have z1 := (hbB.cell (p := ⟨w.heap.size, 1, none⟩) (by show w.heap.size < B; omega)).trans p1
      have HCW := clone_any ⟨c, 0, none⟩ C.length C wr ((HX.out.wts.below hb).row C.length) hf2
      have hO := hC.done hT fT
      have HOO := Lib.hid hO
      have HPP := Lib.hid (And.intro r0 (And.intro r1 (And.intro q0 q1)))
      clear p0 p1 r0 r1 q0 q1 hC hO
      go_wp2_with fail
      refine HCW.mono ?_
      rintro e w1 ⟨⟨g, cp, rfl, g1, g2, hcw⟩, hb1⟩
      have hu := ow_of_copyR g1 g2 hcw hf2
      obtain ⟨r0, r1, q0, q1⟩ := HPP.out
      have hRB : w.heap.size + 1 < B := by omega
      have hb1' := hb1.mono (Nat.le_of_lt hBs)
      have r0' := (hb1'.cell (p := ⟨w.heap.size + 1, 0, none⟩) hRB).trans ((hbB.cell (p := ⟨w.heap.size + 1, 0, none⟩) hRB).trans r0)
      have r1' := (hb1'.cell (p := ⟨w.heap.size + 1, 1, none⟩) hRB).trans ((hbB.cell (p := ⟨w.heap.size + 1, 1, none⟩) hRB).trans r1)
      have q0' := (hb1'.frozen (p := ⟨w.heap.size + 1, 0, none⟩) hRB).trans ((hbB.frozen (p := ⟨w.heap.size + 1, 0, none⟩) hRB).trans q0)
      have q1' := (hb1'.frozen (p := ⟨w.heap.size + 1, 1, none⟩) hRB).trans ((hbB.frozen (p := ⟨w.heap.size + 1, 1, none⟩) hRB).trans q1)
      have hO1 := HOO.out.below hb1
      have hbw := hb.trans (hb1.mono hb.size)
      have hw1 := hb.size
      have hs1 := hb1.size
      obtain ⟨H, hH⟩ : ∃ H, wr.heap.size = H := ⟨_, rfl⟩
      rw [hH] at hO1 hu g1 hs1 hw1 hBs
      have HF := Lib.hid (And.intro hO1 (And.intro hu hbw))
      clear hO1 hu hbw hcw HOO r0 r1 q0 q1 hb1 hb1' HCW z1 hbB hb HPP HP hH
      go_wp2
      refine bodyPost_ret (v := .agg #[.slice (some ⟨B, 0, none⟩) A.length A.length, .slice (some ⟨g, 0, none⟩) C.length cp]) (by simp [results, Try.results51, go_sem, r0', r1']) rfl ⟨⟨_, _, rfl, H, by omega, ?_, ?_, ?_⟩, ?_⟩
      · simp [World.setCell]; omega
      · refine OwJ.mono (lo := B) (hi := H) ?_ (by omega) (Nat.le_refl _)
        iterate 2 refine OwJ.other ?_ (by show _ + _ < _; omega) _
        exact HF.out.1
      · have far : ∀ (W : World) (o : Nat) (u : Value), OwI W H w1.heap.size (.slice (some ⟨g, 0, none⟩) C.length cp) C → OwI (W.setCell ⟨w.heap.size + 1, o, none⟩ u) H w1.heap.size (.slice (some ⟨g, 0, none⟩) C.length cp) C := fun W o u hW =>
          hW.block fun d e _ => heap_setCell_other _ _ _ _ (show d ≠ w.heap.size + 1 from fun q => by have := (hW.inb d e).1; omega)
        refine OwI.mono (lo := H) (hi := w1.heap.size) ?_ (Nat.le_refl _) (by simp [World.setCell])
        iterate 2 refine far _ _ _ ?_
        exact HF.out.2.1
      · iterate 2 refine Below.setCell ?_ (by show _ ≤ _ + _; omega) _
        exact HF.out.2.2
end Go.Proofs.Ytnpolmanebmmcaa
