/- The inverse of a patch: the specification's. -/
import Derived.Test.YtkpnkaihehneiaaDoorIn1
import Derived.Deep.RegionHeld3
namespace Go.Proofs.YtkpnkaihehneiaaDoor
open Go.ChangeShapes Go.WideShapes Go.ChangeAt Go.RowKit Go.Deep
set_option linter.unusedSimpArgs false
set_option linter.unusedVariables false
noncomputable def invE (e : Ed) : Ed := (kindE e.2.2.2 e.2.2.1, e.2.1, e.2.2.2, e.2.2.1)
noncomputable def invs (L : List Ed) : List Ed := L.map invE
theorem invs_len (L : List Ed) : (invs L).length = L.length := by simp [invs]
theorem invs_get (L : List Ed) {k : Nat} (hk : k < L.length) : (invs L).getD k e0 = invE (L.getD k e0) := by simp [invs, List.getD, hk]
theorem invs_take (L : List Ed) {k : Nat} (hk : k < L.length) : invs (L.take (k + 1)) = invs (L.take k) ++ [invE (L.getD k e0)] := by
  unfold invs
  rw [List.take_add_one, List.getElem?_eq_getElem hk, List.map_append]
  simp [List.getD, hk]
theorem edF_ne {e : Ed} (h : edF e) : e.2.2.2 ≠ e.2.2.1 := fun q => ((edF_alt e).1 h).2.2.1 q.symm
theorem info_parts7 {P : Program} {t : TypeId} {z : Value} {s b : Nat} (h : (P.info? t).map (fun i => (i.zero, i.size, i.bytes)) = some (some z, s, b)) : ∃ i, P.info? t = some i ∧ i.zero = some z ∧ i.size = s ∧ i.bytes = b := by
  obtain ⟨i, hi, hzz⟩ := Option.map_eq_some_iff.1 h
  simp only [Prod.mk.injEq] at hzz
  exact ⟨i, hi, hzz.1, hzz.2.1, hzz.2.2⟩
set_option maxHeartbeats 2000000 in
set_option maxRecDepth 100000 in
theorem sinv (L : List Ed) (b cap : Nat) (w : World) (h : Es w b L) (hl : L.length ≤ 1048576) (hok : ∀ k, k < L.length → edF (L.getD k e0)) :
    Calls Tryd.prog 54 #[.slice (some ⟨b, 0, none⟩) L.length cap] w fun e w' => (∃ v, e = .returned v ∧ OwD w' w.heap.size w'.heap.size v (invs L)) ∧ Below w.heap.size w w' := by
  obtain ⟨i0, hi, hz0, hz1, hz2⟩ := info_parts7 infoE
  have HOK := Lib.hid hok
  have HX := Lib.hid h
  have lb2 := h.lt
  have HSS := Lib.hid (fun (i : Int) (a c : ByteArray) w' => sstep i a c w')
  clear hok h
  go_enter Tryd.func54, Tryd.ntmps54
  go_wp2
  have hB0 : BldD (w.alloc (.cells #[] 70)) w.heap.size (.slice (some ⟨w.heap.size, 0, none⟩) 0 0) (invs (L.take 0)) := World.ownsRow_lit w #[] 0 (Nat.le_refl _) (by unfold maxLen; omega) rfl
  have hb0 : Below w.heap.size w (w.alloc (.cells #[] 70)) := (Below.refl _ _).alloc (Nat.le_refl _) _
  go_loopg [3, 4] L.length (fun g v i wr => ∃ k : Nat, k ≤ L.length ∧ g = L.length - k ∧ i = .int .i64 k ∧ BldD wr w.heap.size v (invs (L.take k)) ∧ Below w.heap.size w wr)
  case atStart => exact ⟨0, Nat.zero_le _, rfl, rfl, hB0, hb0⟩
  case round =>
    clear hB0 hb0
    obtain ⟨k, hk, rfl, rfl, hB, hb⟩ := hrel
    by_cases hlt : k < L.length
    · obtain ⟨a1, a2, a3, a4⟩ := (HX.out.below hb).at hlt
      have hne := edF_ne (HOK.out k hlt)
      have hsn := invs_take L hlt
      obtain ⟨q, hq⟩ : ∃ q, L.getD k e0 = q := ⟨_, rfl⟩
      rw [hq] at a1 a2 a3 a4 hne hsn
      obtain ⟨n, y, sa, sb⟩ := q
      simp only at a1 a2 a3 a4 hne
      have HC := HSS.out y sb sa wr.drew
      rw [stepE_ne hne] at HC
      unfold vE at HC
      simp only at HC
      obtain ⟨kk, hkk⟩ : ∃ kk, kindE sb sa = kk := ⟨_, rfl⟩
      have hinv : invE (n, y, sa, sb) = (kk, y, sb, sa) := by unfold invE; simp only; rw [hkk]
      rw [hkk] at HC
      rw [hinv] at hsn
      have HSN := Lib.hid hsn
      have hown := hB
      have hlen : (invs (L.take k)).length = k := by rw [invs_len, List.length_take]; omega
      unfold BldD at hown
      rw [hlen] at hown
      have HB := Lib.hid hB
      have lbs := hb.size
      have av2 : u3.ownBlock ≠ some b := fun e => by have := (hown.lt _ e).1; omega
      have lbw : b < wr.heap.size := by omega
      have hfl : fl (invs (L.take (k + 1))) = fl (invs (L.take k)) ++ [.int .i64 kk, .int .i64 y, .string sb, .string sa] := by rw [hsn, fl_snoc]
      have HFL := Lib.hid hfl
      clear hq hB hne hkk hinv hfl hsn a1
      go_wp2_with fail
      go_region_held3 (fun w' => w'.cell? ⟨b, k * 4 + 1, none⟩ = some (.int .i64 y) ∧ w'.cell? ⟨b, k * 4 + 2, none⟩ = some (.string sa) ∧ w'.cell? ⟨b, k * 4 + 3, none⟩ = some (.string sb))
        (first
          | go_keep
          | (go_split_ands
             refine ⟨?_, ?_, ?_⟩
             · (rw [hb1.cell (by show b < wr.heap.size; exact lbw)]; assumption)
             · (rw [hb1.cell (by show b < wr.heap.size; exact lbw)]; assumption)
             · (rw [hb1.cell (by show b < wr.heap.size; exact lbw)]; assumption))
          | (go_split_ands
             refine ⟨?_, ?_, ?_⟩
             · (rw [hgrow.cell_far _ (by have := hb1.size; simp at this ⊢; omega) (Ne.symm av2)]; assumption)
             · (rw [hgrow.cell_far _ (by have := hb1.size; simp at this ⊢; omega) (Ne.symm av2)]; assumption)
             · (rw [hgrow.cell_far _ (by have := hb1.size; simp at this ⊢; omega) (Ne.symm av2)]; assumption)))
        (first
          | (go_simp; go_at_call 86; refine HC.mono ?_; rintro e w1 ⟨rfl, hb1⟩)
          | (refine step_append_lies _ (by rfl) _ _ _ (by rfl) w.heap.size 70 i0 _ 4 48 Tryd.underlying32 hi hz0 hz1 hz2 rfl (by omega) u3 _ _ (by rfl) ((own_block7 hown fun g _ hg => (hb1.block g (by simpa using hg)).trans rfl).alloc _)
              ⟨w1.heap.size, 0, none⟩ 1 1 [.int .i64 kk, .int .i64 y, .string sb, .string sa] (by rfl) (by rfl) (World.news_of_block (cs := #[.int .i64 kk, .int .i64 y, .string sb, .string sa]) (t := 70) (fr := (0, 0)) (heap_alloc_new w1 _)) (by simp [Value.oneCell'])
              (by omega) (by unfold maxLen; omega) (by omega) (by have := hb1.size; simp at this ⊢; omega) (w1.heap.size + 1) (by simp) ?_; intro gg cap' w3 hown1 hgrow hat hlt'))
      have hbw : Below wr.heap.size wr w1 := (Below.refl _ _).drew.trans hb1
      have HS : Hid (BldD w3 w.heap.size (.slice (some ⟨gg, 0, none⟩) (k + 1) cap') (invs (L.take (k + 1)))) := by
        have e : (invs (L.take (k + 1))).length = k + 1 := by rw [invs_len, List.length_take]; omega
        show w3.ownsRow _ _ _ _ _ _
        rw [e, HFL.out]
        exact hown1
      have hb3 := ((hb.trans (hbw.mono lbs)).alloc (by have := hbw.size; omega) (.cells #[.int .i64 kk, .int .i64 y, .string sb, .string sa] 70)).grown hgrow (by have := hbw.size; simp; omega) (fun x e => (hown.lt x e).1)
      clear hbw hgrow hown1 hat HC hown HFL
      go_wp2
      go_roundg (L.length - (k + 1))
      case measure => omega
      case rel => exact ⟨k + 1, by omega, rfl, by simp, HS.out, hb3⟩
    · have e : k = L.length := by omega
      subst e
      go_wp2
      go_ret
      refine ⟨⟨_, rfl, ?_⟩, hb⟩
      have := hB.done (Nat.le_refl _) (by rw [invs_len, List.length_take]; omega)
      rwa [List.take_length] at this
end Go.Proofs.YtkpnkaihehneiaaDoor
