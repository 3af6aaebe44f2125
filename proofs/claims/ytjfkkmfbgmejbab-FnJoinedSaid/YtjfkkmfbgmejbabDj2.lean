/- Rows of three drawn keys. -/
import Derived.Test.YtjfkkmfbgmejbabDj1
namespace Go.Proofs.Ytjfkkmfbgmejbab
open Go.ChangeShapes Go.WideShapes Go.ChangeAt Go.RowKit Go.Deep
set_option linter.unusedSimpArgs false
set_option linter.unusedVariables false
theorem So.kept {w w' : World} {b len k : Nat} {v : Value} {S : Nat → Prop} (h : So w b v len k) (hk : Kept w w' S) (hs : ∀ c, c ≤ b → ¬ S c) : So w' b v len k :=
  h.belowB (hk.below (B := b + 1) (by have := h.2.2; omega) (fun x e => by have := hs x; by_cases q : x ≤ b; exact absurd e (this q); omega)) (by omega) hk.size
theorem key_kept (b len k : Nat) (v : Value) (w : World) (h : So w b v len k) (hk : k ≤ 890) (hl : len ≤ 1048576) :
    Calls Try.prog 65 #[.pointer (some ⟨b, 0, none⟩)] w (fun e w' => ∃ x, e = .returned (.int .i64 x) ∧ qOk x ∧ So w' b v len (k + 5) ∧ Kept w w' (fun x => x = b)) := by
  have hb := h.2.2
  refine (draw_key b len k v w h hk hl).mono ?_
  rintro e w' ⟨x, rfl, hx, hs, h1, h2, h3⟩
  have B := h1 b (Nat.le_refl _) (by omega)
  exact ⟨x, rfl, hx, hs, ⟨B.os, B.tape, B.output, h3, fun c hc hn => h2 c hc hn⟩⟩
/-- A change of nothing but block b and of blocks made since. -/
def AllQ (l : List Int) : Prop := ∀ i, i < l.length → qOk (l.getD i 0)
theorem AllQ.snoc {l : List Int} {x : Int} (h : AllQ l) (hx : qOk x) : AllQ (l ++ [x]) := fun i hi => by
  have hi' : i < l.length + 1 := by simpa using hi
  by_cases e : i = l.length
  · subst e; simpa [List.getD] using hx
  · have e1 : (l ++ [x]).getD i 0 = l.getD i 0 := by simp [List.getD, List.getElem?_append_left (show i < l.length by omega)]
    rw [e1]; exact h i (by omega)
theorem Kept.allocB {w w' : World} {S : Nat → Prop} (h : Kept w w' S) (o : Obj) : Kept w (w'.alloc o) S :=
  h.trans (Kept.ofBelow ((Below.refl _ _).alloc (Nat.le_refl _) o))
set_option maxHeartbeats 1000000 in
theorem three_any (b len k : Nat) (v : Value) (w : World) (h : So w b v len k) (hk : k ≤ 800) (hl : len ≤ 1048576) :
    Calls Try.prog 27 #[.pointer (some ⟨b, 0, none⟩)] w (fun e w' => ∃ u l, e = .returned u ∧ OwI w' w.heap.size w'.heap.size u l ∧ l.length = 3 ∧ AllQ l ∧ So w' b v len (k + 15) ∧ Kept w w' (fun x => x = b)) := by
  obtain ⟨i0, hinf, hz0, hz1, hz2⟩ := info_parts infoI
  have hb := h.2.2
  have k0 : Kept w (w.alloc (.cells #[] 2)) (fun x => x = b) := (Kept.refl w _).allocB _
  have hown0 : (w.alloc (.cells #[] 2)).ownsRow w.heap.size 2 1 (.slice (some ⟨w.heap.size, 0, none⟩) 0 0) 0 (([] : List Int).map (Value.int .i64)) := World.ownsRow_lit w #[] 0 (Nat.le_refl _) (by unfold maxLen; omega) rfl
  have HS := Lib.hid (h.belowB ((Below.refl w.heap.size w).alloc (Nat.le_refl _) (.cells #[] 2)) hb (by simp))
  clear h
  go_enter Try.func27, Try.ntmps27
  go_wp2
  go_loopg [3, 4] 3 (fun g u nv wr => ∃ (j : Nat) (l : List Int), j ≤ 3 ∧ g = 3 - j ∧ nv = .int .i64 (j : Int) ∧ Hid (l.length = j) ∧ Hid (AllQ l) ∧ Hid (So wr b v len (k + 5 * j)) ∧ wr.ownsRow w.heap.size 2 1 u l.length (l.map (Value.int .i64)) ∧ Kept w wr (fun x => x = b))
  case atStart => exact ⟨0, [], by omega, rfl, rfl, rfl, fun i hi => absurd hi (Nat.not_lt_zero _), HS, hown0, k0⟩
  case round =>
    clear HS hown0 k0
    obtain ⟨j, l, hg, rfl, rfl, hlj, HQ, HS, hown, hkw⟩ := hrel
    have zr := hkw.size
    by_cases hj : (j : Int) < 3
    · have HC := key_kept b len (k + 5 * j) v wr HS.out (by omega) hl
      go_wp2_with fail
      refine HC.mono ?_
      rintro e w5 ⟨x, rfl, hx, hs5, hk5⟩
      have z5 := hk5.size
      have hown5 := own_blockJ hown (fun g hg hlt => hk5.block g hlt (fun q => by have := (hown.lt g hg).1; omega))
      have HS5 := Lib.hid hs5
      have HQ5 := Lib.hid (HQ.out.snoc hx)
      have HK5 := Lib.hid (hkw.trans hk5)
      have sl : (l ++ [x]).length = l.length + 1 := by simp
      have HSL := Lib.hid sl
      clear hs5 hk5 sl hx HC HS
      go_wp2_with (first
        | (at_builtin; refine wpList_append_own _ rfl _ _ 27 rfl w.heap.size 2 i0 (.int .i64 0) 1 8 Try.underlying27 hinf hz0 hz1 hz2 rfl (by decide) _ _ _ rfl (hown5.alloc _) ⟨w5.heap.size, 0, none⟩ 1 1 [.int .i64 x] rfl rfl ?c1 ?c2 ?c3 ?c4 ?c5 ?_))
      case c1 => exact World.news_of_block (cs := #[.int .i64 x]) (t := 2) (fr := (0, 0)) (heap_alloc_new w5 _)
      case c2 => simp [Value.oneCell']
      case c3 => have := hlj.out; unfold maxLen; omega
      case c4 => have := hlj.out; omega
      case c5 => have := hlj.out; simp; omega
      intro v' w6 hown6 hgrow _
      have hB6 : Below w.heap.size w5 w6 := ((Below.refl w.heap.size w5).alloc (by omega) _).grown hgrow (by simp; omega) (fun x e => (hown5.lt x e).1)
      have HS6 := Lib.hid (HS5.out.belowB hB6 hb hB6.size)
      have HK6 : Hid (Kept w w6 (fun x => x = b)) := ⟨hB6.os.trans HK5.out.os, hB6.tape.trans HK5.out.tape, hB6.output.trans HK5.out.output, by have := hB6.size; omega, fun c hc hn => (hB6.block c hc).trans (HK5.out.block c hc hn)⟩
      have HO6 : Hid (w6.ownsRow w.heap.size 2 1 v' (l ++ [x]).length ((l ++ [x]).map (Value.int .i64))) := by rw [HSL.out, List.map_append]; exact hown6
      clear hown6 hgrow hB6
      go_wp2
      go_roundg (3 - (j + 1))
      case measure => omega
      case rel => exact ⟨j + 1, l ++ [x], by omega, by omega, by first | rfl | simp, (by have := hlj.out; show _ = _; rw [HSL.out]; omega), HQ5, (HS6.out.mono (by omega)), HO6.out, HK6.out⟩
    · have e0 : j = 3 := by omega
      subst e0
      go_wp2
      go_ret
      exact ⟨_, rfl, l, ow_of_own hown (Nat.le_refl _) (by have := hlj.out; omega), hlj.out, HQ.out, HS.out, hkw⟩
theorem BldJ.at {w w' : World} {base : Nat} {v : Value} {l : List (List Int)} {f : Nat → Value} (h : BldJ w base v l f) (hb : ∀ c, base ≤ c → c < w.heap.size → w'.heap[c]? = w.heap[c]?) (hs : w.heap.size ≤ w'.heap.size) : BldJ w' base v l f :=
  ⟨own_blockJ h.own fun g hg hlt => hb g (h.own.lt g hg).1 hlt, fun i hi => ((h.rows i hi).block fun c e hc => hb c ((h.rows i hi).inb c e).1 hc).mono (Nat.le_refl _) hs, h.inj⟩
/-- A list in a block made since is appended; blocks below the base may have changed. -/
theorem BldJ.stepA {wr w1 w3 : World} {base : Nat} {v v' u : Value} {l : List (List Int)} {t : List Int} {f : Nat → Value} {o : Obj} (h : BldJ wr base v l f) (hb0 : base ≤ wr.heap.size)
    (hb : ∀ c, base ≤ c → c < wr.heap.size → w1.heap[c]? = wr.heap[c]?) (hz : wr.heap.size ≤ w1.heap.size) (hu : OwI w1 wr.heap.size w1.heap.size u t) (hg : (w1.alloc o).grownBy w3 v.ownBlock) (hown : w3.ownsRow base 27 1 v' (l.length + 1) ((List.range l.length).map f ++ [u])) :
    BldJ w3 base v' (l ++ [t]) (fun i => if i = l.length then u else f i) := by
  have hs : w1.heap.size ≤ w3.heap.size := Nat.le_trans (by simp) hg.size
  have h1 := h.at hb hz
  have move : ∀ x t lo, OwI w1 lo w1.heap.size x t → OwI w3 lo w3.heap.size x t := fun x t lo hx =>
    (hx.block fun c e hc => ((hg.block c (by simp; omega) (fun q => hx.apart h1.own c e q.symm)).trans (blk_alloc_lt _ _ _ hc))).mono (Nat.le_refl _) hs
  refine ⟨?_, fun i hi => ?_, fun i j c hij hj => ?_⟩
  · have e : (List.range (l ++ [t]).length).map (fun i => if i = l.length then u else f i) = (List.range l.length).map f ++ [u] := by
      rw [List.length_append, List.length_singleton, List.range_succ, List.map_append]
      congr 1
      · refine List.map_congr_left fun i hi => ?_
        have : i < l.length := by simpa using hi
        simp [Nat.ne_of_lt this]
      · simp
    rw [e, List.length_append, List.length_singleton]; exact hown
  · have hi' : i < l.length + 1 := by simpa using hi
    by_cases e : i = l.length
    · subst e
      simp only [if_true]
      have e1 : (l ++ [t]).getD l.length [] = t := by simp [List.getD]
      rw [e1]
      exact (move _ _ _ hu).mono hb0 (Nat.le_refl _)
    · simp only [if_neg e]
      have hlt : i < l.length := by omega
      have e1 : (l ++ [t]).getD i [] = l.getD i [] := by simp [List.getD, List.getElem?_append_left hlt]
      rw [e1]
      exact move _ _ _ (h1.rows i hlt)
  · have hj' : j < l.length + 1 := by simpa using hj
    have hi : i ≠ l.length := by omega
    simp only [if_neg hi]
    by_cases e : j = l.length
    · subst e
      simp only [if_true]
      intro q1 q2
      have a := (h.rows i (by omega)).inb c q1
      have b := hu.inb c q2
      omega
    · simp only [if_neg e]; exact h.inj i j c hij (by omega)
def AllQQ (L : List (List Int)) : Prop := ∀ i, i < L.length → (L.getD i []).length = 3 ∧ AllQ (L.getD i [])
theorem AllQQ.snoc {L : List (List Int)} {t : List Int} (h : AllQQ L) (ht : t.length = 3) (hq : AllQ t) : AllQQ (L ++ [t]) := fun i hi => by
  have hi' : i < L.length + 1 := by simpa using hi
  by_cases e : i = L.length
  · subst e
    have e1 : (L ++ [t]).getD L.length [] = t := by simp [List.getD]
    rw [e1]; exact ⟨ht, hq⟩
  · have e1 : (L ++ [t]).getD i [] = L.getD i [] := by simp [List.getD, List.getElem?_append_left (show i < L.length by omega)]
    rw [e1]; exact h i (by omega)
set_option maxHeartbeats 1000000 in
theorem rows_any (v : Value) (len n : Nat) (w : World) (hv : ByteV w.heap.size w v len) (hl : len ≤ 1048576) (hn : n ≤ 50) :
    Calls Try.prog 9 #[v, .int .i64 n] w (fun e w' => ∃ u L, e = .returned u ∧ OwJ w' w.heap.size w'.heap.size u L ∧ L.length = n ∧ AllQQ L ∧ Below w.heap.size w w') := by
  obtain ⟨a, cap, rfl⟩ := hv.shape
  obtain ⟨j0, hj, hy0, hy1, hy2⟩ := info_parts infoIS
  have HV := Lib.hid hv
  clear hv
  go_enter Try.func9, Try.ntmps9
  go_wp2_with fail
  refine (from_any a len cap _).mono ?_
  rintro e w1 ⟨rfl, hs1, hb1⟩
  have hs : So w1 w.heap.size (.slice a len cap) len 0 := ⟨⟨0, 0, Nat.le_refl _, hs1⟩, HV.out.below hb1, World.block_lt_of_cell? _ _ hs1.code⟩
  have zz := hs.2.2
  obtain ⟨b, hb⟩ : ∃ b, w.heap.size = b := ⟨_, rfl⟩
  have HBB := Lib.hid hb
  rw [hb] at hs zz hb1
  have B0 : Below b w (w1.alloc (.cells #[] 27)) := hb1.alloc (by omega) _
  have hB0 := BldJ.start_lit w1 (base := b + 1) (by omega) (fun _ => .slice none 0 0)
  have HS0 := Lib.hid (hs.belowB ((Below.refl w1.heap.size w1).alloc (Nat.le_refl _) (.cells #[] 27)) zz (by simp))
  have zb : b < (w1.alloc (.cells #[] 27)).heap.size := by simp; omega
  clear hs1 hs
  rw [hb]
  go_wp2
  go_loopg [6, 7] n (fun g u i wr => ∃ (k : Nat) (L : List (List Int)) (f : Nat → Value), k ≤ n ∧ g = n - k ∧ i = .int .i64 k ∧ Hid (L.length = k) ∧ Hid (AllQQ L) ∧ b < wr.heap.size ∧ Hid (So wr b (.slice a len cap) len (15 * k)) ∧ BldJ wr (b + 1) u L f ∧ Below b w wr)
  case atStart => exact ⟨0, [], _, Nat.zero_le _, rfl, rfl, rfl, (fun i hi => absurd hi (Nat.not_lt_zero _)), zb, HS0, hB0, B0⟩
  case round =>
    clear hB0 B0 HS0 zb zz
    obtain ⟨k, L, f, hk, rfl, rfl, hlk, HQ, zb, HS, hB, hbw⟩ := hrel
    by_cases hlt : (k : Int) < (n : Int)
    · have HC := three_any b len (15 * k) (.slice a len cap) wr HS.out (by omega) hl
      go_wp2_with fail
      refine HC.mono ?_
      rintro e w5 ⟨u5, l5, rfl, hu5, hl5, hq5, hs5, hk5⟩
      have z5 := hk5.size
      obtain ⟨va, vc, hshape⟩ := hu5.shape
      rw [hl5] at hshape
      subst hshape
      have HQ5 := Lib.hid (HQ.out.snoc hl5 hq5)
      have hbld := fun (w3 : World) v' (hg : _) ho => hB.stepA (v' := v') (w3 := w3) (o := .cells #[.slice va 3 vc] 27) (by omega) (fun c h1 h2 => hk5.block c h2 (fun q => by omega)) z5 hu5 hg ho
      have HBLD := Lib.hid hbld
      have howl := (hB.at (fun c h1 h2 => hk5.block c h2 (fun q => by omega)) z5).own
      have HS5 := Lib.hid hs5
      have HK5 := Lib.hid (hbw.trans (hk5.below (B := b) (by omega) (fun x e => by omega)))
      have HL : Hid (L.length ≤ 50) := Lib.hid (by have := hlk.out; omega)
      clear hs5 hk5 hbld hu5 hq5 HC HS
      go_wp2_with (first
        | (at_builtin; refine wpList_append_own _ rfl _ _ 25 rfl (b + 1) 27 j0 (.slice none 0 0) 1 24 Try.underlying25 hj hy0 hy1 hy2 rfl (by decide) _ _ _ rfl (howl.alloc _) ⟨w5.heap.size, 0, none⟩ 1 1 [.slice va 3 vc] rfl rfl (World.news_of_block (cs := #[.slice va 3 vc]) (t := 27) (fr := (0, 0)) (heap_alloc_new w5 _)) (by simp [Value.oneCell']) (by have := HL.out; unfold maxLen; omega) (by have := HL.out; omega) (by have := HL.out; simp; omega) ?_))
      intro v2 w3 hown4 hgrow4 _
      have hB2 := HBLD.out w3 v2 hgrow4 hown4
      have hb4 : Below (b + 1) w5 w3 := ((Below.refl (b + 1) w5).alloc (by omega) _).grown hgrow4 (by simp; omega) (fun x e => (howl.lt x e).1)
      have HS6 := Lib.hid ((HS5.out.belowB hb4 (by omega) hb4.size).mono (show 15 * k + 15 ≤ 15 * (k + 1) by omega))
      have B6 := HK5.out.trans (hb4.mono (by omega))
      have zb6 : b < w3.heap.size := by have := hb4.size; omega
      have HL6 : Hid ((L ++ [l5]).length = k + 1) := Lib.hid (by have := hlk.out; rw [List.length_append, List.length_singleton]; omega)
      clear hown4 hgrow4 hb4
      go_wp2
      go_roundg (n - (k + 1))
      case measure => omega
      case rel => exact ⟨k + 1, L ++ [l5], _, by omega, rfl, by first | rfl | simp, HL6, HQ5, zb6, HS6, hB2, B6⟩
    · have e0 : k = n := by omega
      subst e0
      go_wp2
      go_ret
      refine ⟨_, rfl, L, ?_, hlk.out, HQ.out, hbw⟩
      exact (hB.done ⟨by have := hlk.out; omega, fun i hi => by have := (HQ.out i hi).1; omega⟩).mono (by omega) (Nat.le_refl _)
end Go.Proofs.Ytjfkkmfbgmejbab
