/- Lists of edits that a call answers: read, compared, marked. -/
import Derived.Test.YtkaakomiimcbmaaDoorK7
import Derived.Test.YtkaakomiimcbmaaDoorMt1
namespace Go.Proofs.YtkaakomiimcbmaaDoor
open Go.ChangeShapes Go.WideShapes Go.ChangeAt Go.RowKit Go.Deep
set_option linter.unusedSimpArgs false
set_option linter.unusedVariables false
theorem Kept.ofBel {w w' : World} {S : Nat → Prop} (h : Below w.heap.size w w') : Kept w w' S := ⟨h.os, h.tape, h.output, h.size, fun b hb _ => h.block b hb⟩
theorem ListE.cons {w : World} {v : Value} {l : List Ed} (h : ListE w v l) (hl : l ≠ []) : ∃ x cap, v = .slice (some x) l.length cap ∧ x.block < w.heap.size ∧ ArgE w x l := by
  rcases h with ⟨_, h⟩ | h
  · exact absurd h hl
  · obtain ⟨x, cap, e, hx, hc⟩ := h
    exact ⟨x, cap, e, hx (List.length_pos_iff.2 hl), hc⟩
set_option maxRecDepth 100000 in
theorem eqLE (v v' : Value) (L : List Ed) (w : World) (h : ListE w v L) (h' : ListE w v' L) (hf : L.length ≤ 1048576) :
    Calls Tryd.prog 53 #[v, v'] w fun e w' => e = .returned (.bool true) ∧ Below w.heap.size w w' := by
  by_cases e : L = []
  · subst e
    obtain ⟨a, cap, rfl⟩ := h.shape
    obtain ⟨a', cap', rfl⟩ := h'.shape
    clear h h'
    go_enter Tryd.func53, Tryd.ntmps53
    go_wp2
    go_loopg [5] 0 (fun g i wr => i = .int .i64 0 ∧ w = wr)
    case atStart => exact ⟨rfl, rfl⟩
    case round =>
      obtain ⟨rfl, rfl⟩ := hrel
      go_wp2
      go_ret
      exact ⟨rfl, Below.refl _ _⟩
  · obtain ⟨x, cap, rfl, hx, hc⟩ := h.cons e
    obtain ⟨x', cap', rfl, hx', hc'⟩ := h'.cons e
    clear h h'
    go_enter Tryd.func53, Tryd.ntmps53
    go_wp2
    go_loopg [5] L.length (fun g i wr => ∃ k : Nat, k ≤ L.length ∧ g = L.length - k ∧ i = .int .i64 k ∧ Below w.heap.size w wr)
    case atStart => exact ⟨0, Nat.zero_le _, rfl, rfl, Below.refl _ _⟩
    case round =>
      obtain ⟨k, hk, rfl, rfl, hb⟩ := hrel
      by_cases hlt : k < L.length
      · obtain ⟨a1, a2, a3, a4⟩ := (hc.below (fun _ => hx) hb) k hlt
        obtain ⟨d1, d2, d3, d4⟩ := (hc'.below (fun _ => hx') hb) k hlt
        have bd : Below wr.heap.size wr wr.drew := (Below.refl _ _).drew
        generalize L.getD k e0 = q at a1 a2 a3 a4 d1 d2 d3 d4
        obtain ⟨n, d, sa, sb⟩ := q
        simp only at a1 a2 a3 a4 d1 d2 d3 d4
        have HE := eqE n d sa sb wr.drew
        clear hc hc'
        go_wp2_with fail
        go_still_tail 8, (by kernel_rfl)
        change wpList _ _ _ _ _ wr.drew
        go_wp2_with fail
        refine HE.mono ?_
        rintro e w1 ⟨rfl, hb1⟩
        go_wp2
        go_roundg (L.length - (k + 1))
        case measure => omega
        case rel => exact ⟨k + 1, by omega, rfl, by simp, hb.trans (bd.trans hb1 |>.mono hb.size)⟩
      · have e : k = L.length := by omega
        subst e
        go_wp2
        go_ret
        exact ⟨rfl, hb⟩
/-- v, read in w, is the list L; its memory lies in blocks from lo to below hi. -/
def RdD (w : World) (lo hi : Nat) (v : Value) (L : List Ed) : Prop := ListE w v L ∧ InB v lo hi ∧ L.length ≤ 1048576
theorem RdD.below {w w' : World} {lo hi : Nat} {v : Value} {l : List Ed} (h : RdD w lo hi v l) (hb : Below w.heap.size w w') : RdD w' lo hi v l := ⟨h.1.below hb, h.2.1, h.2.2⟩
theorem RdD.kept {w w' : World} {lo hi : Nat} {v : Value} {l : List Ed} {S : Nat → Prop} (h : RdD w lo hi v l) (hk : Kept w w' S) (hs : ∀ b, lo ≤ b → b < hi → ¬ S b) : RdD w' lo hi v l := by
  obtain ⟨h1, h2, h3⟩ := h
  refine ⟨?_, h2, h3⟩
  rcases h1 with h | ⟨x, cap, rfl, hx, hc⟩
  · exact .inl h
  · by_cases e : 0 < l.length
    · have hb := hx e
      obtain ⟨c1, _⟩ := hc 0 e
      have hsp : x.spot = none := by
        unfold World.cell? at c1
        rw [show x.add (0 * 4) = x by simp [Addr.add]] at c1
        split at c1
        · split at c1
          · cases c1
          · rename_i q; simpa using q
        · cases c1
      have hn := hs x.block (h2 x.block (by simp [Value.ownBlock])).1 (h2 x.block (by simp [Value.ownBlock])).2
      have q : ∀ {p : Addr} {v : Value}, p.block = x.block → w.cell? p = some v → w'.cell? p = some v := fun {p v} hp hc => by
        rw [← hc]; exact hk.cell (by rw [hp]; exact hb) (by rw [hp]; exact hn)
      exact .inr ⟨x, cap, rfl, fun h => Nat.lt_of_lt_of_le (hx h) hk.size, fun k hk' => by
        obtain ⟨c1, c2, c3, c4⟩ := hc k hk'
        exact ⟨q (by rw [block_add]) c1, q (by show (x.add _).block = _; rw [block_add]) c2, q (by show (x.add _).block = _; rw [block_add]) c3, q (by show (x.add _).block = _; rw [block_add]) c4⟩⟩
    · exact .inr ⟨x, cap, rfl, fun h => absurd h e, fun k hk' => absurd hk' (by omega)⟩
theorem RdD.nil (w : World) (lo hi : Nat) : RdD w lo hi (.slice none 0 0) [] := ⟨.inl ⟨rfl, rfl⟩, (fun k e => by cases e), by simp⟩
theorem eqRdD {v v' : Value} {l : List Ed} {w : World} {lo hi lo' hi' : Nat} (h : RdD w lo hi v l) (h' : RdD w lo' hi' v' l) :
    Calls Tryd.prog 53 #[v, v'] w fun e w' => e = .returned (.bool true) ∧ Below w.heap.size w w' := eqLE v v' l w h.1 h'.1 h.2.2
/-- The cell j of a row of edits. -/
def ec (L : List Ed) (j : Nat) : Value := if j % 4 = 0 then .int .i64 (L.getD (j / 4) e0).1 else if j % 4 = 1 then .int .i64 (L.getD (j / 4) e0).2.1 else if j % 4 = 2 then .string (L.getD (j / 4) e0).2.2.1 else .string (L.getD (j / 4) e0).2.2.2
/-- v is the list L in memory of the call's own, a row in one block from lo to below hi. -/
def OwD (w : World) (lo hi : Nat) (v : Value) (L : List Ed) : Prop :=
  ((v = .slice none 0 0 ∧ L = []) ∨ ∃ (c cap N : Nat) (f : Nat → Value), v = .slice (some ⟨c, 0, none⟩) L.length cap ∧ lo ≤ c ∧ c < hi ∧ L.length * 4 ≤ N ∧ w.rowIs c 93 N f ∧ ∀ j, j < L.length * 4 → f j = ec L j) ∧ L.length ≤ 1048576
theorem OwD.rd {w : World} {lo hi : Nat} {v : Value} {l : List Ed} (h : OwD w lo hi v l) : RdD w lo hi v l := by
  obtain ⟨h | ⟨c, cap, N, f, rfl, h1, h2, h3, h4, h5⟩, hl⟩ := h
  · exact ⟨.inl h, (fun k e => by obtain ⟨rfl, -⟩ := h; cases e), hl⟩
  · refine ⟨.inr ⟨_, cap, rfl, fun _ => h4.lt, fun k hk => ?_⟩, fun k e => ?_, hl⟩
    · rw [Addr.add_lit, Nat.zero_add]
      refine ⟨?_, ?_, ?_, ?_⟩
      · rw [h4.cell (i := k * 4) (by omega), h5 _ (by omega)]
        have e1 : k * 4 / 4 = k := by omega
        have e2 : k * 4 % 4 = 0 := by omega
        simp [ec, e1, e2]
      · show w.cell? ⟨c, k * 4 + 1, none⟩ = _
        rw [h4.cell (i := k * 4 + 1) (by omega), h5 _ (by omega)]
        have e1 : (k * 4 + 1) / 4 = k := by omega
        have e2 : (k * 4 + 1) % 4 = 1 := by omega
        simp [ec, e1, e2]
      · show w.cell? ⟨c, k * 4 + 2, none⟩ = _
        rw [h4.cell (i := k * 4 + 2) (by omega), h5 _ (by omega)]
        have e1 : (k * 4 + 2) / 4 = k := by omega
        have e2 : (k * 4 + 2) % 4 = 2 := by omega
        simp [ec, e1, e2]
      · show w.cell? ⟨c, k * 4 + 3, none⟩ = _
        rw [h4.cell (i := k * 4 + 3) (by omega), h5 _ (by omega)]
        have e1 : (k * 4 + 3) / 4 = k := by omega
        have e2 : (k * 4 + 3) % 4 = 3 := by omega
        simp [ec, e1, e2]
    · have e : c = k := by simpa [Value.ownBlock] using e
      omega
theorem OwD.below {w w' : World} {lo hi : Nat} {v : Value} {l : List Ed} (h : OwD w lo hi v l) (hb : Below w.heap.size w w') : OwD w' lo hi v l := by
  obtain ⟨h | ⟨c, cap, N, f, rfl, h1, h2, h3, h4, h5⟩, hl⟩ := h
  · exact ⟨.inl h, hl⟩
  · exact ⟨.inr ⟨c, cap, N, f, rfl, h1, h2, h3, h4.of_block (hb.block c h4.lt), h5⟩, hl⟩
theorem OwD.kept {w w' : World} {lo hi : Nat} {v : Value} {l : List Ed} {S : Nat → Prop} (h : OwD w lo hi v l) (hk : Kept w w' S) (hs : ∀ b, lo ≤ b → b < hi → ¬ S b) : OwD w' lo hi v l := by
  obtain ⟨h | ⟨c, cap, N, f, rfl, h1, h2, h3, h4, h5⟩, hl⟩ := h
  · exact ⟨.inl h, hl⟩
  · exact ⟨.inr ⟨c, cap, N, f, rfl, h1, h2, h3, hk.row h4 (hs c h1 h2), h5⟩, hl⟩
theorem OwD.mono {w : World} {lo hi lo' hi' : Nat} {v : Value} {l : List Ed} (h : OwD w lo hi v l) (e1 : lo' ≤ lo) (e2 : hi ≤ hi') : OwD w lo' hi' v l := by
  obtain ⟨h | ⟨c, cap, N, f, rfl, h1, h2, h3, h4, h5⟩, hl⟩ := h
  · exact ⟨.inl h, hl⟩
  · exact ⟨.inr ⟨c, cap, N, f, rfl, by omega, by omega, h3, h4, h5⟩, hl⟩
theorem OwD.nil (w : World) (lo hi : Nat) : OwD w lo hi (.slice none 0 0) [] := ⟨.inl ⟨rfl, rfl⟩, by simp⟩
theorem Es.ow {w : World} {c : Nat} {l : List Ed} (h : Es w c l) (cap lo hi : Nat) (h1 : lo ≤ c) (h2 : c < hi) (hl : l.length ≤ 1048576) : OwD w lo hi (.slice (some ⟨c, 0, none⟩) l.length cap) l :=
  ⟨.inr ⟨c, cap, l.length * 4, _, rfl, h1, h2, Nat.le_refl _, h, fun j hj => by
    have : j / 4 < l.length := by omega
    simp [ef, ec, this]⟩, hl⟩
/-- What cell j holds that the marks from k on have come to. -/
def mke (k : Int) (j : Nat) : Value := if j % 4 = 0 then .int .i64 (k + 4 * (j / 4 : Nat)) else if j % 4 = 1 then .int .i64 (k + 4 * (j / 4 : Nat) + 1) else if j % 4 = 2 then .string (mtx (k + 4 * (j / 4 : Nat) + 2)) else .string (mtx (k + 4 * (j / 4 : Nat) + 3))
def mkE (f : Nat → Value) (k : Int) (m : Nat) : Nat → Value := fun j => if j / 4 < m then mke k j else f j
theorem mkE_step (f : Nat → Value) (k : Int) (m j : Nat) :
    (if j = m * 4 + 3 then Value.string (mtx (k + 4 * m + 3)) else if j = m * 4 + 2 then .string (mtx (k + 4 * m + 2)) else if j = m * 4 + 1 then .int .i64 (k + 4 * m + 1) else if j = m * 4 then .int .i64 (k + 4 * m) else mkE f k m j) = mkE f k (m + 1) j := by
  unfold mkE mke
  by_cases q3 : j = m * 4 + 3
  · subst q3
    have h1 : (m * 4 + 3) / 4 = m := by omega
    have h2 : (m * 4 + 3) % 4 = 3 := by omega
    simp [h1, h2]
  by_cases q2 : j = m * 4 + 2
  · subst q2
    have h1 : (m * 4 + 2) / 4 = m := by omega
    have h2 : (m * 4 + 2) % 4 = 2 := by omega
    simp [h1, h2]
  by_cases q1 : j = m * 4 + 1
  · subst q1
    have h1 : (m * 4 + 1) / 4 = m := by omega
    have h2 : (m * 4 + 1) % 4 = 1 := by omega
    simp [h1, h2]
  by_cases q0 : j = m * 4
  · subst q0
    have h1 : (m * 4) / 4 = m := by omega
    have h2 : (m * 4) % 4 = 0 := by omega
    simp [h1, h2]
  rw [if_neg q3, if_neg q2, if_neg q1, if_neg q0]
  by_cases h : j / 4 < m
  · rw [if_pos h, if_pos (show j / 4 < m + 1 by omega)]
  · rw [if_neg h, if_neg (show ¬ j / 4 < m + 1 by omega)]
/-- Marks from k to below r lie in the list at v. -/
def MkD (w : World) (lo hi : Nat) (v : Value) (k r : Int) : Prop :=
  (∃ a cap, v = .slice a 0 cap ∧ r = k) ∨ ∃ (c n cap N : Nat) (f : Nat → Value), v = .slice (some ⟨c, 0, none⟩) n cap ∧ lo ≤ c ∧ c < hi ∧ n * 4 ≤ N ∧ n ≤ 1048576 ∧ w.rowIs c 93 N f ∧ (∀ j, j < n * 4 → f j = mke k j) ∧ r = k + 4 * n
theorem MkD.below {w w' : World} {lo hi : Nat} {v : Value} {k r : Int} (h : MkD w lo hi v k r) (hb : Below w.heap.size w w') : MkD w' lo hi v k r := by
  rcases h with h | ⟨c, n, cap, N, f, rfl, h1, h2, h3, h0, h4, h5, h6⟩
  · exact .inl h
  · exact .inr ⟨c, n, cap, N, f, rfl, h1, h2, h3, h0, h4.of_block (hb.block c h4.lt), h5, h6⟩
theorem MkD.kept {w w' : World} {lo hi : Nat} {v : Value} {k r : Int} {S : Nat → Prop} (h : MkD w lo hi v k r) (hk : Kept w w' S) (hs : ∀ b, lo ≤ b → b < hi → ¬ S b) : MkD w' lo hi v k r := by
  rcases h with h | ⟨c, n, cap, N, f, rfl, h1, h2, h3, h0, h4, h5, h6⟩
  · exact .inl h
  · exact .inr ⟨c, n, cap, N, f, rfl, h1, h2, h3, h0, hk.row h4 (hs c h1 h2), h5, h6⟩
set_option maxHeartbeats 2000000 in
set_option maxRecDepth 100000 in
theorem markE (c n cap N : Nat) (k : Int) (w : World) (f : Nat → Value) (h : w.rowIs c 93 N f) (hN : n * 4 ≤ N) (hn : n ≤ 1048576) (h1 : 0 ≤ k) (h2 : k ≤ 4000000000000) :
    Calls Tryd.prog 37 #[.slice (some ⟨c, 0, none⟩) n cap, .int .i64 k] w fun e w' => e = .returned (.int .i64 (k + 4 * n)) ∧ w'.rowIs c 93 N (mkE f k n) ∧ Kept w w' (fun b => b = c) := by
  go_enter Tryd.func37, Tryd.ntmps37
  go_wp2
  go_loopg [1, 5] n (fun g kk i wr => ∃ m : Nat, m ≤ n ∧ g = n - m ∧ kk = .int .i64 (k + 4 * m) ∧ i = .int .i64 m ∧ wr.rowIs c 93 N (mkE f k m) ∧ Kept w wr (fun b => b = c))
  case atStart => exact ⟨0, Nat.zero_le _, rfl, by simp, rfl, h.congr (fun i _ => by simp [mkE]), Kept.refl _ _⟩
  case round =>
    obtain ⟨m, hm, rfl, rfl, rfl, hr, hk⟩ := hrel
    by_cases hlt : m < n
    · have c1 : wr.cell? ⟨c, m * 4, none⟩ = some (mkE f k m (m * 4)) := hr.cell (by omega)
      have c2 : wr.cell? ⟨c, m * 4 + 1, none⟩ = some (mkE f k m (m * 4 + 1)) := hr.cell (by omega)
      have c3 : wr.cell? ⟨c, m * 4 + 2, none⟩ = some (mkE f k m (m * 4 + 2)) := hr.cell (by omega)
      have c4 : wr.cell? ⟨c, m * 4 + 3, none⟩ = some (mkE f k m (m * 4 + 3)) := hr.cell (by omega)
      have f1 : wr.frozen? ⟨c, m * 4, none⟩ = false := hr.frozen _
      have f2 : wr.frozen? ⟨c, m * 4 + 1, none⟩ = false := hr.frozen _
      have f3 : wr.frozen? ⟨c, m * 4 + 2, none⟩ = false := hr.frozen _
      have f4 : wr.frozen? ⟨c, m * 4 + 3, none⟩ = false := hr.frozen _
      have hlc := hr.lt
      have HR := Lib.hid hr
      have HK := Lib.hid hk
      clear hr hk h
      obtain ⟨K, hK⟩ : ∃ K : Int, k + 4 * (m : Int) = K := ⟨_, rfl⟩
      have k0 : 0 ≤ K := by omega
      have k9 : K ≤ 5000000000000 := by omega
      simp only [hK]
      have HKK := Lib.hid hK
      have wk1 : IntKind.i64.wrap (K + 1) = K + 1 := by rw [IntKind.wrap_i64]; omega
      have wk2 : IntKind.i64.wrap (K + 1 + 1) = K + 2 := by rw [IntKind.wrap_i64]; omega
      have wk3 : IntKind.i64.wrap (K + 2 + 1) = K + 3 := by rw [IntKind.wrap_i64]; omega
      have wk4 : IntKind.i64.wrap (K + 3 + 1) = K + 4 := by rw [IntKind.wrap_i64]; omega
      have M2 := fun w' => mtext (K + 2) w' (by omega)
      have M3 := fun w' => mtext (K + 3) w' (by omega)
      clear hK
      go_wp2_with fail
      refine (M2 _).mono ?_
      rintro e w1 ⟨rfl, hb1⟩
      obtain ⟨hc1, hf1⟩ := bcell hb1
      have lc1 : c < ((wr.setCell ⟨c, m * 4, none⟩ (.int .i64 K)).setCell ⟨c, m * 4 + 1, none⟩ (.int .i64 (K + 1))).heap.size := by simp [World.setCell]; exact hlc
      have d3 : w1.cell? ⟨c, m * 4 + 2, none⟩ = some (mkE f k m (m * 4 + 2)) := by rw [hc1 _ _ lc1]; first | (go_simp; done) | (go_simp; exact c3)
      have d4 : w1.cell? ⟨c, m * 4 + 3, none⟩ = some (mkE f k m (m * 4 + 3)) := by rw [hc1 _ _ lc1]; first | (go_simp; done) | (go_simp; exact c4)
      have g3 : w1.frozen? ⟨c, m * 4 + 2, none⟩ = false := by rw [hf1 _ _ lc1]; first | (go_simp; done) | (go_simp; exact f3)
      have g4 : w1.frozen? ⟨c, m * 4 + 3, none⟩ = false := by rw [hf1 _ _ lc1]; first | (go_simp; done) | (go_simp; exact f4)
      have HR1 := Lib.hid (((HR.out.set (m * 4) (.int .i64 K)).set (m * 4 + 1) (.int .i64 (K + 1))).of_block (hb1.block c lc1))
      have HK1 : Hid (Kept w w1 (fun b => b = c)) := Lib.hid (((HK.out.trans (Kept.set _ _ _ rfl)).trans (Kept.set _ _ _ rfl)).trans (Kept.ofBel hb1))
      have lc1' : c < w1.heap.size := Nat.lt_of_lt_of_le lc1 hb1.size
      clear hc1 hf1 c1 c2 c3 c4 f1 f2 f3 f4 hb1 lc1 hlc M2
      go_wp2_with fail
      refine (M3 _).mono ?_
      rintro e w2 ⟨rfl, hb2⟩
      obtain ⟨hc2, hf2⟩ := bcell hb2
      have lc2 : c < (w1.setCell ⟨c, m * 4 + 2, none⟩ (.string (mtx (K + 2)))).heap.size := by simp [World.setCell]; exact lc1'
      have e4 : w2.cell? ⟨c, m * 4 + 3, none⟩ = some (mkE f k m (m * 4 + 3)) := by rw [hc2 _ _ lc2]; first | (go_simp; done) | (go_simp; exact d4)
      have h4 : w2.frozen? ⟨c, m * 4 + 3, none⟩ = false := by rw [hf2 _ _ lc2]; first | (go_simp; done) | (go_simp; exact g4)
      have HR2 := Lib.hid ((HR1.out.set (m * 4 + 2) (.string (mtx (K + 2)))).of_block (hb2.block c lc2))
      have HK2 : Hid (Kept w w2 (fun b => b = c)) := Lib.hid ((HK1.out.trans (Kept.set _ _ _ rfl)).trans (Kept.ofBel hb2))
      clear hc2 hf2 d3 d4 g3 g4 hb2 lc2 lc1' M3 HR HR1 HK1
      go_wp2
      go_roundg (n - (m + 1))
      case measure => omega
      case rel =>
        refine ⟨m + 1, by omega, rfl, by congr 1; have := HKK.out; omega, by simp, ?_, HK2.out.trans (Kept.set _ _ _ rfl)⟩
        refine (HR2.out.set (m * 4 + 3) (.string (mtx (K + 3)))).congr (fun j _ => ?_)
        rw [← mkE_step f k m j]
        simp only [HKK.out]
    · have e : m = n := by omega
      subst e
      go_wp2
      go_ret
      exact ⟨rfl, hr, hk⟩
end Go.Proofs.YtkaakomiimcbmaaDoor
