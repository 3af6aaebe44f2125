/- Lists of edits that a call answers: their marks held; what calls answer. -/
import Derived.Test.YtkpnkaihehneiaaDoorK8
import Derived.Deep.RegionHeld3
namespace Go.Proofs.YtkpnkaihehneiaaDoor
open Go.ChangeShapes Go.WideShapes Go.ChangeAt Go.RowKit Go.Deep
set_option linter.unusedSimpArgs false
set_option linter.unusedVariables false
theorem markD_nil (a : Option Addr) (cap : Nat) (k : Int) (w : World) :
    Calls Tryd.prog 23 #[.slice a 0 cap, .int .i64 k] w fun e w' => e = .returned (.int .i64 k) ∧ w = w' := by
  go_enter Tryd.func23, Tryd.ntmps23
  go_wp2
  go_loopg [1, 5] 0 (fun g kk i wr => kk = .int .i64 k ∧ i = .int .i64 0 ∧ w = wr)
  case atStart => exact ⟨rfl, rfl, rfl⟩
  case round =>
    obtain ⟨rfl, rfl, rfl⟩ := hrel
    go_wp2
    go_ret
    exact ⟨rfl, rfl⟩
theorem heldD_nil (a : Option Addr) (cap : Nat) (k : Int) (w : World) :
    Calls Tryd.prog 24 #[.slice a 0 cap, .int .i64 k] w fun e w' => e = .returned (.int .i64 k) ∧ w = w' := by
  go_enter Tryd.func24, Tryd.ntmps24
  go_wp2
  go_loopg [1, 5] 0 (fun g kk i wr => kk = .int .i64 k ∧ i = .int .i64 0 ∧ w = wr)
  case atStart => exact ⟨rfl, rfl, rfl⟩
  case round =>
    obtain ⟨rfl, rfl, rfl⟩ := hrel
    go_wp2
    go_ret
    exact ⟨rfl, rfl⟩
theorem markOwD {v : Value} {l : List Ed} {w : World} {lo hi : Nat} (k : Int) (h : OwD w lo hi v l) (h1 : 0 ≤ k) (h2 : k ≤ 4000000000000) :
    Calls Tryd.prog 23 #[v, .int .i64 k] w fun e w' => (∃ r, e = .returned (.int .i64 r) ∧ k ≤ r ∧ r ≤ k + 4194304 ∧ MkD w' lo hi v k r) ∧ Kept w w' (fun b => lo ≤ b ∧ b < hi) := by
  obtain ⟨⟨rfl, rfl⟩ | ⟨c, cap, N, f, rfl, q1, q2, q3, q4, q5⟩, hl⟩ := h
  · exact (markD_nil none 0 k w).mono fun e w' ⟨he, hw⟩ => ⟨⟨k, he, by omega, by omega, .inl ⟨none, 0, rfl, rfl⟩⟩, hw ▸ Kept.refl _ _⟩
  · exact (markE c l.length cap N k w f q4 q3 hl h1 h2).mono fun e w' ⟨he, hr, hk⟩ => ⟨⟨_, he, by omega, by omega, .inr ⟨c, l.length, cap, N, _, rfl, q1, q2, q3, hl, hr, fun j hj => by rw [mkE, if_pos (by omega)], rfl⟩⟩, hk.mono (fun b e => by subst e; exact ⟨q1, q2⟩)⟩
/-- What a region that compares a text with a mark reads. -/
def Bm (w0 : World) (c o : Nat) (s : ByteArray) (w' : World) : Prop := w'.cell? ⟨c, o, none⟩ = some (.string s) ∧ Hid (Below w0.heap.size w0 w')
theorem Bm.drew {w0 w' : World} {c o : Nat} {s : ByteArray} (h : Bm w0 c o s w') : Bm w0 c o s w'.drew := ⟨h.1, Lib.hid h.2.out.drew⟩
theorem Bm.bel {w0 w' : World} {c o : Nat} {s : ByteArray} (h : Bm w0 c o s w') : Below w0.heap.size w0 w' := h.2.out
theorem Bm.below {w0 w' w'' : World} {c o : Nat} {s : ByteArray} (h : Bm w0 c o s w') (hb : Below w'.heap.size w' w'') : Bm w0 c o s w'' :=
  ⟨(hb.cell (p := ⟨c, o, none⟩) (World.block_lt_of_cell? _ _ h.1)).trans h.1, Lib.hid (h.2.out.trans (hb.mono h.2.out.size))⟩
set_option maxHeartbeats 2000000 in
set_option maxRecDepth 100000 in
theorem heldE (c n cap N : Nat) (k : Int) (w : World) (f : Nat → Value) (h : w.rowIs c 70 N f) (hN : n * 4 ≤ N) (hf : ∀ j, j < n * 4 → f j = mke k j) (hn : n ≤ 1048576) (h1 : 0 ≤ k) (h2 : k ≤ 4000000000000) :
    Calls Tryd.prog 24 #[.slice (some ⟨c, 0, none⟩) n cap, .int .i64 k] w fun e w' => e = .returned (.int .i64 (k + 4 * n)) ∧ Below w.heap.size w w' := by
  have HF := Lib.hid hf
  have HH := Lib.hid h
  clear hf h
  go_enter Tryd.func24, Tryd.ntmps24
  go_wp2
  go_loopg [1, 5] n (fun g kk i wr => ∃ m : Nat, m ≤ n ∧ g = n - m ∧ kk = .int .i64 (k + 4 * m) ∧ i = .int .i64 m ∧ Below w.heap.size w wr)
  case atStart => exact ⟨0, Nat.zero_le _, rfl, by simp, rfl, Below.refl _ _⟩
  case round =>
    obtain ⟨m, hm, rfl, rfl, rfl, hb⟩ := hrel
    by_cases hlt : m < n
    · have hr := HH.out.of_block (hb.block c HH.out.lt)
      have c1 : wr.cell? ⟨c, m * 4, none⟩ = some (.int .i64 (k + 4 * m)) := by
        have e1 : m * 4 / 4 = m := by omega
        have e2 : m * 4 % 4 = 0 := by omega
        rw [hr.cell (by omega), HF.out _ (by omega)]; simp [mke, e1, e2]
      have c2 : wr.cell? ⟨c, m * 4 + 1, none⟩ = some (.int .i64 (k + 4 * m + 1)) := by
        have e1 : (m * 4 + 1) / 4 = m := by omega
        have e2 : (m * 4 + 1) % 4 = 1 := by omega
        rw [hr.cell (by omega), HF.out _ (by omega)]; simp [mke, e1, e2]
      have c3 : wr.cell? ⟨c, m * 4 + 2, none⟩ = some (.string (mtx (k + 4 * m + 2))) := by
        have e1 : (m * 4 + 2) / 4 = m := by omega
        have e2 : (m * 4 + 2) % 4 = 2 := by omega
        rw [hr.cell (by omega), HF.out _ (by omega)]; simp [mke, e1, e2]
      have c4 : wr.cell? ⟨c, m * 4 + 3, none⟩ = some (.string (mtx (k + 4 * m + 3))) := by
        have e1 : (m * 4 + 3) / 4 = m := by omega
        have e2 : (m * 4 + 3) % 4 = 3 := by omega
        rw [hr.cell (by omega), HF.out _ (by omega)]; simp [mke, e1, e2]
      have hlc := hr.lt
      clear hr
      obtain ⟨K, hK⟩ : ∃ K : Int, k + 4 * (m : Int) = K := ⟨_, rfl⟩
      have k0 : 0 ≤ K := by omega
      have k9 : K ≤ 5000000000000 := by omega
      simp only [hK] at c1 c2 c3 c4 ⊢
      have HKK := Lib.hid hK
      have wk1 : IntKind.i64.wrap (K + 1) = K + 1 := by rw [IntKind.wrap_i64]; omega
      have wk2 : IntKind.i64.wrap (K + 1 + 1) = K + 2 := by rw [IntKind.wrap_i64]; omega
      have wk3 : IntKind.i64.wrap (K + 2 + 1) = K + 3 := by rw [IntKind.wrap_i64]; omega
      have wk4 : IntKind.i64.wrap (K + 3 + 1) = K + 4 := by rw [IntKind.wrap_i64]; omega
      have M2 : Hid (∀ w', Calls Tryd.prog 56 #[.int .i64 (K + 2)] w' fun e w'' => e = .returned (.string (mtx (K + 2))) ∧ Below w'.heap.size w' w'') := Lib.hid fun w' => mtext (K + 2) w' (by omega)
      have M3 : Hid (∀ w', Calls Tryd.prog 56 #[.int .i64 (K + 3)] w' fun e w'' => e = .returned (.string (mtx (K + 3))) ∧ Below w'.heap.size w' w'') := Lib.hid fun w' => mtext (K + 3) w' (by omega)
      obtain ⟨s2, hs2⟩ : ∃ s, mtx (K + 2) = s := ⟨_, rfl⟩
      obtain ⟨s3, hs3⟩ : ∃ s, mtx (K + 3) = s := ⟨_, rfl⟩
      rw [hs2] at c3 M2
      rw [hs3] at c4 M3
      clear hK hs2 hs3
      have B2 : Bm wr c (m * 4 + 2) s2 wr := ⟨c3, Lib.hid (Below.refl _ _)⟩
      have HB := Lib.hid hb
      clear hb c3
      go_wp2_with fail
      go_region_held3 (fun w' => w'.cell? ⟨c, m * 4 + 2, none⟩ = some (.string s2) ∧ Hid (Below wr.heap.size wr w'))
        (first | exact B2.drew | exact Bm.below (w0 := wr) (by assumption) (by assumption))
        (first
          | (go_at_call 56; refine (M2.out _).mono ?_; rintro e w2 ⟨rfl, hb9⟩))
      have hb2 : Below wr.heap.size wr w2 := ((Below.refl _ _).drew).trans hb9
      have d4 := (hb2.cell (p := ⟨c, m * 4 + 3, none⟩) hlc).trans c4
      have B3 : Bm w2 c (m * 4 + 3) s3 w2 := ⟨d4, Lib.hid (Below.refl _ _)⟩
      have HB2 := Lib.hid (HB.out.trans (hb2.mono HB.out.size))
      clear hb2 hb9 c1 c2 c4 d4 B2 M2 HB
      go_wp2_with fail
      go_region_held3 (fun w' => w'.cell? ⟨c, m * 4 + 3, none⟩ = some (.string s3) ∧ Hid (Below w2.heap.size w2 w'))
        (first | exact B3.drew | exact Bm.below (w0 := w2) (by assumption) (by assumption))
        (first
          | (go_at_call 56; refine (M3.out _).mono ?_; rintro e w3 ⟨rfl, hb8⟩))
      have hb3 : Below w2.heap.size w2 w3 := ((Below.refl _ _).drew).trans hb8
      have HB3 := Lib.hid (HB2.out.trans (hb3.mono HB2.out.size))
      go_wp2
      go_roundg (n - (m + 1))
      case measure => omega
      case rel => exact ⟨m + 1, by omega, rfl, by congr 1; have := HKK.out; omega, by simp, HB3.out⟩
    · have e : m = n := by omega
      subst e
      go_wp2
      go_ret
      exact ⟨rfl, hb⟩
theorem heldMkD {v : Value} {w : World} {lo hi : Nat} {k r : Int} (h : MkD w lo hi v k r) (h1 : 0 ≤ k) (h2 : k ≤ 4000000000000) :
    Calls Tryd.prog 24 #[v, .int .i64 k] w fun e w' => e = .returned (.int .i64 r) ∧ Below w.heap.size w w' := by
  rcases h with ⟨a, cap, rfl, rfl⟩ | ⟨c, n, cap, N, f, rfl, q1, q2, q3, q0, q4, q5, rfl⟩
  · exact (heldD_nil a cap r w).mono fun e w' ⟨he, hw⟩ => ⟨he, hw ▸ Below.refl _ _⟩
  · exact heldE c n cap N k w f q4 q3 q5 q0 h1 h2
theorem CpD.ow {w : World} {lo hi : Nat} {v : Value} {l : List Ed} (h : CpD w lo hi v l) : OwD w lo hi v l := by
  obtain ⟨rfl, h1, h2, h3⟩ := h
  exact h1.ow _ _ _ (Nat.le_refl _) h2 h3.1
theorem markCpD {v : Value} {l : List Ed} {w : World} {lo hi : Nat} (k : Int) (h : CpD w lo hi v l) (h1 : 0 ≤ k) (h2 : k ≤ 4000000000000) :
    Calls Tryd.prog 23 #[v, .int .i64 k] w fun e w' => (∃ r, e = .returned (.int .i64 r) ∧ 0 ≤ r ∧ r ≤ k + 4194304) ∧ Kept w w' (fun b => lo ≤ b ∧ b < hi) :=
  (markOwD k h.ow h1 h2).mono fun e w' ⟨⟨r, he, a, b, _⟩, hk⟩ => ⟨⟨r, he, by omega, by omega⟩, hk⟩
/-- A list of edits to be read, and a bool. -/
def PDb (m : List Ed × Bool) (w : World) (e : Ending) (w' : World) : Prop := ∃ v, e = .returned (.tuple #[v, .bool m.2]) ∧ RdD w' w.heap.size w'.heap.size v m.1 ∧ Below w.heap.size w w'
theorem PDb.out {l : List Ed} {z : Bool} {w w' : World} {e : Ending} (h : PDb (l, z) w e w') : ∃ v, e = .returned (.tuple #[v, .bool z]) ∧ RdD w' w.heap.size w'.heap.size v l ∧ Below w.heap.size w w' := h
/-- A list of edits in memory of the call's own, and a bool. -/
def QDb (m : List Ed × Bool) (w : World) (e : Ending) (w' : World) : Prop := ∃ v, e = .returned (.tuple #[v, .bool m.2]) ∧ OwD w' w.heap.size w'.heap.size v m.1 ∧ Below w.heap.size w w'
theorem QDb.out {l : List Ed} {z : Bool} {w w' : World} {e : Ending} (h : QDb (l, z) w e w') : ∃ v, e = .returned (.tuple #[v, .bool z]) ∧ OwD w' w.heap.size w'.heap.size v l ∧ Below w.heap.size w w' := h
end Go.Proofs.YtkpnkaihehneiaaDoor
