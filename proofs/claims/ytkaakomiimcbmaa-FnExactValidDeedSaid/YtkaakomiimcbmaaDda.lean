/- Events: whether they are for members. -/
import Derived.Test.YtkaakomiimcbmaaDd9
namespace Go.Proofs.Ytkaakomiimcbmaa
open Go.ChangeShapes Go.WideShapes Go.ChangeAt Go.RowKit Go.Deep
set_option linter.unusedSimpArgs false
set_option linter.unusedVariables false
set_option maxHeartbeats 1000000 in
set_option maxRecDepth 100000 in
theorem ifor1 (m : Int) (t : List Int) (ct : Nat) (ma : Option Addr) (mc : Nat) (w : World) (h : OwnI w ct t) (hl : t.length ≤ 1048576) :
    Calls Try.prog 50 #[.agg #[.int .i64 m, .slice (some ⟨ct, 0, none⟩) t.length t.length], .slice ma 12 mc] w fun e w' => e = .returned (.bool (trB 12 m t)) ∧ Below w.heap.size w w' := by
  have b0 := (Below.refl w.heap.size w).alloc (Nat.le_refl _) (.cells #[.int .i64 m, .slice (some ⟨ct, 0, none⟩) t.length t.length] 66)
  obtain ⟨hx, hr⟩ := ((h.below b0).row t.length).at0
  have HT := trust_anyK ma 12 mc m ⟨ct, 0, none⟩ t t.length _ hx hr hl (by omega)
  generalize trB 12 m t = z at HT ⊢
  clear h hx hr
  go_enter Try.func50, Try.ntmps50
  go_wp2_with fail
  refine HT.mono ?_
  rintro e w2 ⟨rfl, hb2⟩
  go_wp2
  go_ret
  exact ⟨rfl, b0.trans (hb2.mono b0.size)⟩
noncomputable def voteB (m : Int) (n : ByteArray) (v : Int) : Bool := inB m 0 11 && (nameB n.data.toList && inB v 0 3)
set_option maxHeartbeats 1000000 in
set_option maxRecDepth 100000 in
theorem ifor2 (m : Int) (n : ByteArray) (v : Int) (ma : Option Addr) (mc : Nat) (w : World) (hn : n.size ≤ 1048576) :
    Calls Try.prog 55 #[.agg #[.int .i64 m, .string n, .int .i64 v], .slice ma 12 mc] w fun e w' => e = .returned (.bool (voteB m n v)) ∧ Below w.heap.size w w' := by
  have b0 := (Below.refl w.heap.size w).alloc (Nat.le_refl _) (.cells #[.int .i64 m, .string n, .int .i64 v] 68)
  obtain ⟨w0, hw0⟩ : ∃ w0, w.alloc (.cells #[.int .i64 m, .string n, .int .i64 v] 68) = w0 := ⟨_, rfl⟩
  have p0 : w0.cell? ⟨w.heap.size, 0, none⟩ = some (.int .i64 m) := by subst hw0; go_simp
  have p1 : w0.cell? ⟨w.heap.size, 1, none⟩ = some (.string n) := by subst hw0; go_simp
  have p2 : w0.cell? ⟨w.heap.size, 2, none⟩ = some (.int .i64 v) := by subst hw0; go_simp
  have lw : w.heap.size < w0.heap.size := World.block_lt_of_cell? _ _ p0
  rw [hw0] at b0
  have HM : ∀ w', Calls Try.prog 56 #[.slice ma 12 mc, .int .i64 m] w' fun e w'' => e = .returned (.bool (inB m 0 11)) ∧ Below w'.heap.size w' w'' := fun w' => by
    have := is_memberK ma 12 mc m w' (by omega)
    simpa using this
  have HN := fun w' => iname n w' (by unfold maxLen; omega)
  have HV := imvote v
  unfold voteB
  generalize inB m 0 11 = z1 at HM ⊢
  generalize nameB n.data.toList = z2 at HN ⊢
  generalize inB v 0 3 = z3 at HV ⊢
  cases z1 with
  | false =>
    go_enter Try.func55, Try.ntmps55
    go_wp2_with fail
    refine (HM _).mono ?_
    rintro e w2 ⟨rfl, hb2⟩
    go_wp2
    go_ret
    exact ⟨rfl, b0.trans (hb2.mono b0.size)⟩
  | true =>
    cases z2 with
    | false =>
      go_enter Try.func55, Try.ntmps55
      go_wp2_with fail
      refine (HM _).mono ?_
      rintro e w2 ⟨rfl, hb2⟩
      have d1 := (hb2.cell (p := ⟨w.heap.size, 1, none⟩) lw).trans p1
      have bw := b0.trans (hb2.mono b0.size)
      go_wp2_with fail
      refine (HN _).mono ?_
      rintro e w3 ⟨rfl, rfl⟩
      go_wp2
      go_ret
      exact ⟨rfl, bw⟩
    | true =>
      go_enter Try.func55, Try.ntmps55
      go_wp2_with fail
      refine (HM _).mono ?_
      rintro e w2 ⟨rfl, hb2⟩
      have d1 := (hb2.cell (p := ⟨w.heap.size, 1, none⟩) lw).trans p1
      have d2 := (hb2.cell (p := ⟨w.heap.size, 2, none⟩) lw).trans p2
      have bw := b0.trans (hb2.mono b0.size)
      go_wp2_with fail
      refine (HN _).mono ?_
      rintro e w3 ⟨rfl, rfl⟩
      go_wp2_with fail
      refine (HV _).mono ?_
      rintro e w3 ⟨rfl, rfl⟩
      go_wp2
      go_ret
      exact ⟨by cases z3 <;> rfl, bw⟩
set_option maxHeartbeats 1000000 in
set_option maxRecDepth 100000 in
theorem ifor3 (t : ByteArray) (a f u k : Int) (l : List Ed) (c : Nat) (ma : Option Addr) (mc : Nat) (w : World) (h : Es w c l) (hf : FitsE l) (ht : t.size ≤ 1048576) :
    Calls Try.prog 60 #[.agg #[.string t, .int .i64 a, .slice (some ⟨c, 0, none⟩) l.length l.length, .int .i64 f, .int .i64 u, .int .i64 k, .slice none 0 0, .int .i64 0], .slice ma 12 mc] w fun e w' => e = .returned (.bool (propB t a f u k l)) ∧ Below w.heap.size w w' := by
  have b0 := (Below.refl w.heap.size w).alloc (Nat.le_refl _) (.cells #[.string t, .int .i64 a, .slice (some ⟨c, 0, none⟩) l.length l.length, .int .i64 f, .int .i64 u, .int .i64 k, .slice none 0 0, .int .i64 0] 72)
  have HP := iprop t a f u k l c ma mc _ (h.below b0) hf ht
  generalize propB t a f u k l = z at HP ⊢
  clear h
  go_enter Try.func60, Try.ntmps60
  go_wp2_with fail
  refine HP.mono ?_
  rintro e w2 ⟨rfl, hb2⟩
  go_wp2
  go_ret
  exact ⟨rfl, b0.trans (hb2.mono b0.size)⟩
theorem ifor4 (ma : Option Addr) (mc : Nat) (w : World) :
    Calls Try.prog 90 #[.agg #[], .slice ma 12 mc] w fun e w' => e = .returned (.bool true) ∧ Below w.heap.size w w' := by
  have b0 := (Below.refl w.heap.size w).alloc (Nat.le_refl _) (.cells #[] 74)
  go_enter Try.func90, Try.ntmps90
  go_wp2
  go_ret
  exact ⟨rfl, b0⟩
end Go.Proofs.Ytkaakomiimcbmaa
