/- Several of this claim's texts in one: KT, Rt1. -/
import Derived.Test.YthffhllkfadejaaDoorK2v
import Derived.Test.YthffhllkfadejaaDoorRq1
import Derived.Test.YthffhllkfadejaaDoorRs1
import Derived.Test.YthffhllkfadejaaDoorAta
import Derived.Test.YthffhllkfadejaaDoorGs4
/- The kinds of values that a law copies, compares, marks: lists of numbers in a row of any type (a slice of an array). -/
namespace Go.Proofs.YthffhllkfadejaaDoor
open Go.ChangeShapes Go.WideShapes Go.ChangeAt Go.RowKit Go.Deep
set_option linter.unusedSimpArgs false
set_option linter.unusedVariables false
/-- v is the list l in memory of the call's own, a row in one block from lo to below hi. -/
def OwT (w : World) (lo hi : Nat) (v : Value) (l : List Int) : Prop :=
  ((v = .slice none 0 0 ∧ l = []) ∨ ∃ (c cap N t : Nat) (f : Nat → Value), v = .slice (some ⟨c, 0, none⟩) l.length cap ∧ lo ≤ c ∧ c < hi ∧ l.length ≤ N ∧ w.rowIs c t N f ∧ ∀ i, i < l.length → f i = .int .i64 (l.getD i 0)) ∧ l.length ≤ 1048576
theorem OwT.rd {w : World} {lo hi : Nat} {v : Value} {l : List Int} (h : OwT w lo hi v l) : RdI w lo hi v l := by
  obtain ⟨h | ⟨c, cap, N, t, f, rfl, h1, h2, h3, h4, h5⟩, hl⟩ := h
  · exact ⟨.inl h, (fun k e => by obtain ⟨rfl, -⟩ := h; cases e), hl⟩
  · refine ⟨.inr ⟨_, cap, rfl, fun _ => h4.lt, fun i hi => ?_⟩, fun k e => ?_, hl⟩
    · rw [Addr.add_lit, Nat.zero_add, h4.cell (i := i) (by omega), h5 i hi]
    · have e : c = k := by simpa [Value.ownBlock] using e
      omega
theorem OwT.below {w w' : World} {lo hi : Nat} {v : Value} {l : List Int} (h : OwT w lo hi v l) (hb : Below w.heap.size w w') : OwT w' lo hi v l := by
  obtain ⟨h | ⟨c, cap, N, t, f, rfl, h1, h2, h3, h4, h5⟩, hl⟩ := h
  · exact ⟨.inl h, hl⟩
  · exact ⟨.inr ⟨c, cap, N, t, f, rfl, h1, h2, h3, h4.of_block (hb.block c h4.lt), h5⟩, hl⟩
theorem OwT.kept {w w' : World} {lo hi : Nat} {v : Value} {l : List Int} {S : Nat → Prop} (h : OwT w lo hi v l) (hk : Kept w w' S) (hs : ∀ b, lo ≤ b → b < hi → ¬ S b) : OwT w' lo hi v l := by
  obtain ⟨h | ⟨c, cap, N, t, f, rfl, h1, h2, h3, h4, h5⟩, hl⟩ := h
  · exact ⟨.inl h, hl⟩
  · exact ⟨.inr ⟨c, cap, N, t, f, rfl, h1, h2, h3, hk.row h4 (hs c h1 h2), h5⟩, hl⟩
theorem OwT.mono {w : World} {lo hi lo' hi' : Nat} {v : Value} {l : List Int} (h : OwT w lo hi v l) (e1 : lo' ≤ lo) (e2 : hi ≤ hi') : OwT w lo' hi' v l := by
  obtain ⟨h | ⟨c, cap, N, t, f, rfl, h1, h2, h3, h4, h5⟩, hl⟩ := h
  · exact ⟨.inl h, hl⟩
  · exact ⟨.inr ⟨c, cap, N, t, f, rfl, by omega, by omega, h3, h4, h5⟩, hl⟩
theorem OwT.nil (w : World) (lo hi : Nat) : OwT w lo hi (.slice none 0 0) [] := ⟨.inl ⟨rfl, rfl⟩, by simp⟩
/-- Marks from k to below r lie in the list at v. -/
def MkT (w : World) (lo hi : Nat) (v : Value) (k r : Int) : Prop :=
  (∃ a cap, v = .slice a 0 cap ∧ r = k) ∨ ∃ (c n cap N t : Nat) (f : Nat → Value), v = .slice (some ⟨c, 0, none⟩) n cap ∧ lo ≤ c ∧ c < hi ∧ n ≤ N ∧ n ≤ 1048576 ∧ w.rowIs c t N f ∧ (∀ i, i < n → f i = .int .i64 (k + i)) ∧ r = k + n
theorem MkT.below {w w' : World} {lo hi : Nat} {v : Value} {k r : Int} (h : MkT w lo hi v k r) (hb : Below w.heap.size w w') : MkT w' lo hi v k r := by
  rcases h with h | ⟨c, n, cap, N, t, f, rfl, h1, h2, h3, h0, h4, h5, h6⟩
  · exact .inl h
  · exact .inr ⟨c, n, cap, N, t, f, rfl, h1, h2, h3, h0, h4.of_block (hb.block c h4.lt), h5, h6⟩
set_option maxRecDepth 100000 in
theorem markNT (c n cap N t : Nat) (k : Int) (w : World) (f : Nat → Value) (h : w.rowIs c t N f) (hN : n ≤ N) (hn : n ≤ 1048576) (h1 : 0 ≤ k) (h2 : k ≤ 4000000000000) :
    Calls Tryd.prog 15 #[.slice (some ⟨c, 0, none⟩) n cap, .int .i64 k] w fun e w' => e = .returned (.int .i64 (k + n)) ∧ w'.rowIs c t N (mkf f k n) ∧ Kept w w' (fun b => b = c) := by
  go_enter Tryd.func15, Tryd.ntmps15
  go_wp2
  go_loopg [1, 5] n (fun g kk i wr => ∃ m : Nat, m ≤ n ∧ g = n - m ∧ kk = .int .i64 (k + m) ∧ i = .int .i64 m ∧ wr.rowIs c t N (mkf f k m) ∧ Kept w wr (fun b => b = c))
  case atStart => exact ⟨0, Nat.zero_le _, rfl, by simp, rfl, h.congr (fun i _ => by simp [mkf]), Kept.refl _ _⟩
  case round =>
    obtain ⟨m, hm, rfl, rfl, rfl, hr, hk⟩ := hrel
    by_cases hlt : m < n
    · have c1 : wr.cell? ⟨c, m, none⟩ = some (mkf f k m m) := hr.cell (by omega)
      have f1 : wr.frozen? ⟨c, m, none⟩ = false := hr.frozen m
      have wk : IntKind.i64.wrap (k + (m : Int)) = k + m := by rw [IntKind.wrap_i64]; omega
      have wk1 : IntKind.i64.wrap (k + (m : Int) + 1) = k + m + 1 := by rw [IntKind.wrap_i64]; omega
      go_wp2
      go_roundg (n - (m + 1))
      case measure => omega
      case rel =>
        refine ⟨m + 1, by omega, rfl, by congr 1; simp; omega, by simp, (hr.set m _).congr (fun i _ => ?_), hk.trans (Kept.set _ _ _ rfl)⟩
        unfold mkf
        by_cases e : i = m
        · subst e; simp
        · rw [if_neg e]
          by_cases hi : i < m
          · rw [if_pos hi, if_pos (by omega)]
          · rw [if_neg hi, if_neg (by omega)]
    · have e : m = n := by omega
      subst e
      go_wp2
      go_ret
      exact ⟨rfl, hr, hk⟩
theorem markOwT {v : Value} {l : List Int} {w : World} {lo hi : Nat} (k : Int) (h : OwT w lo hi v l) (h1 : 0 ≤ k) (h2 : k ≤ 4000000000000) :
    Calls Tryd.prog 15 #[v, .int .i64 k] w fun e w' => (∃ r, e = .returned (.int .i64 r) ∧ k ≤ r ∧ r ≤ k + 1048576 ∧ MkT w' lo hi v k r) ∧ Kept w w' (fun b => lo ≤ b ∧ b < hi) := by
  obtain ⟨⟨rfl, rfl⟩ | ⟨c, cap, N, t, f, rfl, q1, q2, q3, q4, q5⟩, hl⟩ := h
  · exact (markI_nil none 0 k w).mono fun e w' ⟨he, hw⟩ => ⟨⟨k, he, by omega, by omega, .inl ⟨none, 0, rfl, rfl⟩⟩, hw ▸ Kept.refl _ _⟩
  · exact (markNT c l.length cap N t k w f q4 q3 hl h1 h2).mono fun e w' ⟨he, hr, hk⟩ => ⟨⟨_, he, by omega, by omega,   .inr ⟨c, l.length, cap, N, t, _, rfl, q1, q2, q3, hl, hr, fun i hi => by simp [mkf, hi], rfl⟩⟩, hk.mono (fun b e => by subst e; exact ⟨q1, q2⟩)⟩
set_option maxRecDepth 100000 in
theorem heldNT (c n cap N t : Nat) (k : Int) (w : World) (f : Nat → Value) (h : w.rowIs c t N f) (hN : n ≤ N) (hf : ∀ i, i < n → f i = .int .i64 (k + i)) (hn : n ≤ 1048576) (h1 : 0 ≤ k) (h2 : k ≤ 4000000000000) :
    Calls Tryd.prog 16 #[.slice (some ⟨c, 0, none⟩) n cap, .int .i64 k] w fun e w' => e = .returned (.int .i64 (k + n)) ∧ w = w' := by
  have HF := Lib.hid hf
  clear hf
  go_enter Tryd.func16, Tryd.ntmps16
  go_wp2
  go_loopg [1, 5] n (fun g kk i wr => ∃ m : Nat, m ≤ n ∧ g = n - m ∧ kk = .int .i64 (k + m) ∧ i = .int .i64 m ∧ w = wr)
  case atStart => exact ⟨0, Nat.zero_le _, rfl, by simp, rfl, rfl⟩
  case round =>
    obtain ⟨m, hm, rfl, rfl, rfl, rfl⟩ := hrel
    by_cases hlt : m < n
    · have c1 : w.cell? ⟨c, m, none⟩ = some (.int .i64 (k + m)) := (h.cell (by omega)).trans (by rw [HF.out m hlt])
      have wk : IntKind.i64.wrap (k + (m : Int)) = k + m := by rw [IntKind.wrap_i64]; omega
      have wk1 : IntKind.i64.wrap (k + (m : Int) + 1) = k + m + 1 := by rw [IntKind.wrap_i64]; omega
      go_wp2
      go_roundg (n - (m + 1))
      case measure => omega
      case rel => exact ⟨m + 1, by omega, rfl, by congr 1; simp; omega, by simp, rfl⟩
    · have e : m = n := by omega
      subst e
      go_wp2
      go_ret
      exact ⟨rfl, rfl⟩
theorem heldMkT {v : Value} {w : World} {lo hi : Nat} {k r : Int} (h : MkT w lo hi v k r) (h1 : 0 ≤ k) (h2 : k ≤ 4000000000000) :
    Calls Tryd.prog 16 #[v, .int .i64 k] w fun e w' => e = .returned (.int .i64 r) ∧ w = w' := by
  rcases h with ⟨a, cap, rfl, rfl⟩ | ⟨c, n, cap, N, t, f, rfl, q1, q2, q3, q0, q4, q5, rfl⟩
  · exact heldI_nil a cap r w
  · exact heldNT c n cap N t k w f q4 q3 q5 q0 h1 h2
def PTb (m : List Int × Bool) (w : World) (e : Ending) (w' : World) : Prop := PIb m w e w'
theorem PTb.out {l : List Int} {z : Bool} {w w' : World} {e : Ending} (h : PTb (l, z) w e w') : ∃ v, e = .returned (.tuple #[v, .bool z]) ∧ RdI w' w.heap.size w'.heap.size v l ∧ Below w.heap.size w w' := h
theorem eqRdT {v v' : Value} {l : List Int} {w : World} {lo hi lo' hi' : Nat} (h : RdI w lo hi v l) (h' : RdI w lo' hi' v' l) :
    Calls Tryd.prog 12 #[v, v'] w fun e w' => e = .returned (.bool true) ∧ Below w.heap.size w w' := eqRdI h h'
def QTb (m : List Int × Bool) (w : World) (e : Ending) (w' : World) : Prop := ∃ v, e = .returned (.tuple #[v, .bool m.2]) ∧ OwT w' w.heap.size w'.heap.size v m.1 ∧ Below w.heap.size w w'
theorem QTb.out {l : List Int} {z : Bool} {w w' : World} {e : Ending} (h : QTb (l, z) w e w') : ∃ v, e = .returned (.tuple #[v, .bool z]) ∧ OwT w' w.heap.size w'.heap.size v l ∧ Below w.heap.size w w' := h
end Go.Proofs.YthffhllkfadejaaDoor
/- RoundsOf, on both sides. -/
namespace Go.Proofs.YthffhllkfadejaaDoor
open Go.ChangeShapes Go.WideShapes Go.ChangeAt Go.RowKit Go.Deep Go.Maps
set_option linter.unusedSimpArgs false
set_option linter.unusedVariables false
def rndL (n : Nat) (d : Nat → Int) : List Int := (List.range n).map d
theorem rndL_len (n : Nat) (d : Nat → Int) : (rndL n d).length = n := by simp [rndL]
theorem rndL_at (n : Nat) (d : Nat → Int) (k : Nat) (hk : k < n) : (rndL n d).getD k 0 = d k := by simp [rndL, List.getD, hk]
noncomputable def mRnd (X : Fm) : List Int × Bool := if fOkB X = true then (rndL X.1.toNat (decD X.1.toNat X.2 X.1.toNat), true) else ([], false)
theorem att_yes_intsT (F : FuncId) (HF : ∀ args w, (callFunc F args).run Tryd.prog w = .ok (.enter F args) w) (caps : Array Value) (w : World) (l : List Int)
    (HR : Calls Tryd.prog F caps w fun e w' => (∃ v, e = .returned v ∧ OwT w' w.heap.size w'.heap.size v l) ∧ Below w.heap.size w w') :
    Calls Tryd.prog 32 #[.func (.func F) #[] caps] w fun e w' => (∃ v, e = .returned (.tuple #[v, .bool true]) ∧ OwT w' w.heap.size w'.heap.size v l) ∧ Below w.heap.size w w' := by
  go_enter_defers Tryd.func32, Tryd.ntmps32
  go_wp2_with fail
  refine HR.mono ?_
  rintro e w1 ⟨⟨v, rfl, ho⟩, hb⟩
  go_wp2
  refine leaves_cons (f := 63) (args := #[]) (by simp) (by simp [go_sem]) ?_
  refine (catchI_idle _).mono ?_
  rintro e u' w'' ⟨rfl, rfl, rfl⟩
  simp [Leaves, settle, results, Tryd.results32, go_sem]
  exact ⟨ho, hb⟩
theorem arr_ow {w : World} {c n lo hi : Nat} {d : Nat → Int} (h : ArrAt w c d) (hn : n ≤ 10) (h1 : lo ≤ c) (h2 : c < hi) : OwT w lo hi (.slice (some ⟨c, 0, none⟩) n 10) (rndL n d) :=
  ⟨.inr ⟨c, 10, 10, _, _, by rw [rndL_len], h1, h2, by rw [rndL_len]; omega, h, fun i hi => by rw [rndL_len] at hi; rw [rndL_at n d i hi]⟩, by rw [rndL_len]; omega⟩
set_option maxHeartbeats 2000000 in
theorem ro1_ok (X : Fm) (b hi p : Nat) (w : World) (h : FmR w b hi X) (hp : FmAt w p X.1 (.slice (some ⟨b, 0, none⟩) X.2.length X.2.length)) (ok : fOk X) (hT : DBT w) :
    Calls Tryd.prog 49 #[.pointer (some ⟨p, 0, none⟩)] w fun e w' => (∃ v, e = .returned v ∧ OwT w' w.heap.size w'.heap.size v (rndL X.1.toNat (decD X.1.toNat X.2 X.1.toNat))) ∧ Below w.heap.size w w' := by
  have HG := graphof_yes X b hi w h ok
  obtain ⟨N, L⟩ := X
  have n0 : 0 ≤ N := ok.1
  have n1 : N ≤ 10 := ok.2.1
  obtain ⟨n, rfl⟩ : ∃ n : Nat, N = (n : Int) := ⟨N.toNat, by omega⟩
  simp only [Int.toNat_natCast] at *
  have HGR := fun m w' (hb : Below w.heap.size w w') (G : GrIs w' n m L) => irounds n m L w' G (hT.below hb)
  generalize decD n L n = d at HGR ⊢
  have hn : n ≤ 10 := by omega
  obtain ⟨p0, p1, pl⟩ := hp
  clear ok h hT
  go_enter Tryd.func49, Tryd.ntmps49
  go_wp2_with fail
  refine HG.mono ?_
  rintro e w1 ⟨m, rfl, hG, hb1⟩
  have HGR1 := HGR m w1 hb1 hG
  clear HGR hG
  go_wp2_with fail
  refine HGR1.mono ?_
  rintro e w2 ⟨rfl, hb2⟩
  have b2 := hb1.trans (hb2.mono hb1.size)
  have q0 := (b2.cell (p := ⟨p, 0, none⟩) pl).trans p0
  have lt2 : p < w2.heap.size := Nat.lt_of_lt_of_le pl b2.size
  have ne2 : p ≠ w2.heap.size := Nat.ne_of_lt lt2
  have HA := Lib.hid (arr_at w2 d)
  have s2 := b2.size
  go_wp2
  go_ret
  exact ⟨⟨_, rfl, arr_ow (arr_at w2 d) hn b2.size (by simp)⟩, b2.alloc b2.size _⟩
theorem ro1_bad (X : Fm) (b hi p : Nat) (w : World) (h : FmR w b hi X) (hp : FmAt w p X.1 (.slice (some ⟨b, 0, none⟩) X.2.length X.2.length)) (no : ¬ fOk X) :
    Calls Tryd.prog 49 #[.pointer (some ⟨p, 0, none⟩)] w fun e w' => Panics e ∧ Below w.heap.size w w' := by
  have HG := graphof_no X b hi w h no
  obtain ⟨p0, p1, pl⟩ := hp
  clear h no
  go_enter Tryd.func49, Tryd.ntmps49
  go_wp2_with fail
  refine HG.mono ?_
  rintro e w1 ⟨⟨u, x, rfl⟩, hb1⟩
  go_wp2
  exact ⟨rfl, ⟨_, _, rfl⟩, hb1⟩
set_option maxHeartbeats 1000000 in
theorem iRnd (X : Fm) (w : World) (lo hi : Nat) (u : Value) (h : CpG w lo hi u X) (hT : DBT w) : Calls Tryd.prog 21 #[u] w (QTb (mRnd X) w) := by
  obtain ⟨b, rfl, -, h⟩ := h
  have b0 := (Below.refl w.heap.size w).alloc (Nat.le_refl _) (.cells #[.int .i64 X.1, .slice (some ⟨b, 0, none⟩) X.2.length X.2.length] 29)
  have hp := fm_at w X.1 (.slice (some ⟨b, 0, none⟩) X.2.length X.2.length)
  unfold mRnd
  by_cases ok : fOk X
  · rw [if_pos (fOkB_yes ok)]
    have HV := att_yes_intsT 49 (fun _ _ => rfl) #[.pointer (some ⟨w.heap.size, 0, none⟩)] _ _
      (ro1_ok X b hi w.heap.size _ (h.below b0) hp ok (hT.below b0))
    generalize rndL X.1.toNat (decD X.1.toNat X.2 X.1.toNat) = z at HV ⊢
    clear h hp ok hT
    go_enter Tryd.func21, Tryd.ntmps21
    go_wp2_with fail
    refine HV.mono ?_
    rintro e w1 ⟨⟨v, rfl, ho⟩, hb1⟩
    go_wp2
    go_ret2
    exact ⟨v, rfl, ho.mono b0.size (Nat.le_refl _), b0.trans (hb1.mono b0.size)⟩
  · rw [if_neg (by rw [fOkB_no ok]; simp)]
    have HV := att_no_ints 49 (fun _ _ => rfl) #[.pointer (some ⟨w.heap.size, 0, none⟩)] _
      (ro1_bad X b hi w.heap.size _ (h.below b0) hp ok)
    clear h hp ok hT
    go_enter Tryd.func21, Tryd.ntmps21
    go_wp2_with fail
    refine HV.mono ?_
    rintro e w1 ⟨rfl, hb1⟩
    go_wp2
    go_ret2
    exact ⟨_, rfl, OwT.nil _ _ _, b0.trans (hb1.mono b0.size)⟩
set_option maxHeartbeats 2000000 in
theorem sRnd (X : Fm) (w : World) (lo hi : Nat) (u : Value) (h : CpG w lo hi u X) : Calls Tryd.prog 20 #[u] w (PTb (mRnd X) w) := by
  obtain ⟨b, rfl, -, h⟩ := h
  have b0 := (Below.refl w.heap.size w).alloc (Nat.le_refl _) (.cells #[.int .i64 X.1, .slice (some ⟨b, 0, none⟩) X.2.length X.2.length] 29)
  have hp := fm_at w X.1 (.slice (some ⟨b, 0, none⟩) X.2.length X.2.length)
  have HF := sfok X b hi w.heap.size _ (h.below b0) hp
  unfold mRnd
  by_cases ok : fOk X
  · rw [fOkB_yes ok] at HF ⊢
    rw [if_pos rfl]
    have hn : X.1.toNat ≤ 10 := by have := ok.2.1; omega
    have HO := fun w' (hb : Below _ _ w') => sof_any X b hi w.heap.size w' ((h.below b0).below hb) ok (hp.below hb)
    have HM := fun w' q hh cc (H : SgIs w' q hh cc X.1.toNat X.2) => srounds q hh cc X.1.toNat X.2 w' H
    generalize decD X.1.toNat X.2 X.1.toNat = d at HM ⊢
    clear ok h hp
    go_enter Tryd.func20, Tryd.ntmps20
    go_wp2_with fail
    refine HF.mono ?_
    rintro e w1 ⟨rfl, hd1⟩
    have hb1 := hd1.below
    have HO1 := HO _ hb1
    clear hd1
    go_wp2_with fail
    refine HO1.mono ?_
    rintro e w2 ⟨⟨q, hh, cc, rfl, HG⟩, hb2⟩
    have hb3 := hb1.trans (hb2.mono hb1.size)
    have HM1 := HM _ _ _ _ HG
    go_wp2_with fail
    refine HM1.mono ?_
    rintro e w3 ⟨rfl, hr, hb4⟩
    have hb5 := hb3.trans (hb4.mono hb3.size)
    have b3 := b0.trans (hb5.mono b0.size)
    have b2 := b0.trans (hb3.mono b0.size)
    have hl := hr.lt
    have s2 := b2.size
    go_wp2
    go_ret2
    refine ⟨_, rfl, OwT.rd ⟨.inr ⟨_, X.1.toNat, X.1.toNat, _, _, by simp [rndL_len], s2, hl, Nat.le_of_eq (rndL_len _ _), hr, fun i hi => by rw [rndL_len] at hi; rw [rndL_at _ d i hi]⟩, by rw [rndL_len]; omega⟩, b3⟩
  · rw [fOkB_no ok] at HF ⊢
    rw [if_neg (by simp)]
    clear h hp ok
    go_enter Tryd.func20, Tryd.ntmps20
    go_wp2_with fail
    refine HF.mono ?_
    rintro e w1 ⟨rfl, hd1⟩
    go_wp2
    go_ret2
    exact ⟨_, rfl, (OwT.nil _ _ _).rd, b0.trans (hd1.below.mono b0.size)⟩
end Go.Proofs.YthffhllkfadejaaDoor
