/- Several of this claim's texts in one: KT, Rt1. -/
import Derived.Test.YtllfopbpchjhpaaDoorK2v
import Derived.Test.YtllfopbpchjhpaaDoorRq1
import Derived.Test.YtllfopbpchjhpaaDoorRs1
import Derived.Test.YtllfopbpchjhpaaDoorAta
import Derived.Test.YtllfopbpchjhpaaDoorGsa
/- The kinds of values that a law copies, compares, marks: lists of numbers in a row of any type (a slice of an array). -/
namespace Go.Proofs.YtllfopbpchjhpaaDoor
open Go.ChangeShapes Go.WideShapes Go.ChangeAt Go.RowKit Go.Deep
set_option linter.unusedSimpArgs false
set_option linter.unusedVariables false
/-- v is the list l in memory of the call's own, a row in one block from lo to below hi. -/
def OwT (w : World) (lo hi : Nat) (v : Value) (l : List Int) : Prop :=
  ((v = .slice none 0 0 ∧ l = []) ∨ ∃ (c cap N t : Nat) (f : Nat → Value), v = .slice (some ⟨c, 0, none⟩) l.length cap ∧ lo ≤ c ∧ c < hi ∧ l.length ≤ N ∧ w.rowIs c t N f ∧ ∀ i, i < l.length → f i = .int .i64 (l.getD i 0)) ∧ l.length ≤ 1048576
theorem OwT.rd {w : World} {lo hi : Nat} {v : Value} {l : List Int} (h : OwT w lo hi v l) : RdI w lo hi v l := by
  obtain ⟨h | ⟨c, cap, N, t, f, rfl, h1, h2, h3, h4, h5⟩, hl⟩ := h
  · exact ⟨.inl h, (fun k e => by obtain ⟨rfl, -⟩ := h; cases e), hl⟩
  · refine ⟨.inr ⟨_, cap, rfl, fun _ => h4.lt, fun i hi => ?_⟩, fun k e => ?_, hl⟩
    · rw [Addr.add_lit, Nat.zero_add, h4.cell (i := i) (by omega), h5 i hi]
    · have e : c = k := by simpa [Value.ownBlock] using e
      omega
theorem OwT.below {w w' : World} {lo hi : Nat} {v : Value} {l : List Int} (h : OwT w lo hi v l) (hb : Below w.heap.size w w') : OwT w' lo hi v l := by
  obtain ⟨h | ⟨c, cap, N, t, f, rfl, h1, h2, h3, h4, h5⟩, hl⟩ := h
  · exact ⟨.inl h, hl⟩
  · exact ⟨.inr ⟨c, cap, N, t, f, rfl, h1, h2, h3, h4.of_block (hb.block c h4.lt), h5⟩, hl⟩
theorem OwT.kept {w w' : World} {lo hi : Nat} {v : Value} {l : List Int} {S : Nat → Prop} (h : OwT w lo hi v l) (hk : Kept w w' S) (hs : ∀ b, lo ≤ b → b < hi → ¬ S b) : OwT w' lo hi v l := by
  obtain ⟨h | ⟨c, cap, N, t, f, rfl, h1, h2, h3, h4, h5⟩, hl⟩ := h
  · exact ⟨.inl h, hl⟩
  · exact ⟨.inr ⟨c, cap, N, t, f, rfl, h1, h2, h3, hk.row h4 (hs c h1 h2), h5⟩, hl⟩
theorem OwT.mono {w : World} {lo hi lo' hi' : Nat} {v : Value} {l : List Int} (h : OwT w lo hi v l) (e1 : lo' ≤ lo) (e2 : hi ≤ hi') : OwT w lo' hi' v l := by
  obtain ⟨h | ⟨c, cap, N, t, f, rfl, h1, h2, h3, h4, h5⟩, hl⟩ := h
  · exact ⟨.inl h, hl⟩
  · exact ⟨.inr ⟨c, cap, N, t, f, rfl, by omega, by omega, h3, h4, h5⟩, hl⟩
theorem OwT.nil (w : World) (lo hi : Nat) : OwT w lo hi (.slice none 0 0) [] := ⟨.inl ⟨rfl, rfl⟩, by simp⟩
/-- Marks from k to below r lie in the list at v. -/
def MkT (w : World) (lo hi : Nat) (v : Value) (k r : Int) : Prop :=
  (∃ a cap, v = .slice a 0 cap ∧ r = k) ∨ ∃ (c n cap N t : Nat) (f : Nat → Value), v = .slice (some ⟨c, 0, none⟩) n cap ∧ lo ≤ c ∧ c < hi ∧ n ≤ N ∧ n ≤ 1048576 ∧ w.rowIs c t N f ∧ (∀ i, i < n → f i = .int .i64 (k + i)) ∧ r = k + n
theorem MkT.below {w w' : World} {lo hi : Nat} {v : Value} {k r : Int} (h : MkT w lo hi v k r) (hb : Below w.heap.size w w') : MkT w' lo hi v k r := by
  rcases h with h | ⟨c, n, cap, N, t, f, rfl, h1, h2, h3, h0, h4, h5, h6⟩
  · exact .inl h
  · exact .inr ⟨c, n, cap, N, t, f, rfl, h1, h2, h3, h0, h4.of_block (hb.block c h4.lt), h5, h6⟩
def PTb (m : List Int × Bool) (w : World) (e : Ending) (w' : World) : Prop := PIb m w e w'
theorem PTb.out {l : List Int} {z : Bool} {w w' : World} {e : Ending} (h : PTb (l, z) w e w') : ∃ v, e = .returned (.tuple #[v, .bool z]) ∧ RdI w' w.heap.size w'.heap.size v l ∧ Below w.heap.size w w' := h
def QTb (m : List Int × Bool) (w : World) (e : Ending) (w' : World) : Prop := ∃ v, e = .returned (.tuple #[v, .bool m.2]) ∧ OwT w' w.heap.size w'.heap.size v m.1 ∧ Below w.heap.size w w'
theorem QTb.out {l : List Int} {z : Bool} {w w' : World} {e : Ending} (h : QTb (l, z) w e w') : ∃ v, e = .returned (.tuple #[v, .bool z]) ∧ OwT w' w.heap.size w'.heap.size v l ∧ Below w.heap.size w w' := h
end Go.Proofs.YtllfopbpchjhpaaDoor
/- RoundsOf, on both sides. -/
namespace Go.Proofs.YtllfopbpchjhpaaDoor
open Go.ChangeShapes Go.WideShapes Go.ChangeAt Go.RowKit Go.Deep Go.Maps
set_option linter.unusedSimpArgs false
set_option linter.unusedVariables false
def rndL (n : Nat) (d : Nat → Int) : List Int := (List.range n).map d
theorem rndL_len (n : Nat) (d : Nat → Int) : (rndL n d).length = n := by simp [rndL]
theorem rndL_at (n : Nat) (d : Nat → Int) (k : Nat) (hk : k < n) : (rndL n d).getD k 0 = d k := by simp [rndL, List.getD, hk]
noncomputable def mRnd (X : Fm) : List Int × Bool := if fOkB X = true then (rndL X.1.toNat (decD X.1.toNat X.2 X.1.toNat), true) else ([], false)
theorem att_yes_intsT (F : FuncId) (HF : ∀ args w, (callFunc F args).run Tryd.prog w = .ok (.enter F args) w) (caps : Array Value) (w : World) (l : List Int)
    (HR : Calls Tryd.prog F caps w fun e w' => (∃ v, e = .returned v ∧ OwT w' w.heap.size w'.heap.size v l) ∧ Below w.heap.size w w') :
    Calls Tryd.prog 10 #[.func (.func F) #[] caps] w fun e w' => (∃ v, e = .returned (.tuple #[v, .bool true]) ∧ OwT w' w.heap.size w'.heap.size v l) ∧ Below w.heap.size w w' := by
  go_enter_defers Tryd.func10, Tryd.ntmps10
  go_wp2_with fail
  refine HR.mono ?_
  rintro e w1 ⟨⟨v, rfl, ho⟩, hb⟩
  go_wp2
  refine leaves_cons (f := 21) (args := #[]) (by simp) (by simp [go_sem]) ?_
  refine (catchI_idle _).mono ?_
  rintro e u' w'' ⟨rfl, rfl, rfl⟩
  simp [Leaves, settle, results, Tryd.results10, go_sem]
  exact ⟨ho, hb⟩
theorem arr_ow {w : World} {c n lo hi : Nat} {d : Nat → Int} (h : ArrAt w c d) (hn : n ≤ 10) (h1 : lo ≤ c) (h2 : c < hi) : OwT w lo hi (.slice (some ⟨c, 0, none⟩) n 10) (rndL n d) :=
  ⟨.inr ⟨c, 10, 10, _, _, by rw [rndL_len], h1, h2, by rw [rndL_len]; omega, h, fun i hi => by rw [rndL_len] at hi; rw [rndL_at n d i hi]⟩, by rw [rndL_len]; omega⟩
set_option maxHeartbeats 2000000 in
theorem ro1_okX (X : Fm) (b cp p : Nat) (w : World) (h : FmX w b X) (hp : FmAt w p X.1 (.slice (some ⟨b, 0, none⟩) X.2.length cp)) (ok : fOk X) (hT : DBT w) :
    Calls Tryd.prog 11 #[.pointer (some ⟨p, 0, none⟩)] w fun e w' => (∃ v, e = .returned v ∧ OwT w' w.heap.size w'.heap.size v (rndL X.1.toNat (decD X.1.toNat X.2 X.1.toNat))) ∧ Below w.heap.size w w' := by
  have HG := graphof_yesX X b cp w h ok
  obtain ⟨N, L⟩ := X
  have n0 : 0 ≤ N := ok.1
  have n1 : N ≤ 10 := ok.2.1
  obtain ⟨n, rfl⟩ : ∃ n : Nat, N = (n : Int) := ⟨N.toNat, by omega⟩
  simp only [Int.toNat_natCast] at *
  have HGR := fun m w' (hb : Below w.heap.size w w') (G : GrIs w' n m L) => irounds n m L w' G (hT.below hb)
  generalize decD n L n = d at HGR ⊢
  have hn : n ≤ 10 := by omega
  obtain ⟨p0, p1, pl⟩ := hp
  clear ok h hT
  go_enter Tryd.func11, Tryd.ntmps11
  go_wp2_with fail
  refine HG.mono ?_
  rintro e w1 ⟨m, rfl, hG, hb1⟩
  have HGR1 := HGR m w1 hb1 hG
  clear HGR hG
  go_wp2_with fail
  refine HGR1.mono ?_
  rintro e w2 ⟨rfl, hb2⟩
  have b2 := hb1.trans (hb2.mono hb1.size)
  have q0 := (b2.cell (p := ⟨p, 0, none⟩) pl).trans p0
  have lt2 : p < w2.heap.size := Nat.lt_of_lt_of_le pl b2.size
  have ne2 : p ≠ w2.heap.size := Nat.ne_of_lt lt2
  have HA := Lib.hid (arr_at w2 d)
  have s2 := b2.size
  go_wp2
  go_ret
  exact ⟨⟨_, rfl, arr_ow (arr_at w2 d) hn b2.size (by simp)⟩, b2.alloc b2.size _⟩
theorem ro1_ok (X : Fm) (b hi p : Nat) (w : World) (h : FmR w b hi X) (hp : FmAt w p X.1 (.slice (some ⟨b, 0, none⟩) X.2.length X.2.length)) (ok : fOk X) (hT : DBT w) :
    Calls Tryd.prog 11 #[.pointer (some ⟨p, 0, none⟩)] w fun e w' => (∃ v, e = .returned v ∧ OwT w' w.heap.size w'.heap.size v (rndL X.1.toNat (decD X.1.toNat X.2 X.1.toNat))) ∧ Below w.heap.size w w' := ro1_okX X b _ p w h.toX hp ok hT
theorem ro1_bad (X : Fm) (b hi p : Nat) (w : World) (h : FmR w b hi X) (hp : FmAt w p X.1 (.slice (some ⟨b, 0, none⟩) X.2.length X.2.length)) (no : ¬ fOk X) :
    Calls Tryd.prog 11 #[.pointer (some ⟨p, 0, none⟩)] w fun e w' => Panics e ∧ Below w.heap.size w w' := by
  have HG := graphof_no X b hi w h no
  obtain ⟨p0, p1, pl⟩ := hp
  clear h no
  go_enter Tryd.func11, Tryd.ntmps11
  go_wp2_with fail
  refine HG.mono ?_
  rintro e w1 ⟨⟨u, x, rfl⟩, hb1⟩
  go_wp2
  exact ⟨rfl, ⟨_, _, rfl⟩, hb1⟩
set_option maxHeartbeats 1000000 in
theorem iRnd (X : Fm) (w : World) (lo hi : Nat) (u : Value) (h : CpG w lo hi u X) (hT : DBT w) : Calls Tryd.prog 6 #[u] w (QTb (mRnd X) w) := by
  obtain ⟨b, rfl, -, h⟩ := h
  have b0 := (Below.refl w.heap.size w).alloc (Nat.le_refl _) (.cells #[.int .i64 X.1, .slice (some ⟨b, 0, none⟩) X.2.length X.2.length] 26)
  have hp := fm_at w X.1 (.slice (some ⟨b, 0, none⟩) X.2.length X.2.length)
  unfold mRnd
  by_cases ok : fOk X
  · rw [if_pos (fOkB_yes ok)]
    have HV := att_yes_intsT 11 (fun _ _ => rfl) #[.pointer (some ⟨w.heap.size, 0, none⟩)] _ _
      (ro1_ok X b hi w.heap.size _ (h.below b0) hp ok (hT.below b0))
    generalize rndL X.1.toNat (decD X.1.toNat X.2 X.1.toNat) = z at HV ⊢
    clear h hp ok hT
    go_enter Tryd.func6, Tryd.ntmps6
    go_wp2_with fail
    refine HV.mono ?_
    rintro e w1 ⟨⟨v, rfl, ho⟩, hb1⟩
    go_wp2
    go_ret2
    exact ⟨v, rfl, ho.mono b0.size (Nat.le_refl _), b0.trans (hb1.mono b0.size)⟩
  · rw [if_neg (by rw [fOkB_no ok]; simp)]
    have HV := att_no_ints 11 (fun _ _ => rfl) #[.pointer (some ⟨w.heap.size, 0, none⟩)] _
      (ro1_bad X b hi w.heap.size _ (h.below b0) hp ok)
    clear h hp ok hT
    go_enter Tryd.func6, Tryd.ntmps6
    go_wp2_with fail
    refine HV.mono ?_
    rintro e w1 ⟨rfl, hb1⟩
    go_wp2
    go_ret2
    exact ⟨_, rfl, OwT.nil _ _ _, b0.trans (hb1.mono b0.size)⟩
end Go.Proofs.YtllfopbpchjhpaaDoor
