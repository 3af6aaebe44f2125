/- ProfileText: the program's call by its contract. -/
import Derived.Test.YtnpolmanebmmcaaDoorPf1
import Derived.Test.YtnpolmanebmmcaaDoorRp4
namespace Go.Proofs.YtnpolmanebmmcaaDoor
open Go.ChangeShapes Go.WideShapes Go.ChangeAt Go.RowKit Go.Deep
set_option linter.unusedSimpArgs false
set_option linter.unusedVariables false
/-- A text and a bool. -/
def Psb (m : ByteArray × Bool) (w : World) (e : Ending) (w' : World) : Prop := e = .returned (.tuple #[.string m.1, .bool m.2]) ∧ Below w.heap.size w w'
theorem Psb.out {s : ByteArray} {z : Bool} {w w' : World} {e : Ending} (h : Psb (s, z) w e w') : e = .returned (.tuple #[.string s, .bool z]) ∧ Below w.heap.size w w' := h
abbrev Qsb := Psb
theorem bytesOf_app (a b : List UInt8) : bytesOf a ++ bytesOf b = bytesOf (a ++ b) := str_app a b
theorem add_b (a b : List UInt8) (lb : ByteArray) (e : lb = bytesOf b) (h : a.length + b.length ≤ 1000000) (W : World) : (Op.stringOp .add (bytesOf a) lb).run Tryd.prog W = .ok (.string (bytesOf (a ++ b))) W := by
  subst e
  rw [← bytesOf_app]
  exact run_string_add_sum (P := Tryd.prog) (w := W) (bytesOf a) (bytesOf b) (by show a.length + b.length ≤ _; omega)
theorem add_d (a b c : List UInt8) (la lb : ByteArray) (ea : la = bytesOf a) (eb : lb = bytesOf b) (hc : a ++ b = c) (h : a.length + b.length ≤ 1000000) (W : World) : (Op.stringOp .add la lb).run Tryd.prog W = .ok (.string (bytesOf c)) W := by
  subst ea hc
  exact add_b a b lb eb h W
theorem idecb7 (n : Int) (w : World) (h1 : -1000000000 ≤ n) (h2 : n ≤ 1000000000) (hp : PowT w) :
    Calls Tryd.prog 16 #[.int .i64 n] w fun e w' => e = .returned (.string (bytesOf (Lib.itoa n))) ∧ Below w.heap.size w w' := idec n w (by omega) (by omega) hp
theorem sdecb7 (n : Int) (w : World) (h1 : -1000000000 ≤ n) (h2 : n ≤ 1000000000) :
    Calls Tryd.prog 24 #[.int .i64 n] w fun e w' => e = .returned (.string (bytesOf (Lib.itoa n))) ∧ Below w.heap.size w w' := sdec n w (by omega) (by omega)
theorem toe_let' (v : Value) (l : List Int) (w : World) (h : RowV w v l) (hl : l.length ≤ 1000) (hr : ∀ x ∈ l, 0 ≤ x ∧ x ≤ 5) :
    Calls Tryd.prog 17 #[v, .string ⟨#[]⟩, .func (.func 18) #[] #[]] w fun e w' => e = .returned (.string (bytesOf (rtx l))) ∧ Below w.heap.size w w' := toe_let v l w h hl hr
noncomputable def mPrText (X : Pr) : ByteArray × Bool := if pOkB X then (bytesOf (pftext X), true) else (⟨#[]⟩, false)
theorem pmem {X : Pr} (h : pOk X) (k : Nat) (hk : k < X.1.length) : (X.1.getD k []).length ≤ 6 ∧ ∀ x ∈ X.1.getD k [], 0 ≤ x ∧ x ≤ 5 := by
  obtain ⟨-, -, -, -, h6, hr⟩ := h
  obtain ⟨⟨hl, hd⟩, -⟩ := hr k hk
  generalize X.1.getD k [] = l at hl hd ⊢
  refine ⟨by omega, fun x hx => ?_⟩
  obtain ⟨m, hm, e⟩ := List.mem_iff_getElem.1 hx
  have q := hd m hm
  have e2 : l.getD m 0 = x := by simp [List.getD, hm, e]
  rw [e2] at q
  omega
theorem pln_len {n : Int} (h1 : 0 ≤ n) (h2 : n ≤ 1000) {l : List Int} (hl : l.length ≤ 6) : (pln n l).length ≤ 19 := by
  have := itoa_len9 (n := n) (by omega) (by omega)
  unfold pln rtx
  simp only [List.length_append, List.length_cons, List.length_nil, List.length_map]
  omega
theorem pfl_len {X : Pr} (h : pOk X) (k : Nat) (hk : k ≤ X.1.length) : (pfl X k).length ≤ 19 * k := by
  induction k with
  | zero => simp [pfl]
  | succ k ih =>
    have := ih (by omega)
    have hw := (h.2.2.2.2.2 k (by omega)).2
    have := pln_len hw.1 hw.2 (pmem h k (by omega)).1
    show (pfl X k ++ pln (X.2.getD k 0) (X.1.getD k [])).length ≤ _
    simp only [List.length_append]
    omega
set_option maxHeartbeats 4000000 in
set_option maxRecDepth 100000 in
theorem iPrText (X : Pr) (w : World) (lo hi : Nat) (u : Value) (c : CpR w lo hi u X) (hg : PowT w) : Calls Tryd.prog 7 #[u] w (Psb (mPrText X) w) := by
  obtain ⟨b, c, rfl, -, h⟩ := c
  have b1 := (Below.refl w.heap.size w).alloc (Nat.le_refl _) (.cells #[.slice (some ⟨b, 0, none⟩) X.1.length X.1.length, .slice (some ⟨c, 0, none⟩) X.2.length X.2.length] 29)
  have hp := pr_at w (.slice (some ⟨b, 0, none⟩) X.1.length X.1.length) (.slice (some ⟨c, 0, none⟩) X.2.length X.2.length)
  have HS := ival X b c hi _ (h.below b1)
  have H3 := Lib.hid (h.below b1).rows
  have HW := Lib.hid (h.below b1).wts
  clear h
  unfold Psb mPrText
  obtain ⟨z, hz⟩ : ∃ z, pOkB X = z := ⟨_, rfl⟩
  rw [hz] at HS ⊢
  cases z with
  | false =>
    clear hp hg
    rw [if_neg (by simp)]
    go_enter Tryd.func7, Tryd.ntmps7
    go_wp2_with fail
    refine HS.mono ?_
    rintro e w1 ⟨rfl, hb1⟩
    go_wp2
    go_ret2
    exact ⟨rfl, b1.trans (hb1.mono b1.size)⟩
  | true =>
    have hok := pOkB_iff.1 hz
    have hl := hok.2.1
    have hcl := hok.2.2.1
    have hfl := pfl_len hok
    have HA := Lib.hid (fun k hk => pmem hok k hk)
    have HB := Lib.hid (fun k hk => (hok.2.2.2.2.2 k hk).2)
    have hqs : ∀ k, pfl X (k + 1) = pfl X k ++ pln (X.2.getD k 0) (X.1.getD k []) := fun k => rfl
    have hq0 : pfl X 0 = [] := rfl
    rw [if_pos rfl]
    rw [show pftext X = pfl X X.1.length from rfl]
    generalize pfl X = P at hfl hqs hq0 ⊢
    obtain ⟨L, C⟩ := X
    simp only at *
    have HP := Lib.hid hg
    have HFL := Lib.hid hfl
    have HCL := Lib.hid hcl
    have HQ := Lib.hid hqs
    have HQ0 := Lib.hid hq0
    have B1 := Lib.hid b1
    clear hok hfl hcl hg hz b1 hqs hq0
    go_enter Tryd.func7, Tryd.ntmps7
    go_wp2_with fail
    refine HS.mono ?_
    rintro e w1 ⟨rfl, hb1⟩
    have H31 := Lib.hid (H3.out.below hb1)
    have HW1 := Lib.hid (HW.out.below hb1)
    obtain ⟨pc0, pc1, pl⟩ := hp.below hb1
    have B2 := Lib.hid (B1.out.trans (hb1.mono B1.out.size))
    clear hb1 hp
    go_wp2
    go_loopg [4, 13] L.length (fun g o i wr => ∃ k : Nat, k ≤ L.length ∧ g = L.length - k ∧ o = .string (bytesOf (P k)) ∧ i = .int .i64 (k : Int) ∧ Below w1.heap.size w1 wr)
    case atStart => exact ⟨0, Nat.zero_le _, rfl, by rw [HQ0.out]; rfl, rfl, Below.refl _ _⟩
    case round =>
      obtain ⟨k, hk, rfl, rfl, rfl, hb⟩ := hrel
      have z1 := (hb.cell (p := ⟨w.heap.size, 1, none⟩) pl).trans pc1
      by_cases hlt : k < L.length
      · obtain ⟨d, a1, a2⟩ := (H31.out.below hb).at hlt
        have hkc : k < C.length := by have := HCL.out; omega
        have c1 : wr.cell? ⟨c, k, none⟩ = some (.int .i64 (C.getD k 0)) := (HW1.out.below hb).cell (i := k) hkc
        obtain ⟨hll, hmem⟩ := HA.out k hlt
        obtain ⟨x1, x2⟩ := HB.out k hlt
        have hql := HFL.out k hk
        have hqs := HQ.out k
        obtain ⟨l, hl⟩ : ∃ l, L.getD k [] = l := ⟨_, rfl⟩
        obtain ⟨x, hx⟩ : ∃ x, C.getD k 0 = x := ⟨_, rfl⟩
        rw [hl] at a1 a2 hll hmem hqs
        rw [hx] at c1 x1 x2 hqs
        have HBB := Lib.hid (B2.out.trans (hb.mono B2.out.size))
        have HD := idecb7 x wr (by omega) (by omega) (HP.out.below HBB.out)
        have HT := Lib.hid (fun w' (hw : Below wr.heap.size wr w') => toe_let' (.slice (some ⟨d, 0, none⟩) l.length l.length) l w' ((a2.below hw).row _) (by omega) hmem)
        have hdl := itoa_len9 (n := x) (by omega) (by omega)
        unfold pln at hqs
        have hrl : (rtx l).length ≤ 6 := by unfold rtx; simpa using hll
        obtain ⟨R, hR⟩ : ∃ R, rtx l = R := ⟨_, rfl⟩
        rw [hR] at HT hqs hrl
        obtain ⟨D, hD⟩ : ∃ D, Lib.itoa x = D := ⟨_, rfl⟩
        rw [hD] at HD hqs hdl
        obtain ⟨N, hN⟩ : ∃ N, P (k + 1) = N := ⟨_, rfl⟩
        obtain ⟨O, hO⟩ : ∃ O, P k = O := ⟨_, rfl⟩
        rw [hN, hO] at hqs
        rw [hO] at hql
        obtain ⟨E1, hE1⟩ : ∃ T, D ++ [42] = T := ⟨_, rfl⟩
        obtain ⟨E2, hE2⟩ : ∃ T, E1 ++ R = T := ⟨_, rfl⟩
        obtain ⟨E3, hE3⟩ : ∃ T, E2 ++ [10] = T := ⟨_, rfl⟩
        have g1 : E1.length = D.length + 1 := by rw [← hE1]; simp
        have g2 : E2.length = E1.length + R.length := by rw [← hE2]; simp
        have g3 : E3.length = E2.length + 1 := by rw [← hE3]; simp
        have hfin : O ++ E3 = N := by rw [hqs, ← hE3, ← hE2, ← hE1]; simp
        have A1 := add_d D [42] E1 (bytesOf D) ⟨#[42]⟩ rfl rfl hE1 (by simp; omega)
        have A2 := add_d E1 R E2 (bytesOf E1) (bytesOf R) rfl rfl hE2 (by omega)
        have A3 := add_d E2 [10] E3 (bytesOf E2) ⟨#[10]⟩ rfl rfl hE3 (by simp; omega)
        have A4 := add_d O E3 N (bytesOf O) (bytesOf E3) rfl rfl hfin (by omega)
        rw [hO]
        have HNN := Lib.hid hN
        clear hl hx hqs hR hD hN hO hE1 hE2 hE3 hfin hmem a2 hql
        go_wp2_with fail
        refine HD.mono ?_
        rintro e w5 ⟨rfl, hb5⟩
        have HT5 := HT.out w5 hb5
        clear HD
        go_wp2_with fail
        refine HT5.mono ?_
        rintro e w6 ⟨rfl, hb6⟩
        have hb7 := hb5.trans (hb6.mono hb5.size)
        go_wp2
        go_roundg (L.length - (k + 1))
        case measure => omega
        case rel => exact ⟨k + 1, by omega, rfl, by rw [HNN.out], by simp, hb.trans (hb7.mono hb.size)⟩
      · obtain rfl : k = L.length := by omega
        go_wp2
        go_ret2
        exact ⟨rfl, B2.out.trans (hb.mono B2.out.size)⟩
end Go.Proofs.YtnpolmanebmmcaaDoor
