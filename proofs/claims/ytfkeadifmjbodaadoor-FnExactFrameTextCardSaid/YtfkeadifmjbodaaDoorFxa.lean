/- Several of this claim's texts in one: Fx1, Fx2, Fx3. -/
import Derived.Test.YtfkeadifmjbodaaDoorTx1
import Derived.Test.YtfkeadifmjbodaaDoorGr8
import Derived.Laws.Concat
import Derived.Test.YtfkeadifmjbodaaDoorGr9
import Derived.Deep.RegionHeld3
/- The text of a frame: pure; the program's FrameText. -/
namespace Go.Proofs.YtfkeadifmjbodaaDoor
open Go.ChangeShapes Go.WideShapes Go.ChangeAt Go.RowKit Go.Deep
set_option linter.unusedSimpArgs false
set_option linter.unusedVariables false
def atext (l : List Int) : List UInt8 := Lib.itoa (l.getD 0 0) ++ ([62] ++ Lib.itoa (l.getD 1 0))
def ftl (L : List (List Int)) : Nat → List UInt8
  | 0 => []
  | k + 1 => ftl L k ++ ([32] ++ atext (L.getD k []))
def ftext (X : Fm) : List UInt8 := Lib.itoa X.1 ++ ftl X.2 X.2.length
theorem atext_join {l : List Int} (h : l.length = 2) : Lib.join (l.map Lib.itoa) [62] = atext l := by
  match l, h with
  | [x, y], _ => simp [atext, Lib.join, List.getD]
theorem key_ge {X : Fm} (h : fOk X) (k : Nat) (hk : k < X.2.length) : (k : Int) ≤ keyA (X.2.getD k []) := by
  induction k with
  | zero =>
    obtain ⟨-, h1, h2, h3, h4⟩ := (h.2.2 0 hk).1
    unfold keyA
    omega
  | succ k ih =>
    have := ih (by omega)
    have := (h.2.2 (k + 1) hk).2 k rfl
    omega
theorem len_100 {X : Fm} (h : fOk X) : X.2.length ≤ 100 := by
  apply Classical.byContradiction
  intro hn
  have hk : 100 < X.2.length := by omega
  have h1 := key_ge h 100 hk
  obtain ⟨-, a1, a2, a3, a4⟩ := (h.2.2 100 hk).1
  have := h.2.1
  unfold keyA at h1
  omega
theorem atext_len {n : Int} (hn : n ≤ 10) {l : List Int} (h : atkOk n l) : (atext l).length ≤ 23 := by
  obtain ⟨-, h1, h2, h3, h4⟩ := h
  have a := itoa_len9 (n := l.getD 0 0) (by omega) (by omega)
  have b := itoa_len9 (n := l.getD 1 0) (by omega) (by omega)
  unfold atext
  simp only [List.length_append, List.length_cons, List.length_nil]
  omega
theorem ftl_len {X : Fm} (h : fOk X) (k : Nat) (hk : k ≤ X.2.length) : (ftl X.2 k).length ≤ 24 * k := by
  induction k with
  | zero => simp [ftl]
  | succ k ih =>
    have := ih (by omega)
    have := atext_len h.2.1 (h.2.2 k (by omega)).1
    show (ftl X.2 k ++ ([32] ++ atext (X.2.getD k []))).length ≤ _
    simp only [List.length_append, List.length_cons, List.length_nil]
    omega
/-- A text and a bool. -/
def Psb (m : ByteArray × Bool) (w : World) (e : Ending) (w' : World) : Prop := e = .returned (.tuple #[.string m.1, .bool m.2]) ∧ Below w.heap.size w w'
theorem Psb.out {s : ByteArray} {z : Bool} {w w' : World} {e : Ending} (h : Psb (s, z) w e w') : e = .returned (.tuple #[.string s, .bool z]) ∧ Below w.heap.size w w' := h
abbrev Qsb := Psb
theorem bytesOf_app (a b : List UInt8) : bytesOf a ++ bytesOf b = bytesOf (a ++ b) := str_app a b
theorem add_b (a b : List UInt8) (lb : ByteArray) (e : lb = bytesOf b) (h : a.length + b.length ≤ 1000000) (W : World) : (Op.stringOp .add (bytesOf a) lb).run Tryd.prog W = .ok (.string (bytesOf (a ++ b))) W := by
  subst e
  rw [← bytesOf_app]
  exact run_string_add_sum (P := Tryd.prog) (w := W) (bytesOf a) (bytesOf b) (by show a.length + b.length ≤ _; omega)
theorem add_d (a b c : List UInt8) (la lb : ByteArray) (ea : la = bytesOf a) (eb : lb = bytesOf b) (hc : a ++ b = c) (h : a.length + b.length ≤ 1000000) (W : World) : (Op.stringOp .add la lb).run Tryd.prog W = .ok (.string (bytesOf c)) W := by
  subst ea hc
  exact add_b a b lb eb h W
theorem idecb7 (n : Int) (w : World) (h1 : -1000000000 ≤ n) (h2 : n ≤ 1000000000) (hp : PowT w) :
    Calls Tryd.prog 49 #[.int .i64 n] w fun e w' => e = .returned (.string (bytesOf (Lib.itoa n))) ∧ Below w.heap.size w w' := idec n w (by omega) (by omega) hp
theorem sdecb7 (n : Int) (w : World) (h1 : -1000000000 ≤ n) (h2 : n ≤ 1000000000) :
    Calls Tryd.prog 110 #[.int .i64 n] w fun e w' => e = .returned (.string (bytesOf (Lib.itoa n))) ∧ Below w.heap.size w w' := sdec n w (by omega) (by omega)
noncomputable def mFText (X : Fm) : ByteArray × Bool := if fOkB X then (bytesOf (ftext X), true) else (⟨#[]⟩, false)
theorem mem_at {l : List Int} {n : Int} (hn : n ≤ 10) (h : atkOk n l) : ∀ x ∈ l, -1000000000 ≤ x ∧ x ≤ 1000000000 := by
  obtain ⟨h0, h1, h2, h3, h4⟩ := h
  match l, h0 with
  | [x, y], _ =>
    simp [List.getD] at h1 h2 h3 h4
    intro z hz
    simp at hz
    omega
end Go.Proofs.YtfkeadifmjbodaaDoor
/- FrameText: the program's call by its contract. -/
namespace Go.Proofs.YtfkeadifmjbodaaDoor
open Go.ChangeShapes Go.WideShapes Go.ChangeAt Go.RowKit Go.Deep
set_option linter.unusedSimpArgs false
set_option linter.unusedVariables false
set_option maxHeartbeats 4000000 in
set_option maxRecDepth 100000 in
theorem iFText (X : Fm) (w : World) (lo hi : Nat) (u : Value) (c : CpG w lo hi u X) (hg : PowT w) : Calls Tryd.prog 15 #[u] w (Psb (mFText X) w) := by
  obtain ⟨b, rfl, h1, h⟩ := c
  have b1 := (Below.refl w.heap.size w).alloc (Nat.le_refl _) (.cells #[.int .i64 X.1, .slice (some ⟨b, 0, none⟩) X.2.length X.2.length] 28)
  have hp := fm_at w X.1 (.slice (some ⟨b, 0, none⟩) X.2.length X.2.length)
  have HS := iVF X _ lo hi _ ⟨b, rfl, h1, h.below b1⟩
  have H3 := Lib.hid (h.below b1).rows
  clear h
  unfold Pb at HS
  unfold Psb mFText
  obtain ⟨z, hz⟩ : ∃ z, fOkB X = z := ⟨_, rfl⟩
  rw [hz] at HS ⊢
  cases z with
  | false =>
    clear hp hg
    rw [if_neg (by simp)]
    go_enter Tryd.func15, Tryd.ntmps15
    go_wp2_with fail
    refine HS.mono ?_
    rintro e w1 ⟨rfl, hb1⟩
    go_wp2
    go_ret2
    exact ⟨rfl, b1.trans (hb1.mono b1.size)⟩
  | true =>
    have hok := fOkB_iff.1 hz
    have hl := len_100 hok
    have hfl := ftl_len hok
    have hn := hok.2.1
    have hn0 := hok.1
    have HA := Lib.hid hok.2.2
    rw [if_pos rfl]
    obtain ⟨n, L⟩ := X
    simp only at *
    have HN := Lib.hid (fun w hp => idecb7 n w (by omega) (by omega) hp)
    have HP := Lib.hid hg
    have HFL := Lib.hid hfl
    have l1 := itoa_len9 (n := n) (by omega) (by omega)
    obtain ⟨T, hT⟩ : ∃ T, Lib.itoa n = T := ⟨_, rfl⟩
    have hft : ftext (n, L) = T ++ ftl L L.length := by rw [← hT]; rfl
    rw [hft]
    rw [hT] at HN l1
    have B1 := Lib.hid b1
    clear hok hfl hT hft hg hz b1
    go_enter Tryd.func15, Tryd.ntmps15
    go_wp2_with fail
    refine HS.mono ?_
    rintro e w1 ⟨rfl, hb1⟩
    have H31 := Lib.hid (H3.out.below hb1)
    obtain ⟨pc0, pc1, pl⟩ := hp.below hb1
    have B2 := Lib.hid (B1.out.trans (hb1.mono B1.out.size))
    have HN1 := HN.out w1 (HP.out.below B2.out)
    clear hb1 hp HN
    go_wp2_with fail
    refine HN1.mono ?_
    rintro e w2 ⟨rfl, hb2⟩
    have pc2 := (hb2.cell (p := ⟨w.heap.size, 1, none⟩) pl).trans pc1
    have H32 := Lib.hid (H31.out.below hb2)
    have B3 := Lib.hid (B2.out.trans (hb2.mono B2.out.size))
    clear pc0 pc1 hb2
    go_wp2
    go_loopg [4, 16] L.length (fun g o i wr => ∃ k : Nat, k ≤ L.length ∧ g = L.length - k ∧ o = .string (bytesOf (T ++ ftl L k)) ∧ i = .int .i64 (k : Int) ∧ Below w2.heap.size w2 wr)
    case atStart => exact ⟨0, Nat.zero_le _, rfl, by simp [ftl], rfl, Below.refl _ _⟩
    case round =>
      obtain ⟨k, hk, rfl, rfl, rfl, hb⟩ := hrel
      by_cases hlt : k < L.length
      · obtain ⟨c, a1, a2⟩ := (H32.out.below hb).at hlt
        have hal := (HA.out k hlt).1
        have hql := HFL.out k hk
        have hqs : ftl L (k + 1) = ftl L k ++ ([32] ++ atext (L.getD k [])) := rfl
        obtain ⟨l, hl⟩ : ∃ l, L.getD k [] = l := ⟨_, rfl⟩
        rw [hl] at a1 a2 hal hqs
        have hll := hal.1
        have HB := Lib.hid (B3.out.trans (hb.mono B3.out.size))
        have HD := toe_int (.slice (some ⟨c, 0, none⟩) l.length l.length) l 62 wr (a2.row _) (by omega) (mem_at hn hal) (HP.out.below HB.out)
        rw [atext_join hll] at HD
        have hal2 := atext_len hn hal
        obtain ⟨A, hA⟩ : ∃ A, atext l = A := ⟨_, rfl⟩
        rw [hA] at HD hqs hal2
        obtain ⟨N, hN⟩ : ∃ N, T ++ ftl L (k + 1) = N := ⟨_, rfl⟩
        obtain ⟨O, hO⟩ : ∃ O, T ++ ftl L k = O := ⟨_, rfl⟩
        obtain ⟨Q1, hQ1⟩ : ∃ Q1, [32] ++ A = Q1 := ⟨_, rfl⟩
        have q3 : O.length ≤ 3000 := by rw [← hO]; simp only [List.length_append]; omega
        have q4 : Q1.length = A.length + 1 := by rw [← hQ1]; simp
        have A5 := add_d [32] A Q1 ⟨#[32]⟩ (bytesOf A) rfl rfl hQ1 (by simp; omega)
        have A6 := add_d O Q1 N (bytesOf O) (bytesOf Q1) rfl rfl (by rw [← hN, hqs, ← hO, ← hQ1]; simp) (by omega)
        rw [hO]
        have HNN := Lib.hid hN
        have HD : Calls Tryd.prog 50 #[.slice (some ⟨c, 0, none⟩) l.length l.length, .string ⟨#[62]⟩, .func (.func 49) #[] #[]] wr fun e w' => e = .returned (.string (bytesOf A)) ∧ Below wr.heap.size wr w' := HD
        have HLL := Lib.hid hll
        clear hl hal hqs hA hQ1 hN hO hll a2 HB hql
        go_wp2_with fail
        refine HD.mono ?_
        rintro e w5 ⟨rfl, hb5⟩
        go_wp2
        go_roundg (L.length - (k + 1))
        case measure => omega
        case rel => exact ⟨k + 1, by omega, rfl, by rw [HNN.out], by simp, hb.trans (hb5.mono hb.size)⟩
      · obtain rfl : k = L.length := by omega
        go_wp2
        go_ret2
        exact ⟨rfl, B3.out.trans (hb.mono B3.out.size)⟩
end Go.Proofs.YtfkeadifmjbodaaDoor
/- FrameText: the specification's call by its contract. -/
namespace Go.Proofs.YtfkeadifmjbodaaDoor
open Go.ChangeShapes Go.WideShapes Go.ChangeAt Go.RowKit Go.Deep
set_option linter.unusedSimpArgs false
set_option linter.unusedVariables false
/-- What a round of the text of a frame reads, kept. -/
def Bf (w : World) (p b k c : Nat) (va vk : Value) (x y : Int) (w' : World) : Prop := w'.cell? ⟨p, 1, none⟩ = some va ∧ w'.cell? ⟨b, k, none⟩ = some vk ∧ w'.cell? ⟨c, 0, none⟩ = some (.int .i64 x) ∧ w'.cell? ⟨c, 1, none⟩ = some (.int .i64 y) ∧ Hid (Below w.heap.size w w')
theorem Bf.drew {w w' : World} {p b k c : Nat} {va vk : Value} {x y : Int} (h : Bf w p b k c va vk x y w') : Bf w p b k c va vk x y w'.drew := ⟨h.1, h.2.1, h.2.2.1, h.2.2.2.1, Lib.hid h.2.2.2.2.out.drew⟩
theorem Bf.bel {w w' : World} {p b k c : Nat} {va vk : Value} {x y : Int} (h : Bf w p b k c va vk x y w') : Below w.heap.size w w' := h.2.2.2.2.out
theorem Bf.below {w w' w'' : World} {p b k c : Nat} {va vk : Value} {x y : Int} (h : Bf w p b k c va vk x y w') (hb : Below w'.heap.size w' w'') : Bf w p b k c va vk x y w'' := by
  obtain ⟨a1, a2, a3, a4, g⟩ := h
  have q : ∀ {b : Nat} {o : Nat} {v : Value}, w'.cell? ⟨b, o, none⟩ = some v → w''.cell? ⟨b, o, none⟩ = some v := fun {b o v} hc => (hb.cell (p := ⟨b, o, none⟩) (World.block_lt_of_cell? _ _ hc)).trans hc
  exact ⟨q a1, q a2, q a3, q a4, Lib.hid (g.out.trans (hb.mono g.out.size))⟩
set_option maxHeartbeats 4000000 in
set_option maxRecDepth 100000 in
theorem sftext (X : Fm) (b hi p : Nat) (w : World) (h : FmR w b hi X) (hp : FmAt w p X.1 (.slice (some ⟨b, 0, none⟩) X.2.length X.2.length)) (hok : fOk X) :
    Calls Tryd.prog 46 #[.pointer (some ⟨p, 0, none⟩)] w fun e w' => e = .returned (.string (bytesOf (ftext X))) ∧ Below w.heap.size w w' := by
  have hl := len_100 hok
  have hfl := ftl_len hok
  have hn := hok.2.1
  have hn0 := hok.1
  have HA := Lib.hid hok.2.2
  have H3 := Lib.hid h.rows
  clear h
  obtain ⟨n, L⟩ := X
  simp only at *
  have HN1 := Lib.hid (fun w => sdecb7 n w (by omega) (by omega))
  have HFL := Lib.hid hfl
  have l1 := itoa_len9 (n := n) (by omega) (by omega)
  obtain ⟨T, hT⟩ : ∃ T, Lib.itoa n = T := ⟨_, rfl⟩
  have hft : ftext (n, L) = T ++ ftl L L.length := by rw [← hT]; rfl
  rw [hft]
  rw [hT] at HN1 l1
  obtain ⟨pc0, pc1, pl⟩ := hp
  clear hok hfl hT hft
  go_enter Tryd.func46, Tryd.ntmps46
  go_wp2_with fail
  refine (HN1.out _).mono ?_
  rintro e w2 ⟨rfl, hb2⟩
  have HB2 := Lib.hid hb2
  clear hb2
  go_wp2
  go_loopg [3, 4] L.length (fun g o i wr => ∃ k : Nat, k ≤ L.length ∧ g = L.length - k ∧ o = .string (bytesOf (T ++ ftl L k)) ∧ i = .int .i64 (k : Int) ∧ Below w.heap.size w wr)
  case atStart => exact ⟨0, Nat.zero_le _, rfl, by simp [ftl], rfl, HB2.out⟩
  case round =>
    obtain ⟨k, hk, rfl, rfl, rfl, hb⟩ := hrel
    have z1 := (hb.cell (p := ⟨p, 1, none⟩) pl).trans pc1
    by_cases hlt : k < L.length
    · obtain ⟨c, a1, a2⟩ := (H3.out.below hb).at hlt
      have hal := (HA.out k hlt).1
      have hql := HFL.out k hk
      have hqs : ftl L (k + 1) = ftl L k ++ ([32] ++ atext (L.getD k [])) := rfl
      obtain ⟨l, hl⟩ : ∃ l, L.getD k [] = l := ⟨_, rfl⟩
      rw [hl] at a1 a2 hal hqs
      have hll := hal.1
      have c0 : wr.cell? ⟨c, 0, none⟩ = some (.int .i64 (l.getD 0 0)) := a2.cell (i := 0) (by omega)
      have c1 : wr.cell? ⟨c, 1, none⟩ = some (.int .i64 (l.getD 1 0)) := a2.cell (i := 1) (by omega)
      obtain ⟨-, x1, x2, y1, y2⟩ := hal
      unfold atext at hqs
      obtain ⟨x, hx⟩ : ∃ x, l.getD 0 0 = x := ⟨_, rfl⟩
      obtain ⟨y, hy⟩ : ∃ y, l.getD 1 0 = y := ⟨_, rfl⟩
      rw [hx] at c0 x1 x2 hqs
      rw [hy] at c1 y1 y2 hqs
      have hxl := itoa_len9 (n := x) (by omega) (by omega)
      have hyl := itoa_len9 (n := y) (by omega) (by omega)
      rw [hll] at a1
      obtain ⟨E1, hE1⟩ : ∃ T, [32] ++ Lib.itoa x = T := ⟨_, rfl⟩
      obtain ⟨E2, hE2⟩ : ∃ T, E1 ++ [62] = T := ⟨_, rfl⟩
      obtain ⟨E3, hE3⟩ : ∃ T, E2 ++ Lib.itoa y = T := ⟨_, rfl⟩
      have g1 : E1.length = (Lib.itoa x).length + 1 := by rw [← hE1]; simp
      have g2 : E2.length = E1.length + 1 := by rw [← hE2]; simp
      have g3 : E3.length = E2.length + (Lib.itoa y).length := by rw [← hE3]; simp
      obtain ⟨O, hO⟩ : ∃ O, T ++ ftl L k = O := ⟨_, rfl⟩
      obtain ⟨N, hN⟩ : ∃ N, T ++ ftl L (k + 1) = N := ⟨_, rfl⟩
      have q3 : O.length ≤ 3000 := by rw [← hO]; simp only [List.length_append]; omega
      have hfin : O ++ E3 = N := by rw [← hN, hqs, ← hO, ← hE3, ← hE2, ← hE1]; simp
      have B1 := add_d [32] (Lib.itoa x) E1 ⟨#[32]⟩ (bytesOf (Lib.itoa x)) rfl rfl hE1 (by simp; omega)
      have B2 := add_d E1 [62] E2 (bytesOf E1) ⟨#[62]⟩ rfl rfl hE2 (by simp; omega)
      have B3 := add_d E2 (Lib.itoa y) E3 (bytesOf E2) (bytesOf (Lib.itoa y)) rfl rfl hE3 (by omega)
      have B4 := add_d O E3 N (bytesOf O) (bytesOf E3) rfl rfl hfin (by omega)
      have HD := Lib.hid (fun (v : Int) (h1 : -1000000000 ≤ v) (h2 : v ≤ 1000000000) w => sdecb7 v w h1 h2)
      have HNN := Lib.hid hN
      have BF : Bf wr p b k c (.slice (some ⟨b, 0, none⟩) L.length L.length) (.slice (some ⟨c, 0, none⟩) 2 2) x y wr := ⟨z1, a1, c0, c1, Lib.hid (Below.refl _ _)⟩
      have HB := Lib.hid hb
      rw [hO]
      clear hl hqs hll hx hy hE1 hE2 hE3 hO hN hfin hql a2 hb
      go_wp2_with fail
      go_region_held3 (fun w' => w'.cell? ⟨p, 1, none⟩ = some (.slice (some ⟨b, 0, none⟩) L.length L.length) ∧ w'.cell? ⟨b, k, none⟩ = some (.slice (some ⟨c, 0, none⟩) 2 2) ∧ w'.cell? ⟨c, 0, none⟩ = some (.int .i64 x) ∧ w'.cell? ⟨c, 1, none⟩ = some (.int .i64 y) ∧ Hid (Below wr.heap.size wr w'))
        (first | exact BF.drew | exact Bf.below (w := wr) (by assumption) (by assumption))
        (first
          | (go_at_call 110; refine (HD.out _ (by omega) (by omega) _).mono ?_; rintro e w5 ⟨rfl, hb5⟩))
      all_goals
        go_wp2_with fail
        go_roundg (L.length - (k + 1))
      all_goals first
        | omega
        | exact ⟨k + 1, by omega, rfl, by rw [HNN.out], by simp, HB.out.trans ((show Bf wr p b k c _ _ x y _ from by assumption).bel.mono HB.out.size)⟩
    · obtain rfl : k = L.length := by omega
      go_wp2
      go_ret
      exact ⟨rfl, hb⟩
theorem sFText (X : Fm) (w : World) (lo hi : Nat) (u : Value) (c : CpG w lo hi u X) : Calls Tryd.prog 13 #[u] w (Psb (mFText X) w) := by
  obtain ⟨b, rfl, h1, h⟩ := c
  have b1 := (Below.refl w.heap.size w).alloc (Nat.le_refl _) (.cells #[.int .i64 X.1, .slice (some ⟨b, 0, none⟩) X.2.length X.2.length] 28)
  have hp := fm_at w X.1 (.slice (some ⟨b, 0, none⟩) X.2.length X.2.length)
  have HS := sfok X b hi w.heap.size _ (h.below b1) hp
  have HT := fun w1 (hw : Below _ _ w1) ok => sftext X b hi w.heap.size w1 ((h.below b1).below hw) (hp.below hw) ok
  unfold Psb mFText
  obtain ⟨z, hz⟩ : ∃ z, fOkB X = z := ⟨_, rfl⟩
  rw [hz] at HS ⊢
  clear h hp
  cases z with
  | false =>
    rw [if_neg (by simp)]
    clear HT
    go_enter Tryd.func13, Tryd.ntmps13
    go_wp2_with fail
    refine HS.mono ?_
    rintro e w1 ⟨rfl, hb1⟩
    go_wp2
    go_ret2
    exact ⟨rfl, b1.trans (hb1.below.mono b1.size)⟩
  | true =>
    have hok := fOkB_iff.1 hz
    rw [if_pos rfl]
    have HT1 := fun w1 hw => HT w1 hw hok
    generalize ftext X = T at HT1 ⊢
    clear HT hz hok
    go_enter Tryd.func13, Tryd.ntmps13
    go_wp2_with fail
    refine HS.mono ?_
    rintro e w1 ⟨rfl, hb1⟩
    have hbb := hb1.below
    have HT2 := HT1 _ hbb
    clear HT1
    go_wp2_with fail
    refine HT2.mono ?_
    rintro e w2 ⟨rfl, hb2⟩
    have hb3 := b1.trans (hbb.mono b1.size)
    go_wp2
    go_ret2
    exact ⟨rfl, hb3.trans (hb2.mono hb3.size)⟩
end Go.Proofs.YtfkeadifmjbodaaDoor
