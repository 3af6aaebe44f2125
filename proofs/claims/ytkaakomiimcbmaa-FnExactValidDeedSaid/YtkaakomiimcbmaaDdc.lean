/- What a deed does: the program's event. -/
import Derived.Test.YtkaakomiimcbmaaDdb
namespace Go.Proofs.Ytkaakomiimcbmaa
open Go.ChangeShapes Go.WideShapes Go.ChangeAt Go.RowKit Go.Deep Go.Maps
set_option linter.unusedSimpArgs false
set_option linter.unusedVariables false
/-- The four kinds laid in a new map behind a new box. -/
theorem kinds_laid (X : Dd) (vt vp : Value) (w : World) : ∃ w3 w4 w5 w6 : World,
    (Instr.mapUpdate TMF (.map (some (w.heap.size + 1))) (.int .i64 1) (fv1 w.heap.size)).run Try.prog ((w.alloc (.cells #[.int .i64 X.k, .int .i64 X.m, vt, .string X.n, .int .i64 X.v, vp, .int .i64 X.f, .int .i64 X.u, .int .i64 X.c] 30)).alloc (.map #[] 0)) = .ok () w3 ∧
    (Instr.mapUpdate TMF (.map (some (w.heap.size + 1))) (.int .i64 2) (fv2 w.heap.size)).run Try.prog w3 = .ok () w4 ∧
    (Instr.mapUpdate TMF (.map (some (w.heap.size + 1))) (.int .i64 3) (fv3 w.heap.size)).run Try.prog w4 = .ok () w5 ∧
    (Instr.mapUpdate TMF (.map (some (w.heap.size + 1))) (.int .i64 4) (fv4 w.heap.size)).run Try.prog w5 = .ok () w6 ∧
    MapF w.heap.size w6 (w.heap.size + 1) 4 ∧ Below w.heap.size w w6 ∧ Dbx w6 w.heap.size X vt vp := by
  have h0 := MapF.made w.heap.size (w.alloc (.cells #[.int .i64 X.k, .int .i64 X.m, vt, .string X.n, .int .i64 X.v, vp, .int .i64 X.f, .int .i64 X.u, .int .i64 X.c] 30))
  have hs : (w.alloc (.cells #[.int .i64 X.k, .int .i64 X.m, vt, .string X.n, .int .i64 X.v, vp, .int .i64 X.f, .int .i64 X.u, .int .i64 X.c] 30)).heap.size = w.heap.size + 1 := by simp
  have hD := Dbx.made w X vt vp
  have b0 := (Below.refl w.heap.size w).alloc (Nat.le_refl _) (.cells #[.int .i64 X.k, .int .i64 X.m, vt, .string X.n, .int .i64 X.v, vp, .int .i64 X.f, .int .i64 X.u, .int .i64 X.c] 30)
  generalize w.alloc (.cells #[.int .i64 X.k, .int .i64 X.m, vt, .string X.n, .int .i64 X.v, vp, .int .i64 X.f, .int .i64 X.u, .int .i64 X.c] 30) = w1 at h0 hs hD b0 ⊢
  rw [hs] at h0
  obtain ⟨w3, r3, h3, g3⟩ := h0.store (by omega)
  obtain ⟨w4, r4, h4, g4⟩ := h3.store (by omega)
  obtain ⟨w5, r5, h5, g5⟩ := h4.store (by omega)
  obtain ⟨w6, r6, h6, g6⟩ := h5.store (by omega)
  have b2 := (Below.refl w1.heap.size w1).alloc (Nat.le_refl _) (.map #[] 0)
  have b6 : Below w1.heap.size w1 w6 := by
    have c3 := b2.grown g3 b2.size (fun j hj => by cases hj; omega)
    have c4 := c3.grown g4 c3.size (fun j hj => by cases hj; omega)
    have c5 := c4.grown g5 c4.size (fun j hj => by cases hj; omega)
    exact c5.grown g6 c5.size (fun j hj => by cases hj; omega)
  exact ⟨w3, w4, w5, w6, r3, r4, r5, r6, h6, b0.trans (b6.mono (by omega)), hD.below b6⟩
set_option maxHeartbeats 4000000 in
set_option maxRecDepth 100000 in
theorem ievent1 (X : Dd) (ct cp : Nat) (ma : Option Addr) (mc : Nat) (w : World) (ht : OwnI w ct X.t) (hp : Es w cp X.p) (hf : FitsDd X) (hk : X.k = 1) :
    Calls Try.prog 14 #[ddR X ct cp, .slice ma 12 mc] w fun e w' => (∃ v, e = .returned (.tuple #[v, .bool (trB 12 X.m X.t && emptB { X with m := 0, t := [] })])) ∧ Below w.heap.size w w' := by
  obtain ⟨w3, w4, w5, w6, r3, r4, r5, r6, h6, b6, hD⟩ := kinds_laid X (.slice (some ⟨ct, 0, none⟩) X.t.length X.t.length) (.slice (some ⟨cp, 0, none⟩) X.p.length X.p.length) w
  have hlk := h6.look X.k (by rw [hk]; decide)
  have c0 := hD.at'.c0
  rw [hk] at hlk c0
  have hl1 : (decide ((1 : Int) ≤ 1 ∧ (1 : Int) ≤ ((4 : Nat) : Int))) = true := by decide
  have hl2 : fvk w.heap.size (kOf 4 1) = fv1 w.heap.size := rfl
  rw [hl1, hl2] at hlk
  unfold fv1 at r3 hlk
  unfold fv2 at r4
  unfold fv3 at r5
  unfold fv4 at r6
  have HT := itake1 w.heap.size X _ _ _ _ w6 hD
  have hmm := @run_makeMap Try.prog
  have lt := ht.lt
  have lp := hp.lt
  have HT6 := ht.below b6
  have HP6 := hp.below b6
  have s6 := b6.size
  have l6 : w.heap.size < w6.heap.size := hD.at'.lt
  rw [hk] at r3
  clear ht hp h6 hD
  unfold ddR ddV
  obtain ⟨z, hz⟩ : ∃ z, trB 12 X.m X.t = z := ⟨_, rfl⟩
  obtain ⟨y, hy⟩ : ∃ y, emptB { X with m := 0, t := [] } = y := ⟨_, rfl⟩
  rw [hz, hy]
  have HE := fun w' => iempty { X with m := 0, t := [] } none (some ⟨cp, 0, none⟩) 0 X.p.length w'
  rw [hy] at HE
  have HZ := Lib.hid hz
  clear hz hy
  cases z with
  | false =>
    go_enter Try.func14, Try.ntmps14
    go_wp2_with fail
    refine HT.mono ?_
    rintro e w7 ⟨rfl, hD7, hk7⟩
    have hb7 := b6.trans (hk7.below s6 (fun x hx => by rw [hx]; exact Nat.le_refl _))
    have ht7 : OwnI w7 ct X.t := hk7.row HT6 (by omega)
    have hp7 : Es w7 cp X.p := hk7.row HP6 (by omega)
    have HF := ifor1 X.m X.t ct ma mc w7 ht7 hf.1
    rw [HZ.out] at HF
    clear HT hk7 ht7 hp7 HT6 HP6 hD7
    go_wp2_with fail
    refine HF.mono ?_
    rintro e w8 ⟨rfl, hb8⟩
    have hb9 := hb7.trans (hb8.mono hb7.size)
    clear HF hb8
    go_wp2
    go_ret2
    exact ⟨⟨_, rfl⟩, hb9⟩
  | true =>
    go_enter Try.func14, Try.ntmps14
    go_wp2_with fail
    refine HT.mono ?_
    rintro e w7 ⟨rfl, hD7, hk7⟩
    have hb7 := b6.trans (hk7.below s6 (fun x hx => by rw [hx]; exact Nat.le_refl _))
    have ht7 : OwnI w7 ct X.t := hk7.row HT6 (by omega)
    have hp7 : Es w7 cp X.p := hk7.row HP6 (by omega)
    have HF := ifor1 X.m X.t ct ma mc w7 ht7 hf.1
    rw [HZ.out] at HF
    clear HT hk7 ht7 hp7 HT6 HP6
    go_wp2_with fail
    refine HF.mono ?_
    rintro e w8 ⟨rfl, hb8⟩
    have hb9 := hb7.trans (hb8.mono hb7.size)
    obtain ⟨e0, e1, e2, e3, e4, e5, e6, e7, e8, -⟩ := (hD7.below hb8).at'
    (try simp only at e0 e1 e2 e3 e4 e5 e6 e7 e8)
    have HE8 := HE w8
    unfold ddV at HE8
    (try simp only [List.length_nil] at HE8)
    rw [hk] at HE8 e0
    clear HF hb8 hD7 HE
    go_wp2_with fail
    refine HE8.mono ?_
    rintro e w10 ⟨rfl, hb10⟩
    have hb11 := hb9.trans (hb10.mono hb9.size)
    clear HE8
    go_wp2
    go_ret2
    exact ⟨⟨_, by cases y <;> rfl⟩, hb11⟩
set_option maxHeartbeats 4000000 in
set_option maxRecDepth 100000 in
theorem ievent2 (X : Dd) (ct cp : Nat) (ma : Option Addr) (mc : Nat) (w : World) (ht : OwnI w ct X.t) (hp : Es w cp X.p) (hf : FitsDd X) (hk : X.k = 2) :
    Calls Try.prog 14 #[ddR X ct cp, .slice ma 12 mc] w fun e w' => (∃ v, e = .returned (.tuple #[v, .bool (voteB X.m X.n X.v && emptB { X with m := 0, n := ⟨#[]⟩, v := 0 })])) ∧ Below w.heap.size w w' := by
  obtain ⟨w3, w4, w5, w6, r3, r4, r5, r6, h6, b6, hD⟩ := kinds_laid X (.slice (some ⟨ct, 0, none⟩) X.t.length X.t.length) (.slice (some ⟨cp, 0, none⟩) X.p.length X.p.length) w
  have hlk := h6.look X.k (by rw [hk]; decide)
  have c0 := hD.at'.c0
  rw [hk] at hlk c0
  have hl1 : (decide ((1 : Int) ≤ 2 ∧ (2 : Int) ≤ ((4 : Nat) : Int))) = true := by decide
  have hl2 : fvk w.heap.size (kOf 4 2) = fv2 w.heap.size := rfl
  rw [hl1, hl2] at hlk
  unfold fv1 at r3
  unfold fv2 at r4 hlk
  unfold fv3 at r5
  unfold fv4 at r6
  have HT := itake2 w.heap.size X _ _ _ _ w6 hD
  have hmm := @run_makeMap Try.prog
  have lt := ht.lt
  have lp := hp.lt
  have HT6 := ht.below b6
  have HP6 := hp.below b6
  have s6 := b6.size
  have l6 : w.heap.size < w6.heap.size := hD.at'.lt
  rw [hk] at r3
  clear ht hp h6 hD
  unfold ddR ddV
  obtain ⟨z, hz⟩ : ∃ z, voteB X.m X.n X.v = z := ⟨_, rfl⟩
  obtain ⟨y, hy⟩ : ∃ y, emptB { X with m := 0, n := ⟨#[]⟩, v := 0 } = y := ⟨_, rfl⟩
  rw [hz, hy]
  have HE := fun w' => iempty { X with m := 0, n := ⟨#[]⟩, v := 0 } (some ⟨ct, 0, none⟩) (some ⟨cp, 0, none⟩) X.t.length X.p.length w'
  rw [hy] at HE
  have HZ := Lib.hid hz
  clear hz hy
  cases z with
  | false =>
    go_enter Try.func14, Try.ntmps14
    go_wp2_with fail
    refine HT.mono ?_
    rintro e w7 ⟨rfl, hD7, hk7⟩
    have hb7 := b6.trans (hk7.below s6 (fun x hx => by rw [hx]; exact Nat.le_refl _))
    have ht7 : OwnI w7 ct X.t := hk7.row HT6 (by omega)
    have hp7 : Es w7 cp X.p := hk7.row HP6 (by omega)
    have HF := ifor2 X.m X.n X.v ma mc w7 hf.2.1
    rw [HZ.out] at HF
    clear HT hk7 ht7 hp7 HT6 HP6 hD7
    go_wp2_with fail
    refine HF.mono ?_
    rintro e w8 ⟨rfl, hb8⟩
    have hb9 := hb7.trans (hb8.mono hb7.size)
    clear HF hb8
    go_wp2
    go_ret2
    exact ⟨⟨_, rfl⟩, hb9⟩
  | true =>
    go_enter Try.func14, Try.ntmps14
    go_wp2_with fail
    refine HT.mono ?_
    rintro e w7 ⟨rfl, hD7, hk7⟩
    have hb7 := b6.trans (hk7.below s6 (fun x hx => by rw [hx]; exact Nat.le_refl _))
    have ht7 : OwnI w7 ct X.t := hk7.row HT6 (by omega)
    have hp7 : Es w7 cp X.p := hk7.row HP6 (by omega)
    have HF := ifor2 X.m X.n X.v ma mc w7 hf.2.1
    rw [HZ.out] at HF
    clear HT hk7 ht7 hp7 HT6 HP6
    go_wp2_with fail
    refine HF.mono ?_
    rintro e w8 ⟨rfl, hb8⟩
    have hb9 := hb7.trans (hb8.mono hb7.size)
    obtain ⟨e0, e1, e2, e3, e4, e5, e6, e7, e8, -⟩ := (hD7.below hb8).at'
    (try simp only at e0 e1 e2 e3 e4 e5 e6 e7 e8)
    have HE8 := HE w8
    unfold ddV at HE8
    (try simp only [List.length_nil] at HE8)
    rw [hk] at HE8 e0
    clear HF hb8 hD7 HE
    go_wp2_with fail
    refine HE8.mono ?_
    rintro e w10 ⟨rfl, hb10⟩
    have hb11 := hb9.trans (hb10.mono hb9.size)
    clear HE8
    go_wp2
    go_ret2
    exact ⟨⟨_, by cases y <;> rfl⟩, hb11⟩
set_option maxHeartbeats 4000000 in
set_option maxRecDepth 100000 in
theorem ievent3 (X : Dd) (ct cp : Nat) (ma : Option Addr) (mc : Nat) (w : World) (ht : OwnI w ct X.t) (hp : Es w cp X.p) (hf : FitsDd X) (hk : X.k = 3) :
    Calls Try.prog 14 #[ddR X ct cp, .slice ma 12 mc] w fun e w' => (∃ v, e = .returned (.tuple #[v, .bool (propB X.n X.m X.f X.u X.c X.p && emptB { X with m := 0, n := ⟨#[]⟩, p := [], f := 0, u := 0, c := 0 })])) ∧ Below w.heap.size w w' := by
  obtain ⟨w3, w4, w5, w6, r3, r4, r5, r6, h6, b6, hD⟩ := kinds_laid X (.slice (some ⟨ct, 0, none⟩) X.t.length X.t.length) (.slice (some ⟨cp, 0, none⟩) X.p.length X.p.length) w
  have hlk := h6.look X.k (by rw [hk]; decide)
  have c0 := hD.at'.c0
  rw [hk] at hlk c0
  have hl1 : (decide ((1 : Int) ≤ 3 ∧ (3 : Int) ≤ ((4 : Nat) : Int))) = true := by decide
  have hl2 : fvk w.heap.size (kOf 4 3) = fv3 w.heap.size := rfl
  rw [hl1, hl2] at hlk
  unfold fv1 at r3
  unfold fv2 at r4
  unfold fv3 at r5 hlk
  unfold fv4 at r6
  have HT := itake3 w.heap.size X _ _ _ _ w6 hD
  have hmm := @run_makeMap Try.prog
  have lt := ht.lt
  have lp := hp.lt
  have HT6 := ht.below b6
  have HP6 := hp.below b6
  have s6 := b6.size
  have l6 : w.heap.size < w6.heap.size := hD.at'.lt
  rw [hk] at r3
  clear ht hp h6 hD
  unfold ddR ddV
  obtain ⟨z, hz⟩ : ∃ z, propB X.n X.m X.f X.u X.c X.p = z := ⟨_, rfl⟩
  obtain ⟨y, hy⟩ : ∃ y, emptB { X with m := 0, n := ⟨#[]⟩, p := [], f := 0, u := 0, c := 0 } = y := ⟨_, rfl⟩
  rw [hz, hy]
  have HE := fun w' => iempty { X with m := 0, n := ⟨#[]⟩, p := [], f := 0, u := 0, c := 0 } (some ⟨ct, 0, none⟩) none X.t.length 0 w'
  rw [hy] at HE
  have HZ := Lib.hid hz
  clear hz hy
  cases z with
  | false =>
    go_enter Try.func14, Try.ntmps14
    go_wp2_with fail
    refine HT.mono ?_
    rintro e w7 ⟨rfl, hD7, hk7⟩
    have hb7 := b6.trans (hk7.below s6 (fun x hx => by rw [hx]; exact Nat.le_refl _))
    have ht7 : OwnI w7 ct X.t := hk7.row HT6 (by omega)
    have hp7 : Es w7 cp X.p := hk7.row HP6 (by omega)
    have HF := ifor3 X.n X.m X.f X.u X.c X.p cp ma mc w7 hp7 hf.2.2 hf.2.1
    rw [HZ.out] at HF
    clear HT hk7 ht7 hp7 HT6 HP6 hD7
    go_wp2_with fail
    refine HF.mono ?_
    rintro e w8 ⟨rfl, hb8⟩
    have hb9 := hb7.trans (hb8.mono hb7.size)
    clear HF hb8
    go_wp2
    go_ret2
    exact ⟨⟨_, rfl⟩, hb9⟩
  | true =>
    go_enter Try.func14, Try.ntmps14
    go_wp2_with fail
    refine HT.mono ?_
    rintro e w7 ⟨rfl, hD7, hk7⟩
    have hb7 := b6.trans (hk7.below s6 (fun x hx => by rw [hx]; exact Nat.le_refl _))
    have ht7 : OwnI w7 ct X.t := hk7.row HT6 (by omega)
    have hp7 : Es w7 cp X.p := hk7.row HP6 (by omega)
    have HF := ifor3 X.n X.m X.f X.u X.c X.p cp ma mc w7 hp7 hf.2.2 hf.2.1
    rw [HZ.out] at HF
    clear HT hk7 ht7 hp7 HT6 HP6
    go_wp2_with fail
    refine HF.mono ?_
    rintro e w8 ⟨rfl, hb8⟩
    have hb9 := hb7.trans (hb8.mono hb7.size)
    obtain ⟨e0, e1, e2, e3, e4, e5, e6, e7, e8, -⟩ := (hD7.below hb8).at'
    (try simp only at e0 e1 e2 e3 e4 e5 e6 e7 e8)
    have HE8 := HE w8
    unfold ddV at HE8
    (try simp only [List.length_nil] at HE8)
    rw [hk] at HE8 e0
    clear HF hb8 hD7 HE
    go_wp2_with fail
    refine HE8.mono ?_
    rintro e w10 ⟨rfl, hb10⟩
    have hb11 := hb9.trans (hb10.mono hb9.size)
    clear HE8
    go_wp2
    go_ret2
    exact ⟨⟨_, by cases y <;> rfl⟩, hb11⟩
set_option maxHeartbeats 4000000 in
set_option maxRecDepth 100000 in
theorem ievent4 (X : Dd) (ct cp : Nat) (ma : Option Addr) (mc : Nat) (w : World) (ht : OwnI w ct X.t) (hp : Es w cp X.p) (hf : FitsDd X) (hk : X.k = 4) :
    Calls Try.prog 14 #[ddR X ct cp, .slice ma 12 mc] w fun e w' => (∃ v, e = .returned (.tuple #[v, .bool (true && emptB X)])) ∧ Below w.heap.size w w' := by
  obtain ⟨w3, w4, w5, w6, r3, r4, r5, r6, h6, b6, hD⟩ := kinds_laid X (.slice (some ⟨ct, 0, none⟩) X.t.length X.t.length) (.slice (some ⟨cp, 0, none⟩) X.p.length X.p.length) w
  have hlk := h6.look X.k (by rw [hk]; decide)
  have c0 := hD.at'.c0
  rw [hk] at hlk c0
  have hl1 : (decide ((1 : Int) ≤ 4 ∧ (4 : Int) ≤ ((4 : Nat) : Int))) = true := by decide
  have hl2 : fvk w.heap.size (kOf 4 4) = fv4 w.heap.size := rfl
  rw [hl1, hl2] at hlk
  unfold fv1 at r3
  unfold fv2 at r4
  unfold fv3 at r5
  unfold fv4 at r6 hlk
  have HT := itake4 w.heap.size X _ _ _ _ w6 hD
  have hmm := @run_makeMap Try.prog
  have lt := ht.lt
  have lp := hp.lt
  have HT6 := ht.below b6
  have HP6 := hp.below b6
  have s6 := b6.size
  have l6 : w.heap.size < w6.heap.size := hD.at'.lt
  rw [hk] at r3
  clear ht hp h6 hD
  unfold ddR ddV
  obtain ⟨y, hy⟩ : ∃ y, emptB X = y := ⟨_, rfl⟩
  rw [hy, Bool.true_and]
  have HE := fun w' => iempty X (some ⟨ct, 0, none⟩) (some ⟨cp, 0, none⟩) X.t.length X.p.length w'
  rw [hy] at HE
  clear hy
  go_enter Try.func14, Try.ntmps14
  go_wp2_with fail
  refine HT.mono ?_
  rintro e w7 ⟨rfl, hD7, hk7⟩
  have hb7 := b6.trans (hk7.below s6 (fun x hx => by rw [hx]; exact Nat.le_refl _))
  have ht7 : OwnI w7 ct X.t := hk7.row HT6 (by omega)
  have hp7 : Es w7 cp X.p := hk7.row HP6 (by omega)
  have HF := ifor4 ma mc w7
  clear HT hk7 ht7 hp7 HT6 HP6
  go_wp2_with fail
  refine HF.mono ?_
  rintro e w8 ⟨rfl, hb8⟩
  have hb9 := hb7.trans (hb8.mono hb7.size)
  obtain ⟨e0, e1, e2, e3, e4, e5, e6, e7, e8, -⟩ := (hD7.below hb8).at'
  (try simp only at e0 e1 e2 e3 e4 e5 e6 e7 e8)
  have HE8 := HE w8
  unfold ddV at HE8
  (try simp only [List.length_nil] at HE8)
  rw [hk] at HE8 e0
  clear HF hb8 hD7 HE
  go_wp2_with fail
  refine HE8.mono ?_
  rintro e w10 ⟨rfl, hb10⟩
  have hb11 := hb9.trans (hb10.mono hb9.size)
  clear HE8
  go_wp2
  go_ret2
  exact ⟨⟨_, by cases y <;> rfl⟩, hb11⟩
end Go.Proofs.Ytkaakomiimcbmaa
