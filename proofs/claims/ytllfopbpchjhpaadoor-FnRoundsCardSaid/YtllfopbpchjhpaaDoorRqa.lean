/- Several of this claim's texts in one: Ra8, Dw1. -/
import Derived.Test.YtllfopbpchjhpaaDoorFm2
import Derived.ChangeKeysEq
import Derived.Test.YtllfopbpchjhpaaDoorGzc
import Derived.Test.YtllfopbpchjhpaaDoorRna
/- Arrays of ten decisions, compared. -/
namespace Go.Proofs.YtllfopbpchjhpaaDoor
open Go.ChangeShapes Go.WideShapes Go.ChangeAt Go.RowKit Go.Deep
abbrev arr10 (d : Nat → Int) : Value := .agg #[.int .i64 (d 0), .int .i64 (d 1), .int .i64 (d 2), .int .i64 (d 3), .int .i64 (d 4), .int .i64 (d 5), .int .i64 (d 6), .int .i64 (d 7), .int .i64 (d 8), .int .i64 (d 9)]
noncomputable def eqFrom (m : Nat) (d e : Nat → Int) : Bool := @decide (∀ i, m ≤ i → i < 10 → d i = e i) (Classical.propDecidable _)
theorem eqFrom_iff {m : Nat} {d e : Nat → Int} : eqFrom m d e = true ↔ ∀ i, m ≤ i → i < 10 → d i = e i := by simp [eqFrom]
theorem part1 (xs : Array Value) (i : Nat) (v : Value) (w : World) (h : xs[i]? = some v) : (part 2 xs i).run Tryd.prog w = .ok v w := by
  simp [part, go_sem, h]
set_option maxRecDepth 100000 in
theorem items10 (d e : Nat → Int) (w : World) : ∀ k, k ≤ 10 → (Op.eqItems 9999 2 (Tryd.prog.cellsOf 2) #[.int .i64 (d 0), .int .i64 (d 1), .int .i64 (d 2), .int .i64 (d 3), .int .i64 (d 4), .int .i64 (d 5), .int .i64 (d 6), .int .i64 (d 7), .int .i64 (d 8), .int .i64 (d 9)] #[.int .i64 (e 0), .int .i64 (e 1), .int .i64 (e 2), .int .i64 (e 3), .int .i64 (e 4), .int .i64 (e 5), .int .i64 (e 6), .int .i64 (e 7), .int .i64 (e 8), .int .i64 (e 9)] (List.range' (10 - k) k)).run Tryd.prog w = .ok (eqFrom (10 - k) d e) w := by
  have hc : Tryd.prog.cellsOf 2 = 1 := by kernel_rfl
  rw [hc]
  have P := part1
  intro k
  induction k with
  | zero =>
    intro _
    have e0 : eqFrom (10 - 0) d e = true := eqFrom_iff.2 (fun i h1 h2 => by omega)
    rw [e0]
    simp [Op.eqItems]
  | succ k ih =>
    intro hk
    have ih := ih (by omega)
    have e1 : List.range' (10 - (k + 1)) (k + 1) = (10 - (k + 1)) :: List.range' (10 - k) k := by
      rw [List.range'_succ]; congr 2; omega
    rw [e1]
    obtain ⟨j, hj⟩ : ∃ j, 10 - (k + 1) = j := ⟨_, rfl⟩
    have hj2 : 10 - k = j + 1 := by omega
    rw [hj2] at ih ⊢
    rw [hj]
    have hj10 : j < 10 := by omega
    have getd : ∀ (f : Nat → Int), (#[Value.int .i64 (f 0), .int .i64 (f 1), .int .i64 (f 2), .int .i64 (f 3), .int .i64 (f 4), .int .i64 (f 5), .int .i64 (f 6), .int .i64 (f 7), .int .i64 (f 8), .int .i64 (f 9)] : Array Value)[j]? = some (.int .i64 (f j)) := by
      intro f
      match j, hj10 with
      | 0, _ => rfl
      | 1, _ => rfl
      | 2, _ => rfl
      | 3, _ => rfl
      | 4, _ => rfl
      | 5, _ => rfl
      | 6, _ => rfl
      | 7, _ => rfl
      | 8, _ => rfl
      | 9, _ => rfl
    have p1 := part1 _ _ _ w (getd d)
    have p2 := part1 _ _ _ w (getd e)
    have q := run_equalIn_int w 9998 2 .i64 .i64 (d j) (e j) Tryd.underlying2
    simp only [Op.eqItems, Sem.run_bind, Nat.mul_one, p1, p2, q, Result.andThen_ok]
    by_cases z : d j = e j
    · have zb : (d j == e j) = true := by simpa using z
      rw [zb]
      simp only [Bool.not_true, Bool.false_eq_true, if_false]
      rw [ih]
      congr 1
      rw [Bool.eq_iff_iff, eqFrom_iff, eqFrom_iff]
      constructor
      · intro hh i h1 h2
        by_cases ei : i = j
        · subst ei; exact z
        · exact hh i (by omega) h2
      · intro hh i h1 h2; exact hh i (by omega) h2
    · have zb : (d j == e j) = false := by simpa using z
      have e0 : eqFrom j d e = false := by
        cases h0 : eqFrom j d e with
        | false => rfl
        | true => exact absurd (eqFrom_iff.1 h0 j (Nat.le_refl _) hj10) z
      rw [zb, e0]
      simp
theorem neq10 (d e : Nat → Int) (w : World) : (binOp BinOp.neq 37 (arr10 d) (arr10 e)).run Tryd.prog w = .ok (.bool (!eqFrom 0 d e)) w := by
  obtain ⟨i0, hi, -, -, -⟩ := info_parts infoI
  rw [run_neq_struct, run_equalIn_array w 9999 _ _ Tryd.underlying37 hi, List.range_eq_range']
  have := items10 d e w 10 (Nat.le_refl _)
  simp only [Nat.sub_self] at this
  rw [this]
  rfl
end Go.Proofs.YtllfopbpchjhpaaDoor
/- The program's decisions: with. -/
namespace Go.Proofs.YtllfopbpchjhpaaDoor
open Go.ChangeShapes Go.WideShapes Go.ChangeAt Go.RowKit Go.Deep
set_option linter.unusedSimpArgs false
set_option linter.unusedVariables false
abbrev arrC (d : Nat → Int) : Obj := .cells #[.int .i64 (d 0), .int .i64 (d 1), .int .i64 (d 2), .int .i64 (d 3), .int .i64 (d 4), .int .i64 (d 5), .int .i64 (d 6), .int .i64 (d 7), .int .i64 (d 8), .int .i64 (d 9)] 37
/-- Ten decisions lie in block b. -/
def ArrAt (w : World) (b : Nat) (d : Nat → Int) : Prop := w.rowIs b 37 10 (fun i => .int .i64 (d i))
theorem arr_at (w : World) (d : Nat → Int) : ArrAt (w.alloc (arrC d)) w.heap.size d := by
  refine ⟨_, heap_alloc_new w _, rfl, fun i hi => ?_⟩
  match i, hi with
  | 0, _ => rfl
  | 1, _ => rfl
  | 2, _ => rfl
  | 3, _ => rfl
  | 4, _ => rfl
  | 5, _ => rfl
  | 6, _ => rfl
  | 7, _ => rfl
  | 8, _ => rfl
  | 9, _ => rfl
theorem ArrAt.below {w w' : World} {b : Nat} {d : Nat → Int} (h : ArrAt w b d) (hb : Below w.heap.size w w') : ArrAt w' b d := World.rowIs.of_block h (hb.block b (World.rowIs.lt h))
theorem ArrAt.other {w : World} {b : Nat} {d : Nat → Int} (h : ArrAt w b d) {a : Addr} (ha : b ≠ a.block) (v : Value) : ArrAt (w.setCell a v) b d := World.rowIs.setOther h ha v
theorem ArrAt.c {w : World} {b : Nat} {d : Nat → Int} (h : ArrAt w b d) (i : Nat) (hi : i < 10) : w.cell? ⟨b, i, none⟩ = some (.int .i64 (d i)) := World.rowIs.cell h hi
theorem ArrAt.z {w : World} {b : Nat} {d : Nat → Int} (h : ArrAt w b d) (i : Nat) : w.frozen? ⟨b, i, none⟩ = false := World.rowIs.frozen h i
theorem ArrAt.congr {w : World} {b : Nat} {d e : Nat → Int} (h : ArrAt w b d) (he : ∀ i, i < 10 → d i = e i) : ArrAt w b e := World.rowIs.congr h (fun i hi => by rw [he i hi])
theorem ArrAt.set {w : World} {b : Nat} {d : Nat → Int} (h : ArrAt w b d) (k : Nat) (z : Int) : ArrAt (w.setCell ⟨b, k, none⟩ (.int .i64 z)) b (fun i => if i = k then z else d i) :=
  World.rowIs.congr (World.rowIs.set h k _) (fun i _ => by by_cases e : i = k <;> simp [e])
theorem arr10_congr {d e : Nat → Int} (h : ∀ i, i < 10 → d i = e i) : arr10 d = arr10 e := by
  show arr10 d = arr10 e
  unfold arr10
  rw [h 0 (by omega), h 1 (by omega), h 2 (by omega), h 3 (by omega), h 4 (by omega), h 5 (by omega), h 6 (by omega), h 7 (by omega), h 8 (by omega), h 9 (by omega)]
/-- Decisions when those of a list have been decided. -/
def atL (d : Nat → Int) (l : List Int) (z : Int) (i : Nat) : Int := if (i : Int) ∈ l ∧ d i = 0 then z else d i
theorem selB_has {n : Nat} {p : Nat → Bool} {k : Nat} (hk : k < n) (hp : p k = true) : (k : Int) ∈ selB n p := by
  induction n with
  | zero => omega
  | succ n ih =>
    show (k : Int) ∈ (if p n = true then selB n p ++ [(n : Int)] else selB n p)
    by_cases e : k = n
    · subst e; rw [if_pos hp]; simp
    · have := ih (by omega)
      split
      · simp [this]
      · exact this
theorem atL_with (d : Nat → Int) (s : Nat) (z : Int) (i : Nat) (hi : i < 10) : atL d (listB s) z i = withD d s z i := by
  unfold atL withD
  have : (i : Int) ∈ listB s ↔ s.testBit i = true := by
    constructor
    · intro h
      obtain ⟨k, e, _, hp⟩ := selB_mem h
      have : k = i := by omega
      subst this; exact hp
    · intro h; exact selB_has hi h
  by_cases q : (i : Int) ∈ listB s
  · have q2 := this.1 q
    simp [q, q2]
  · have q2 : ¬ s.testBit i = true := fun q2 => q (this.2 q2)
    rw [if_neg (fun hh => q hh.1), if_neg (fun hh => q2 hh.1)]
theorem atL_step {d : Nat → Int} {l : List Int} {z : Int} {x i : Nat} : atL d (l ++ [(x : Int)]) z i = if i = x ∧ d i = 0 then z else atL d l z i := by
  unfold atL
  by_cases e : i = x
  · subst e
    by_cases q : d i = 0
    · simp [q]
    · simp [q]
  · have e2 : ¬ (i : Int) = (x : Int) := by omega
    simp [e, e2]
set_option maxHeartbeats 4000000 in
set_option maxRecDepth 100000 in
theorem dwith (d : Nat → Int) (s : Nat) (z : Int) (w : World) (hs : s < 1024) (hT : DBT w) :
    Calls Tryd.prog 25 #[arr10 d, .int .u16 (s : Int), .int .i64 z] w fun e w' => e = .returned (arr10 (withD d s z)) ∧ Below w.heap.size w w' := by
  have b0 := ((Below.refl w.heap.size w).alloc (Nat.le_refl _) (arrC d)).alloc (by simp) (arrC (fun _ => 0))
  obtain ⟨W, hW⟩ : ∃ W, W = (w.alloc (arrC d)).alloc (arrC (fun _ => 0)) := ⟨_, rfl⟩
  have hA : ArrAt W w.heap.size d := by rw [hW]; exact (arr_at w d).below ((Below.refl _ _).alloc (Nat.le_refl _) _)
  have hR : ArrAt W (w.heap.size + 1) (fun _ => 0) := by rw [hW]; have := arr_at (w.alloc (arrC d)) (fun _ => 0); simpa using this
  have HL := ilist s W hs (hT.below (hW ▸ b0))
  have bW : Below w.heap.size w W := hW ▸ b0
  rw [hW] at HL
  have HA := Lib.hid hA
  have HR := Lib.hid hR
  have HWW := Lib.hid hW
  have hWs : w.heap.size + 1 < W.heap.size := by rw [hW]; simp
  have HE := Lib.hid (atL_with d s z)
  have HM := Lib.hid (fun x (hx : x ∈ listB s) => selB_mem hx)
  clear hA hR hW b0 hT
  go_enter Tryd.func25, Tryd.ntmps25
  go_wp2_with fail
  refine HL.mono ?_
  rintro e w1 ⟨⟨v, rfl, ho⟩, hb1⟩
  rw [← HWW.out] at hb1 ho
  have hv := ho.rd.1
  have hll := ho.rd.2.2
  have hin := ho.rd.2.1
  have HA1 := Lib.hid (HA.out.below hb1)
  have HR1 := Lib.hid (HR.out.below hb1)
  have b1 := bW.trans (hb1.mono bW.size)
  have s1 := hb1.size
  generalize listB s = l at *
  clear ho HL HA HR
  by_cases el : l = []
  · subst el
    obtain ⟨a, cap, rfl⟩ := hv.shape
    clear hv hin
    go_wp2
    go_loopg [12] 0 (fun g i wr => i = .int .i64 0 ∧ w1 = wr)
    case atStart => exact ⟨rfl, rfl⟩
    case round =>
      obtain ⟨rfl, rfl⟩ := hrel
      have c0 := HA1.out.c 0 (by omega)
      have c1 := HA1.out.c 1 (by omega)
      have c2 := HA1.out.c 2 (by omega)
      have c3 := HA1.out.c 3 (by omega)
      have c4 := HA1.out.c 4 (by omega)
      have c5 := HA1.out.c 5 (by omega)
      have c6 := HA1.out.c 6 (by omega)
      have c7 := HA1.out.c 7 (by omega)
      have c8 := HA1.out.c 8 (by omega)
      have c9 := HA1.out.c 9 (by omega)
      have y0 := HR1.out.c 0 (by omega)
      have y1 := HR1.out.c 1 (by omega)
      have y2 := HR1.out.c 2 (by omega)
      have y3 := HR1.out.c 3 (by omega)
      have y4 := HR1.out.c 4 (by omega)
      have y5 := HR1.out.c 5 (by omega)
      have y6 := HR1.out.c 6 (by omega)
      have y7 := HR1.out.c 7 (by omega)
      have y8 := HR1.out.c 8 (by omega)
      have y9 := HR1.out.c 9 (by omega)
      have hz : ∀ i, w1.frozen? ⟨w.heap.size + 1, i, none⟩ = false := fun i => HR1.out.z i
      go_wp2
      refine bodyPost_ret (v := arr10 d) (by simp [results, Tryd.results25, go_sem, y0, y1, y2, y3, y4, y5, y6, y7, y8, y9]) rfl ⟨by rw [arr10_congr (e := withD d s z) (fun i hi => by rw [← HE.out i hi]; simp [atL])], ?_⟩
      iterate 10 refine Below.setCell ?_ (by show _ ≤ _ + _; omega) _
      exact b1
  · obtain ⟨x, cap, rfl, hx, hc⟩ := hv.cons el
    have hxW : x.block ≠ w.heap.size := by
      have h2 := (hin x.block (by simp [Value.ownBlock])).1
      omega
    have HC := Lib.hid hc
    clear hv hc hin
    go_wp2
    go_loopg [12] l.length (fun g i wr => ∃ k : Nat, k ≤ l.length ∧ g = l.length - k ∧ i = .int .i64 (k : Int) ∧ Hid (ArrAt wr w.heap.size (atL d (l.take k) z)) ∧ Hid (ArrAt wr (w.heap.size + 1) (fun _ => 0)) ∧ Below w.heap.size w wr ∧ Hid (∀ i, i < l.length → wr.cell? (x.add i) = some (.int .i64 (l.getD i 0))))
    case atStart => exact ⟨0, Nat.zero_le _, rfl, rfl, Lib.hid (HA1.out.congr (fun i _ => by simp [atL])), HR1, b1, HC⟩
    case round =>
      clear HA1 HR1 b1 HC
      obtain ⟨k, hk, rfl, rfl, HA, HR, hb, HC⟩ := hrel
      by_cases hlt : k < l.length
      · have x1 := HC.out k hlt
        have hmem : l.getD k 0 ∈ l := by
          have eg : l.getD k 0 = l[k] := by simp [List.getD, hlt]
          rw [eg]
          exact List.getElem_mem hlt
        obtain ⟨y, hy, hy10, hyb⟩ := HM.out (l.getD k 0) hmem
        clear hmem
        have et : l.take (k + 1) = l.take k ++ [(y : Int)] := by
          rw [List.take_succ_eq_append_getElem hlt, ← hy]
          simp [List.getD, hlt]
        rw [hy] at x1
        have ha := HA.out.c y hy10
        have hz : wr.frozen? ⟨w.heap.size, y, none⟩ = false := HA.out.z y
        obtain ⟨D, hD⟩ : ∃ D, atL d (l.take k) z y = D := ⟨_, rfl⟩
        rw [hD] at ha
        have HD := Lib.hid hD
        have HET := Lib.hid et
        clear hD et hy hyb
        by_cases hD0 : D = 0
        · subst hD0
          go_wp2
          go_roundg (l.length - (k + 1))
          case measure => omega
          case rel =>
            refine ⟨k + 1, by omega, rfl, by simp, Lib.hid ((HA.out.set y z).congr (fun i hi => ?_)), Lib.hid (HR.out.other (Nat.succ_ne_self _) _), hb.setCell (Nat.le_refl _) _, Lib.hid (fun i hi => ?_)⟩
            · rw [HET.out, atL_step]
              by_cases q : i = y
              · subst q
                rw [if_pos rfl]
                by_cases q2 : d i = 0
                · rw [if_pos ⟨rfl, q2⟩]
                · rw [if_neg (fun hh => q2 hh.2)]
                  have h1 := HD.out
                  unfold atL at h1
                  rw [if_neg (fun hh => q2 hh.2)] at h1
                  exact absurd h1 q2
              · rw [if_neg q, if_neg (fun hh => q hh.1)]
            · rw [World.cell?_setCell_other _ _ _ _ (fun hh => hxW (by have := congrArg Addr.block hh; rw [block_add] at this; first | exact this | exact this.symm))]
              exact HC.out i hi
        · have hDb : (D == 0) = false := by simpa using hD0
          have HD0 := Lib.hid hD0
          clear hD0
          go_wp2
          go_roundg (l.length - (k + 1))
          case measure => omega
          case rel =>
            refine ⟨k + 1, by omega, rfl, by simp, Lib.hid (HA.out.congr (fun i hi => ?_)), HR, hb, HC⟩
            rw [HET.out, atL_step]
            by_cases q : i = y ∧ d i = 0
            · rw [if_pos q]
              obtain ⟨rfl, q2⟩ := q
              have h1 := HD.out
              have h2 := HD0.out
              rw [h1]
              unfold atL at h1
              by_cases q3 : (i : Int) ∈ l.take k ∧ d i = 0
              · rw [if_pos q3] at h1; exact h1.symm
              · rw [if_neg q3] at h1; rw [← h1] at h2; exact absurd q2 h2
            · rw [if_neg q]
      · obtain rfl : k = l.length := by omega
        have c0 := HA.out.c 0 (by omega)
        have c1 := HA.out.c 1 (by omega)
        have c2 := HA.out.c 2 (by omega)
        have c3 := HA.out.c 3 (by omega)
        have c4 := HA.out.c 4 (by omega)
        have c5 := HA.out.c 5 (by omega)
        have c6 := HA.out.c 6 (by omega)
        have c7 := HA.out.c 7 (by omega)
        have c8 := HA.out.c 8 (by omega)
        have c9 := HA.out.c 9 (by omega)
        have y0 := HR.out.c 0 (by omega)
        have y1 := HR.out.c 1 (by omega)
        have y2 := HR.out.c 2 (by omega)
        have y3 := HR.out.c 3 (by omega)
        have y4 := HR.out.c 4 (by omega)
        have y5 := HR.out.c 5 (by omega)
        have y6 := HR.out.c 6 (by omega)
        have y7 := HR.out.c 7 (by omega)
        have y8 := HR.out.c 8 (by omega)
        have y9 := HR.out.c 9 (by omega)
        have hz : ∀ i, wr.frozen? ⟨w.heap.size + 1, i, none⟩ = false := fun i => HR.out.z i
        rw [List.take_length] at c0 c1 c2 c3 c4 c5 c6 c7 c8 c9
        go_wp2
        refine bodyPost_ret (v := arr10 (atL d l z)) (by simp [results, Tryd.results25, go_sem, y0, y1, y2, y3, y4, y5, y6, y7, y8, y9]) rfl ⟨by rw [arr10_congr (e := withD d s z) HE.out], ?_⟩
        iterate 10 refine Below.setCell ?_ (by show _ ≤ _ + _; omega) _
        exact hb
end Go.Proofs.YtllfopbpchjhpaaDoor
