/- Several of this claim's texts in one: Gr2, Gr3, Gr4, Gr5, Gr6. -/
import Derived.Test.YtllfopbpchjhpaaDoorAta
import Derived.Test.YtllfopbpchjhpaaDoorGr1
import Derived.Maps.Own
import Derived.Maps.OwnSet
import Derived.Maps.Views
import Derived.Test.YtllfopbpchjhpaaDoorPo3
/- The program's sets of arguments: all, has, with, isIn. -/
namespace Go.Proofs.YtllfopbpchjhpaaDoor
open Go.ChangeShapes Go.WideShapes Go.ChangeAt Go.RowKit Go.Deep
set_option linter.unusedSimpArgs false
set_option linter.unusedVariables false
theorem pow_cast (n : Nat) : ((2 : Int) ^ n) = ((2 ^ n : Nat) : Int) := by simp
theorem wrap_u16n (a : Nat) (h : a < 65536) : IntKind.u16.wrap (a : Int) = (a : Int) := IntWalk.u16_in _ (by omega)
theorem pow_lt16 {x : Nat} (h : x < 16) : 2 ^ x < 65536 := by have := Nat.pow_lt_pow_right (a := 2) (by omega) h; simpa using this
/-- Whether a number is in a set. -/
def hasB (b : Nat) (x : Int) : Bool := decide (0 ≤ x) && b.testBit x.toNat
theorem hasB_nat (b x : Nat) : hasB b (x : Int) = b.testBit x := by simp [hasB]
theorem all_any (n : Int) (m : Value) (w : World) (h0 : 0 ≤ n) (h1 : n ≤ 10) :
    Calls Tryd.prog 16 #[.agg #[.int .i64 n, m]] w fun e w' => e = .returned (.int .u16 ((2 ^ n.toNat - 1 : Nat) : Int)) ∧ Below w.heap.size w w' := by
  have hp : 2 ^ n.toNat < 65536 := pow_lt16 (by omega)
  have hq : 0 < 2 ^ n.toNat := Nat.pow_pos (by omega)
  have e1 : IntKind.u16.wrap (IntKind.u16.wrap (2 ^ n.toNat) - 1) = ((2 ^ n.toNat - 1 : Nat) : Int) := by
    rw [pow_cast, wrap_u16n _ hp, IntWalk.u16_in _ (by omega)]; omega
  have E := Lib.hid e1
  clear e1 hp hq
  go_enter Tryd.func16, Tryd.ntmps16
  go_wp2
  go_ret
  exact ⟨by rw [E.out]; rfl, (Below.refl _ _).alloc (Nat.le_refl _) _⟩
theorem has_bit (b x : Nat) (hb : b < 65536) : (bits .and .u16 ((b : Int) / 2 ^ x) 1 == 1) = b.testBit x := by
  have e : (b : Int) / 2 ^ x = ((b / 2 ^ x : Nat) : Int) := by rw [pow_cast]; simp
  have h2 : bits .and .u16 ((b : Int) / 2 ^ x) 1 = ((b / 2 ^ x &&& 1 : Nat) : Int) := by
    rw [e]; exact u16_and_nat _ 1 (Nat.lt_of_le_of_lt (Nat.div_le_self _ _) hb) (by omega)
  rw [h2, nat_mask1, shr_bit]
  cases b.testBit x <;> rfl
theorem has_any (b : Nat) (x : Int) (w : World) (hb : b < 65536) :
    Calls Tryd.prog 17 #[.int .u16 b, .int .i64 x] w fun e w' => e = .returned (.bool (hasB b x)) ∧ w = w' := by
  by_cases h0 : 0 ≤ x
  · by_cases h1 : x < 16
    · have E := Lib.hid (has_bit b x.toNat hb)
      have HB := Lib.hid (show hasB b x = b.testBit x.toNat by simp [hasB, h0])
      go_enter Tryd.func17, Tryd.ntmps17
      go_wp2
      go_ret
      exact ⟨by rw [E.out, HB.out]; rfl, rfl⟩
    · have hz : b.testBit x.toNat = false := Nat.testBit_lt_two_pow (Nat.lt_of_lt_of_le (show b < 2 ^ 16 from hb) (Nat.pow_le_pow_right (by omega) (by omega : 16 ≤ x.toNat)))
      have hm : min x.toNat 16 = 16 := by omega
      have e0 : (b : Int) / 65536 = 0 := by omega
      have e1 : (bits .and .u16 ((b : Int) / 65536) 1 == 1) = false := by rw [e0]; decide
      have E := Lib.hid e1
      have HB := Lib.hid (show hasB b x = false by simp [hasB, hz])
      clear hz e0 e1
      go_enter Tryd.func17, Tryd.ntmps17
      go_wp2
      go_ret
      exact ⟨by rw [E.out, HB.out]; rfl, rfl⟩
  · have HB := Lib.hid (show hasB b x = false by simp [hasB]; omega)
    go_enter Tryd.func17, Tryd.ntmps17
    go_wp2
    go_ret
    exact ⟨by rw [HB.out]; rfl, rfl⟩
theorem with_any (b : Nat) (x : Int) (w : World) (hb : b < 65536) (h0 : 0 ≤ x) (h1 : x < 16) :
    Calls Tryd.prog 23 #[.int .u16 b, .int .i64 x] w fun e w' => e = .returned (.int .u16 ((b ||| 2 ^ x.toNat : Nat) : Int)) ∧ w = w' := by
  have e1 : bits .or .u16 (b : Int) (IntKind.u16.wrap (2 ^ x.toNat)) = ((b ||| 2 ^ x.toNat : Nat) : Int) := by
    rw [pow_cast, wrap_u16n _ (pow_lt16 (by omega))]; exact u16_or_nat _ _ hb (pow_lt16 (by omega))
  have E := Lib.hid e1
  clear e1
  go_enter Tryd.func23, Tryd.ntmps23
  go_wp2
  go_ret
  exact ⟨by rw [E.out]; rfl, rfl⟩
theorem isin_any (a b : Nat) (w : World) (ha : a < 65536) (hb : b < 65536) :
    Calls Tryd.prog 32 #[.int .u16 a, .int .u16 b] w fun e w' => e = .returned (.bool (subB a b)) ∧ w = w' := by
  have e1 : (bits .andNot .u16 (a : Int) (b : Int) == 0) = subB a b := by
    rw [u16_andNot_nat a b ha hb]
    unfold subB
    rw [Bool.eq_iff_iff]
    simp
  have E := Lib.hid e1
  clear e1
  go_enter Tryd.func32, Tryd.ntmps32
  go_wp2
  go_ret
  exact ⟨by rw [E.out]; rfl, rfl⟩
end Go.Proofs.YtllfopbpchjhpaaDoor
/- The map from arguments to the sets of their attackers, made by the call. -/
namespace Go.Proofs.YtllfopbpchjhpaaDoor
open Go.ChangeShapes Go.WideShapes Go.ChangeAt Go.RowKit Go.Deep Go.Maps
set_option linter.unusedSimpArgs false
set_option linter.unusedVariables false
abbrev TB : TypeId := 38
theorem keyI8 : Keyed Tryd.prog 2 := int_keyed Tryd.underlying2
theorem zeroBs (w : World) : (zeroValue 46).run Tryd.prog w = .ok (.int .u16 0) w := by kernel_rfl
theorem wf_u16n {a : Nat} (h : a < 65536) : (Lit.int .u16 (a : Int)).wf = true := Go.WalkArith.wf_u16 (by omega)
/-- The call's own map holds the sets of f by their arguments. -/
def MapB (w : World) (b n : Nat) (f : Int → Nat) : Prop :=
  ∃ D : DataW Unit, w.ownsMap Tryd.prog 2 (plainElem Tryd.prog 46) b n D ∧ ∀ y : Int, D.atKey (.int .i64 y) (.lit (.int .u16 0)) = .lit (.int .u16 (f y : Int))
theorem MapB.made (w : World) : MapB (w.alloc (.map #[] 0)) w.heap.size 0 (fun _ => 0) := ⟨_, World.ownsMap_made w _ _ _, fun y => by simp [WideAt.atKey_none]⟩
theorem MapB.lt {w : World} {b n : Nat} {f : Int → Nat} (h : MapB w b n f) : b < w.heap.size := by
  obtain ⟨D, h, _⟩ := h
  exact h.lt
theorem MapB.below {w w' : World} {b n : Nat} {f : Int → Nat} (h : MapB w b n f) (hb : Below w.heap.size w w') : MapB w' b n f := by
  obtain ⟨D, h, hD⟩ := h
  have hl := h.lt
  obtain ⟨es, clock, hh, F, hs, e⟩ := h
  exact ⟨D, ⟨es, clock, (hb.block b hl).trans hh, F, hs, e⟩, hD⟩
theorem MapB.setCell {w : World} {b n : Nat} {f : Int → Nat} (h : MapB w b n f) {a : Addr} (ha : b ≠ a.block) (u : Value) : MapB (w.setCell a u) b n f := by
  obtain ⟨D, h, hD⟩ := h
  exact ⟨D, h.setCell ha u, hD⟩
theorem MapB.congr {w : World} {b n : Nat} {f g : Int → Nat} (h : MapB w b n f) (e : ∀ y, f y = g y) : MapB w b n g := by
  obtain ⟨D, h, hD⟩ := h
  exact ⟨D, h, fun y => by rw [← e]; exact hD y⟩
theorem MapB.look {w : World} {b n : Nat} {f : Int → Nat} (h : MapB w b n f) (y : Int) (hy : (Lit.int .i64 y).wf = true) :
    (Instr.lookup TB (.map (some b)) (.int .i64 y) false).run Tryd.prog w = .ok (.int .u16 (f y : Int)) w := by
  obtain ⟨D, h, hD⟩ := h
  obtain ⟨v, ps, hrun, hv⟩ := h.lookup keyI8 Tryd.underlying38 (zeroBs w) (plainElem_int Tryd.underlying46 (by decide)) (keyOf_int_mk Tryd.underlying2 hy)
  obtain ⟨x, rfl, hx, -⟩ := plainElem_int_inv Tryd.underlying46 hv
  have e := (hD y).symm.trans (congrArg Prod.fst hx)
  simp only [DataW.lit.injEq, Lit.int.injEq, true_and] at e
  rw [hrun, e]
theorem MapB.store {w : World} {b n : Nat} {f : Int → Nat} (h : MapB w b n f) (hn : n < maxLen) (y : Int) (hy : (Lit.int .i64 y).wf = true) (a : Nat) (ha : a < 65536) :
    ∃ w', (Instr.mapUpdate TB (.map (some b)) (.int .i64 y) (.int .u16 (a : Int))).run Tryd.prog w = .ok () w' ∧ MapB w' b (n + 1) (fun z => if z = y then a else f z) ∧ w.grownBy w' (some b) := by
  obtain ⟨D, h, hD⟩ := h
  obtain ⟨w', hrun, h', hg⟩ := h.update keyI8 Tryd.underlying38 hn (keyOf_int_mk Tryd.underlying2 hy) (plainElem_int Tryd.underlying46 (wf_u16n ha))
  refine ⟨w', hrun, ⟨_, h', fun z => ?_⟩, hg⟩
  by_cases q : z = y
  · subst q
    rw [atKey_put_same h.isMap (by exact trivial)]
    simp
  · have hne : (Lit.int IntKind.i64 z) ≠ (Lit.int IntKind.i64 y) := by intro k; injection k with _ k; exact q k
    rw [atKey_put_other hne]
    simp only [if_neg q]
    exact hD z
end Go.Proofs.YtllfopbpchjhpaaDoor
/- The program's graph: those, attackedBy, defendedBy, isConflictFree, defendsItself. -/
namespace Go.Proofs.YtllfopbpchjhpaaDoor
open Go.ChangeShapes Go.WideShapes Go.ChangeAt Go.RowKit Go.Deep Go.Maps
set_option linter.unusedSimpArgs false
set_option linter.unusedVariables false
set_option maxRecDepth 100000
abbrev grV (n m : Nat) : Value := .agg #[.int .i64 (n : Int), .map (some m)]
set_option maxHeartbeats 1000000 in
set_option maxRecDepth 100000 in
theorem those_any (F : FuncId) (HF : ∀ args w, (callFunc F args).run Tryd.prog w = .ok (.enter F args) w) (caps : Array Value) (n : Nat) (m : Value) (p : Nat → Bool) (w : World) (hn : n ≤ 10)
    (HT : ∀ k w', k < n → Below w.heap.size w w' → Calls Tryd.prog F (#[.int .i64 (k : Int)] ++ caps) w' fun e w'' => e = .returned (.bool (p k)) ∧ Below w'.heap.size w' w'') :
    Calls Tryd.prog 30 #[.agg #[.int .i64 (n : Int), m], .func (.func F) #[] caps] w fun e w' => e = .returned (.int .u16 (those n p : Int)) ∧ Below w.heap.size w w' := by
  have H := Lib.hid HT
  have b0 := (Below.refl w.heap.size w).alloc (Nat.le_refl _) (.cells #[.int .i64 (n : Int), m] 40)
  clear HT
  go_enter Tryd.func30, Tryd.ntmps30
  go_wp2
  go_loopg [5, 9] n (fun g s i wr => ∃ k : Nat, k ≤ n ∧ g = n - k ∧ s = .int .u16 (those k p : Int) ∧ i = .int .i64 (k : Int) ∧ Below w.heap.size w wr)
  case atStart => exact ⟨0, Nat.zero_le _, rfl, rfl, rfl, b0⟩
  case round =>
    clear b0
    obtain ⟨k, hk, rfl, rfl, rfl, hb⟩ := hrel
    by_cases hlt : k < n
    · have HC := H.out k wr hlt hb
      have hl : those k p < 65536 := Nat.lt_of_lt_of_le (those_lt k p) (Nat.le_trans (Nat.pow_le_pow_right (by omega) (by omega : k ≤ 10)) (by decide))
      have HW := fun w' => with_any (those k p) (k : Int) w' hl (by omega) (by omega)
      obtain ⟨z, hz⟩ : ∃ z, p k = z := ⟨_, rfl⟩
      rw [hz] at HC
      have hs : those (k + 1) p = if z = true then those k p ||| 2 ^ k else those k p := by rw [← hz]; rfl
      have HS := Lib.hid hs
      clear hz hs hl
      cases z with
      | true =>
        go_wp2_with fail
        refine HC.mono ?_
        rintro e w1 ⟨rfl, hb1⟩
        go_wp2_with fail
        refine (HW _).mono ?_
        rintro e w2 ⟨rfl, rfl⟩
        go_wp2
        go_roundg (n - (k + 1))
        case measure => omega
        case rel => exact ⟨k + 1, by omega, rfl, by rw [HS.out]; simp, by simp, hb.trans (hb1.mono hb.size)⟩
      | false =>
        clear HW
        go_wp2_with fail
        refine HC.mono ?_
        rintro e w1 ⟨rfl, hb1⟩
        go_wp2
        go_roundg (n - (k + 1))
        case measure => omega
        case rel => exact ⟨k + 1, by omega, rfl, by rw [HS.out]; simp, by simp, hb.trans (hb1.mono hb.size)⟩
    · obtain rfl : k = n := by omega
      go_wp2
      go_ret
      exact ⟨rfl, hb⟩
/-- A graph of a valid frame: the map of the attackers. -/
structure GrIs (w : World) (n m : Nat) (L : List (List Int)) : Prop where
  map : ∃ c f, MapB w m c f ∧ ∀ y : Int, f y = byF L y
  ok : ∀ l ∈ L, atkOk (n : Int) l
  le : n ≤ 10
theorem GrIs.below {w w' : World} {n m : Nat} {L : List (List Int)} (h : GrIs w n m L) (hb : Below w.heap.size w w') : GrIs w' n m L := by
  obtain ⟨⟨c, f, h1, h2⟩, h3, h4⟩ := h
  exact ⟨⟨c, f, h1.below hb, h2⟩, h3, h4⟩
theorem GrIs.lt {w : World} {n m : Nat} {L : List (List Int)} (h : GrIs w n m L) : m < w.heap.size := by
  obtain ⟨⟨c, f, h1, h2⟩, h3, h4⟩ := h
  exact h1.lt
theorem GrIs.look {w : World} {n m : Nat} {L : List (List Int)} (h : GrIs w n m L) (y : Nat) (hy : y < 10) :
    (Instr.lookup TB (.map (some m)) (.int .i64 (y : Int)) false).run Tryd.prog w = .ok (.int .u16 (byF L (y : Int) : Int)) w := by
  obtain ⟨⟨c, f, h1, h2⟩, h3, h4⟩ := h
  rw [h1.look (y : Int) (Go.WalkArith.wf_i64 (by omega)), h2]
theorem pow10 {n : Nat} (h : n ≤ 10) : 2 ^ n ≤ 1024 := Nat.le_trans (Nat.pow_le_pow_right (by omega) h) (by decide)
theorem GrIs.by_lt {w : World} {n m : Nat} {L : List (List Int)} (h : GrIs w n m L) (y : Nat) : byF L (y : Int) < 1024 := Nat.lt_of_lt_of_le (byF_lt h.ok y) (pow10 h.le)
theorem attB_lt10 {n : Nat} (h : n ≤ 10) (L : List (List Int)) (s : Nat) : attB n L s < 1024 := Nat.lt_of_lt_of_le (attB_lt n L s) (pow10 h)
theorem defB_lt10 {n : Nat} (h : n ≤ 10) (L : List (List Int)) (s : Nat) : defB n L s < 1024 := Nat.lt_of_lt_of_le (defB_lt n L s) (pow10 h)
theorem and_ne (a b : Nat) (ha : a < 65536) (hb : b < 65536) : (bits .and .u16 (a : Int) (b : Int) != 0) = !decide (a &&& b = 0) := by
  rw [u16_and_nat a b ha hb, Bool.eq_iff_iff]; simp
theorem and_eq (a b : Nat) (ha : a < 65536) (hb : b < 65536) : (bits .and .u16 (a : Int) (b : Int) == 0) = decide (a &&& b = 0) := by
  rw [u16_and_nat a b ha hb, Bool.eq_iff_iff]; simp
/-- The closure of attackedBy. -/
theorem att1_any (n m : Nat) (L : List (List Int)) (s k p q : Nat) (w : World) (h : GrIs w n m L) (hk : k < 10) (hs : s < 65536)
    (c1 : w.cell? ⟨p, 1, none⟩ = some (.map (some m))) (c2 : w.cell? ⟨q, 0, none⟩ = some (.int .u16 (s : Int))) :
    Calls Tryd.prog 33 (#[.int .i64 (k : Int)] ++ #[.pointer (some ⟨p, 0, none⟩), .pointer (some ⟨q, 0, none⟩)]) w fun e w' => e = .returned (.bool (!decide (byF L (k : Int) &&& s = 0))) ∧ Below w.heap.size w w' := by
  show Calls Tryd.prog 33 #[.int .i64 (k : Int), .pointer (some ⟨p, 0, none⟩), .pointer (some ⟨q, 0, none⟩)] w _
  have hl := h.look k hk
  have E := Lib.hid (and_ne _ s (Nat.lt_trans (h.by_lt k) (by decide)) hs)
  clear h
  go_enter Tryd.func33, Tryd.ntmps33
  go_wp2
  go_ret
  exact ⟨by rw [E.out]; rfl, Below.refl _ _⟩
set_option maxHeartbeats 1000000 in
theorem att_any (n m : Nat) (L : List (List Int)) (s : Nat) (w : World) (h : GrIs w n m L) (hs : s < 65536) :
    Calls Tryd.prog 26 #[.agg #[.int .i64 (n : Int), .map (some m)], .int .u16 (s : Int)] w fun e w' => e = .returned (.int .u16 (attB n L s : Int)) ∧ Below w.heap.size w w' := by
  have b0 := ((Below.refl w.heap.size w).alloc (Nat.le_refl _) (.cells #[.int .i64 (n : Int), .map (some m)] 40)).alloc (by simp) (.cells #[.int .u16 (s : Int)] 46)
  obtain ⟨W, hW⟩ : ∃ W, W = (w.alloc (.cells #[.int .i64 (n : Int), .map (some m)] 40)).alloc (.cells #[.int .u16 (s : Int)] 46) := ⟨_, rfl⟩
  have c1 : W.cell? ⟨w.heap.size, 1, none⟩ = some (.map (some m)) := by rw [hW]; go_simp
  have c2 : W.cell? ⟨w.heap.size + 1, 0, none⟩ = some (.int .u16 (s : Int)) := by rw [hW]; go_simp
  have hsz : w.heap.size + 1 < W.heap.size := by rw [hW]; simp
  have hG := h.below (hW ▸ b0)
  have HT := those_any 33 (fun _ _ => rfl) #[.pointer (some ⟨w.heap.size, 0, none⟩), .pointer (some ⟨w.heap.size + 1, 0, none⟩)] n (.map (some m)) (fun x => !decide (byF L (x : Int) &&& s = 0)) W h.le
    (fun k w' hk hb => att1_any n m L s k _ _ w' (hG.below hb) (by have := h.le; omega) hs ((hb.cell (p := ⟨w.heap.size, 1, none⟩) (by show w.heap.size < _; omega)).trans c1) ((hb.cell (p := ⟨w.heap.size + 1, 0, none⟩) hsz).trans c2))
  rw [hW] at HT
  have B := Lib.hid b0
  clear c1 c2 hsz hG hW b0 h
  go_enter Tryd.func26, Tryd.ntmps26
  go_wp2_with fail
  refine HT.mono ?_
  rintro e w1 ⟨rfl, hb1⟩
  go_wp2
  go_ret
  exact ⟨rfl, B.out.trans (hb1.mono B.out.size)⟩
end Go.Proofs.YtllfopbpchjhpaaDoor
/- The program's graph: defendedBy, isConflictFree, defendsItself, setOf. -/
namespace Go.Proofs.YtllfopbpchjhpaaDoor
open Go.ChangeShapes Go.WideShapes Go.ChangeAt Go.RowKit Go.Deep Go.Maps
set_option linter.unusedSimpArgs false
set_option linter.unusedVariables false
set_option maxRecDepth 100000
/-- The closure of defendedBy. -/
theorem def1_any (n m : Nat) (L : List (List Int)) (s k p q : Nat) (w : World) (h : GrIs w n m L) (hk : k < 10) (hs : s < 65536)
    (c1 : w.cell? ⟨p, 1, none⟩ = some (.map (some m))) (c2 : w.cell? ⟨q, 0, none⟩ = some (.int .u16 (s : Int))) :
    Calls Tryd.prog 31 (#[.int .i64 (k : Int)] ++ #[.pointer (some ⟨p, 0, none⟩), .pointer (some ⟨q, 0, none⟩)]) w fun e w' => e = .returned (.bool (subB (byF L (k : Int)) s)) ∧ Below w.heap.size w w' := by
  show Calls Tryd.prog 31 #[.int .i64 (k : Int), .pointer (some ⟨p, 0, none⟩), .pointer (some ⟨q, 0, none⟩)] w _
  have hl := h.look k hk
  have HB := fun w' => isin_any (byF L (k : Int)) s w' (Nat.lt_trans (h.by_lt k) (by decide)) hs
  clear h
  generalize subB (byF L (k : Int)) s = z at HB ⊢
  go_enter Tryd.func31, Tryd.ntmps31
  go_wp2_with fail
  refine (HB _).mono ?_
  rintro e w1 ⟨rfl, rfl⟩
  go_wp2
  go_ret
  exact ⟨rfl, Below.refl _ _⟩
set_option maxHeartbeats 1000000 in
theorem def_any (n m : Nat) (L : List (List Int)) (s : Nat) (w : World) (h : GrIs w n m L) (hs : s < 65536) :
    Calls Tryd.prog 24 #[.agg #[.int .i64 (n : Int), .map (some m)], .int .u16 (s : Int)] w fun e w' => e = .returned (.int .u16 (defB n L s : Int)) ∧ Below w.heap.size w w' := by
  have b0 := (Below.refl w.heap.size w).alloc (Nat.le_refl _) (.cells #[.int .i64 (n : Int), .map (some m)] 40)
  obtain ⟨W, hW⟩ : ∃ W, W = w.alloc (.cells #[.int .i64 (n : Int), .map (some m)] 40) := ⟨_, rfl⟩
  have c1 : W.cell? ⟨w.heap.size, 1, none⟩ = some (.map (some m)) := by rw [hW]; go_simp
  have c0 : W.cell? ⟨w.heap.size, 0, none⟩ = some (.int .i64 (n : Int)) := by rw [hW]; go_simp
  have hsz : w.heap.size < W.heap.size := by rw [hW]; simp
  have bW : Below w.heap.size w W := hW ▸ b0
  have hG := h.below bW
  have HA := att_any n m L s W hG hs
  rw [hW] at HA
  have hw1 : attB n L s < 65536 := Nat.lt_trans (attB_lt10 h.le L s) (by decide)
  have hle := h.le
  have HT := fun (w' : World) (hb : Below W.heap.size W w') (q : Nat) (hq : q < w'.heap.size) (c2 : w'.cell? ⟨q, 0, none⟩ = some (.int .u16 (attB n L s : Int))) =>
    those_any 31 (fun _ _ => rfl) #[.pointer (some ⟨w.heap.size, 0, none⟩), .pointer (some ⟨q, 0, none⟩)] n (.map (some m)) (fun x => subB (byF L (x : Int)) (attB n L s)) w' hle
      (fun k w'' hk hb' => def1_any n m L (attB n L s) k _ _ w'' ((hG.below hb).below hb') (by omega) hw1 ((hb'.cell (p := ⟨w.heap.size, 1, none⟩) (Nat.lt_of_lt_of_le hsz hb.size)).trans ((hb.cell (p := ⟨w.heap.size, 1, none⟩) hsz).trans c1)) ((hb'.cell (p := ⟨q, 0, none⟩) hq).trans c2))
  have HD : those n (fun x => subB (byF L (x : Int)) (attB n L s)) = defB n L s := rfl
  rw [HD] at HT
  have HWH := Lib.hid hW
  have HTH := Lib.hid HT
  generalize attB n L s = a at HA HTH hw1
  generalize defB n L s = d at HTH ⊢
  clear hG hW b0 h HD HT
  go_enter Tryd.func24, Tryd.ntmps24
  go_wp2_with fail
  refine HA.mono ?_
  rintro e w1 ⟨rfl, hb1⟩
  rw [← HWH.out] at hb1
  have HX := HTH.out (w1.alloc (.cells #[.int .u16 (a : Int)] 46)) (hb1.alloc (by have := hb1.size; omega) _) w1.heap.size (by simp) (by go_simp)
  have d0 := (hb1.cell (p := ⟨w.heap.size, 0, none⟩) hsz).trans c0
  have d1 := (hb1.cell (p := ⟨w.heap.size, 1, none⟩) hsz).trans c1
  have b1 := bW.trans (hb1.mono bW.size)
  have lt1 : w.heap.size < w1.heap.size := by have := hb1.size; omega
  clear HTH HA c0 c1 hb1
  go_wp2_with fail
  refine HX.mono ?_
  rintro e w2 ⟨rfl, hb2⟩
  go_wp2
  go_ret
  refine ⟨rfl, ?_⟩
  have b2 := b1.alloc (by omega) (.cells #[.int .u16 (a : Int)] 46)
  exact b2.trans (hb2.mono b2.size)
end Go.Proofs.YtllfopbpchjhpaaDoor
/- The program's graph: setOf. -/
namespace Go.Proofs.YtllfopbpchjhpaaDoor
open Go.ChangeShapes Go.WideShapes Go.ChangeAt Go.RowKit Go.Deep Go.Maps
set_option linter.unusedSimpArgs false
set_option linter.unusedVariables false
set_option maxRecDepth 100000
theorem ris_mem {l : List Int} {n : Nat} (h : ris l 0 ((n : Int) - 1)) : ∀ x ∈ l, 0 ≤ x ∧ x < (n : Int) := by
  intro x hx
  obtain ⟨k, hk, e⟩ := List.getElem_of_mem hx
  have := h k hk
  unfold ris1 at this
  have eg : l.getD k 0 = l[k] := by simp [List.getD, hk]
  rw [eg, e] at this
  omega
theorem setL_take (l : List Int) (k : Nat) (hk : k < l.length) : setL (l.take (k + 1)) = setL (l.take k) ||| 2 ^ (l.getD k 0).toNat := by
  have e : l.take (k + 1) = l.take k ++ [l.getD k 0] := by
    rw [List.take_succ_eq_append_getElem hk]
    simp [List.getD, hk]
  rw [e, setL_snoc]
end Go.Proofs.YtllfopbpchjhpaaDoor
