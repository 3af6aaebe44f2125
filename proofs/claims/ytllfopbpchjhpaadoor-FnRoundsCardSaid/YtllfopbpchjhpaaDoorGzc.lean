/- Several of this claim's texts in one: Bt2, Tz1, Li1. -/
import Derived.Test.YtllfopbpchjhpaaDoorBt1
import Derived.Lib.TrailingZeros
import Derived.Test.YtllfopbpchjhpaaDoorGzb
import Derived.Test.YtllfopbpchjhpaaDoorK1
import Derived.Deep.AppendLies
import Derived.Test.YtllfopbpchjhpaaDoorKJ
/- The list of a set of small numbers; the least number of a set: pure. -/
namespace Go.Proofs.YtllfopbpchjhpaaDoor
set_option linter.unusedSimpArgs false
set_option linter.unusedVariables false
/-- The numbers below n with p, in order. -/
def selB : Nat → (Nat → Bool) → List Int
  | 0, _ => []
  | n + 1, p => if p n then selB n p ++ [(n : Int)] else selB n p
theorem selB_len (n : Nat) (p : Nat → Bool) : (selB n p).length ≤ n := by
  induction n with
  | zero => simp [selB]
  | succ n ih =>
    unfold selB
    split
    · simp; exact ih
    · omega
theorem selB_congr {n : Nat} {p q : Nat → Bool} (h : ∀ i, i < n → p i = q i) : selB n p = selB n q := by
  induction n with
  | zero => rfl
  | succ n ih =>
    unfold selB
    rw [h n (by omega), ih (fun i hi => h i (by omega))]
/-- Between x and y there is none. -/
theorem selB_gap {p : Nat → Bool} {x y : Nat} (hxy : x ≤ y) (h : ∀ i, x ≤ i → i < y → p i = false) : selB y p = selB x p := by
  induction y with
  | zero => obtain rfl : x = 0 := by omega
            rfl
  | succ y ih =>
    by_cases e : x = y + 1
    · subst e; rfl
    · show (if p y = true then selB y p ++ [(y : Int)] else selB y p) = selB x p
      rw [h y (by omega) (by omega), if_neg (by simp)]
      exact ih (by omega) (fun i h1 h2 => h i h1 (by omega))
theorem selB_mem {n : Nat} {p : Nat → Bool} {x : Int} (h : x ∈ selB n p) : ∃ k : Nat, x = (k : Int) ∧ k < n ∧ p k = true := by
  induction n with
  | zero => simp [selB] at h
  | succ n ih =>
    unfold selB at h
    by_cases e : p n = true
    · rw [if_pos e] at h
      rcases List.mem_append.1 h with h | h
      · obtain ⟨k, a, b, c⟩ := ih h; exact ⟨k, a, by omega, c⟩
      · simp at h; exact ⟨n, h, by omega, e⟩
    · rw [if_neg e] at h
      obtain ⟨k, a, b, c⟩ := ih h; exact ⟨k, a, by omega, c⟩
/-- The list of a set. -/
def listB (s : Nat) : List Int := selB 10 s.testBit
theorem ctz_low {b : Nat} (n : Nat) (h0 : b ≠ 0) (h : b < 2 ^ n) : b.testBit (Lib.ctz n b) = true ∧ (∀ i, i < Lib.ctz n b → b.testBit i = false) ∧ ∀ i, (b &&& (b - 1)).testBit i = (decide (Lib.ctz n b < i) && b.testBit i) := by
  obtain ⟨m, hm, hl⟩ := Lib.ctzFrom_spec n b (by omega) h
  have ec : Lib.ctz n b = Lib.ctzFrom n b := by unfold Lib.ctz; rw [if_neg h0]
  rw [ec]
  generalize Lib.ctzFrom n b = t at hm hl
  have e1 : b = 2 ^ (t + 1) * m + 2 ^ t := by rw [hm, Nat.pow_succ, Nat.mul_add, Nat.mul_one]; congr 1; rw [Nat.mul_assoc]
  have hp : 2 ^ t < 2 ^ (t + 1) := Nat.pow_lt_pow_right (by omega) (by omega)
  have hpos : 0 < 2 ^ t := Nat.pow_pos (by omega)
  have e2 : b - 1 = 2 ^ (t + 1) * m + (2 ^ t - 1) := by omega
  have B : ∀ i, b.testBit i = if i < t + 1 then (2 ^ t).testBit i else m.testBit (i - (t + 1)) := fun i => by rw [e1]; exact Nat.testBit_two_pow_mul_add m hp i
  have C : ∀ i, (b - 1).testBit i = if i < t + 1 then (2 ^ t - 1).testBit i else m.testBit (i - (t + 1)) := fun i => by rw [e2]; exact Nat.testBit_two_pow_mul_add m (by omega) i
  refine ⟨?_, fun i hi => ?_, fun i => ?_⟩
  · rw [B, if_pos (by omega), bit_two]; simp
  · rw [B, if_pos (by omega), bit_two]; simp; omega
  · rw [Nat.testBit_and, B, C]
    by_cases q : i < t + 1
    · rw [if_pos q, if_pos q, bit_two, all_bit]
      have : decide (t < i) = false := by simp; omega
      rw [this]
      by_cases e : t = i
      · subst e; simp
      · simp [e]
    · rw [if_neg q, if_neg q]
      have : decide (t < i) = true := by simp; omega
      rw [this]; simp
end Go.Proofs.YtllfopbpchjhpaaDoor
/- math/bits.TrailingZeros16; the program's list of a set, the specification's. -/
namespace Go.Proofs.YtllfopbpchjhpaaDoor
open Go.ChangeShapes Go.WideShapes Go.ChangeAt Go.RowKit Go.Deep
set_option linter.unusedSimpArgs false
set_option linter.unusedVariables false
/-- Go's own table for the lowest bit, in its variable. -/
def DBT (w : World) : Prop := ∀ j, j < 32 → w.cell? ⟨0, j, none⟩ = some (.int .u8 (Lib.deBruijn32tab.getD j 0 : Int))
theorem DBT.below {w w' : World} (h : DBT w) (hb : Below w.heap.size w w') : DBT w' := fun j hj => (hb.cell (p := ⟨0, j, none⟩) (World.block_lt_of_cell? _ _ (h j hj))).trans (h j hj)
theorem tz16_key (x a : Nat) (hx : x < 65536) (hx0 : x ≠ 0) (hlow : x &&& (65536 - x) = a) :
    bits .and .u16 (x : Int) (IntKind.u16.wrap (-(x : Int))) = (a : Int) := by
  have e1 : IntKind.u16.wrap (-(x : Int)) = ((65536 - x : Nat) : Int) := by simp [IntKind.wrap, IntKind.bits, IntKind.signed]; omega
  rw [e1, u16_and_nat x _ hx (by omega), hlow]
theorem tz16 (x : Nat) (w : World) (hx : x < 65536) (hx0 : x ≠ 0) (hT : DBT w) :
    Calls Tryd.prog 27 #[.int .u16 (x : Int)] w fun e w' => e = .returned (.int .i64 (Lib.ctz 16 x : Int)) ∧ w = w' := by
  obtain ⟨hlow, hk⟩ := Lib.lowest_bit 16 x hx0 hx
  obtain ⟨hi, htab⟩ := Lib.deBruijn32_at _ (Nat.lt_trans hk (by omega))
  have key := tz16_key x _ hx hx0 hlow
  have hcell := hT _ hi
  rw [htab] at hcell
  generalize Lib.ctz 16 x = k at *
  have hp : 2 ^ k < 65536 := by have := Nat.pow_lt_pow_right (a := 2) (by omega) hk; simpa using this
  obtain ⟨A, hA⟩ : ∃ A, 2 ^ k = A := ⟨_, rfl⟩
  rw [hA] at key hp hi hcell
  obtain ⟨idx, hidx⟩ : ∃ i, A * 125613361 % 4294967296 / 134217728 = i := ⟨_, rfl⟩
  rw [hidx] at hi hcell
  have hx0b : ((x : Int) == 0) = false := by simp; omega
  have k2 : (A : Int) * 125613361 % 4294967296 / 134217728 = (idx : Int) := by
    have h : ((A * 125613361 % 4294967296 / 134217728 : Nat) : Int) = (idx : Int) := by rw [hidx]
    simpa using h
  have k1 : (A : Int) % 4294967296 * 125613361 % 4294967296 / 134217728 = (idx : Int) := by
    have h : (A : Int) % 4294967296 = (A : Int) := Int.emod_eq_of_lt (by omega) (by omega)
    rw [h]; exact k2
  clear hlow htab hT hA hidx
  go_enter Tryd.func27, Tryd.ntmps27
  go_wp2
  go_ret
  exact ⟨rfl, rfl⟩
end Go.Proofs.YtllfopbpchjhpaaDoor
/- The program's list of a set, the specification's. -/
namespace Go.Proofs.YtllfopbpchjhpaaDoor
open Go.ChangeShapes Go.WideShapes Go.ChangeAt Go.RowKit Go.Deep
set_option linter.unusedSimpArgs false
set_option linter.unusedVariables false
theorem snoc_map8 (l : List Int) (n : Int) : (l ++ [n]).map (Value.int .i64) = l.map (Value.int .i64) ++ [Value.int .i64 n] := by simp
theorem snoc_len8 (l : List Int) (n : Int) : (l ++ [n]).length = l.length + 1 := by simp
theorem selB_end {s x : Nat} (hs : s < 1024) (h : ∀ i, x ≤ i → s.testBit i = false) : selB x s.testBit = listB s := by
  have h10 : ∀ i, 10 ≤ i → s.testBit i = false := fun i hi => by
    cases e : s.testBit i with
    | false => rfl
    | true => have := bits_lt (n := 10) (show s < 2 ^ 10 from hs) e; omega
  unfold listB
  by_cases hx : x ≤ 10
  · exact (selB_gap hx (fun i h1 _ => h i h1)).symm
  · exact selB_gap (by omega) (fun i h1 _ => h10 i h1)
/-- What is left of the set s behind x. -/
def LeftB (s x B : Nat) : Prop := ∀ i, B.testBit i = (decide (x ≤ i) && s.testBit i)
theorem left_lt {s x B : Nat} (hs : s < 1024) (h : LeftB s x B) : B < 65536 := by
  have : B < 2 ^ 10 := lt_of_bits (fun i hi => by
    rw [h i] at hi
    simp only [Bool.and_eq_true] at hi
    exact bits_lt (n := 10) (show s < 2 ^ 10 from hs) hi.2)
  omega
theorem left_step {s x B : Nat} (hs : s < 1024) (h : LeftB s x B) (h0 : B ≠ 0) :
    x ≤ Lib.ctz 16 B ∧ Lib.ctz 16 B < 16 ∧ selB (Lib.ctz 16 B + 1) s.testBit = selB x s.testBit ++ [(Lib.ctz 16 B : Int)] ∧ LeftB s (Lib.ctz 16 B + 1) (B &&& (B - 1)) := by
  obtain ⟨c1, c2, c3⟩ := ctz_low 16 h0 (left_lt hs h)
  have hk : Lib.ctz 16 B < 16 := (Lib.lowest_bit 16 B h0 (left_lt hs h)).2
  generalize Lib.ctz 16 B = t at *
  have q := h t
  rw [c1] at q
  have q2 := q.symm
  simp only [Bool.and_eq_true, decide_eq_true_eq] at q2
  refine ⟨q2.1, hk, ?_, fun i => ?_⟩
  · show (if s.testBit t = true then selB t s.testBit ++ [(t : Int)] else selB t s.testBit) = _
    rw [if_pos q2.2]
    congr 1
    refine selB_gap q2.1 (fun i h1 h2 => ?_)
    have := c2 i h2
    rw [h i] at this
    simpa [h1] using this
  · rw [c3 i, h i]
    by_cases e : t < i
    · have e1 : t + 1 ≤ i := by omega
      have e2 : x ≤ i := by omega
      simp [e, e1, e2]
    · have e1 : ¬ t + 1 ≤ i := by omega
      simp [e, e1]
set_option maxHeartbeats 1000000 in
set_option maxRecDepth 100000 in
theorem ilist (s : Nat) (w : World) (hs : s < 1024) (hT : DBT w) :
    Calls Tryd.prog 18 #[.int .u16 (s : Int)] w fun e w' => (∃ v, e = .returned v ∧ OwI w' w.heap.size w'.heap.size v (listB s)) ∧ Below w.heap.size w w' := by
  obtain ⟨i0, hi, hz0, hz1, hz2⟩ := info_parts infoI
  have hown0 : w.ownsRow w.heap.size 2 1 (.slice none 0 0) 0 (([] : List Int).map (Value.int .i64)) := World.ownsRow_nil _ _ _ _
  have HTT := Lib.hid hT
  clear hT
  go_enter Tryd.func18, Tryd.ntmps18
  go_wp2
  go_loopg [0, 3] 16 (fun g u v wr => ∃ (x B : Nat) (l : List Int), x ≤ 16 ∧ g = 16 - x ∧ u = .int .u16 (B : Int) ∧ l.length ≤ x ∧ Hid (l = selB x s.testBit) ∧ Hid (LeftB s x B) ∧ wr.ownsRow w.heap.size 2 1 v l.length (l.map (Value.int .i64)) ∧ Below w.heap.size w wr)
  case atStart => exact ⟨0, s, [], by omega, rfl, rfl, Nat.le_refl _, rfl, fun i => by simp, hown0, Below.refl _ _⟩
  case round =>
    clear hown0
    obtain ⟨x, B, l, hx, rfl, rfl, hll, HL, HB, hown, hb⟩ := hrel
    have hB := left_lt hs HB.out
    by_cases h0 : B = 0
    · subst h0
      go_wp2
      go_ret
      refine ⟨⟨_, rfl, ?_⟩, hb⟩
      rw [← selB_end hs (fun i hi => by have := HB.out i; simp at this; exact this hi), ← HL.out]
      exact ow_of_own hown (Nat.le_refl _) (by omega)
    · have h0b : ((B : Int) != 0) = true := by simp; omega
      obtain ⟨s1, s2, s3, s4⟩ := left_step hs HB.out h0
      have HTZ := fun w' (hw : Below w.heap.size w w') => tz16 B w' hB h0 (HTT.out.below hw)
      obtain ⟨t, ht⟩ : ∃ t, Lib.ctz 16 B = t := ⟨_, rfl⟩
      rw [ht] at s1 s2 s3 s4 HTZ
      have HE : Hid (l ++ [(t : Int)] = selB (t + 1) s.testBit) := by show l ++ [(t : Int)] = _; rw [s3, ← HL.out]
      have eb : bits .and .u16 (B : Int) ((B : Int) - 1) = ((B &&& (B - 1) : Nat) : Int) := by
        have e : (B : Int) - 1 = ((B - 1 : Nat) : Int) := by omega
        rw [e]; exact u16_and_nat B (B - 1) hB (by omega)
      have hBp : 1 ≤ (B : Int) := by omega
      have EB := Lib.hid eb
      have S4 := Lib.hid s4
      have HTZ1 := HTZ _ hb
      have sw := hb.size
      clear s3 s4 ht eb h0 HTZ
      go_wp2_with fail
      refine HTZ1.mono ?_
      rintro e w2 ⟨rfl, rfl⟩
      go_wp2_with (first
        | (at_builtin; refine wpList_append_own _ rfl _ _ 28 rfl w.heap.size 2 i0 (.int .i64 0) 1 8 Tryd.underlying28 hi hz0 hz1 hz2 rfl (by decide) _ _ _ rfl (hown.alloc _) ⟨wr.heap.size, 0, none⟩ 1 1 [.int .i64 (t : Int)] rfl rfl ?c1 ?c2 ?c3 ?c4 ?c5 ?_))
      case c1 => exact World.news_of_block (cs := #[.int .i64 (t : Int)]) (t := 2) (fr := (0, 0)) (heap_alloc_new wr _)
      case c2 => simp [Value.oneCell']
      case c3 => unfold maxLen; omega
      case c4 => omega
      case c5 => simp; omega
      intro v' w3 hown3 hgrow _
      have hb3 := (hb.alloc (by omega) _).grown hgrow (by simp; omega) (fun x e => (hown.lt x e).1)
      have HO : Hid (w3.ownsRow w.heap.size 2 1 v' (l ++ [(t : Int)]).length ((l ++ [(t : Int)]).map (Value.int .i64))) := by rw [snoc_len8, snoc_map8]; exact hown3
      have HLN := Lib.hid (snoc_len8 l (t : Int))
      clear hown3 hgrow
      go_wp2
      go_roundg (16 - (t + 1))
      case measure => omega
      case rel => exact ⟨t + 1, B &&& (B - 1), l ++ [(t : Int)], by omega, rfl, by rw [EB.out], by rw [HLN.out]; omega, HE, S4, HO.out, hb3⟩
end Go.Proofs.YtllfopbpchjhpaaDoor
