/- Sealed values joined: the numbers. -/
import Derived.Test.YtjfkkmfbgmejbabDj2
import Derived.Test.YtjfkkmfbgmejbabNt1
import Derived.Maps.AppendAt
namespace Go.Proofs.Ytjfkkmfbgmejbab
open Go.ChangeShapes Go.WideShapes Go.ChangeAt Go.RowKit Go.Deep
set_option linter.unusedSimpArgs false
set_option linter.unusedVariables false
theorem seal_cg (v k : Nat) : cg (seal9 v k) ((4 : Int) ^ v * (9 : Int) ^ k) := (cg_mod _).trans ((pw_cg 4 v).mul (pw_cg 9 k))
theorem seal_sl (v k : Nat) : isSl (seal9 v k) = true :=
  unit_sl (unit9.cg (unit9.mul (unit4.pow v) (unit_9.pow k)) (seal_cg v k)) (seal9_ok v k)
theorem isSl_pos {c : Int} (h : isSl c = true) : 1 ≤ c := by
  by_cases q : c < 1
  · rw [isSl_no1 q] at h; cases h
  · omega
theorem quad_y (s q : Int) (h4 : 1000000007 * q + s = 4 * s) (b : s < 1000000007) (hp : 1 ≤ s) : False := by
  have m1 : q ≤ 0 → 1000000007 * q ≤ 1000000007 * 0 := fun h => Int.mul_le_mul_of_nonneg_left h (by decide)
  have m2 : 3 ≤ q → 1000000007 * 3 ≤ 1000000007 * q := fun h => Int.mul_le_mul_of_nonneg_left h (by decide)
  have m3 : q = 1 → 1000000007 * q = 1000000007 := fun h => by rw [h]; rfl
  have m4 : q = 2 → 1000000007 * q = 2000000014 := fun h => by rw [h]; rfl
  rw [show (1000000007 : Int) * 0 = 0 from rfl] at m1
  rw [show (1000000007 : Int) * 3 = 3000000021 from rfl] at m2
  generalize 1000000007 * q = t at *
  have : q ≤ 0 ∨ q = 1 ∨ q = 2 ∨ 3 ≤ q := by omega
  rcases this with h | h | h | h
  · have := m1 h; clear m1 m2 m3 m4; omega
  · have := m3 h; subst this; clear m1 m2 m3 m4; omega
  · have := m4 h; subst this; clear m1 m2 m3 m4; omega
  · have := m2 h; clear m1 m2 m3 m4; omega
theorem quad_ne (s t : Int) (h1 : cg t (4 * s)) (hs : sOk s) (hp : 1 ≤ s) : s ≠ t := by
  intro e
  subst e
  obtain ⟨a, b⟩ := hs
  have h2 : s % 1000000007 = 4 * s % 1000000007 := h1
  have h3 : s % 1000000007 = s := Int.emod_eq_of_lt a b
  have h4 := Int.mul_ediv_add_emod (4 * s) 1000000007
  rw [← h2, h3] at h4
  exact quad_y _ _ h4 b hp
theorem seal_ne (v k : Nat) : seal9 v k ≠ seal9 (v + 1) k := by
  refine quad_ne _ _ ((seal_cg (v + 1) k).trans ?_) (seal9_ok v k) (isSl_pos (seal_sl v k))
  rw [Int.pow_succ, Int.mul_comm ((4 : Int) ^ v) 4, Int.mul_assoc]
  exact (cg.refl 4).mul (seal_cg v k).symm
/-- A power with an exponent modulo the order. -/
theorem unit_mod {x : Int} (hx : unit9 x) (n : Nat) : cg (x ^ (n % 500000003)) (x ^ n) := by
  have e : n = 500000003 * (n / 500000003) + n % 500000003 := (Nat.div_add_mod n 500000003).symm
  have h1 : x ^ n = (x ^ 500000003) ^ (n / 500000003) * x ^ (n % 500000003) := by
    rw [← pow_mul', ← pow_add', ← e]
  rw [h1]
  have h2 : cg ((x ^ 500000003) ^ (n / 500000003)) 1 := by
    have := cg.pow (y := 1) hx (n / 500000003)
    rw [one_pow'] at this
    exact this
  have := h2.mul (cg.refl (x ^ (n % 500000003)))
  rw [Int.one_mul] at this
  exact this.symm
theorem jn_pre {S W : List Int} (s x : Int) (k : Nat) (h1 : k ≤ S.length) (h2 : k ≤ W.length) : jn (S ++ [s]) (W ++ [x]) k = jn S W k := by
  induction k with
  | zero => rfl
  | succ k ih =>
    show jn (S ++ [s]) (W ++ [x]) k * _ % _ = jn S W k * _ % _
    rw [ih (by omega) (by omega)]
    have e1 : (S ++ [s]).getD k 0 = S.getD k 0 := by simp [List.getD, List.getElem?_append_left (show k < S.length by omega)]
    have e2 : (W ++ [x]).getD k 0 = W.getD k 0 := by simp [List.getD, List.getElem?_append_left (show k < W.length by omega)]
    rw [e1, e2]
theorem kn_pre {S W : List Int} (s x : Int) (k : Nat) (h1 : k ≤ S.length) (h2 : k ≤ W.length) : kn (S ++ [s]) (W ++ [x]) k = kn S W k := by
  induction k with
  | zero => rfl
  | succ k ih =>
    show (kn (S ++ [s]) (W ++ [x]) k + _) % _ = (kn S W k + _) % _
    rw [ih (by omega) (by omega)]
    have e1 : (S ++ [s]).getD k 0 = S.getD k 0 := by simp [List.getD, List.getElem?_append_left (show k < S.length by omega)]
    have e2 : (W ++ [x]).getD k 0 = W.getD k 0 := by simp [List.getD, List.getElem?_append_left (show k < W.length by omega)]
    rw [e1, e2]
theorem getD_last (l : List Int) (x : Int) {k : Nat} (h : l.length = k) : (l ++ [x]).getD k 0 = x := by subst h; simp [List.getD]
theorem all_snoc {p : Int → Bool} {l : List Int} {x : Int} (h : l.all p = true) (hx : p x = true) : (l ++ [x]).all p = true := by simp [List.all_append, h, hx]
/-- What the three lists are after k rounds: the seals, the keys, the weights, and the sum A. -/
def InvJ (k : Nat) (S K W : List Int) (A : Nat) : Prop := S.length = k ∧ K.length = k ∧ W.length = k ∧ S.all isSl = true ∧ K.all isEx = true ∧ W.all wB = true ∧
  ∃ E : Nat, cg (jn S W k) ((4 : Int) ^ A * (9 : Int) ^ E) ∧ kn K W k = ((E % 500000003 : Nat) : Int)
theorem InvJ.start : InvJ 0 [] [] [] 0 := ⟨rfl, rfl, rfl, rfl, rfl, rfl, 0, by show cg 1 _; rw [Int.pow_zero, Int.pow_zero]; exact cg.refl _, rfl⟩
theorem InvJ.step {k : Nat} {S K W : List Int} {A : Nat} (h : InvJ k S K W A) {v y x : Nat} (hy : y ≤ 500000002) (hx : x ≤ 1000) :
    InvJ (k + 1) (S ++ [seal9 v y]) (K ++ [(y : Int)]) (W ++ [(x : Int)]) (A + x * v) := by
  obtain ⟨l1, l2, l3, a1, a2, a3, E, h1, h2⟩ := h
  refine ⟨by simp [l1], by simp [l2], by simp [l3], all_snoc a1 (seal_sl v y), all_snoc a2 (by simp [isEx]; omega), all_snoc a3 (wB_of ⟨by omega, by omega⟩), E + y * x, ?_, ?_⟩
  · show cg (jn (S ++ [seal9 v y]) (W ++ [(x : Int)]) k * pw ((S ++ [seal9 v y]).getD k 0) ((W ++ [(x : Int)]).getD k 0).toNat % 1000000007) _
    rw [jn_pre _ _ _ (by omega) (by omega), getD_last _ _ l1, getD_last _ _ l3, Int.toNat_natCast]
    refine (cg_mod _).trans ((h1.mul ((pw_cg _ _).trans ((seal_cg v y).pow x))).trans ?_)
    rw [mul_pow', ← pow_mul', ← pow_mul', pow_add' 4, pow_add' 9, Nat.mul_comm v x]
    have : (4 : Int) ^ A * (9 : Int) ^ E * ((4 : Int) ^ (x * v) * (9 : Int) ^ (y * x)) = (4 : Int) ^ A * (4 : Int) ^ (x * v) * ((9 : Int) ^ E * (9 : Int) ^ (y * x)) := by ac_rfl
    rw [this]
    exact cg.refl _
  · show (kn (K ++ [(y : Int)]) (W ++ [(x : Int)]) k + (K ++ [(y : Int)]).getD k 0 * (W ++ [(x : Int)]).getD k 0) % 500000003 = _
    rw [kn_pre _ _ _ (by omega) (by omega), getD_last _ _ l2, getD_last _ _ l3, h2]
    have e : (y : Int) * (x : Int) = ((y * x : Nat) : Int) := by simp
    rw [e]
    generalize y * x = p
    omega
theorem mSeal_yes {v k : Nat} (hv : v ≤ 500000002) (hk : k ≤ 500000002) : mSealOf (v : Int) (k : Int) = (seal9 v k, true) := by
  unfold mSealOf
  rw [if_pos ⟨by simp [isEx]; omega, by simp [isEx]; omega⟩, Int.toNat_natCast, Int.toNat_natCast]
theorem InvJ.fin {k : Nat} {S K W : List Int} {A : Nat} (h : InvJ k S K W A) (hk : k ≤ 12) (hA : A ≤ 500000002) :
    ∃ (z : Int) (y : Nat), y ≤ 500000002 ∧ mJoinS S W = (z, true) ∧ mJoinK K W = ((y : Int), true) ∧ seal9 A y = z := by
  obtain ⟨l1, l2, l3, a1, a2, a3, E, h1, h2⟩ := h
  refine ⟨jn S W S.length, E % 500000003, by omega, mJoinS_yes ⟨by omega, a1, a3, by omega⟩, ?_, ?_⟩
  · rw [mJoinK_yes ⟨by omega, a2, a3, by omega⟩, l2, h2]
  · rw [l1]
    refine cg_eq ((seal_cg _ _).trans ?_) (seal9_ok _ _) (jn_ok _ _ _)
    exact ((cg.refl _).mul (unit_mod unit_9 E)).trans h1.symm
theorem iseal (v k : Nat) (w : World) (hv : v ≤ 500000002) (hk : k ≤ 500000002) :
    Calls Try.prog 10 #[.int .i64 (v : Int), .int .i64 (k : Int)] w fun e w' => e = .returned (.tuple #[.int .i64 (seal9 v k), .bool true]) ∧ Below w.heap.size w w' := by
  have h := iSealOf (v : Int) (k : Int) w (Go.WalkArith.wf_i64 ⟨by omega, by omega⟩) (Go.WalkArith.wf_i64 ⟨by omega, by omega⟩)
  rw [mSeal_yes hv hk] at h
  exact h
/-- Three lists in rows of their own. -/
structure Tri (w : World) (base : Nat) (v1 v2 v3 : Value) (l1 l2 l3 : List Int) : Prop where
  o1 : w.ownsRow base 2 1 v1 l1.length (l1.map (Value.int .i64))
  o2 : w.ownsRow base 2 1 v2 l2.length (l2.map (Value.int .i64))
  o3 : w.ownsRow base 2 1 v3 l3.length (l3.map (Value.int .i64))
  n12 : ∀ c, v1.ownBlock = some c → v2.ownBlock ≠ some c
  n13 : ∀ c, v1.ownBlock = some c → v3.ownBlock ≠ some c
  n23 : ∀ c, v2.ownBlock = some c → v3.ownBlock ≠ some c
theorem Tri.rot {w : World} {base : Nat} {v1 v2 v3 : Value} {l1 l2 l3 : List Int} (h : Tri w base v1 v2 v3 l1 l2 l3) : Tri w base v2 v3 v1 l2 l3 l1 :=
  ⟨h.o2, h.o3, h.o1, h.n23, fun c a b => h.n12 c b a, fun c a b => h.n13 c b a⟩
theorem Tri.below {w w' : World} {base : Nat} {v1 v2 v3 : Value} {l1 l2 l3 : List Int} (h : Tri w base v1 v2 v3 l1 l2 l3) (hb : Below w.heap.size w w') : Tri w' base v1 v2 v3 l1 l2 l3 :=
  ⟨own_blockJ h.o1 fun g _ hg => hb.block g hg, own_blockJ h.o2 fun g _ hg => hb.block g hg, own_blockJ h.o3 fun g _ hg => hb.block g hg, h.n12, h.n13, h.n23⟩
theorem Tri.app {w w' : World} {base : Nat} {v1 v2 v3 v' : Value} {l1 l2 l3 : List Int} {x : Int} {o : Obj} (h : Tri w base v1 v2 v3 l1 l2 l3)
    (ho : w'.ownsRow base 2 1 v' (l1.length + 1) (l1.map (Value.int .i64) ++ [.int .i64 x])) (hg : (w.alloc o).grownBy w' v1.ownBlock) (hat : v'.ownBlock = v1.ownBlock ∨ v'.ownBlock = some (w.heap.size + 1)) :
    Tri w' base v' v2 v3 (l1 ++ [x]) l2 l3 := by
  have hz : w.heap.size < (w.alloc o).heap.size := by simp
  refine ⟨?_, own_blockJ h.o2 fun g hg' hlt => (hg.block g (by omega) (fun q => h.n12 g q.symm hg')).trans (blk_alloc_lt _ _ _ hlt), own_blockJ h.o3 fun g hg' hlt => (hg.block g (by omega) (fun q => h.n13 g q.symm hg')).trans (blk_alloc_lt _ _ _ hlt), fun c hc => ?_, fun c hc => ?_, h.n23⟩
  · have e1 : (l1 ++ [x]).length = l1.length + 1 := by simp
    rw [e1, List.map_append]; exact ho
  · rcases hat with e | e
    · rw [e] at hc; exact h.n12 c hc
    · rw [e] at hc
      intro q
      have := (h.o2.lt c q).2
      injection hc with hc
      omega
  · rcases hat with e | e
    · rw [e] at hc; exact h.n13 c hc
    · rw [e] at hc
      intro q
      have := (h.o3.lt c q).2
      injection hc with hc
      omega
/-- Three empty lists in blocks made in order. -/
theorem Tri.start (w : World) {base : Nat} (h : base ≤ w.heap.size) :
    Tri (((w.alloc (.cells #[] 2)).alloc (.cells #[] 2)).alloc (.cells #[] 2)) base (.slice (some ⟨w.heap.size, 0, none⟩) 0 0) (.slice (some ⟨w.heap.size + 1, 0, none⟩) 0 0) (.slice (some ⟨w.heap.size + 1 + 1, 0, none⟩) 0 0) [] [] [] := by
  have a1 := World.ownsRow_lit (base := base) w (e := 2) (size := 1) #[] 0 h (by unfold maxLen; omega) rfl
  have a2 := World.ownsRow_lit (base := base) (w.alloc (.cells #[] 2)) (e := 2) (size := 1) #[] 0 (by simp; omega) (by unfold maxLen; omega) rfl
  have a3 := World.ownsRow_lit (base := base) ((w.alloc (.cells #[] 2)).alloc (.cells #[] 2)) (e := 2) (size := 1) #[] 0 (by simp; omega) (by unfold maxLen; omega) rfl
  refine ⟨own_blockJ (own_blockJ a1 fun g _ hg => blk_alloc_lt _ _ _ hg) fun g _ hg => blk_alloc_lt _ _ _ hg, ?_, ?_, fun c hc => ?_, fun c hc => ?_, fun c hc => ?_⟩
  · have := own_blockJ a2 (w' := ((w.alloc (.cells #[] 2)).alloc (.cells #[] 2)).alloc (.cells #[] 2)) fun g _ hg => blk_alloc_lt _ _ _ hg
    simpa using this
  · simpa using a3
  all_goals
    simp [Value.ownBlock] at hc ⊢
    omega
end Go.Proofs.Ytjfkkmfbgmejbab
