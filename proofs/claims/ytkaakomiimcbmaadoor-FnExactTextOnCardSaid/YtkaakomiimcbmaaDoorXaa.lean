/- Several of this claim's texts in one: Ac1, Ac2, Xa1, Xa2, Xa3. -/
import Derived.Test.YtkaakomiimcbmaaDoorEd2
import Derived.Test.YtkaakomiimcbmaaDoorEd7
import Derived.Test.YtkaakomiimcbmaaDoorMpa
import Derived.Test.YtkaakomiimcbmaaDoorEd5
import Derived.Test.YtkaakomiimcbmaaDoorK2v
/- Acts in a world: what came in, copied. -/
namespace Go.Proofs.YtkaakomiimcbmaaDoor
open Go.ChangeShapes Go.WideShapes Go.ChangeAt Go.RowKit Go.Deep
set_option linter.unusedSimpArgs false
set_option linter.unusedVariables false
abbrev Ac := Int × Int × List Ed
abbrev ac0 : Ac := (0, 0, [])
set_option maxRecDepth 100000 in
theorem infoAc : (Tryd.prog.info? 51).map (fun i => (i.zero, i.size, i.bytes)) = some (some (.agg #[.int .i64 0, .int .i64 0, .slice none 0 0]), 3, 40) := by kernel_rfl
theorem run_mk3 {P : Program} (t e : TypeId) (z0 z1 z2 : Value) (bytes : Nat) (ht : P.underlying t = some (.slice e)) (hinfo : (P.info? e).map (fun i => (i.zero, i.size, i.bytes)) = some (some (.agg #[z0, z1, z2]), 3, bytes)) (h0 : (Value.agg #[z0, z1, z2]).cells = #[z0, z1, z2])
    (kl kc : IntKind) (n : Nat) (hbytes : bytes * n ≤ 281474976710656) (h63 : n ≤ 9223372036854775807) (w : World) :
    (Instr.makeSlice t (.int kl (n : Int)) (.int kc (n : Int))).run P w = .ok (.slice (some ⟨w.heap.size, 0, none⟩) n n) (w.alloc (.cells (madeCells #[z0, z1, z2] (n * 3)) e)) := by
  obtain ⟨i, hi, hzz⟩ := Option.map_eq_some_iff.1 hinfo
  simp only [Prod.mk.injEq] at hzz
  obtain ⟨hz, hs, hb⟩ := hzz
  have hb' : (i.bytes : Int) * (n : Int) ≤ 281474976710656 := by
    have h : ((i.bytes * n : Nat) : Int) ≤ 281474976710656 := by rw [hb]; omega
    rwa [Int.natCast_mul] at h
  have hr := run_make (P := P) w t e i _ ht hi hz kl kc n n (by omega) (Int.le_refl _) hb' (by omega)
  simp only [Int.toNat_natCast, hs, h0] at hr
  exact hr
theorem rowIs_mk3 (w : World) (z0 z1 z2 : Value) (n : Nat) (t : TypeId) : (w.alloc (.cells (madeCells #[z0, z1, z2] (n * 3)) t)).rowIs w.heap.size t (n * 3) (fun j => if j % 3 = 0 then z0 else if j % 3 = 1 then z1 else z2) :=
  ⟨_, blk_alloc_new _ _, size_madeCells _ _, fun i hi => by
    have e : (#[z0, z1, z2] : Array Value).size = 3 := rfl
    simp only [madeCells, Array.getElem?_map, Array.getElem?_range, if_pos hi, e]
    have : i % 3 = 0 ∨ i % 3 = 1 ∨ i % 3 = 2 := by omega
    rcases this with h | h | h <;> simp [h]⟩
/-- Element k of a list of acts that lies at x, each of three cells. -/
def ArgX (w : World) (x : Addr) (L : List Ac) : Prop :=
  ∀ k, k < L.length → ∃ v, w.cell? (x.add (k * 3)) = some (.int .i64 (L.getD k ac0).1) ∧ w.cell? ⟨(x.add (k * 3)).block, (x.add (k * 3)).off + 1, none⟩ = some (.int .i64 (L.getD k ac0).2.1) ∧ w.cell? ⟨(x.add (k * 3)).block, (x.add (k * 3)).off + 2, none⟩ = some v ∧ ListE w v (L.getD k ac0).2.2
theorem ArgX.below {w w' : World} {x : Addr} {L : List Ac} (h : ArgX w x L) (hx : 0 < L.length → x.block < w.heap.size) (hb : Below w.heap.size w w') : ArgX w' x L := fun k hk => by
  have hx := hx (by omega)
  obtain ⟨v, h1, h2, h3, h4⟩ := h k hk
  exact ⟨v, (hb.cell (by rw [block_add]; exact hx)).trans h1, (hb.cell (by show (x.add (k * 3)).block < _; rw [block_add]; exact hx)).trans h2, (hb.cell (by show (x.add (k * 3)).block < _; rw [block_add]; exact hx)).trans h3, h4.below hb⟩
def ListX (w : World) (v : Value) (L : List Ac) : Prop := (v = .slice none 0 0 ∧ L = []) ∨ ∃ (x : Addr) (cap : Nat), v = .slice (some x) L.length cap ∧ (0 < L.length → x.block < w.heap.size) ∧ ArgX w x L
theorem ListX.below {w w' : World} {v : Value} {L : List Ac} (h : ListX w v L) (hb : Below w.heap.size w w') : ListX w' v L := by
  rcases h with h | ⟨x, cap, rfl, hx, h⟩
  · exact .inl h
  · exact .inr ⟨x, cap, rfl, fun h => Nat.lt_of_lt_of_le (hx h) hb.size, h.below hx hb⟩
theorem ListX.shape {w : World} {v : Value} {L : List Ac} (h : ListX w v L) : ∃ a cap, v = .slice a L.length cap := by
  rcases h with ⟨rfl, rfl⟩ | ⟨x, cap, rfl, -, -⟩
  · exact ⟨none, 0, rfl⟩
  · exact ⟨_, cap, rfl⟩
theorem Es.setOther {w : World} {c : Nat} {l : List Ed} (h : Es w c l) {a : Addr} (ha : c ≠ a.block) (v : Value) : Es (w.setCell a v) c l := World.rowIs.setOther h ha v
theorem toAc (m n : Int) (v : Value) (l : List Ed) (w : World) (h : ListE w v l) (hl : l.length ≤ 1048576) :
    Calls Tryd.prog 26 #[.agg #[.int .i64 m, .int .i64 n, v]] w fun e w' => ∃ c, e = .returned (.agg #[.int .i64 m, .int .i64 n, .slice (some ⟨c, 0, none⟩) l.length l.length]) ∧ w.heap.size < c ∧ Es w' c l ∧ Below w.heap.size w w' := by
  go_enter Tryd.func26, Tryd.ntmps26
  go_wp2_with fail
  refine (toES v l _ (h.below ?_) hl).mono ?_
  · repeat first
      | exact Below.refl _ _
      | refine Below.setCell ?_ (by simp) _
      | refine Below.alloc ?_ (by first | exact Nat.le_refl _ | (simp <;> omega)) _
  rintro e w1 ⟨rfl, hrow, hb1⟩
  obtain ⟨hc, hf⟩ := bcell hb1
  have R0 : w1.cell? ⟨w.heap.size + 1 + 1, 0, none⟩ = some (.int .i64 m) := by rw [hc _ _ (by simp)]; go_simp
  have R1 : w1.cell? ⟨w.heap.size + 1 + 1, 1, none⟩ = some (.int .i64 n) := by rw [hc _ _ (by simp)]; go_simp
  have R2 : w1.cell? ⟨w.heap.size + 1 + 1, 2, none⟩ = some (.slice none 0 0) := by rw [hc _ _ (by simp)]; go_simp
  have ZR2 : w1.frozen? ⟨w.heap.size + 1 + 1, 2, none⟩ = false := by rw [hf _ _ (by simp)]; go_simp
  have Q0 : w1.cell? ⟨w.heap.size + 1, 0, none⟩ = some (.int .i64 0) := by rw [hc _ _ (by first | (simp; done) | (simp; omega))]; go_simp
  have Q1 : w1.cell? ⟨w.heap.size + 1, 1, none⟩ = some (.int .i64 0) := by rw [hc _ _ (by first | (simp; done) | (simp; omega))]; go_simp
  have Q2 : w1.cell? ⟨w.heap.size + 1, 2, none⟩ = some (.slice none 0 0) := by rw [hc _ _ (by first | (simp; done) | (simp; omega))]; go_simp
  have ZQ0 : w1.frozen? ⟨w.heap.size + 1, 0, none⟩ = false := by rw [hf _ _ (by first | (simp; done) | (simp; omega))]; go_simp
  have ZQ1 : w1.frozen? ⟨w.heap.size + 1, 1, none⟩ = false := by rw [hf _ _ (by first | (simp; done) | (simp; omega))]; go_simp
  have ZQ2 : w1.frozen? ⟨w.heap.size + 1, 2, none⟩ = false := by rw [hf _ _ (by first | (simp; done) | (simp; omega))]; go_simp
  have hrow' : Es w1 (w.heap.size + 1 + 1 + 1) l := by simpa using hrow
  have b1 : Below w.heap.size w w1 := ((((Below.refl _ _).alloc (Nat.le_refl _) _).alloc (by simp) _).alloc (by simp; omega) _).trans (hb1.mono (by simp; omega))
  clear hc hf hrow hb1
  go_wp2
  refine bodyPost_ret (v := .agg #[.int .i64 m, .int .i64 n, .slice (some ⟨w.heap.size + 1 + 1 + 1, 0, none⟩) l.length l.length]) (by simp [results, Tryd.results26, go_sem, Q0, Q1, Q2]) rfl ⟨_, rfl, by omega, ?_, ?_⟩
  · iterate 4 refine World.rowIs.setOther ?_ (by show _ ≠ _ + _; omega) _
    exact hrow'
  · iterate 4 refine Below.setCell ?_ (by show _ ≤ _ + _; omega) _
    exact b1
/-- What cell j of the new row holds when the first k acts are laid. -/
def xf (L : List Ac) (c : Nat → Nat) (k : Nat) : Nat → Value := fun j =>
  if j / 3 < k then (if j % 3 = 0 then .int .i64 (L.getD (j / 3) ac0).1 else if j % 3 = 1 then .int .i64 (L.getD (j / 3) ac0).2.1 else .slice (some ⟨c (j / 3), 0, none⟩) (L.getD (j / 3) ac0).2.2.length (L.getD (j / 3) ac0).2.2.length)
  else (if j % 3 = 0 then .int .i64 0 else if j % 3 = 1 then .int .i64 0 else .slice none 0 0)
/-- The first k acts of L lie copied in block b, their patches in blocks above base, each in one of its own. -/
structure CopyX (base : Nat) (b : Nat) (wr : World) (L : List Ac) (n k : Nat) (c : Nat → Nat) : Prop where
  row : wr.rowIs b 51 (n * 3) (xf L c k)
  own : ∀ j, j < k → base < c j ∧ Es wr (c j) (L.getD j ac0).2.2
  inj : ∀ i j, i < j → j < k → c i ≠ c j
theorem xf_step (L : List Ac) (c : Nat → Nat) (k c' : Nat) (j : Nat) :
    (if j = k * 3 + 2 then Value.slice (some ⟨c', 0, none⟩) (L.getD k ac0).2.2.length (L.getD k ac0).2.2.length else if j = k * 3 + 1 then .int .i64 (L.getD k ac0).2.1 else if j = k * 3 then .int .i64 (L.getD k ac0).1 else xf L c k j) =
      xf L (fun i => if i = k then c' else c i) (k + 1) j := by
  unfold xf
  by_cases e2 : j = k * 3 + 2
  · subst e2
    have h1 : (k * 3 + 2) / 3 = k := by omega
    have h2 : (k * 3 + 2) % 3 = 2 := by omega
    simp [h1, h2]
  · by_cases e1 : j = k * 3 + 1
    · subst e1
      have h1 : (k * 3 + 1) / 3 = k := by omega
      have h2 : (k * 3 + 1) % 3 = 1 := by omega
      simp [h1, h2]
    · by_cases e0 : j = k * 3
      · subst e0
        have h1 : (k * 3) / 3 = k := by omega
        have h2 : (k * 3) % 3 = 0 := by omega
        simp [h1, h2]
      · have h3 : j / 3 ≠ k := by omega
        rw [if_neg e2, if_neg e1, if_neg e0]
        by_cases h : j / 3 < k
        · have h4 : j / 3 < k + 1 := by omega
          rw [if_pos h, if_pos h4]; simp [h3]
        · have h4 : ¬ j / 3 < k + 1 := by omega
          rw [if_neg h, if_neg h4]
theorem copyX_step {base b : Nat} {wr w1 : World} {L : List Ac} {n k : Nat} {c : Nat → Nat} {c' : Nat} (h : CopyX base b wr L n k c) (hb : Below wr.heap.size wr w1) (hbb : b ≤ base) (hlt : base < c') (hnew : wr.heap.size ≤ c') (ho : Es w1 c' (L.getD k ac0).2.2) :
    CopyX base b (((w1.setCell ⟨b, k * 3, none⟩ (.int .i64 (L.getD k ac0).1)).setCell ⟨b, k * 3 + 1, none⟩ (.int .i64 (L.getD k ac0).2.1)).setCell ⟨b, k * 3 + 2, none⟩ (.slice (some ⟨c', 0, none⟩) (L.getD k ac0).2.2.length (L.getD k ac0).2.2.length)) L n (k + 1) (fun i => if i = k then c' else c i) := by
  refine ⟨((((World.rowIs.of_block h.row (hb.block b h.row.lt)).set (k * 3) _).set (k * 3 + 1) _).set (k * 3 + 2) _).congr (fun j _ => xf_step L c k c' j), fun j hj => ?_, fun i j hij hj => ?_⟩
  · by_cases e : j = k
    · subst e
      simp only [if_pos rfl]
      exact ⟨hlt, World.rowIs.setOther (World.rowIs.setOther (World.rowIs.setOther ho (by show c' ≠ b; omega) _) (by show c' ≠ b; omega) _) (by show c' ≠ b; omega) _⟩
    · rw [if_neg e]
      obtain ⟨q1, q2⟩ := h.own j (by omega)
      exact ⟨q1, World.rowIs.setOther (World.rowIs.setOther (World.rowIs.setOther (q2.below hb) (by show c j ≠ b; omega) _) (by show c j ≠ b; omega) _) (by show c j ≠ b; omega) _⟩
  · have hi : i ≠ k := by omega
    rw [if_neg hi]
    by_cases e : j = k
    · rw [if_pos e]
      have := (h.own i (by omega)).2.lt
      omega
    · rw [if_neg e]; exact h.inj i j hij (by omega)
set_option maxHeartbeats 1000000 in
set_option maxRecDepth 100000 in
theorem toXS_some (x : Addr) (L : List Ac) (cap : Nat) (w : World) (hx : 0 < L.length → x.block < w.heap.size) (h : ArgX w x L) (hn : L.length ≤ 1048576) (hl : ∀ k, k < L.length → (L.getD k ac0).2.2.length ≤ 1048576) :
    Calls Tryd.prog 8 #[.slice (some x) L.length cap] w fun e w' => e = .returned (.slice (some ⟨w.heap.size, 0, none⟩) L.length L.length) ∧ (∃ c, CopyX w.heap.size w.heap.size w' L L.length L.length c) ∧ Below w.heap.size w w' := by
  have hmk := run_mk3 (P := Tryd.prog) 25 51 _ _ _ 40 Tryd.underlying25 infoAc rfl .i64 .i64 L.length (by omega) (by omega)
  go_enter Tryd.func8, Tryd.ntmps8
  go_wp2
  go_loopg [4] L.length (fun g i wr => ∃ k : Nat, k ≤ L.length ∧ g = L.length - k ∧ i = .int .i64 k ∧ Below w.heap.size w wr ∧ w.heap.size < wr.heap.size ∧ ∃ c, CopyX w.heap.size w.heap.size wr L L.length k c)
  case atStart => exact ⟨0, Nat.zero_le _, rfl, rfl, (Below.refl _ _).alloc (Nat.le_refl _) _, by simp, fun _ => 0, (rowIs_mk3 _ _ _ _ _ _).congr (fun j _ => by simp [xf]), fun j hj => absurd hj (Nat.not_lt_zero _), fun i j _ hj => absurd hj (Nat.not_lt_zero _)⟩
  case round =>
    obtain ⟨k, hk, rfl, rfl, hb, hsz, c, hC⟩ := hrel
    clear hmk
    by_cases hlt : k < L.length
    · have ha := (h.below hx hb) k hlt
      obtain ⟨v, a1, a2, a3, a4⟩ := ha
      have s1 : wr.cell? ⟨w.heap.size, k * 3, none⟩ = some (xf L c k (k * 3)) := hC.row.cell (by omega)
      have s2 : wr.cell? ⟨w.heap.size, k * 3 + 1, none⟩ = some (xf L c k (k * 3 + 1)) := hC.row.cell (by omega)
      have s3 : wr.cell? ⟨w.heap.size, k * 3 + 2, none⟩ = some (xf L c k (k * 3 + 2)) := hC.row.cell (by omega)
      have f1 : wr.frozen? ⟨w.heap.size, k * 3, none⟩ = false := hC.row.frozen _
      have f2 : wr.frozen? ⟨w.heap.size, k * 3 + 1, none⟩ = false := hC.row.frozen _
      have f3 : wr.frozen? ⟨w.heap.size, k * 3 + 2, none⟩ = false := hC.row.frozen _
      go_wp2_with fail
      refine (toAc _ _ v _ wr a4 (hl k hlt)).mono ?_
      rintro e w1 ⟨c', rfl, hc', ho, hb1⟩
      obtain ⟨hc1, hf1⟩ := bcell hb1
      rw [← hc1 _ _ hsz] at s1 s2 s3
      rw [← hf1 _ _ hsz] at f1 f2 f3
      clear hc1 hf1 a1 a2 a3
      go_wp2
      go_roundg (L.length - (k + 1))
      case measure => omega
      case rel =>
        have hS := copyX_step hC hb1 (Nat.le_refl _) (by omega) (by omega) ho
        have eg : L.getD k ac0 = L[k] := by simp [List.getD, hlt]
        rw [eg] at hS
        refine ⟨k + 1, by omega, rfl, by simp, ?_, ?_, _, hS⟩
        · exact (((hb.trans (hb1.mono (by omega))).setCell (Nat.le_refl _) _).setCell (Nat.le_refl _) _).setCell (Nat.le_refl _) _
        · have := hb1.size; simp [World.setCell]; omega
    · have e : k = L.length := by omega
      subst e
      go_wp2
      go_ret
      exact ⟨rfl, ⟨_, hC⟩, hb⟩
set_option maxRecDepth 100000 in
theorem toXS_nil (w : World) :
    Calls Tryd.prog 8 #[.slice none 0 0] w fun e w' => e = .returned (.slice (some ⟨w.heap.size, 0, none⟩) 0 0) ∧ (∃ c, CopyX w.heap.size w.heap.size w' [] 0 0 c) ∧ Below w.heap.size w w' := by
  have hmk : ∀ w, (Instr.makeSlice 25 (.int .i64 0) (.int .i64 0)).run Tryd.prog w = .ok (.slice (some ⟨w.heap.size, 0, none⟩) 0 0) (w.alloc (.cells (madeCells #[.int .i64 0, .int .i64 0, .slice none 0 0] 0) 51)) :=
    run_mk3 (P := Tryd.prog) 25 51 _ _ _ 40 Tryd.underlying25 infoAc rfl .i64 .i64 0 (by omega) (by omega)
  have hC : CopyX w.heap.size w.heap.size (w.alloc (.cells (madeCells #[.int .i64 0, .int .i64 0, .slice none 0 0] 0) 51)) [] 0 0 (fun _ => 0) :=
    ⟨(rowIs_mk3 w (.int .i64 0) (.int .i64 0) (.slice none 0 0) 0 51).congr (fun j hj => by omega), fun j hj => absurd hj (Nat.not_lt_zero _), fun i j _ hj => absurd hj (Nat.not_lt_zero _)⟩
  have hB : Below w.heap.size w (w.alloc (.cells (madeCells #[.int .i64 0, .int .i64 0, .slice none 0 0] 0) 51)) := (Below.refl _ _).alloc (Nat.le_refl _) _
  go_enter Tryd.func8, Tryd.ntmps8
  go_wp2
  go_loopg [4] 0 (fun g i wr => i = .int .i64 0 ∧ Below w.heap.size w wr ∧ CopyX w.heap.size w.heap.size wr [] 0 0 (fun _ => 0))
  case atStart => exact ⟨rfl, hB, hC⟩
  case round =>
    obtain ⟨rfl, hB, hC⟩ := hrel
    clear hmk
    go_wp2
    go_ret
    exact ⟨rfl, ⟨_, hC⟩, hB⟩
/-- L lies copied in block b, its patches in blocks above base. -/
def Xs (w : World) (base b : Nat) (L : List Ac) : Prop := ∃ c, CopyX base b w L L.length L.length c
theorem Xs.below {w w' : World} {base b : Nat} {L : List Ac} (h : Xs w base b L) (hb : Below w.heap.size w w') : Xs w' base b L := by
  obtain ⟨c, h⟩ := h
  exact ⟨c, World.rowIs.of_block h.row (hb.block b h.row.lt), fun j hj => ⟨(h.own j hj).1, (h.own j hj).2.below hb⟩, h.inj⟩
theorem Xs.lt {w : World} {base b : Nat} {L : List Ac} (h : Xs w base b L) : b < w.heap.size := by
  obtain ⟨c, h⟩ := h
  exact h.row.lt
/-- What is read of an act that lies at block b, offset o. -/
def AcAt (w : World) (b o : Nat) (X : Ac) : Prop :=
  ∃ c, w.cell? ⟨b, o, none⟩ = some (.int .i64 X.1) ∧ w.cell? ⟨b, o + 1, none⟩ = some (.int .i64 X.2.1) ∧ w.cell? ⟨b, o + 2, none⟩ = some (.slice (some ⟨c, 0, none⟩) X.2.2.length X.2.2.length) ∧ Es w c X.2.2
/-- Acts that are read in block b. -/
def Xx (w : World) (b : Nat) (L : List Ac) : Prop := b < w.heap.size ∧ ∀ k, k < L.length → AcAt w b (k * 3) (L.getD k ac0)
theorem Xx.below {w w' : World} {b : Nat} {L : List Ac} (h : Xx w b L) (hb : Below w.heap.size w w') : Xx w' b L :=
  ⟨Nat.lt_of_lt_of_le h.1 hb.size, fun k hk => by
    obtain ⟨c, h1, h2, h3, h4⟩ := h.2 k hk
    exact ⟨c, (hb.cell (p := ⟨b, k * 3, none⟩) h.1).trans h1, (hb.cell (p := ⟨b, k * 3 + 1, none⟩) h.1).trans h2, (hb.cell (p := ⟨b, k * 3 + 2, none⟩) h.1).trans h3, h4.below hb⟩⟩
theorem Xs.toX {w : World} {base b : Nat} {L : List Ac} (h : Xs w base b L) : Xx w b L := ⟨h.lt, fun k hk => by
  obtain ⟨c, h⟩ := h
  refine ⟨c k, ?_, ?_, ?_, (h.own k hk).2⟩
  · have e1 : k * 3 / 3 = k := by omega
    have e2 : k * 3 % 3 = 0 := by omega
    have := h.row.cell (i := k * 3) (by omega)
    rw [this]; simp [xf, e1, e2, hk]
  · have e1 : (k * 3 + 1) / 3 = k := by omega
    have e2 : (k * 3 + 1) % 3 = 1 := by omega
    have := h.row.cell (i := k * 3 + 1) (by omega)
    rw [this]; simp [xf, e1, e2, hk]
  · have e1 : (k * 3 + 2) / 3 = k := by omega
    have e2 : (k * 3 + 2) % 3 = 2 := by omega
    have := h.row.cell (i := k * 3 + 2) (by omega)
    rw [this]; simp [xf, e1, e2, hk]⟩
theorem toXS_any (v : Value) (L : List Ac) (w : World) (h : ListX w v L) (hn : L.length ≤ 1048576) (hl : ∀ k, k < L.length → (L.getD k ac0).2.2.length ≤ 1048576) :
    Calls Tryd.prog 8 #[v] w fun e w' => e = .returned (.slice (some ⟨w.heap.size, 0, none⟩) L.length L.length) ∧ Xs w' w.heap.size w.heap.size L ∧ Below w.heap.size w w' := by
  rcases h with ⟨rfl, rfl⟩ | ⟨x, cap, rfl, hx, h⟩
  · exact toXS_nil w
  · exact toXS_some x L cap w hx h hn hl
end Go.Proofs.YtkaakomiimcbmaaDoor
/- Acts: their size; two lists of them compared. -/
namespace Go.Proofs.YtkaakomiimcbmaaDoor
open Go.ChangeShapes Go.WideShapes Go.ChangeAt Go.RowKit Go.Deep
set_option linter.unusedSimpArgs false
set_option linter.unusedVariables false
def RoomX (L : List Ac) : Prop := L.length ≤ 9223372036854775807 ∧ ∀ k, k < L.length → RoomE (L.getD k ac0).2.2
def FitsX (L : List Ac) : Prop := L.length ≤ 1048576 ∧ ∀ k, k < L.length → FitsE (L.getD k ac0).2.2
theorem szAc (m n : Int) (v : Value) (l : List Ed) (left : Int) (w : World) (h : ListE w v l) (hr : RoomE l) (h1 : 0 ≤ left) (h2 : left ≤ 1048576) :
    Calls Tryd.prog 24 #[.agg #[.int .i64 m, .int .i64 n, v], .int .i64 left] w fun e w' => (∃ r, e = .returned (.int .i64 r) ∧ -1 ≤ r ∧ r ≤ 1048576 ∧ (0 ≤ r → FitsE l)) ∧ Below w.heap.size w w' := by
  have b1 := (Below.refl w.heap.size w).alloc (Nat.le_refl _) (.cells #[.int .i64 m, .int .i64 n, v] 48)
  have HI := szES v l left _ (h.below b1) hr h1 h2
  clear h hr
  go_enter Tryd.func24, Tryd.ntmps24
  go_wp2_with fail
  refine HI.mono ?_
  rintro e w1 ⟨⟨r, rfl, r1, r2, r3⟩, hb1⟩
  have R3 := Lib.hid r3
  clear r3
  by_cases hneg : r < 0
  · go_wp2
    go_ret
    exact ⟨⟨-1, rfl, by omega, by omega, fun h => absurd h (by omega)⟩, b1.trans (hb1.mono b1.size)⟩
  · go_wp2
    go_ret
    exact ⟨⟨r, rfl, r1, r2, R3.out⟩, b1.trans (hb1.mono b1.size)⟩
set_option maxHeartbeats 1000000 in
set_option maxRecDepth 100000 in
theorem szXS (v : Value) (L : List Ac) (z : Int) (w : World) (h : ListX w v L) (hr : RoomX L) (hz1 : 0 ≤ z) (hz2 : z ≤ 1048576) :
    Calls Tryd.prog 6 #[v, .int .i64 z] w fun e w' => (∃ r, e = .returned (.int .i64 r) ∧ -1 ≤ r ∧ r ≤ 1048576 ∧ (0 ≤ r → FitsX L)) ∧ Below w.heap.size w w' := by
  obtain ⟨hr1, hr2⟩ := hr
  rcases h with ⟨rfl, rfl⟩ | ⟨x, cap, rfl, hx, h⟩
  · go_enter Tryd.func6, Tryd.ntmps6
    go_wp2
    go_loopg [1, 5] 0 (fun g y i wr => y = .int .i64 z ∧ i = .int .i64 0 ∧ wr = w)
    case atStart => exact ⟨by simp, rfl, rfl⟩
    case round =>
      obtain ⟨rfl, rfl, rfl⟩ := hrel
      go_wp2
      go_ret
      exact ⟨⟨_, rfl, by omega, by omega, fun _ => ⟨by simp, fun k hk => absurd hk (Nat.not_lt_zero _)⟩⟩, Below.refl _ _⟩
  · by_cases hbig : z - L.length < 0
    · go_enter Tryd.func6, Tryd.ntmps6
      go_wp2
      go_ret
      exact ⟨⟨_, rfl, by omega, by omega, fun h => absurd h (by omega)⟩, Below.refl _ _⟩
    · go_enter Tryd.func6, Tryd.ntmps6
      go_wp2
      go_loopg [1, 5] L.length (fun g y i wr => ∃ (k : Nat) (r : Int), k ≤ L.length ∧ g = L.length - k ∧ y = .int .i64 r ∧ i = .int .i64 k ∧ 0 ≤ r ∧ r ≤ 1048576 ∧ Below w.heap.size w wr ∧ Hid (∀ j, j < k → FitsE (L.getD j ac0).2.2))
      case atStart => exact ⟨0, _, Nat.zero_le _, rfl, rfl, rfl, by omega, by omega, Below.refl _ _, fun j hj => absurd hj (Nat.not_lt_zero _)⟩
      case round =>
        obtain ⟨k, r, hk, rfl, rfl, rfl, q1, q2, hb, H⟩ := hrel
        by_cases hlt : k < L.length
        · obtain ⟨v, a1, a2, a3, a4⟩ := (h.below hx hb) k hlt
          have hro := hr2 k hlt
          obtain ⟨q, hq⟩ : ∃ q, L.getD k ac0 = q := ⟨_, rfl⟩
          rw [hq] at a1 a2 a4 hro
          have HQ := Lib.hid hq
          clear hq
          obtain ⟨m, n, l⟩ := q
          simp only at a1 a2 a4 hro
          have HZ := szAc m n v l r wr a4 hro q1 q2
          clear a4 hro
          go_wp2_with fail
          refine HZ.mono ?_
          rintro e w1 ⟨⟨y, rfl, z1, z2, z4⟩, hb1⟩
          have Z4 := Lib.hid z4
          clear z4
          by_cases hneg : y < 0
          · go_wp2
            go_ret
            exact ⟨⟨-1, rfl, by omega, by omega, fun h => absurd h (by omega)⟩, hb.trans (hb1.mono hb.size)⟩
          · go_wp2
            go_roundg (L.length - (k + 1))
            case measure => omega
            case rel =>
              refine ⟨k + 1, y, by omega, rfl, rfl, by simp, by omega, by omega, hb.trans (hb1.mono hb.size), fun j hj => ?_⟩
              by_cases e : j = k
              · subst e; rw [HQ.out]; exact Z4.out (by omega)
              · exact H.out j (by omega)
        · have e : k = L.length := by omega
          subst e
          go_wp2
          go_ret
          exact ⟨⟨_, rfl, by omega, by omega, fun _ => ⟨by omega, H.out⟩⟩, hb⟩
theorem eqAc (m n : Int) (l : List Ed) (c c' : Nat) (w : World) (h : Es w c l) (h' : Es w c' l) (hf : FitsE l) :
    Calls Tryd.prog 32 #[.agg #[.int .i64 m, .int .i64 n, .slice (some ⟨c, 0, none⟩) l.length l.length], .agg #[.int .i64 m, .int .i64 n, .slice (some ⟨c', 0, none⟩) l.length l.length]] w fun e w' => e = .returned (.bool true) ∧ Below w.heap.size w w' := by
  have b1 := ((Below.refl w.heap.size w).alloc (Nat.le_refl _) (.cells #[.int .i64 m, .int .i64 n, .slice (some ⟨c, 0, none⟩) l.length l.length] 51)).alloc (by simp) (.cells #[.int .i64 m, .int .i64 n, .slice (some ⟨c', 0, none⟩) l.length l.length] 51)
  have HE := eqES l c c' l.length l.length _ (h.below b1) (h'.below b1) hf.1
  clear h h'
  go_enter Tryd.func32, Tryd.ntmps32
  go_wp2_with fail
  refine HE.mono ?_
  rintro e w1 ⟨rfl, hb1⟩
  go_wp2
  go_ret
  exact ⟨rfl, b1.trans (hb1.mono b1.size)⟩
set_option maxRecDepth 100000 in
theorem eqXS (L : List Ac) (b b' cap cap' : Nat) (w : World) (h : Xx w b L) (h' : Xx w b' L) (hf : FitsX L) :
    Calls Tryd.prog 10 #[.slice (some ⟨b, 0, none⟩) L.length cap, .slice (some ⟨b', 0, none⟩) L.length cap'] w fun e w' => e = .returned (.bool true) ∧ Below w.heap.size w w' := by
  obtain ⟨hf1, hf2⟩ := hf
  go_enter Tryd.func10, Tryd.ntmps10
  go_wp2
  go_loopg [5] L.length (fun g i wr => ∃ k : Nat, k ≤ L.length ∧ g = L.length - k ∧ i = .int .i64 k ∧ Below w.heap.size w wr)
  case atStart => exact ⟨0, Nat.zero_le _, rfl, rfl, Below.refl _ _⟩
  case round =>
    obtain ⟨k, hk, rfl, rfl, hb⟩ := hrel
    by_cases hlt : k < L.length
    · obtain ⟨c, a1, a2, a3, a4⟩ := (h.below hb).2 k hlt
      obtain ⟨c', d1, d2, d3, d4⟩ := (h'.below hb).2 k hlt
      have hfe := hf2 k hlt
      have bd : Below wr.heap.size wr wr.drew := (Below.refl _ _).drew
      generalize L.getD k ac0 = q at a1 a2 a3 a4 d1 d2 d3 d4 hfe
      obtain ⟨m, n, l⟩ := q
      simp only at a1 a2 a3 a4 d1 d2 d3 d4 hfe
      have HE := eqAc m n l c c' wr.drew (a4.below bd) (d4.below bd) hfe
      clear a4 d4 hfe
      go_wp2_with fail
      go_still_tail 8, (by kernel_rfl)
      change wpList _ _ _ _ _ wr.drew
      go_wp2_with fail
      refine HE.mono ?_
      rintro e w1 ⟨rfl, hb1⟩
      go_wp2
      go_roundg (L.length - (k + 1))
      case measure => omega
      case rel => exact ⟨k + 1, by omega, rfl, by simp, hb.trans (bd.trans hb1 |>.mono hb.size)⟩
    · have e : k = L.length := by omega
      subst e
      go_wp2
      go_ret
      exact ⟨rfl, hb⟩
/-- The copy of a list of acts. -/
def CpX (w : World) (lo hi : Nat) (v : Value) (L : List Ac) : Prop := v = .slice (some ⟨lo, 0, none⟩) L.length L.length ∧ Xs w lo lo L ∧ (lo < hi ∧ ∃ c, CopyX lo lo w L L.length L.length c ∧ ∀ j, j < L.length → c j < hi) ∧ FitsX L
theorem CopyX.below {base b : Nat} {w w' : World} {L : List Ac} {n k : Nat} {c : Nat → Nat} (h : CopyX base b w L n k c) (hb : Below w.heap.size w w') : CopyX base b w' L n k c :=
  ⟨World.rowIs.of_block h.row (hb.block b h.row.lt), fun j hj => ⟨(h.own j hj).1, (h.own j hj).2.below hb⟩, h.inj⟩
theorem CpX.below {w w' : World} {lo hi : Nat} {v : Value} {l : List Ac} (h : CpX w lo hi v l) (hb : Below w.heap.size w w') : CpX w' lo hi v l := by
  obtain ⟨h1, h2, ⟨h3, c, h4, h5⟩, h6⟩ := h
  exact ⟨h1, h2.below hb, ⟨h3, c, h4.below hb, h5⟩, h6⟩
theorem eqCpX {v v' : Value} {l : List Ac} {w : World} {lo hi lo' hi' : Nat} (h : CpX w lo hi v l) (h' : CpX w lo' hi' v' l) :
    Calls Tryd.prog 10 #[v, v'] w fun e w' => e = .returned (.bool true) ∧ Below w.heap.size w w' := by
  obtain ⟨rfl, h1, -, hf⟩ := h
  obtain ⟨rfl, h2, -, -⟩ := h'
  exact eqXS l _ _ _ _ w h1.toX h2.toX hf
theorem toCpX (v : Value) (l : List Ac) (w : World) (h : ListX w v l) (hf : FitsX l) :
    Calls Tryd.prog 8 #[v] w fun e w' => ∃ u, e = .returned u ∧ CpX w' w.heap.size w'.heap.size u l ∧ Below w.heap.size w w' :=
  (toXS_any v l w h hf.1 (fun k hk => (hf.2 k hk).1)).mono fun e w' ⟨he, ho, hb⟩ => ⟨_, he, ⟨rfl, ho, ⟨ho.lt, by obtain ⟨c, h⟩ := ho; exact ⟨c, h, fun j hj => (h.own j hj).2.lt⟩⟩, hf⟩, hb⟩
end Go.Proofs.YtkaakomiimcbmaaDoor
/- Acts: whether a list of them is valid: the program's look. -/
namespace Go.Proofs.YtkaakomiimcbmaaDoor
open Go.ChangeShapes Go.WideShapes Go.ChangeAt Go.RowKit Go.Deep
set_option linter.unusedSimpArgs false
set_option linter.unusedVariables false
def actF (X : Ac) : Prop := (0 ≤ X.1 ∧ X.1 < X.2.1 ∧ X.2.1 ≤ 1000) ∧ patF X.2.2
noncomputable def actB (X : Ac) : Bool := @decide (actF X) (Classical.propDecidable _)
theorem actB_iff {X : Ac} : actB X = true ↔ actF X := by simp [actB]
theorem actB_no {X : Ac} (h : ¬ actF X) : actB X = false := by simp [actB, h]
theorem actB_pat {X : Ac} (h : 0 ≤ X.1 ∧ X.1 < X.2.1 ∧ X.2.1 ≤ 1000) : actB X = patB X.2.2 := by
  by_cases hp : patF X.2.2
  · rw [patB_yes hp]; exact actB_iff.2 ⟨h, hp⟩
  · rw [patB_no hp]; exact actB_no (fun q => hp q.2)
def ordX (L : List Ac) (k : Nat) : Prop := (L.getD (k - 1) ac0).1 ≤ (L.getD k ac0).1
def actsF (L : List Ac) : Prop := L.length ≤ 8 ∧ (∀ k, k < L.length → actF (L.getD k ac0)) ∧ ∀ k, 0 < k → k < L.length → ordX L k
noncomputable def actsB (L : List Ac) : Bool := @decide (actsF L) (Classical.propDecidable _)
theorem actsB_iff {L : List Ac} : actsB L = true ↔ actsF L := by simp [actsB]
theorem actsB_yes {L : List Ac} (h : actsF L) : actsB L = true := by simp [actsB, h]
theorem actsB_no {L : List Ac} (h : ¬ actsF L) : actsB L = false := by simp [actsB, h]
theorem alldays (w : World) : Calls Tryd.prog 49 #[] w fun e w' => e = .returned (.agg #[.int .i64 0, .int .i64 1000]) ∧ Below w.heap.size w w' := by
  go_enter Tryd.func49, Tryd.ntmps49
  go_wp2
  refine bodyPost_ret (v := .agg #[.int .i64 0, .int .i64 1000]) (by simp [results, Tryd.results49, go_sem]) rfl ⟨rfl, ?_⟩
  first
    | exact (Below.refl _ _).alloc (Nat.le_refl _) _
    | exact (((Below.refl _ _).alloc (Nat.le_refl _) _).setCell (Nat.le_refl _) _).setCell (Nat.le_refl _) _
set_option maxHeartbeats 1000000 in
theorem iact (m n : Int) (l : List Ed) (c : Nat) (w : World) (h : Es w c l) (hf : FitsE l) :
    Calls Tryd.prog 28 #[.agg #[.int .i64 m, .int .i64 n, .slice (some ⟨c, 0, none⟩) l.length l.length]] w fun e w' => e = .returned (.bool (actB (m, n, l))) ∧ Below w.heap.size w w' := by
  have b1 := (Below.refl w.heap.size w).alloc (Nat.le_refl _) (.cells #[.int .i64 m, .int .i64 n, .slice (some ⟨c, 0, none⟩) l.length l.length] 51)
  have c0 : (w.alloc (.cells #[.int .i64 m, .int .i64 n, .slice (some ⟨c, 0, none⟩) l.length l.length] 51)).cell? ⟨w.heap.size, 0, none⟩ = some (.int .i64 m) := by go_simp
  have c1 : (w.alloc (.cells #[.int .i64 m, .int .i64 n, .slice (some ⟨c, 0, none⟩) l.length l.length] 51)).cell? ⟨w.heap.size, 1, none⟩ = some (.int .i64 n) := by go_simp
  have c2 : (w.alloc (.cells #[.int .i64 m, .int .i64 n, .slice (some ⟨c, 0, none⟩) l.length l.length] 51)).cell? ⟨w.heap.size, 2, none⟩ = some (.slice (some ⟨c, 0, none⟩) l.length l.length) := by go_simp
  have s1 : w.heap.size < (w.alloc (.cells #[.int .i64 m, .int .i64 n, .slice (some ⟨c, 0, none⟩) l.length l.length] 51)).heap.size := by simp
  have HA := alldays (w.alloc (.cells #[.int .i64 m, .int .i64 n, .slice (some ⟨c, 0, none⟩) l.length l.length] 51))
  obtain ⟨w1, hw1⟩ : ∃ w1, (w.alloc (.cells #[.int .i64 m, .int .i64 n, .slice (some ⟨c, 0, none⟩) l.length l.length] 51)) = w1 := ⟨_, rfl⟩
  rw [hw1] at b1 HA c0 c1 c2 s1
  have hE := h.below b1
  have HP := fun w' (hw : Below w1.heap.size w1 w') => ipatch l c l.length w' (hE.below hw) hf.2 hf.1
  have HY := Lib.hid (fun q => actB_pat (X := (m, n, l)) q)
  have HN := Lib.hid (fun q => actB_no (X := (m, n, l)) q)
  clear h hE hf
  by_cases q : 0 ≤ m ∧ m < n ∧ n ≤ 1000
  · rw [HY.out q]
    obtain ⟨z, hz⟩ : ∃ z, patB l = z := ⟨_, rfl⟩
    simp only
    rw [hz] at HP ⊢
    obtain ⟨q1, q2, q3⟩ := q
    clear hz HY HN
    go_enter Tryd.func28, Tryd.ntmps28
    go_wp2_with fail
    refine HA.mono ?_
    rintro e w2 ⟨rfl, hb2⟩
    have d0 := (hb2.cell (p := ⟨w.heap.size, 0, none⟩) s1).trans c0
    have d1 := (hb2.cell (p := ⟨w.heap.size, 1, none⟩) s1).trans c1
    have d2 := (hb2.cell (p := ⟨w.heap.size, 2, none⟩) s1).trans c2
    have s2 := hb2.size
    have n1 : w.heap.size < w2.heap.size := by omega
    have n2 : ¬ w.heap.size = w2.heap.size := by omega
    have n3 : ¬ w2.heap.size = w.heap.size := by omega
    have b3 := hb2.alloc s2 (.cells #[.int .i64 0, .int .i64 1000] 82)
    have HP3 := HP _ b3
    clear c0 c1 c2 HA
    go_wp2_with fail
    refine HP3.mono ?_
    rintro e w4 ⟨rfl, hb4⟩
    go_wp2
    go_ret
    exact ⟨rfl, (b1.trans (b3.mono b1.size)).trans (hb4.mono (Nat.le_trans b1.size b3.size))⟩
  · rw [HN.out (fun k => q k.1)]
    clear HP HY HN
    by_cases q1 : 0 ≤ m
    · by_cases q2 : m < n
      · have q3 : ¬ n ≤ 1000 := fun k => q ⟨q1, q2, k⟩
        go_enter Tryd.func28, Tryd.ntmps28
        go_wp2_with fail
        refine HA.mono ?_
        rintro e w2 ⟨rfl, hb2⟩
        have d0 := (hb2.cell (p := ⟨w.heap.size, 0, none⟩) s1).trans c0
        have d1 := (hb2.cell (p := ⟨w.heap.size, 1, none⟩) s1).trans c1
        have s2 := hb2.size
        have n1 : w.heap.size < w2.heap.size := by omega
        have n2 : ¬ w.heap.size = w2.heap.size := by omega
        have n3 : ¬ w2.heap.size = w.heap.size := by omega
        have b3 := hb2.alloc s2 (.cells #[.int .i64 0, .int .i64 1000] 82)
        clear c0 c1 c2 HA
        go_wp2
        go_ret
        exact ⟨rfl, b1.trans (b3.mono b1.size)⟩
      · go_enter Tryd.func28, Tryd.ntmps28
        go_wp2_with fail
        refine HA.mono ?_
        rintro e w2 ⟨rfl, hb2⟩
        have d0 := (hb2.cell (p := ⟨w.heap.size, 0, none⟩) s1).trans c0
        have d1 := (hb2.cell (p := ⟨w.heap.size, 1, none⟩) s1).trans c1
        have s2 := hb2.size
        have n1 : w.heap.size < w2.heap.size := by omega
        have n2 : ¬ w.heap.size = w2.heap.size := by omega
        have n3 : ¬ w2.heap.size = w.heap.size := by omega
        have b3 := hb2.alloc s2 (.cells #[.int .i64 0, .int .i64 1000] 82)
        clear c0 c1 c2 HA
        go_wp2
        go_ret
        exact ⟨rfl, b1.trans (b3.mono b1.size)⟩
    · go_enter Tryd.func28, Tryd.ntmps28
      go_wp2_with fail
      refine HA.mono ?_
      rintro e w2 ⟨rfl, hb2⟩
      have d0 := (hb2.cell (p := ⟨w.heap.size, 0, none⟩) s1).trans c0
      have d1 := (hb2.cell (p := ⟨w.heap.size, 1, none⟩) s1).trans c1
      have s2 := hb2.size
      have n1 : w.heap.size < w2.heap.size := by omega
      have n2 : ¬ w.heap.size = w2.heap.size := by omega
      have n3 : ¬ w2.heap.size = w.heap.size := by omega
      have b3 := hb2.alloc s2 (.cells #[.int .i64 0, .int .i64 1000] 82)
      clear c0 c1 c2 HA
      go_wp2
      go_ret
      exact ⟨rfl, b1.trans (b3.mono b1.size)⟩
/-- An act that does not hold, by the program's own function. -/
theorem inval (m n : Int) (l : List Ed) (c : Nat) (w : World) (h : Es w c l) (hf : FitsE l) :
    Calls Tryd.prog 27 #[.agg #[.int .i64 m, .int .i64 n, .slice (some ⟨c, 0, none⟩) l.length l.length]] w fun e w' => e = .returned (.bool (!actB (m, n, l))) ∧ Below w.heap.size w w' := by
  have b1 := (Below.refl w.heap.size w).alloc (Nat.le_refl _) (.cells #[.int .i64 m, .int .i64 n, .slice (some ⟨c, 0, none⟩) l.length l.length] 51)
  have HI := iact m n l c _ (h.below b1) hf
  generalize actB (m, n, l) = z at HI ⊢
  clear h
  go_enter Tryd.func27, Tryd.ntmps27
  go_wp2_with fail
  refine HI.mono ?_
  rintro e w2 ⟨rfl, hb2⟩
  go_wp2
  go_ret
  exact ⟨by cases z <;> rfl, b1.trans (hb2.mono b1.size)⟩
theorem icmpf (m n m' n' : Int) (v v' : Value) (w : World) :
    Calls Tryd.prog 31 #[.agg #[.int .i64 m, .int .i64 n, v], .agg #[.int .i64 m', .int .i64 n', v']] w fun e w' => e = .returned (.int .i64 (if m < m' then -1 else if m' < m then 1 else 0)) ∧ Below w.heap.size w w' := by
  have b1 := ((Below.refl w.heap.size w).alloc (Nat.le_refl _) (.cells #[.int .i64 m, .int .i64 n, v] 51)).alloc (by simp) (.cells #[.int .i64 m', .int .i64 n', v'] 51)
  have HC := comp7 m m'
  generalize (if m < m' then (-1 : Int) else if m' < m then 1 else 0) = z at HC ⊢
  go_enter Tryd.func31, Tryd.ntmps31
  go_wp2_with fail
  refine (HC _).mono ?_
  rintro e w2 ⟨rfl, rfl⟩
  go_wp2
  go_ret
  exact ⟨rfl, b1⟩
set_option maxHeartbeats 1000000 in
set_option maxRecDepth 100000 in
/-- slices.IndexFunc over acts, for any function that tells a bool. -/
theorem idxX (F : FuncId) (HF : ∀ args w, (callFunc F args).run Tryd.prog w = .ok (.enter F args) w) (caps : Array Value) (L : List Ac) (P : Nat → Bool) (b cap : Nat) (w : World) (h : Xx w b L) (hl : L.length ≤ 1048576)
    (HT : ∀ k c w', k < L.length → Below w.heap.size w w' → Es w' c (L.getD k ac0).2.2 → Calls Tryd.prog F (#[.agg #[.int .i64 (L.getD k ac0).1, .int .i64 (L.getD k ac0).2.1, .slice (some ⟨c, 0, none⟩) (L.getD k ac0).2.2.length (L.getD k ac0).2.2.length]] ++ caps) w' fun e w'' => e = .returned (.bool (P k)) ∧ Below w'.heap.size w' w'') :
    Calls Tryd.prog 51 #[.slice (some ⟨b, 0, none⟩) L.length cap, .func (.func F) #[] caps] w fun e w' => (∃ r : Int, e = .returned (.int .i64 r) ∧ -1 ≤ r ∧ r ≤ 1048576 ∧ (r < 0 ↔ ∀ k, k < L.length → P k = false)) ∧ Below w.heap.size w w' := by
  have H := Lib.hid HT
  have HX := Lib.hid h
  clear HT h
  go_enter Tryd.func51, Tryd.ntmps51
  go_wp2
  go_loopg [8] L.length (fun g i wr => ∃ k : Nat, k ≤ L.length ∧ g = L.length - k ∧ i = .int .i64 k ∧ Below w.heap.size w wr ∧ Hid (∀ j, j < k → P j = false))
  case atStart => exact ⟨0, Nat.zero_le _, rfl, rfl, Below.refl _ _, fun j hj => absurd hj (Nat.not_lt_zero _)⟩
  case round =>
    obtain ⟨k, hk, rfl, rfl, hb, HK⟩ := hrel
    by_cases hlt : k < L.length
    · obtain ⟨c, c1, c2, c3, c4⟩ := (HX.out.below hb).2 k hlt
      have HC := H.out k c wr hlt hb c4
      obtain ⟨z, hz⟩ : ∃ z, P k = z := ⟨_, rfl⟩
      obtain ⟨q, hq⟩ : ∃ q, L.getD k ac0 = q := ⟨_, rfl⟩
      rw [hz, hq] at HC
      rw [hq] at c1 c2 c3
      obtain ⟨m, n, l⟩ := q
      simp only at c1 c2 c3 HC
      have HZ := Lib.hid hz
      clear hz hq c4
      cases z with
      | false =>
        go_wp2_with fail
        refine HC.mono ?_
        rintro e w1 ⟨rfl, hb1⟩
        go_wp2
        go_roundg (L.length - (k + 1))
        case measure => omega
        case rel =>
          refine ⟨k + 1, by omega, rfl, by simp, hb.trans (hb1.mono hb.size), fun j hj => ?_⟩
          by_cases ej : j = k
          · subst ej; exact HZ.out
          · exact HK.out j (by omega)
      | true =>
        go_wp2_with fail
        refine HC.mono ?_
        rintro e w1 ⟨rfl, hb1⟩
        go_wp2
        go_ret
        exact ⟨⟨_, rfl, by omega, by omega, ⟨fun hn => absurd hn (by omega), fun hall => absurd (hall k hlt) (by rw [HZ.out]; decide)⟩⟩, hb.trans (hb1.mono hb.size)⟩
    · have e : k = L.length := by omega
      subst e
      go_wp2
      go_ret
      exact ⟨⟨-1, rfl, by omega, by omega, ⟨fun _ => HK.out, fun _ => by omega⟩⟩, hb⟩
theorem contX (F : FuncId) (HF : ∀ args w, (callFunc F args).run Tryd.prog w = .ok (.enter F args) w) (caps : Array Value) (L : List Ac) (P : Nat → Bool) (z : Bool) (b cap : Nat) (w : World) (h : Xx w b L) (hl : L.length ≤ 1048576)
    (HT : ∀ k c w', k < L.length → Below w.heap.size w w' → Es w' c (L.getD k ac0).2.2 → Calls Tryd.prog F (#[.agg #[.int .i64 (L.getD k ac0).1, .int .i64 (L.getD k ac0).2.1, .slice (some ⟨c, 0, none⟩) (L.getD k ac0).2.2.length (L.getD k ac0).2.2.length]] ++ caps) w' fun e w'' => e = .returned (.bool (P k)) ∧ Below w'.heap.size w' w'')
    (hz : z = false ↔ ∀ k, k < L.length → P k = false) :
    Calls Tryd.prog 29 #[.slice (some ⟨b, 0, none⟩) L.length cap, .func (.func F) #[] caps] w fun e w' => e = .returned (.bool z) ∧ Below w.heap.size w w' := by
  have HI := idxX F HF caps L P b cap w h hl HT
  have HZ := Lib.hid hz
  clear HT h hz
  go_enter Tryd.func29, Tryd.ntmps29
  go_wp2_with fail
  refine HI.mono ?_
  rintro e w1 ⟨⟨r, rfl, r1, r2, r3⟩, hb1⟩
  have R3 := Lib.hid r3
  clear r3
  by_cases hn : r < 0
  · obtain rfl := HZ.out.2 (R3.out.1 hn)
    go_wp2
    go_ret
    exact ⟨ret_bool (by simp; omega), hb1⟩
  · have hzt : z = true := by
      cases z with
      | true => rfl
      | false => exact absurd (R3.out.2 (HZ.out.1 rfl)) hn
    subst hzt
    go_wp2
    go_ret
    exact ⟨ret_bool (by first | (simp; done) | (simp; omega)), hb1⟩
end Go.Proofs.YtkaakomiimcbmaaDoor
/- Acts in the order of their first days; whether a list of them is valid: both looks. -/
namespace Go.Proofs.YtkaakomiimcbmaaDoor
open Go.ChangeShapes Go.WideShapes Go.ChangeAt Go.RowKit Go.Deep
set_option linter.unusedSimpArgs false
set_option linter.unusedVariables false
noncomputable def srtB (L : List Ac) : Bool := @decide (∀ k, 0 < k → k < L.length → ordX L k) (Classical.propDecidable _)
theorem srtB_yes {L : List Ac} (h : ∀ k, 0 < k → k < L.length → ordX L k) : srtB L = true := by simp [srtB]; exact h
theorem srtB_no {L : List Ac} {k : Nat} (h1 : 0 < k) (h2 : k < L.length) (h : ¬ ordX L k) : srtB L = false := by
  simp only [srtB, decide_eq_false_iff_not]
  exact fun q => h (q k h1 h2)
set_option maxHeartbeats 2000000 in
set_option maxRecDepth 100000 in
theorem isrt (L : List Ac) (b cap : Nat) (w : World) (h : Xx w b L) (hl : L.length ≤ 1048576) :
    Calls Tryd.prog 30 #[.slice (some ⟨b, 0, none⟩) L.length cap, .func (.func 31) #[] #[]] w fun e w' => e = .returned (.bool (srtB L)) ∧ Below w.heap.size w w' := by
  have HX := Lib.hid h
  clear h
  have wn : IntKind.i64.wrap ((L.length : Int) - 1) = (L.length : Int) - 1 := by rw [IntKind.wrap_i64]; omega
  go_enter Tryd.func30, Tryd.ntmps30
  go_wp2
  go_loopg [5] L.length (fun g i wr => ∃ k : Nat, k ≤ L.length ∧ g = k ∧ i = .int .i64 ((k : Int) - 1) ∧ Below w.heap.size w wr ∧ Hid (∀ j, 0 < j → k ≤ j → j < L.length → ordX L j))
  case atStart => exact ⟨L.length, Nat.le_refl _, rfl, rfl, Below.refl _ _, fun j _ h1 h2 => absurd h2 (by omega)⟩
  case round =>
    clear wn
    obtain ⟨k, hk, hg, rfl, hb, HK⟩ := hrel
    have hg := hg.symm
    subst hg
    by_cases hgt : 2 ≤ k
    · obtain ⟨j, hj⟩ : ∃ j, k = j + 2 := ⟨k - 2, by omega⟩
      have e1 : (k : Int) - 1 = ((j + 1 : Nat) : Int) := by omega
      have e2 : ((j + 1 : Nat) : Int) - 1 = (j : Int) := by omega
      have wk1 : IntKind.i64.wrap (((j + 1 : Nat) : Int) - 1) = (j : Int) := by rw [IntKind.wrap_i64]; omega
      have wk2 : IntKind.i64.wrap (j : Int) = (j : Int) := by rw [IntKind.wrap_i64]; omega
      obtain ⟨i, hi⟩ : ∃ i, j + 1 = i := ⟨_, rfl⟩
      have hlt : i < L.length := by omega
      have hlt2 : j < L.length := by omega
      obtain ⟨c, c1, c2, c3, -⟩ := (HX.out.below hb).2 i hlt
      obtain ⟨c', d1, d2, d3, -⟩ := (HX.out.below hb).2 j hlt2
      rw [hi] at e1 e2 wk1
      have hord : ordX L i ↔ (L.getD j ac0).1 ≤ (L.getD i ac0).1 := by
        unfold ordX
        have : i - 1 = j := by omega
        rw [this]
      obtain ⟨q, hq⟩ : ∃ q, L.getD i ac0 = q := ⟨_, rfl⟩
      obtain ⟨q', hq'⟩ : ∃ q, L.getD j ac0 = q := ⟨_, rfl⟩
      rw [hq] at c1 c2 c3 hord
      rw [hq'] at d1 d2 d3 hord
      obtain ⟨m, n, l⟩ := q
      obtain ⟨m', n', l'⟩ := q'
      simp only at c1 c2 c3 d1 d2 d3 hord
      have HO := Lib.hid hord
      have HI := Lib.hid hi
      have HJ := Lib.hid hj
      have bd : Below wr.heap.size wr wr.drew := (Below.refl _ _).drew
      have HC := fun v v' => icmpf m n m' n' v v' wr.drew
      have hip : 0 < i := by omega
      have hic : (i : Int) - 1 = j := e2
      simp only [e1]
      clear hq hq' hord hi hj e1
      by_cases hle : m' ≤ m
      · have hz : (if m < m' then (-1 : Int) else if m' < m then 1 else 0) = (if m' < m then 1 else 0) := by rw [if_neg (by omega)]
        obtain ⟨z, hz2⟩ : ∃ z, (if m' < m then (1 : Int) else 0) = z := ⟨_, rfl⟩
        have hz0 : 0 ≤ z := by rw [← hz2]; split <;> omega
        have hzn : ¬ z < 0 := by omega
        have hz1 : z ≤ 1 := by rw [← hz2]; split <;> omega
        rw [hz, hz2] at HC
        have HLE := Lib.hid hle
        clear hz hz2 hle
        go_wp2_with fail
        go_still_tail 10, (by kernel_rfl)
        change wpList _ _ _ _ _ wr.drew
        go_wp2_with fail
        refine (HC _ _).mono ?_
        rintro e w1 ⟨rfl, hb1⟩
        go_wp2
        go_roundg (k - 1)
        case measure => omega
        case rel =>
          refine ⟨i, by omega, by have := HI.out; have := HJ.out; omega, by rw [hic], hb.trans (bd.trans hb1 |>.mono hb.size), fun x h0 h1 h2 => ?_⟩
          by_cases ex : x = i
          · subst ex; exact HO.out.2 HLE.out
          · exact HK.out x h0 (by have := HI.out; have := HJ.out; omega) h2
      · have hz : (if m < m' then (-1 : Int) else if m' < m then 1 else 0) = -1 := by rw [if_pos (by omega)]
        rw [hz] at HC
        have hno := srtB_no hip hlt (fun q => hle (HO.out.1 q))
        have HNO := Lib.hid hno
        clear hz hle hno
        go_wp2_with fail
        go_still_tail 10, (by kernel_rfl)
        change wpList _ _ _ _ _ wr.drew
        go_wp2_with fail
        refine (HC _ _).mono ?_
        rintro e w1 ⟨rfl, hb1⟩
        go_wp2
        go_ret
        exact ⟨by rw [HNO.out]; rfl, hb.trans (bd.trans hb1 |>.mono hb.size)⟩
    · have hle : ¬ 0 < (k : Int) - 1 := by omega
      have hyes := srtB_yes (fun j h0 h2 => HK.out j h0 (by omega) h2)
      have HYES := Lib.hid hyes
      clear hyes
      go_wp2
      go_ret
      exact ⟨by rw [HYES.out]; rfl, hb⟩
noncomputable def badB (L : List Ac) : Bool := @decide (∃ k, k < L.length ∧ actB (L.getD k ac0) = false) (Classical.propDecidable _)
theorem badB_iff {L : List Ac} : badB L = false ↔ ∀ k, k < L.length → (!actB (L.getD k ac0)) = false := by
  unfold badB
  rw [decide_eq_false_iff_not]
  constructor
  · intro h k hk
    cases hz : actB (L.getD k ac0) with
    | true => rfl
    | false => exact absurd ⟨k, hk, hz⟩ h
  · rintro h ⟨k, hk, hz⟩
    have := h k hk
    rw [hz] at this
    cases this
theorem acts_split (L : List Ac) : actsB L = (decide (L.length ≤ 8) && (!badB L) && srtB L) := by
  by_cases h : actsF L
  · have hb : badB L = false := badB_iff.2 (fun k hk => by rw [actB_iff.2 (h.2.1 k hk)]; rfl)
    rw [actsB_yes h, hb, srtB_yes h.2.2, decide_eq_true h.1]; rfl
  · rw [actsB_no h]
    cases hb : badB L with
    | true => cases decide (L.length ≤ 8) <;> cases srtB L <;> rfl
    | false =>
      cases hs : srtB L with
      | false => cases decide (L.length ≤ 8) <;> rfl
      | true =>
        by_cases h8 : L.length ≤ 8
        · refine absurd ⟨h8, fun k hk => ?_, @of_decide_eq_true _ (Classical.propDecidable _) hs⟩ h
          have := badB_iff.1 hb k hk
          cases hz : actB (L.getD k ac0) with
          | true => exact actB_iff.1 hz
          | false => rw [hz] at this; cases this
        · rw [decide_eq_false h8]; rfl
set_option maxHeartbeats 2000000 in
set_option maxRecDepth 100000 in
theorem ivacts (L : List Ac) (b cap : Nat) (w : World) (h : Xx w b L) (hf : FitsX L) :
    Calls Tryd.prog 9 #[.slice (some ⟨b, 0, none⟩) L.length cap] w fun e w' => e = .returned (.bool (actsB L)) ∧ Below w.heap.size w w' := by
  obtain ⟨zc, hzc⟩ : ∃ z, badB L = z := ⟨_, rfl⟩
  have HC := contX 27 (fun _ _ => rfl) #[] L (fun k => !actB (L.getD k ac0)) zc b cap w h hf.1 (fun k c w' hk hb hE => inval _ _ _ c w' hE (hf.2 k hk)) (by rw [← hzc]; exact badB_iff)
  have HS := fun w' (hw : Below w.heap.size w w') => isrt L b cap w' (h.below hw) hf.1
  have hl := hf.1
  rw [acts_split, hzc]
  obtain ⟨zs, hzs⟩ : ∃ z, srtB L = z := ⟨_, rfl⟩
  rw [hzs] at HS ⊢
  clear hzc hzs h hf
  by_cases h8 : L.length ≤ 8
  · have h8d : decide (L.length ≤ 8) = true := by simp [h8]
    rw [h8d]
    have h8i : (L.length : Int) ≤ 8 := by omega
    cases zc with
    | true =>
      go_enter Tryd.func9, Tryd.ntmps9
      go_wp2_with fail
      refine HC.mono ?_
      rintro e w1 ⟨rfl, hb1⟩
      go_wp2
      go_ret
      exact ⟨rfl, hb1⟩
    | false =>
      go_enter Tryd.func9, Tryd.ntmps9
      go_wp2_with fail
      refine HC.mono ?_
      rintro e w1 ⟨rfl, hb1⟩
      have HS1 := HS w1 hb1
      go_wp2_with fail
      refine HS1.mono ?_
      rintro e w2 ⟨rfl, hb2⟩
      go_wp2
      go_ret
      exact ⟨by cases zs <;> rfl, hb1.trans (hb2.mono hb1.size)⟩
  · have h8d : decide (L.length ≤ 8) = false := by simp [h8]
    rw [h8d]
    have h8i : ¬ (L.length : Int) ≤ 8 := by omega
    go_enter Tryd.func9, Tryd.ntmps9
    go_wp2
    go_ret
    exact ⟨rfl, Below.refl _ _⟩
end Go.Proofs.YtkaakomiimcbmaaDoor
/- Whether a list of acts is valid: the specification's look; both exported calls. -/
namespace Go.Proofs.YtkaakomiimcbmaaDoor
open Go.ChangeShapes Go.WideShapes Go.ChangeAt Go.RowKit Go.Deep
set_option linter.unusedSimpArgs false
set_option linter.unusedVariables false
def act1 (L : List Ac) (k : Nat) : Prop := actF (L.getD k ac0) ∧ (0 < k → ordX L k)
theorem actsB_bad {L : List Ac} {k : Nat} (hk : k < L.length) (h : ¬ act1 L k) : actsB L = false :=
  actsB_no (fun q => h ⟨q.2.1 k hk, fun h0 => q.2.2 k h0 hk⟩)
set_option maxHeartbeats 4000000 in
set_option maxRecDepth 100000 in
theorem sacts (L : List Ac) (b cap : Nat) (w : World) (h : Xx w b L) (hf : FitsX L) :
    Calls Tryd.prog 25 #[.slice (some ⟨b, 0, none⟩) L.length cap] w fun e w' => e = .returned (.bool (actsB L)) ∧ Below w.heap.size w w' := by
  obtain ⟨hf1, hf2⟩ := hf
  have HF := Lib.hid hf2
  have HX := Lib.hid h
  clear h hf2
  go_enter Tryd.func25, Tryd.ntmps25
  go_wp2
  go_loopg [3] L.length (fun g i wr => ∃ k : Nat, k ≤ L.length ∧ g = L.length - k ∧ i = .int .i64 k ∧ Below w.heap.size w wr ∧ Hid (∀ j, j < k → act1 L j))
  case atStart => exact ⟨0, Nat.zero_le _, rfl, rfl, Below.refl _ _, fun j hj => absurd hj (Nat.not_lt_zero _)⟩
  case round =>
    obtain ⟨k, hk, rfl, rfl, hb, H⟩ := hrel
    by_cases hlt : k < L.length
    · obtain ⟨c, a0, a1, a2, a3⟩ := (HX.out.below hb).2 k hlt
      have hbx := (HX.out.below hb).1
      have hfe := HF.out k hlt
      have HN := Lib.hid (@actsB_bad L k hlt)
      obtain ⟨q, hq⟩ : ∃ q, L.getD k ac0 = q := ⟨_, rfl⟩
      rw [hq] at a0 a1 a2 a3 hfe
      have HQ := Lib.hid hq
      obtain ⟨m, n, l⟩ := q
      simp only at a0 a1 a2 a3 hfe
      have ba := (Below.refl wr.heap.size wr).alloc (Nat.le_refl _) (.cells #[.int .i64 m, .int .i64 n, .slice (some ⟨c, 0, none⟩) l.length l.length] 51)
      have g0 : (wr.alloc (.cells #[.int .i64 m, .int .i64 n, .slice (some ⟨c, 0, none⟩) l.length l.length] 51)).cell? ⟨wr.heap.size, 0, none⟩ = some (.int .i64 m) := by go_simp
      have g1 : (wr.alloc (.cells #[.int .i64 m, .int .i64 n, .slice (some ⟨c, 0, none⟩) l.length l.length] 51)).cell? ⟨wr.heap.size, 1, none⟩ = some (.int .i64 n) := by go_simp
      have g2 : (wr.alloc (.cells #[.int .i64 m, .int .i64 n, .slice (some ⟨c, 0, none⟩) l.length l.length] 51)).cell? ⟨wr.heap.size, 2, none⟩ = some (.slice (some ⟨c, 0, none⟩) l.length l.length) := by go_simp
      obtain ⟨w1, hw1⟩ : ∃ w1, (wr.alloc (.cells #[.int .i64 m, .int .i64 n, .slice (some ⟨c, 0, none⟩) l.length l.length] 51)) = w1 := ⟨_, rfl⟩
      rw [hw1] at ba g0 g1 g2
      have HP : ∀ z, patB l = z → ∀ x, Calls Tryd.prog 47 #[.slice (some ⟨c, 0, none⟩) l.length l.length] (w1.drewN x) fun e w' => e = .returned (.bool z) ∧ Drw (w1.drewN x) w' := fun z hz x => hz ▸ spatch l c l.length _ (a3.below (below_drewN ba x)) hfe
      obtain ⟨z, hz⟩ : ∃ z, patB l = z := ⟨_, rfl⟩
      have HP2 := HP z hz
      have hlen := hfe.1
      have bw := fun x => hb.trans ((below_drewN ba x).mono hb.size)
      have BW := Lib.hid bw
      have HZ := Lib.hid hz
      have BAX := Lib.hid ba
      clear hq hz HP a3 hfe ba bw
      by_cases hm : 0 ≤ m ∧ m ≤ 1000
      · have i1 := inB_yes hm.1 hm.2
        by_cases hn : 0 ≤ n ∧ n ≤ 1000
        · have i2 := inB_yes hn.1 hn.2
          by_cases hmn : n ≤ m
          · have HNO := Lib.hid (HN.out (fun ho => by have := ho.1.1.2.1; rw [HQ.out] at this; simp only at this; omega))
            clear HP2 HN
            go_wp2_with fail
            go_big_quiet ((first | (go_at_call 46; exact quiet_left (in_val _ _ _ _))))
            go_wp2
            go_ret
            exact ⟨by rw [HNO.out]; rfl, BW.out _⟩
          · have hmd : decide (n ≤ m) = false := decide_eq_false hmn
            have HMN := Lib.hid hmn
            cases z with
            | false =>
              have HNO := Lib.hid (HN.out (fun ho => by have := ho.1.2; rw [HQ.out] at this; have := patB_yes this; rw [HZ.out] at this; cases this))
              clear HN
              go_wp2_with fail
              go_big_quiet ((first | (go_at_call 46; exact quiet_left (in_val _ _ _ _)) | (go_at_call 47; exact Drw.quiet (HP2 _))))
              go_wp2
              go_ret
              exact ⟨by rw [HNO.out]; rfl, BW.out _⟩
            | true =>
              have HA : Hid (actF (L.getD k ac0)) := by
                show actF (L.getD k ac0)
                rw [HQ.out]
                exact ⟨⟨hm.1, (by have := HMN.out; show m < n; omega), hn.2⟩, patB_iff.1 HZ.out⟩
              by_cases hk0 : k = 0
              · have hk1 : ¬ 0 < k := by omega
                have hki : ¬ (0 : Int) < (k : Int) := by omega
                have hkd : decide ((0 : Int) < (k : Int)) = false := decide_eq_false hki
                clear hk0 HN
                go_wp2_with fail
                go_big_quiet ((first | (go_at_call 46; exact quiet_left (in_val _ _ _ _)) | (go_at_call 47; exact Drw.quiet (HP2 _))))
                go_wp2
                go_roundg (L.length - (k + 1))
                case measure => omega
                case rel =>
                  refine ⟨k + 1, by omega, rfl, by simp, BW.out _, fun j hj => ?_⟩
                  by_cases ej : j = k
                  · subst ej
                    exact ⟨HA.out, fun h => absurd h hk1⟩
                  · exact H.out j (by omega)
              · obtain ⟨k', hkk'⟩ : ∃ k', k = k' + 1 := ⟨k - 1, by omega⟩
                obtain ⟨c', d0, -⟩ := ((HX.out.below hb).below BAX.out).2 k' (by omega)
                have hord : ordX L k ↔ (L.getD k' ac0).1 ≤ m := by
                  unfold ordX
                  have : k - 1 = k' := by omega
                  rw [this, HQ.out]
                obtain ⟨y', hy'⟩ : ∃ y, (L.getD k' ac0).1 = y := ⟨_, rfl⟩
                rw [hy'] at d0 hord
                have HO := Lib.hid hord
                have hlk : k' < L.length := by omega
                have wk1 : IntKind.i64.wrap ((k : Int) - 1) = k' := by rw [IntKind.wrap_i64]; omega
                have wk2 : (k : Int) - 1 = k' := by omega
                have wk3 : IntKind.i64.wrap (k' : Int) = k' := by rw [IntKind.wrap_i64]; omega
                have hpk : 0 < k := by omega
                have hpki : (0 : Int) < (k : Int) := by omega
                have hkd : decide ((0 : Int) < (k : Int)) = true := decide_eq_true hpki
                clear hy' hk0 hkk' hord
                by_cases hle : m < y'
                · have HNO := Lib.hid (HN.out (fun ho => by have := HO.out.1 (ho.2 hpk); omega))
                  have hld : decide (m < y') = true := decide_eq_true hle
                  clear HN
                  go_wp2_with fail
                  go_big_quiet ((first | (go_at_call 46; exact quiet_left (in_val _ _ _ _)) | (go_at_call 47; exact Drw.quiet (HP2 _))))
                  go_wp2
                  go_ret
                  exact ⟨by rw [HNO.out]; rfl, BW.out _⟩
                · have HLE := Lib.hid hle
                  have hld : decide (m < y') = false := decide_eq_false hle
                  clear HN
                  go_wp2_with fail
                  go_big_quiet ((first | (go_at_call 46; exact quiet_left (in_val _ _ _ _)) | (go_at_call 47; exact Drw.quiet (HP2 _))))
                  go_wp2
                  go_roundg (L.length - (k + 1))
                  case measure => omega
                  case rel =>
                    refine ⟨k + 1, by omega, rfl, by simp, BW.out _, fun j hj => ?_⟩
                    by_cases ej : j = k
                    · subst ej
                      exact ⟨HA.out, fun _ => HO.out.2 (by have := HLE.out; omega)⟩
                    · exact H.out j (by omega)
        · have i2 := inB_no hn
          have HNO := Lib.hid (HN.out (fun ho => hn (by have := ho.1.1; rw [HQ.out] at this; simp only at this; omega)))
          clear HP2 HN hn
          go_wp2_with fail
          go_big_quiet ((first | (go_at_call 46; exact quiet_left (in_val _ _ _ _))))
          go_wp2
          go_ret
          exact ⟨by rw [HNO.out]; rfl, BW.out _⟩
      · have i1 := inB_no hm
        have HNO := Lib.hid (HN.out (fun ho => hm (by have := ho.1.1; rw [HQ.out] at this; simp only at this; omega)))
        clear HP2 HN hm
        go_wp2_with fail
        go_big_quiet ((first | (go_at_call 46; exact quiet_left (in_val _ _ _ _))))
        go_wp2
        go_ret
        exact ⟨by rw [HNO.out]; rfl, BW.out _⟩
    · obtain rfl : k = L.length := by omega
      by_cases h8 : L.length ≤ 8
      · have HYY := Lib.hid (actsB_yes (L := L) ⟨h8, fun j hj => (H.out j hj).1, fun j h0 hj => (H.out j hj).2 h0⟩)
        go_wp2
        go_ret
        refine ⟨?_, hb⟩
        rw [HYY.out]
        exact ret_bool (by simp; omega)
      · have HNN := Lib.hid (actsB_no (L := L) (fun h => h8 h.1))
        go_wp2
        go_ret
        refine ⟨?_, hb⟩
        rw [HNN.out]
        exact ret_bool (by simp; omega)
theorem sVX (L : List Ac) (w : World) (lo hi : Nat) (u : Value) (h : CpX w lo hi u L) : Calls Tryd.prog 7 #[u] w (Pb (actsB L) w) := by
  obtain ⟨rfl, h1, -, hf⟩ := h
  have HS := sacts L lo L.length w h1.toX hf
  obtain ⟨z, hz⟩ : ∃ z, actsB L = z := ⟨_, rfl⟩
  unfold Pb
  rw [hz] at HS ⊢
  clear hz h1
  go_enter Tryd.func7, Tryd.ntmps7
  go_wp2_with fail
  refine HS.mono ?_
  rintro e w1 ⟨rfl, hb⟩
  go_wp2
  go_ret
  exact ⟨rfl, hb⟩
theorem iVX (L : List Ac) (w : World) (lo hi : Nat) (u : Value) (h : CpX w lo hi u L) : Calls Tryd.prog 9 #[u] w (Pb (actsB L) w) := by
  obtain ⟨rfl, h1, -, hf⟩ := h
  exact ivacts L lo L.length w h1.toX hf
end Go.Proofs.YtkaakomiimcbmaaDoor
