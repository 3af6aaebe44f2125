/- Quotas and lists of quotas: copied. -/
import Derived.Test.YtfjpjiieocdgeaaDoorVo3
namespace Go.Proofs.YtfjpjiieocdgeaaDoor
set_option linter.unusedSimpArgs false
set_option linter.unusedVariables false
open Go.ChangeShapes Go.WideShapes Go.ChangeAt Go.RowKit Go.Deep
abbrev Qt := List Int × Int × Int
abbrev q0 : Qt := ([], 0, 0)
set_option maxRecDepth 100000 in
theorem infoQ : (Tryd.prog.info? 81).map (fun i => (i.zero, i.size, i.bytes)) = some (some (.agg #[.slice none 0 0, .int .i64 0, .int .i64 0]), 3, 40) := by kernel_rfl
theorem run_make3 {P : Program} (t e : TypeId) (z0 z1 z2 : Value) (bytes : Nat) (ht : P.underlying t = some (.slice e)) (hinfo : (P.info? e).map (fun i => (i.zero, i.size, i.bytes)) = some (some (.agg #[z0, z1, z2]), 3, bytes)) (h0 : (Value.agg #[z0, z1, z2]).cells = #[z0, z1, z2])
    (kl kc : IntKind) (n : Nat) (hbytes : bytes * n ≤ 281474976710656) (h63 : n ≤ 9223372036854775807) (w : World) :
    (Instr.makeSlice t (.int kl (n : Int)) (.int kc (n : Int))).run P w = .ok (.slice (some ⟨w.heap.size, 0, none⟩) n n) (w.alloc (.cells (madeCells #[z0, z1, z2] (n * 3)) e)) := by
  obtain ⟨i, hi, hzz⟩ := Option.map_eq_some_iff.1 hinfo
  simp only [Prod.mk.injEq] at hzz
  obtain ⟨hz, hs, hb⟩ := hzz
  have hb' : (i.bytes : Int) * (n : Int) ≤ 281474976710656 := by
    have h : ((i.bytes * n : Nat) : Int) ≤ 281474976710656 := by rw [hb]; omega
    rwa [Int.natCast_mul] at h
  have hr := run_make (P := P) w t e i _ ht hi hz kl kc n n (by omega) (Int.le_refl _) hb' (by omega)
  simp only [Int.toNat_natCast, hs, h0] at hr
  exact hr
theorem rowIs_made3 (w : World) (z0 z1 z2 : Value) (n : Nat) (t : TypeId) : (w.alloc (.cells (madeCells #[z0, z1, z2] (n * 3)) t)).rowIs w.heap.size t (n * 3) (fun j => if j % 3 = 0 then z0 else if j % 3 = 1 then z1 else z2) :=
  ⟨_, blk_alloc_new _ _, size_madeCells _ _, fun i hi => by
    have e : (#[z0, z1, z2] : Array Value).size = 3 := rfl
    simp only [madeCells, Array.getElem?_map, Array.getElem?_range, if_pos hi, e]
    have : i % 3 = 0 ∨ i % 3 = 1 ∨ i % 3 = 2 := by omega
    rcases this with h | h | h <;> simp [h]⟩
/-- Element k of a list of quotas that lies at x, each of three cells. -/
def ArgQ (w : World) (x : Addr) (L : List Qt) : Prop :=
  ∀ k, k < L.length → ∃ v, w.cell? (x.add (k * 3)) = some v ∧ w.cell? ⟨(x.add (k * 3)).block, (x.add (k * 3)).off + 1, none⟩ = some (.int .i64 (L.getD k q0).2.1) ∧ w.cell? ⟨(x.add (k * 3)).block, (x.add (k * 3)).off + 2, none⟩ = some (.int .i64 (L.getD k q0).2.2) ∧ RowV w v (L.getD k q0).1
theorem ArgQ.below {w w' : World} {x : Addr} {L : List Qt} (h : ArgQ w x L) (hx : 0 < L.length → x.block < w.heap.size) (hb : Below w.heap.size w w') : ArgQ w' x L := fun k hk => by
  have hx := hx (by omega)
  obtain ⟨v, h1, h2, h3, h4⟩ := h k hk
  exact ⟨v, (hb.cell (by rw [block_add]; exact hx)).trans h1, (hb.cell (by show (x.add (k * 3)).block < _; rw [block_add]; exact hx)).trans h2, (hb.cell (by show (x.add (k * 3)).block < _; rw [block_add]; exact hx)).trans h3, h4.below hb⟩
def ListQ (w : World) (v : Value) (L : List Qt) : Prop := (v = .slice none 0 0 ∧ L = []) ∨ ∃ (x : Addr) (cap : Nat), v = .slice (some x) L.length cap ∧ (0 < L.length → x.block < w.heap.size) ∧ ArgQ w x L
theorem ListQ.below {w w' : World} {v : Value} {L : List Qt} (h : ListQ w v L) (hb : Below w.heap.size w w') : ListQ w' v L := by
  rcases h with h | ⟨x, cap, rfl, hx, h⟩
  · exact .inl h
  · exact .inr ⟨x, cap, rfl, fun h => Nat.lt_of_lt_of_le (hx h) hb.size, h.below hx hb⟩
theorem ListQ.shape {w : World} {v : Value} {L : List Qt} (h : ListQ w v L) : ∃ a cap, v = .slice a L.length cap := by
  rcases h with ⟨rfl, rfl⟩ | ⟨x, cap, rfl, -, -⟩
  · exact ⟨none, 0, rfl⟩
  · exact ⟨_, cap, rfl⟩
theorem toQ (m n : Int) (v : Value) (l : List Int) (w : World) (h : RowV w v l) (hl : l.length ≤ 1048576) :
    Calls Tryd.prog 62 #[.agg #[v, .int .i64 m, .int .i64 n]] w fun e w' => ∃ c, e = .returned (.agg #[.slice (some ⟨c, 0, none⟩) l.length l.length, .int .i64 m, .int .i64 n]) ∧ w.heap.size < c ∧ OwnI w' c l ∧ Below w.heap.size w w' := by
  go_enter Tryd.func62, Tryd.ntmps62
  go_wp2_with fail
  refine (toI v l _ (h.below ?_) hl).mono ?_
  · repeat first
      | exact Below.refl _ _
      | refine Below.setCell ?_ (by simp) _
      | refine Below.alloc ?_ (by first | exact Nat.le_refl _ | (simp <;> omega)) _
  rintro e w1 ⟨rfl, hrow, hb1⟩
  obtain ⟨hc, hf⟩ := bcell hb1
  have P1 : w1.cell? ⟨w.heap.size, 1, none⟩ = some (.int .i64 m) := by rw [hc _ _ (by first | (simp; done) | (simp; omega))]; go_simp
  have P2 : w1.cell? ⟨w.heap.size, 2, none⟩ = some (.int .i64 n) := by rw [hc _ _ (by first | (simp; done) | (simp; omega))]; go_simp
  have R0 : w1.cell? ⟨w.heap.size + 1 + 1, 0, none⟩ = some (.slice none 0 0) := by rw [hc _ _ (by simp)]; go_simp
  have R1 : w1.cell? ⟨w.heap.size + 1 + 1, 1, none⟩ = some (.int .i64 0) := by rw [hc _ _ (by simp)]; go_simp
  have R2 : w1.cell? ⟨w.heap.size + 1 + 1, 2, none⟩ = some (.int .i64 0) := by rw [hc _ _ (by simp)]; go_simp
  have ZR0 : w1.frozen? ⟨w.heap.size + 1 + 1, 0, none⟩ = false := by rw [hf _ _ (by simp)]; go_simp
  have ZR1 : w1.frozen? ⟨w.heap.size + 1 + 1, 1, none⟩ = false := by rw [hf _ _ (by simp)]; go_simp
  have ZR2 : w1.frozen? ⟨w.heap.size + 1 + 1, 2, none⟩ = false := by rw [hf _ _ (by simp)]; go_simp
  have Q0 : w1.cell? ⟨w.heap.size + 1, 0, none⟩ = some (.slice none 0 0) := by rw [hc _ _ (by first | (simp; done) | (simp; omega))]; go_simp
  have Q1 : w1.cell? ⟨w.heap.size + 1, 1, none⟩ = some (.int .i64 0) := by rw [hc _ _ (by first | (simp; done) | (simp; omega))]; go_simp
  have Q2 : w1.cell? ⟨w.heap.size + 1, 2, none⟩ = some (.int .i64 0) := by rw [hc _ _ (by first | (simp; done) | (simp; omega))]; go_simp
  have ZQ0 : w1.frozen? ⟨w.heap.size + 1, 0, none⟩ = false := by rw [hf _ _ (by first | (simp; done) | (simp; omega))]; go_simp
  have ZQ1 : w1.frozen? ⟨w.heap.size + 1, 1, none⟩ = false := by rw [hf _ _ (by first | (simp; done) | (simp; omega))]; go_simp
  have ZQ2 : w1.frozen? ⟨w.heap.size + 1, 2, none⟩ = false := by rw [hf _ _ (by first | (simp; done) | (simp; omega))]; go_simp
  have hrow' : OwnI w1 (w.heap.size + 1 + 1 + 1) l := by unfold OwnI; simpa using hrow
  have b1 : Below w.heap.size w w1 := ((((Below.refl _ _).alloc (Nat.le_refl _) _).alloc (by simp) _).alloc (by simp; omega) _).trans (hb1.mono (by simp; omega))
  clear hc hf hrow hb1
  go_wp2
  refine bodyPost_ret (v := .agg #[.slice (some ⟨w.heap.size + 1 + 1 + 1, 0, none⟩) l.length l.length, .int .i64 m, .int .i64 n]) (by simp [results, Tryd.results62, go_sem, Q0, Q1, Q2]) rfl ⟨_, rfl, by omega, ?_, ?_⟩
  · iterate 6 refine World.rowIs.setOther ?_ (by show _ ≠ _ + _; omega) _
    exact hrow'
  · iterate 6 refine Below.setCell ?_ (by show _ ≤ _ + _; omega) _
    exact b1
/-- What cell j of the new row holds when the first k quotas are laid. -/
def qf (L : List Qt) (c : Nat → Nat) (k : Nat) : Nat → Value := fun j =>
  if j / 3 < k then (if j % 3 = 0 then .slice (some ⟨c (j / 3), 0, none⟩) (L.getD (j / 3) q0).1.length (L.getD (j / 3) q0).1.length else if j % 3 = 1 then .int .i64 (L.getD (j / 3) q0).2.1 else .int .i64 (L.getD (j / 3) q0).2.2)
  else (if j % 3 = 0 then .slice none 0 0 else if j % 3 = 1 then .int .i64 0 else .int .i64 0)
/-- The first k quotas of L lie copied in block b, their lists in blocks from base on. -/
structure CopyQ (base : Nat) (b : Nat) (wr : World) (L : List Qt) (n k : Nat) (c : Nat → Nat) : Prop where
  row : wr.rowIs b 81 (n * 3) (qf L c k)
  own : ∀ j, j < k → base < c j ∧ OwnI wr (c j) (L.getD j q0).1
theorem qf_step (L : List Qt) (c : Nat → Nat) (k c' : Nat) (j : Nat) :
    (if j = k * 3 + 2 then Value.int .i64 (L.getD k q0).2.2 else if j = k * 3 + 1 then .int .i64 (L.getD k q0).2.1 else if j = k * 3 then .slice (some ⟨c', 0, none⟩) (L.getD k q0).1.length (L.getD k q0).1.length else qf L c k j) =
      qf L (fun i => if i = k then c' else c i) (k + 1) j := by
  unfold qf
  by_cases e2 : j = k * 3 + 2
  · subst e2
    have h1 : (k * 3 + 2) / 3 = k := by omega
    have h2 : (k * 3 + 2) % 3 = 2 := by omega
    simp [h1, h2]
  · by_cases e1 : j = k * 3 + 1
    · subst e1
      have h1 : (k * 3 + 1) / 3 = k := by omega
      have h2 : (k * 3 + 1) % 3 = 1 := by omega
      simp [h1, h2]
    · by_cases e0 : j = k * 3
      · subst e0
        have h1 : (k * 3) / 3 = k := by omega
        have h2 : (k * 3) % 3 = 0 := by omega
        simp [h1, h2]
      · have h3 : j / 3 ≠ k := by omega
        rw [if_neg e2, if_neg e1, if_neg e0]
        by_cases h : j / 3 < k
        · have h4 : j / 3 < k + 1 := by omega
          rw [if_pos h, if_pos h4]; simp [h3]
        · have h4 : ¬ j / 3 < k + 1 := by omega
          rw [if_neg h, if_neg h4]
theorem copyQ_step {base b : Nat} {wr w1 : World} {L : List Qt} {n k : Nat} {c : Nat → Nat} {c' : Nat} (h : CopyQ base b wr L n k c) (hb : Below wr.heap.size wr w1) (hbb : b ≤ base) (hlt : base < c') (ho : OwnI w1 c' (L.getD k q0).1) :
    CopyQ base b (((w1.setCell ⟨b, k * 3, none⟩ (.slice (some ⟨c', 0, none⟩) (L.getD k q0).1.length (L.getD k q0).1.length)).setCell ⟨b, k * 3 + 1, none⟩ (.int .i64 (L.getD k q0).2.1)).setCell ⟨b, k * 3 + 2, none⟩ (.int .i64 (L.getD k q0).2.2)) L n (k + 1) (fun i => if i = k then c' else c i) := by
  refine ⟨((((World.rowIs.of_block h.row (hb.block b h.row.lt)).set (k * 3) _).set (k * 3 + 1) _).set (k * 3 + 2) _).congr (fun j _ => qf_step L c k c' j), fun j hj => ?_⟩
  by_cases e : j = k
  · subst e
    simp only [if_pos rfl]
    exact ⟨hlt, World.rowIs.setOther (World.rowIs.setOther (World.rowIs.setOther ho (by show c' ≠ b; omega) _) (by show c' ≠ b; omega) _) (by show c' ≠ b; omega) _⟩
  · rw [if_neg e]
    obtain ⟨q1, q2⟩ := h.own j (by omega)
    exact ⟨q1, World.rowIs.setOther (World.rowIs.setOther (World.rowIs.setOther (q2.below hb) (by show c j ≠ b; omega) _) (by show c j ≠ b; omega) _) (by show c j ≠ b; omega) _⟩
set_option maxRecDepth 100000 in
theorem toQS_some (x : Addr) (L : List Qt) (cap : Nat) (w : World) (hx : 0 < L.length → x.block < w.heap.size) (h : ArgQ w x L) (hn : L.length ≤ 1048576) (hl : ∀ k, k < L.length → (L.getD k q0).1.length ≤ 1048576) :
    Calls Tryd.prog 42 #[.slice (some x) L.length cap] w fun e w' => e = .returned (.slice (some ⟨w.heap.size, 0, none⟩) L.length L.length) ∧ (∃ c, CopyQ w.heap.size w.heap.size w' L L.length L.length c) ∧ Below w.heap.size w w' := by
  have hmk := run_make3 (P := Tryd.prog) 42 81 _ _ _ 40 Tryd.underlying42 infoQ rfl .i64 .i64 L.length (by omega) (by omega)
  go_enter Tryd.func42, Tryd.ntmps42
  go_wp2
  go_loopg [4] L.length (fun g i wr => ∃ k : Nat, k ≤ L.length ∧ g = L.length - k ∧ i = .int .i64 k ∧ Below w.heap.size w wr ∧ w.heap.size < wr.heap.size ∧ ∃ c, CopyQ w.heap.size w.heap.size wr L L.length k c)
  case atStart => exact ⟨0, Nat.zero_le _, rfl, rfl, (Below.refl _ _).alloc (Nat.le_refl _) _, by simp, fun _ => 0, (rowIs_made3 _ _ _ _ _ _).congr (fun j _ => by simp [qf]), fun j hj => absurd hj (Nat.not_lt_zero _)⟩
  case round =>
    obtain ⟨k, hk, rfl, rfl, hb, hsz, c, hC⟩ := hrel
    clear hmk
    by_cases hlt : k < L.length
    · have ha := (h.below hx hb) k hlt
      obtain ⟨v, a1, a2, a3, a4⟩ := ha
      have s1 : wr.cell? ⟨w.heap.size, k * 3, none⟩ = some (qf L c k (k * 3)) := hC.row.cell (by omega)
      have s2 : wr.cell? ⟨w.heap.size, k * 3 + 1, none⟩ = some (qf L c k (k * 3 + 1)) := hC.row.cell (by omega)
      have s3 : wr.cell? ⟨w.heap.size, k * 3 + 2, none⟩ = some (qf L c k (k * 3 + 2)) := hC.row.cell (by omega)
      have f1 : wr.frozen? ⟨w.heap.size, k * 3, none⟩ = false := hC.row.frozen _
      have f2 : wr.frozen? ⟨w.heap.size, k * 3 + 1, none⟩ = false := hC.row.frozen _
      have f3 : wr.frozen? ⟨w.heap.size, k * 3 + 2, none⟩ = false := hC.row.frozen _
      go_wp2_with fail
      refine (toQ _ _ v _ wr a4 (hl k hlt)).mono ?_
      rintro e w1 ⟨c', rfl, hc', ho, hb1⟩
      obtain ⟨hc1, hf1⟩ := bcell hb1
      rw [← hc1 _ _ hsz] at s1 s2 s3
      rw [← hf1 _ _ hsz] at f1 f2 f3
      clear hc1 hf1 a1 a2 a3
      go_wp2
      go_roundg (L.length - (k + 1))
      case measure => omega
      case rel =>
        have hS := copyQ_step hC hb1 (Nat.le_refl _) (by omega) ho
        have eg : L.getD k q0 = L[k] := by simp [List.getD, hlt]
        rw [eg] at hS
        refine ⟨k + 1, by omega, rfl, by simp, ?_, ?_, _, hS⟩
        · exact (((hb.trans (hb1.mono (by omega))).setCell (Nat.le_refl _) _).setCell (Nat.le_refl _) _).setCell (Nat.le_refl _) _
        · have := hb1.size; simp [World.setCell]; omega
    · have e : k = L.length := by omega
      subst e
      go_wp2
      go_ret
      exact ⟨rfl, ⟨_, hC⟩, hb⟩
set_option maxRecDepth 100000 in
theorem toQS_nil (w : World) :
    Calls Tryd.prog 42 #[.slice none 0 0] w fun e w' => e = .returned (.slice (some ⟨w.heap.size, 0, none⟩) 0 0) ∧ (∃ c, CopyQ w.heap.size w.heap.size w' [] 0 0 c) ∧ Below w.heap.size w w' := by
  have hmk : ∀ w, (Instr.makeSlice 42 (.int .i64 0) (.int .i64 0)).run Tryd.prog w = .ok (.slice (some ⟨w.heap.size, 0, none⟩) 0 0) (w.alloc (.cells (madeCells #[.slice none 0 0, .int .i64 0, .int .i64 0] 0) 81)) :=
    run_make3 (P := Tryd.prog) 42 81 _ _ _ 40 Tryd.underlying42 infoQ rfl .i64 .i64 0 (by omega) (by omega)
  have hC : CopyQ w.heap.size w.heap.size (w.alloc (.cells (madeCells #[.slice none 0 0, .int .i64 0, .int .i64 0] 0) 81)) [] 0 0 (fun _ => 0) :=
    ⟨(rowIs_made3 w (.slice none 0 0) (.int .i64 0) (.int .i64 0) 0 81).congr (fun j hj => by omega), fun j hj => absurd hj (Nat.not_lt_zero _)⟩
  have hB : Below w.heap.size w (w.alloc (.cells (madeCells #[.slice none 0 0, .int .i64 0, .int .i64 0] 0) 81)) := (Below.refl _ _).alloc (Nat.le_refl _) _
  go_enter Tryd.func42, Tryd.ntmps42
  go_wp2
  go_loopg [4] 0 (fun g i wr => i = .int .i64 0 ∧ Below w.heap.size w wr ∧ CopyQ w.heap.size w.heap.size wr [] 0 0 (fun _ => 0))
  case atStart => exact ⟨rfl, hB, hC⟩
  case round =>
    obtain ⟨rfl, hB, hC⟩ := hrel
    clear hmk
    go_wp2
    go_ret
    exact ⟨rfl, ⟨_, hC⟩, hB⟩
/-- L lies copied in block b, its lists in blocks above base. -/
def Qs (w : World) (base b : Nat) (L : List Qt) : Prop := ∃ c, CopyQ base b w L L.length L.length c
theorem Qs.below {w w' : World} {base b : Nat} {L : List Qt} (h : Qs w base b L) (hb : Below w.heap.size w w') : Qs w' base b L := by
  obtain ⟨c, h⟩ := h
  exact ⟨c, World.rowIs.of_block h.row (hb.block b h.row.lt), fun j hj => ⟨(h.own j hj).1, (h.own j hj).2.below hb⟩⟩
theorem Qs.lt {w : World} {base b : Nat} {L : List Qt} (h : Qs w base b L) : b < w.heap.size := by
  obtain ⟨c, h⟩ := h
  exact h.row.lt
/-- What is read of quota k. -/
theorem Qs.at {w : World} {base b : Nat} {L : List Qt} (h : Qs w base b L) {k : Nat} (hk : k < L.length) :
    ∃ c, w.cell? ⟨b, k * 3, none⟩ = some (.slice (some ⟨c, 0, none⟩) (L.getD k q0).1.length (L.getD k q0).1.length) ∧ w.cell? ⟨b, k * 3 + 1, none⟩ = some (.int .i64 (L.getD k q0).2.1) ∧ w.cell? ⟨b, k * 3 + 2, none⟩ = some (.int .i64 (L.getD k q0).2.2) ∧
      RowV w (.slice (some ⟨c, 0, none⟩) (L.getD k q0).1.length (L.getD k q0).1.length) (L.getD k q0).1 := by
  obtain ⟨c, h⟩ := h
  refine ⟨c k, ?_, ?_, ?_, (h.own k hk).2.row _⟩
  · have e1 : k * 3 / 3 = k := by omega
    have e2 : k * 3 % 3 = 0 := by omega
    have := h.row.cell (i := k * 3) (by omega)
    rw [this]; simp [qf, e1, e2, hk]
  · have e1 : (k * 3 + 1) / 3 = k := by omega
    have e2 : (k * 3 + 1) % 3 = 1 := by omega
    have := h.row.cell (i := k * 3 + 1) (by omega)
    rw [this]; simp [qf, e1, e2, hk]
  · have e1 : (k * 3 + 2) / 3 = k := by omega
    have e2 : (k * 3 + 2) % 3 = 2 := by omega
    have := h.row.cell (i := k * 3 + 2) (by omega)
    rw [this]; simp [qf, e1, e2, hk]
theorem toQS_any (v : Value) (L : List Qt) (w : World) (h : ListQ w v L) (hn : L.length ≤ 1048576) (hl : ∀ k, k < L.length → (L.getD k q0).1.length ≤ 1048576) :
    Calls Tryd.prog 42 #[v] w fun e w' => e = .returned (.slice (some ⟨w.heap.size, 0, none⟩) L.length L.length) ∧ Qs w' w.heap.size w.heap.size L ∧ Below w.heap.size w w' := by
  rcases h with ⟨rfl, rfl⟩ | ⟨x, cap, rfl, hx, h⟩
  · exact toQS_nil w
  · exact toQS_some x L cap w hx h hn hl
end Go.Proofs.YtfjpjiieocdgeaaDoor
