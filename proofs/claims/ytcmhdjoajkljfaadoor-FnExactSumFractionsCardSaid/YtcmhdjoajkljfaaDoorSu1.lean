/- Lists of fractions in a world: what came in, copied and compared. -/
import Derived.Test.YtcmhdjoajkljfaaDoorSOps
import Derived.Test.YtcmhdjoajkljfaaDoorValid0
import Derived.Deep.OwnRows
import Derived.Deep.LoopGhost
import Derived.StillTailTactics
namespace Go.Proofs.YtcmhdjoajkljfaaDoor
open Go.ChangeShapes Go.WideShapes Go.ChangeAt Go.RowKit Go.Deep
set_option linter.unusedSimpArgs false
set_option linter.unusedVariables false
set_option maxRecDepth 100000 in
theorem infoF : (Tryd.prog.info? 37).map (fun i => (i.zero, i.size, i.bytes)) = some (some (.agg #[.int .i64 0, .int .i64 0]), 2, 16) := by kernel_rfl
abbrev Fq := Int × Int
def ArgF (w : World) (x : Addr) (L : List Fq) : Prop :=
  ∀ k, k < L.length → w.cell? (x.add (k * 2)) = some (.int .i64 (L.getD k (0, 0)).1) ∧ w.cell? ⟨(x.add (k * 2)).block, (x.add (k * 2)).off + 1, none⟩ = some (.int .i64 (L.getD k (0, 0)).2)
theorem ArgF.below {w w' : World} {x : Addr} {L : List Fq} (h : ArgF w x L) (hx : 0 < L.length → x.block < w.heap.size) (hb : Below w.heap.size w w') : ArgF w' x L := fun k hk => by
  have hx := hx (by omega)
  obtain ⟨h1, h2⟩ := h k hk
  exact ⟨(hb.cell (by rw [block_add]; exact hx)).trans h1, (hb.cell (by show (x.add (k * 2)).block < _; rw [block_add]; exact hx)).trans h2⟩
def ListF (w : World) (v : Value) (L : List Fq) : Prop := (v = .slice none 0 0 ∧ L = []) ∨ ∃ (x : Addr) (cap : Nat), v = .slice (some x) L.length cap ∧ (0 < L.length → x.block < w.heap.size) ∧ ArgF w x L
theorem ListF.below {w w' : World} {v : Value} {L : List Fq} (h : ListF w v L) (hb : Below w.heap.size w w') : ListF w' v L := by
  rcases h with h | ⟨x, cap, rfl, hx, h⟩
  · exact .inl h
  · exact .inr ⟨x, cap, rfl, fun h => Nat.lt_of_lt_of_le (hx h) hb.size, h.below hx hb⟩
theorem ListF.shape {w : World} {v : Value} {L : List Fq} (h : ListF w v L) : ∃ a cap, v = .slice a L.length cap := by
  rcases h with ⟨rfl, rfl⟩ | ⟨x, cap, rfl, -, -⟩
  · exact ⟨none, 0, rfl⟩
  · exact ⟨_, cap, rfl⟩
theorem run_make2 {P : Program} (t e : TypeId) (z0 z1 : Value) (bytes : Nat) (ht : P.underlying t = some (.slice e)) (hinfo : (P.info? e).map (fun i => (i.zero, i.size, i.bytes)) = some (some (.agg #[z0, z1]), 2, bytes))
    (kl kc : IntKind) (n : Nat) (hbytes : bytes * n ≤ 281474976710656) (h63 : n ≤ 9223372036854775807) (w : World) :
    (Instr.makeSlice t (.int kl (n : Int)) (.int kc (n : Int))).run P w = .ok (.slice (some ⟨w.heap.size, 0, none⟩) n n) (w.alloc (.cells (madeCells #[z0, z1] (n * 2)) e)) := by
  obtain ⟨i, hi, hzz⟩ := Option.map_eq_some_iff.1 hinfo
  simp only [Prod.mk.injEq] at hzz
  obtain ⟨hz, hs, hb⟩ := hzz
  have hb' : (i.bytes : Int) * (n : Int) ≤ 281474976710656 := by
    have h : ((i.bytes * n : Nat) : Int) ≤ 281474976710656 := by rw [hb]; omega
    rwa [Int.natCast_mul] at h
  have hr := run_make (P := P) w t e i _ ht hi hz kl kc n n (by omega) (Int.le_refl _) hb' (by omega)
  have hc : (Value.agg #[z0, z1]).cells = #[z0, z1] := by rfl
  simp only [Int.toNat_natCast, hs, hc] at hr
  exact hr
theorem rowIs_made2 (w : World) (z0 z1 : Value) (n : Nat) (t : TypeId) : (w.alloc (.cells (madeCells #[z0, z1] (n * 2)) t)).rowIs w.heap.size t (n * 2) (fun j => if j % 2 = 0 then z0 else z1) :=
  ⟨_, blk_alloc_new _ _, size_madeCells _ _, fun i hi => by
    have e : (#[z0, z1] : Array Value).size = 2 := rfl
    simp only [madeCells, Array.getElem?_map, Array.getElem?_range, if_pos hi, e]
    rcases Nat.mod_two_eq_zero_or_one i with h | h <;> simp [h]⟩
/-- What cell j of the new row holds when the first k fractions are laid. -/
def ff (L : List Fq) (k : Nat) : Nat → Value := fun j => if j / 2 < k then (if j % 2 = 0 then .int .i64 (L.getD (j / 2) (0, 0)).1 else .int .i64 (L.getD (j / 2) (0, 0)).2) else .int .i64 0
/-- L lies copied in block b. -/
def Fs (w : World) (b : Nat) (L : List Fq) : Prop := w.rowIs b 37 (L.length * 2) (ff L L.length)
theorem Fs.below {w w' : World} {b : Nat} {L : List Fq} (h : Fs w b L) (hb : Below w.heap.size w w') : Fs w' b L := World.rowIs.of_block h (hb.block b (World.rowIs.lt h))
theorem Fs.at {w : World} {b : Nat} {L : List Fq} (h : Fs w b L) {k : Nat} (hk : k < L.length) :
    w.cell? ⟨b, k * 2, none⟩ = some (.int .i64 (L.getD k (0, 0)).1) ∧ w.cell? ⟨b, k * 2 + 1, none⟩ = some (.int .i64 (L.getD k (0, 0)).2) := by
  constructor
  · have e1 : k * 2 / 2 = k := by omega
    have e2 : k * 2 % 2 = 0 := by omega
    rw [World.rowIs.cell h (i := k * 2) (by omega)]; simp [ff, e1, e2, hk]
  · have e1 : (k * 2 + 1) / 2 = k := by omega
    have e2 : (k * 2 + 1) % 2 = 1 := by omega
    rw [World.rowIs.cell h (i := k * 2 + 1) (by omega)]; simp [ff, e1, e2, hk]
theorem ff_step (L : List Fq) (k j : Nat) :
    (if j = k * 2 + 1 then Value.int .i64 (L.getD k (0, 0)).2 else if j = k * 2 then .int .i64 (L.getD k (0, 0)).1 else ff L k j) = ff L (k + 1) j := by
  unfold ff
  by_cases e1 : j = k * 2 + 1
  · subst e1
    have h1 : (k * 2 + 1) / 2 = k := by omega
    have h2 : (k * 2 + 1) % 2 = 1 := by omega
    simp [h1, h2]
  · by_cases e2 : j = k * 2
    · subst e2
      have h1 : (k * 2) / 2 = k := by omega
      have h2 : (k * 2) % 2 = 0 := by omega
      simp [h1, h2]
    · rw [if_neg e1, if_neg e2]
      by_cases h : j / 2 < k
      · have h4 : j / 2 < k + 1 := by omega
        rw [if_pos h, if_pos h4]
      · have h4 : ¬ j / 2 < k + 1 := by omega
        rw [if_neg h, if_neg h4]
theorem szF (v : Value) (L : List Fq) (w : World) (h : ListF w v L) (hl : L.length ≤ 9223372036854775807) :
    Calls Tryd.prog 15 #[v, .int .i64 1048576] w fun e w' => (∃ r, e = .returned (.int .i64 r) ∧ -1 ≤ r ∧ r ≤ 1048576 ∧ (0 ≤ r → L.length ≤ 1048576)) ∧ w = w' := by
  obtain ⟨a, cap, rfl⟩ := h.shape
  clear h
  by_cases hc : 1048576 < L.length
  · go_enter Tryd.func15, Tryd.ntmps15
    go_wp2
    go_ret
    exact ⟨⟨_, rfl, by omega, by omega, fun h => by omega⟩, rfl⟩
  · go_enter Tryd.func15, Tryd.ntmps15
    go_wp2
    go_ret
    exact ⟨⟨_, rfl, by omega, by omega, fun h => by omega⟩, rfl⟩
set_option maxRecDepth 100000 in
theorem toFS_some (x : Addr) (L : List Fq) (cap : Nat) (w : World) (hx : 0 < L.length → x.block < w.heap.size) (h : ArgF w x L) (hn : L.length ≤ 1048576) :
    Calls Tryd.prog 17 #[.slice (some x) L.length cap] w fun e w' => e = .returned (.slice (some ⟨w.heap.size, 0, none⟩) L.length L.length) ∧ Fs w' w.heap.size L ∧ Below w.heap.size w w' := by
  have hmk := run_make2 (P := Tryd.prog) 40 37 _ _ 16 Tryd.underlying40 infoF .i64 .i64 L.length (by omega) (by omega)
  go_enter Tryd.func17, Tryd.ntmps17
  go_wp2
  go_loopg [4] L.length (fun g i wr => ∃ k : Nat, k ≤ L.length ∧ g = L.length - k ∧ i = .int .i64 k ∧ Below w.heap.size w wr ∧ w.heap.size < wr.heap.size ∧ wr.rowIs w.heap.size 37 (L.length * 2) (ff L k))
  case atStart => exact ⟨0, Nat.zero_le _, rfl, rfl, (Below.refl _ _).alloc (Nat.le_refl _) _, by simp, (rowIs_made2 _ _ _ _ _).congr (fun j _ => by simp [ff])⟩
  case round =>
    obtain ⟨k, hk, rfl, rfl, hb, hsz, hC⟩ := hrel
    clear hmk
    by_cases hlt : k < L.length
    · obtain ⟨a1, a2⟩ := (h.below hx hb) k hlt
      have s1 : wr.cell? ⟨w.heap.size, k * 2, none⟩ = some (ff L k (k * 2)) := hC.cell (by omega)
      have s2 : wr.cell? ⟨w.heap.size, k * 2 + 1, none⟩ = some (ff L k (k * 2 + 1)) := hC.cell (by omega)
      have f1 : wr.frozen? ⟨w.heap.size, k * 2, none⟩ = false := hC.frozen _
      have f2 : wr.frozen? ⟨w.heap.size, k * 2 + 1, none⟩ = false := hC.frozen _
      obtain ⟨q, hq⟩ : ∃ q, L.getD k (0, 0) = q := ⟨_, rfl⟩
      rw [hq] at a1 a2
      obtain ⟨n, d⟩ := q
      have HQ := Lib.hid hq
      simp only at a1 a2
      clear hq
      go_wp2_with fail
      refine (toF n d wr).mono ?_
      rintro e w1 ⟨rfl, hb1⟩
      obtain ⟨hc1, hf1⟩ := bcell hb1
      rw [← hc1 _ _ hsz] at s1 s2
      rw [← hf1 _ _ hsz] at f1 f2
      clear hc1 hf1 a1 a2
      go_wp2
      go_roundg (L.length - (k + 1))
      case measure => omega
      case rel =>
        refine ⟨k + 1, by omega, rfl, by simp, ((hb.trans (hb1.mono (by omega))).setCell (Nat.le_refl _) _).setCell (Nat.le_refl _) _, by have := hb1.size; simp [World.setCell]; omega, ?_⟩
        refine (((hC.of_block (hb1.block _ hsz)).set (k * 2) _).set (k * 2 + 1) _).congr (fun j _ => ?_)
        rw [← ff_step L k j, HQ.out]
    · have e : k = L.length := by omega
      subst e
      go_wp2
      go_ret
      exact ⟨rfl, hC, hb⟩
set_option maxRecDepth 100000 in
theorem toFS_nil (w : World) :
    Calls Tryd.prog 17 #[.slice none 0 0] w fun e w' => e = .returned (.slice (some ⟨w.heap.size, 0, none⟩) 0 0) ∧ Fs w' w.heap.size [] ∧ Below w.heap.size w w' := by
  have hmk : ∀ w, (Instr.makeSlice 40 (.int .i64 0) (.int .i64 0)).run Tryd.prog w = .ok (.slice (some ⟨w.heap.size, 0, none⟩) 0 0) (w.alloc (.cells (madeCells #[.int .i64 0, .int .i64 0] 0) 37)) :=
    run_make2 (P := Tryd.prog) 40 37 _ _ 16 Tryd.underlying40 infoF .i64 .i64 0 (by omega) (by omega)
  have hC : Fs (w.alloc (.cells (madeCells #[.int .i64 0, .int .i64 0] 0) 37)) w.heap.size [] := (rowIs_made2 w (.int .i64 0) (.int .i64 0) 0 37).congr (fun j hj => by omega)
  have hB : Below w.heap.size w (w.alloc (.cells (madeCells #[.int .i64 0, .int .i64 0] 0) 37)) := (Below.refl _ _).alloc (Nat.le_refl _) _
  go_enter Tryd.func17, Tryd.ntmps17
  go_wp2
  go_loopg [4] 0 (fun g i wr => i = .int .i64 0 ∧ Below w.heap.size w wr ∧ Fs wr w.heap.size [])
  case atStart => exact ⟨rfl, hB, hC⟩
  case round =>
    obtain ⟨rfl, hB, hC⟩ := hrel
    clear hmk
    go_wp2
    go_ret
    exact ⟨rfl, hC, hB⟩
theorem toFS (v : Value) (L : List Fq) (w : World) (h : ListF w v L) (hn : L.length ≤ 1048576) :
    Calls Tryd.prog 17 #[v] w fun e w' => e = .returned (.slice (some ⟨w.heap.size, 0, none⟩) L.length L.length) ∧ Fs w' w.heap.size L ∧ Below w.heap.size w w' := by
  rcases h with ⟨rfl, rfl⟩ | ⟨x, cap, rfl, hx, h⟩
  · exact toFS_nil w
  · exact toFS_some x L cap w hx h hn
theorem eqF (n d : Int) (w : World) : Calls Tryd.prog 19 #[.agg #[.int .i64 n, .int .i64 d], .agg #[.int .i64 n, .int .i64 d]] w fun e w' => e = .returned (.bool true) ∧ Below w.heap.size w w' := by
  have b1 := ((Below.refl w.heap.size w).alloc (Nat.le_refl _) (.cells #[.int .i64 n, .int .i64 d] 37)).alloc (by simp) (.cells #[.int .i64 n, .int .i64 d] 37)
  go_enter Tryd.func19, Tryd.ntmps19
  go_wp2
  go_ret
  exact ⟨rfl, b1⟩
set_option maxRecDepth 100000 in
theorem eqFS (L : List Fq) (b b' cap cap' : Nat) (w : World) (h : Fs w b L) (h' : Fs w b' L) (hf : L.length ≤ 1048576) :
    Calls Tryd.prog 20 #[.slice (some ⟨b, 0, none⟩) L.length cap, .slice (some ⟨b', 0, none⟩) L.length cap'] w fun e w' => e = .returned (.bool true) ∧ Below w.heap.size w w' := by
  go_enter Tryd.func20, Tryd.ntmps20
  go_wp2
  go_loopg [5] L.length (fun g i wr => ∃ k : Nat, k ≤ L.length ∧ g = L.length - k ∧ i = .int .i64 k ∧ Below w.heap.size w wr)
  case atStart => exact ⟨0, Nat.zero_le _, rfl, rfl, Below.refl _ _⟩
  case round =>
    obtain ⟨k, hk, rfl, rfl, hb⟩ := hrel
    by_cases hlt : k < L.length
    · obtain ⟨a1, a2⟩ := (h.below hb).at hlt
      obtain ⟨d1, d2⟩ := (h'.below hb).at hlt
      have bd : Below wr.heap.size wr wr.drew := (Below.refl _ _).drew
      generalize L.getD k (0, 0) = q at a1 a2 d1 d2
      obtain ⟨n, d⟩ := q
      simp only at a1 a2 d1 d2
      have HE := eqF n d wr.drew
      go_wp2_with fail
      go_still_tail 8, (by kernel_rfl)
      change wpList _ _ _ _ _ wr.drew
      go_wp2_with fail
      refine HE.mono ?_
      rintro e w1 ⟨rfl, hb1⟩
      go_wp2
      go_roundg (L.length - (k + 1))
      case measure => omega
      case rel => exact ⟨k + 1, by omega, rfl, by simp, hb.trans (bd.trans hb1 |>.mono hb.size)⟩
    · have e : k = L.length := by omega
      subst e
      go_wp2
      go_ret
      exact ⟨rfl, hb⟩
end Go.Proofs.YtcmhdjoajkljfaaDoor
