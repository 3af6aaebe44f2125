/- Edits in a world: what came in, copied, sized, compared. -/
import Derived.Test.YtkaakomiimcbmaaVo5
namespace Go.Proofs.Ytkaakomiimcbmaa
open Go.ChangeShapes Go.WideShapes Go.ChangeAt Go.RowKit Go.Deep
set_option linter.unusedSimpArgs false
set_option linter.unusedVariables false
abbrev Ed := Int × Int × ByteArray × ByteArray
abbrev e0 : Ed := (0, 0, ⟨#[]⟩, ⟨#[]⟩)
set_option maxRecDepth 100000 in
theorem infoE : (Try.prog.info? 54).map (fun i => (i.zero, i.size, i.bytes)) = some (some (.agg #[.int .i64 0, .int .i64 0, .string ⟨#[]⟩, .string ⟨#[]⟩]), 4, 48) := by kernel_rfl
theorem run_make4 {P : Program} (t e : TypeId) (z0 z1 z2 z3 : Value) (bytes : Nat) (ht : P.underlying t = some (.slice e)) (hinfo : (P.info? e).map (fun i => (i.zero, i.size, i.bytes)) = some (some (.agg #[z0, z1, z2, z3]), 4, bytes)) (h0 : (Value.agg #[z0, z1, z2, z3]).cells = #[z0, z1, z2, z3])
    (kl kc : IntKind) (n : Nat) (hbytes : bytes * n ≤ 281474976710656) (h63 : n ≤ 9223372036854775807) (w : World) :
    (Instr.makeSlice t (.int kl (n : Int)) (.int kc (n : Int))).run P w = .ok (.slice (some ⟨w.heap.size, 0, none⟩) n n) (w.alloc (.cells (madeCells #[z0, z1, z2, z3] (n * 4)) e)) := by
  obtain ⟨i, hi, hzz⟩ := Option.map_eq_some_iff.1 hinfo
  simp only [Prod.mk.injEq] at hzz
  obtain ⟨hz, hs, hb⟩ := hzz
  have hb' : (i.bytes : Int) * (n : Int) ≤ 281474976710656 := by
    have h : ((i.bytes * n : Nat) : Int) ≤ 281474976710656 := by rw [hb]; omega
    rwa [Int.natCast_mul] at h
  have hr := run_make (P := P) w t e i _ ht hi hz kl kc n n (by omega) (Int.le_refl _) hb' (by omega)
  simp only [Int.toNat_natCast, hs, h0] at hr
  exact hr
theorem rowIs_made4 (w : World) (z0 z1 z2 z3 : Value) (n : Nat) (t : TypeId) : (w.alloc (.cells (madeCells #[z0, z1, z2, z3] (n * 4)) t)).rowIs w.heap.size t (n * 4) (fun j => if j % 4 = 0 then z0 else if j % 4 = 1 then z1 else if j % 4 = 2 then z2 else z3) :=
  ⟨_, blk_alloc_new _ _, size_madeCells _ _, fun i hi => by
    have e : (#[z0, z1, z2, z3] : Array Value).size = 4 := rfl
    simp only [madeCells, Array.getElem?_map, Array.getElem?_range, if_pos hi, e]
    have : i % 4 = 0 ∨ i % 4 = 1 ∨ i % 4 = 2 ∨ i % 4 = 3 := by omega
    rcases this with h | h | h | h <;> simp [h]⟩
/-- An edit that lies at a block and an offset. -/
def EdAt (w : World) (b o : Nat) (e : Ed) : Prop :=
  w.cell? ⟨b, o, none⟩ = some (.int .i64 e.1) ∧ w.cell? ⟨b, o + 1, none⟩ = some (.int .i64 e.2.1) ∧ w.cell? ⟨b, o + 2, none⟩ = some (.string e.2.2.1) ∧ w.cell? ⟨b, o + 3, none⟩ = some (.string e.2.2.2)
/-- Element k of a list of edits that lies at x, each of four cells. -/
def ArgE (w : World) (x : Addr) (L : List Ed) : Prop :=
  ∀ k, k < L.length → w.cell? (x.add (k * 4)) = some (.int .i64 (L.getD k e0).1) ∧ w.cell? ⟨(x.add (k * 4)).block, (x.add (k * 4)).off + 1, none⟩ = some (.int .i64 (L.getD k e0).2.1) ∧ w.cell? ⟨(x.add (k * 4)).block, (x.add (k * 4)).off + 2, none⟩ = some (.string (L.getD k e0).2.2.1) ∧ w.cell? ⟨(x.add (k * 4)).block, (x.add (k * 4)).off + 3, none⟩ = some (.string (L.getD k e0).2.2.2)
theorem ArgE.below {w w' : World} {x : Addr} {L : List Ed} (h : ArgE w x L) (hx : 0 < L.length → x.block < w.heap.size) (hb : Below w.heap.size w w') : ArgE w' x L := fun k hk => by
  have hx := hx (by omega)
  obtain ⟨h1, h2, h3, h4⟩ := h k hk
  exact ⟨(hb.cell (by rw [block_add]; exact hx)).trans h1, (hb.cell (by show (x.add (k * 4)).block < _; rw [block_add]; exact hx)).trans h2, (hb.cell (by show (x.add (k * 4)).block < _; rw [block_add]; exact hx)).trans h3, (hb.cell (by show (x.add (k * 4)).block < _; rw [block_add]; exact hx)).trans h4⟩
def ListE (w : World) (v : Value) (L : List Ed) : Prop := (v = .slice none 0 0 ∧ L = []) ∨ ∃ (x : Addr) (cap : Nat), v = .slice (some x) L.length cap ∧ (0 < L.length → x.block < w.heap.size) ∧ ArgE w x L
theorem ListE.below {w w' : World} {v : Value} {L : List Ed} (h : ListE w v L) (hb : Below w.heap.size w w') : ListE w' v L := by
  rcases h with h | ⟨x, cap, rfl, hx, h⟩
  · exact .inl h
  · exact .inr ⟨x, cap, rfl, fun h => Nat.lt_of_lt_of_le (hx h) hb.size, h.below hx hb⟩
theorem ListE.shape {w : World} {v : Value} {L : List Ed} (h : ListE w v L) : ∃ a cap, v = .slice a L.length cap := by
  rcases h with ⟨rfl, rfl⟩ | ⟨x, cap, rfl, -, -⟩
  · exact ⟨none, 0, rfl⟩
  · exact ⟨_, cap, rfl⟩
/-- What cell j of a new row holds when the first k edits are laid. -/
def ef (L : List Ed) (k : Nat) : Nat → Value := fun j =>
  if j / 4 < k then (if j % 4 = 0 then .int .i64 (L.getD (j / 4) e0).1 else if j % 4 = 1 then .int .i64 (L.getD (j / 4) e0).2.1 else if j % 4 = 2 then .string (L.getD (j / 4) e0).2.2.1 else .string (L.getD (j / 4) e0).2.2.2)
  else (if j % 4 = 0 then .int .i64 0 else if j % 4 = 1 then .int .i64 0 else if j % 4 = 2 then .string ⟨#[]⟩ else .string ⟨#[]⟩)
/-- L lies in block b, which is the call's own. -/
def Es (w : World) (b : Nat) (L : List Ed) : Prop := w.rowIs b 54 (L.length * 4) (ef L L.length)
theorem Es.below {w w' : World} {b : Nat} {L : List Ed} (h : Es w b L) (hb : Below w.heap.size w w') : Es w' b L := World.rowIs.of_block h (hb.block b (World.rowIs.lt h))
theorem Es.lt {w : World} {b : Nat} {L : List Ed} (h : Es w b L) : b < w.heap.size := World.rowIs.lt h
theorem Es.at {w : World} {b : Nat} {L : List Ed} (h : Es w b L) {k : Nat} (hk : k < L.length) : EdAt w b (k * 4) (L.getD k e0) := by
  refine ⟨?_, ?_, ?_, ?_⟩
  · have e1 : k * 4 / 4 = k := by omega
    have e2 : k * 4 % 4 = 0 := by omega
    rw [World.rowIs.cell h (i := k * 4) (by omega)]; simp [ef, e1, e2, hk]
  · have e1 : (k * 4 + 1) / 4 = k := by omega
    have e2 : (k * 4 + 1) % 4 = 1 := by omega
    rw [World.rowIs.cell h (i := k * 4 + 1) (by omega)]; simp [ef, e1, e2, hk]
  · have e1 : (k * 4 + 2) / 4 = k := by omega
    have e2 : (k * 4 + 2) % 4 = 2 := by omega
    rw [World.rowIs.cell h (i := k * 4 + 2) (by omega)]; simp [ef, e1, e2, hk]
  · have e1 : (k * 4 + 3) / 4 = k := by omega
    have e2 : (k * 4 + 3) % 4 = 3 := by omega
    rw [World.rowIs.cell h (i := k * 4 + 3) (by omega)]; simp [ef, e1, e2, hk]
theorem Es.list {w : World} {b : Nat} {L : List Ed} (h : Es w b L) (cap : Nat) : ListE w (.slice (some ⟨b, 0, none⟩) L.length cap) L :=
  .inr ⟨_, cap, rfl, fun _ => h.lt, fun k hk => by
    obtain ⟨h1, h2, h3, h4⟩ := h.at hk
    rw [Addr.add_lit, Nat.zero_add]
    exact ⟨h1, h2, h3, h4⟩⟩
theorem ef_step (L : List Ed) (k j : Nat) :
    (if j = k * 4 + 3 then Value.string (L.getD k e0).2.2.2 else if j = k * 4 + 2 then .string (L.getD k e0).2.2.1 else if j = k * 4 + 1 then .int .i64 (L.getD k e0).2.1 else if j = k * 4 then .int .i64 (L.getD k e0).1 else ef L k j) = ef L (k + 1) j := by
  unfold ef
  by_cases q3 : j = k * 4 + 3
  · subst q3
    have h1 : (k * 4 + 3) / 4 = k := by omega
    have h2 : (k * 4 + 3) % 4 = 3 := by omega
    simp [h1, h2]
  by_cases q2 : j = k * 4 + 2
  · subst q2
    have h1 : (k * 4 + 2) / 4 = k := by omega
    have h2 : (k * 4 + 2) % 4 = 2 := by omega
    simp [h1, h2]
  by_cases q1 : j = k * 4 + 1
  · subst q1
    have h1 : (k * 4 + 1) / 4 = k := by omega
    have h2 : (k * 4 + 1) % 4 = 1 := by omega
    simp [h1, h2]
  by_cases q0 : j = k * 4
  · subst q0
    have h1 : (k * 4) / 4 = k := by omega
    have h2 : (k * 4) % 4 = 0 := by omega
    simp [h1, h2]
  rw [if_neg q3, if_neg q2, if_neg q1, if_neg q0]
  by_cases h : j / 4 < k
  · have h4 : j / 4 < k + 1 := by omega
    rw [if_pos h, if_pos h4]
  · have h4 : ¬ j / 4 < k + 1 := by omega
    rw [if_neg h, if_neg h4]
theorem toE (k i : Int) (a b : ByteArray) (w : World) :
    Calls Try.prog 24 #[.agg #[.int .i64 k, .int .i64 i, .string a, .string b]] w fun e w' => e = .returned (.agg #[.int .i64 k, .int .i64 i, .string a, .string b]) ∧ Below w.heap.size w w' := by
  go_enter Try.func24, Try.ntmps24
  go_wp2
  refine bodyPost_ret (v := .agg #[.int .i64 k, .int .i64 i, .string a, .string b]) (by simp [results, Try.results24, go_sem]) rfl ⟨rfl, ?_⟩
  exact ((((Below.refl _ _).alloc (Nat.le_refl _) _).alloc (by simp) _).alloc (by simp; omega) _)
set_option maxHeartbeats 1000000 in
set_option maxRecDepth 100000 in
theorem toES_some (x : Addr) (L : List Ed) (cap : Nat) (w : World) (hx : 0 < L.length → x.block < w.heap.size) (h : ArgE w x L) (hn : L.length ≤ 1048576) :
    Calls Try.prog 13 #[.slice (some x) L.length cap] w fun e w' => e = .returned (.slice (some ⟨w.heap.size, 0, none⟩) L.length L.length) ∧ Es w' w.heap.size L ∧ Below w.heap.size w w' := by
  have hmk := run_make4 (P := Try.prog) 28 54 _ _ _ _ 48 Try.underlying28 infoE rfl .i64 .i64 L.length (by omega) (by omega)
  go_enter Try.func13, Try.ntmps13
  go_wp2
  go_loopg [4] L.length (fun g i wr => ∃ k : Nat, k ≤ L.length ∧ g = L.length - k ∧ i = .int .i64 k ∧ Below w.heap.size w wr ∧ w.heap.size < wr.heap.size ∧ wr.rowIs w.heap.size 54 (L.length * 4) (ef L k))
  case atStart => exact ⟨0, Nat.zero_le _, rfl, rfl, (Below.refl _ _).alloc (Nat.le_refl _) _, by simp, (rowIs_made4 _ _ _ _ _ _ _).congr (fun j _ => by simp [ef])⟩
  case round =>
    obtain ⟨k, hk, rfl, rfl, hb, hsz, hC⟩ := hrel
    clear hmk
    by_cases hlt : k < L.length
    · obtain ⟨a1, a2, a3, a4⟩ := (h.below hx hb) k hlt
      have s1 : wr.cell? ⟨w.heap.size, k * 4, none⟩ = some (ef L k (k * 4)) := hC.cell (by omega)
      have s2 : wr.cell? ⟨w.heap.size, k * 4 + 1, none⟩ = some (ef L k (k * 4 + 1)) := hC.cell (by omega)
      have s3 : wr.cell? ⟨w.heap.size, k * 4 + 2, none⟩ = some (ef L k (k * 4 + 2)) := hC.cell (by omega)
      have s4 : wr.cell? ⟨w.heap.size, k * 4 + 3, none⟩ = some (ef L k (k * 4 + 3)) := hC.cell (by omega)
      have f1 : wr.frozen? ⟨w.heap.size, k * 4, none⟩ = false := hC.frozen _
      have f2 : wr.frozen? ⟨w.heap.size, k * 4 + 1, none⟩ = false := hC.frozen _
      have f3 : wr.frozen? ⟨w.heap.size, k * 4 + 2, none⟩ = false := hC.frozen _
      have f4 : wr.frozen? ⟨w.heap.size, k * 4 + 3, none⟩ = false := hC.frozen _
      obtain ⟨q, hq⟩ : ∃ q, L.getD k e0 = q := ⟨_, rfl⟩
      rw [hq] at a1 a2 a3 a4
      obtain ⟨n, d, sa, sb⟩ := q
      have HQ := Lib.hid hq
      simp only at a1 a2 a3 a4
      clear hq
      go_wp2_with fail
      refine (toE n d sa sb wr).mono ?_
      rintro e w1 ⟨rfl, hb1⟩
      obtain ⟨hc1, hf1⟩ := bcell hb1
      rw [← hc1 _ _ hsz] at s1 s2 s3 s4
      rw [← hf1 _ _ hsz] at f1 f2 f3 f4
      clear hc1 hf1 a1 a2 a3 a4
      go_wp2
      go_roundg (L.length - (k + 1))
      case measure => omega
      case rel =>
        refine ⟨k + 1, by omega, rfl, by simp, ((((hb.trans (hb1.mono (by omega))).setCell (Nat.le_refl _) _).setCell (Nat.le_refl _) _).setCell (Nat.le_refl _) _).setCell (Nat.le_refl _) _, by have := hb1.size; simp [World.setCell]; omega, ?_⟩
        refine (((((hC.of_block (hb1.block _ hsz)).set (k * 4) _).set (k * 4 + 1) _).set (k * 4 + 2) _).set (k * 4 + 3) _).congr (fun j _ => ?_)
        rw [← ef_step L k j, HQ.out]
    · have e : k = L.length := by omega
      subst e
      go_wp2
      go_ret
      exact ⟨rfl, hC, hb⟩
set_option maxRecDepth 100000 in
theorem toES_nil (w : World) :
    Calls Try.prog 13 #[.slice none 0 0] w fun e w' => e = .returned (.slice (some ⟨w.heap.size, 0, none⟩) 0 0) ∧ Es w' w.heap.size [] ∧ Below w.heap.size w w' := by
  have hmk : ∀ w, (Instr.makeSlice 28 (.int .i64 0) (.int .i64 0)).run Try.prog w = .ok (.slice (some ⟨w.heap.size, 0, none⟩) 0 0) (w.alloc (.cells (madeCells #[.int .i64 0, .int .i64 0, .string ⟨#[]⟩, .string ⟨#[]⟩] 0) 54)) :=
    run_make4 (P := Try.prog) 28 54 _ _ _ _ 48 Try.underlying28 infoE rfl .i64 .i64 0 (by omega) (by omega)
  have hC : Es (w.alloc (.cells (madeCells #[.int .i64 0, .int .i64 0, .string ⟨#[]⟩, .string ⟨#[]⟩] 0) 54)) w.heap.size [] := (rowIs_made4 w (.int .i64 0) (.int .i64 0) (.string ⟨#[]⟩) (.string ⟨#[]⟩) 0 54).congr (fun j hj => by omega)
  have hB : Below w.heap.size w (w.alloc (.cells (madeCells #[.int .i64 0, .int .i64 0, .string ⟨#[]⟩, .string ⟨#[]⟩] 0) 54)) := (Below.refl _ _).alloc (Nat.le_refl _) _
  go_enter Try.func13, Try.ntmps13
  go_wp2
  go_loopg [4] 0 (fun g i wr => i = .int .i64 0 ∧ Below w.heap.size w wr ∧ Es wr w.heap.size [])
  case atStart => exact ⟨rfl, hB, hC⟩
  case round =>
    obtain ⟨rfl, hB, hC⟩ := hrel
    clear hmk
    go_wp2
    go_ret
    exact ⟨rfl, hC, hB⟩
theorem toES (v : Value) (L : List Ed) (w : World) (h : ListE w v L) (hn : L.length ≤ 1048576) :
    Calls Try.prog 13 #[v] w fun e w' => e = .returned (.slice (some ⟨w.heap.size, 0, none⟩) L.length L.length) ∧ Es w' w.heap.size L ∧ Below w.heap.size w w' := by
  rcases h with ⟨rfl, rfl⟩ | ⟨x, cap, rfl, hx, h⟩
  · exact toES_nil w
  · exact toES_some x L cap w hx h hn
end Go.Proofs.Ytkaakomiimcbmaa
