/- The texts of numbers, joined: textOfEach at numbers. -/
import Derived.Test.YtlpidgdlbannbabDoorDecI
import Derived.Test.YtlpidgdlbannbabDoorShelfJ
import Derived.Test.YtlpidgdlbannbabDoorTx0
import Derived.Test.YtlpidgdlbannbabDoorK1
namespace Go.Proofs.YtlpidgdlbannbabDoor
open Go.ChangeShapes Go.WideShapes Go.ChangeAt Go.RowKit Go.Deep
set_option linter.unusedSimpArgs false
set_option linter.unusedVariables false
theorem dec_len9 (k : Nat) : ∀ e, k < 10 ^ e → 0 < e → (Lib.decDigits k).length ≤ e := by
  intro e h he
  by_cases hk : 0 < k
  · rw [← digs_pos hk]; exact digs_len e k h
  · have : k = 0 := by omega
    subst this
    rw [Lib.decDigits, dif_pos (by decide)]
    simp; omega
theorem itoa_len9 {n : Int} (h1 : -1000000000 ≤ n) (h2 : n ≤ 1000000000) : (Lib.itoa n).length ≤ 11 := by
  unfold Lib.itoa
  split
  · have := dec_len9 n.natAbs 10 (by omega) (by omega)
    simp; omega
  · have := dec_len9 n.toNat 10 (by omega) (by omega)
    omega
set_option maxRecDepth 100000 in
theorem infoStr : (Tryd.prog.info? 9).map (fun i => (i.zero, i.size, i.bytes)) = some (some (.string ⟨#[]⟩), 1, 16) := by kernel_rfl
/-- The first k words of n lie in a row. -/
def wrd (T : Nat → List UInt8) (k : Nat) : Nat → Value := fun j => if j < k then strOf (T j) else .string ⟨#[]⟩
theorem wrd_step (T : Nat → List UInt8) (k j : Nat) : (if j = k then strOf (T k) else wrd T k j) = wrd T (k + 1) j := by
  unfold wrd
  by_cases e : j = k
  · subst e; simp
  · rw [if_neg e]
    by_cases h : j < k
    · rw [if_pos h, if_pos (by omega)]
    · rw [if_neg h, if_neg (by omega)]
def bytesOf (l : List UInt8) : ByteArray := ⟨l.toArray⟩
/-- strings.Join at a row of words. -/
theorem joined (c n : Nat) (T : List (List UInt8)) (s : UInt8) (cap : Nat) (w : World) (h : w.rowIs c 9 T.length (wrd (fun j => T.getD j []) T.length)) (hcap : T.length ≤ cap) (hn : T.length ≤ 1000) (hB : ∀ x ∈ T, x.length ≤ 10000) :
    Calls Tryd.prog 23 #[.slice (some ⟨c, 0, none⟩) T.length cap, .string ⟨#[s]⟩] w fun e w' => e = .returned (strOf (Lib.join T [s])) ∧ Below w.heap.size w w' := by
  have e1 : (T.map bytesOf).length = T.length := by simp
  have e2 : (T.map bytesOf).map (fun b => b.data.toList) = T := by
    rw [List.map_map]
    conv => rhs; rw [← List.map_id T]
    refine List.map_congr_left (fun x _ => ?_)
    simp [bytesOf]
  have hj := join_len s hB
  have hm : T.length * 10001 ≤ 1000 * 10001 := Nat.mul_le_mul_right _ hn
  have hlen : (Lib.join T [s]).length ≤ 140737488355328 := by omega
  have q := Tryd.strings_Join c 0 cap (T.map bytesOf) ⟨#[s]⟩ w (fun j x hx => by
    rw [List.getElem?_map] at hx
    obtain ⟨y, hy, rfl⟩ := Option.map_eq_some_iff.1 hx
    obtain ⟨hjl, hyy⟩ := List.getElem?_eq_some_iff.1 hy
    rw [Nat.zero_add, World.rowIs.cell h hjl]
    simp [wrd, hjl, strOf, bytesOf, hyy]) h.lt (by rw [e1]; omega) (by rw [e1]; exact hcap) (by rw [e2]; exact hlen)
  rw [e2, e1] at q
  exact q
theorem dec_val (n : Int) (w : World) (h1 : -1000000000 ≤ n) (h2 : n ≤ 1000000000) (hp : PowT w) :
    Calls Tryd.prog 25 #[.int .i64 n] w fun e w' => e = .returned (strOf (Lib.itoa n)) ∧ Below w.heap.size w w' := idec n w (by omega) (by omega) hp
set_option maxHeartbeats 1000000 in
set_option maxRecDepth 100000 in
theorem toe_int (v : Value) (l : List Int) (s : UInt8) (w : World) (h : RowV w v l) (hl : l.length ≤ 1000) (hr : ∀ x ∈ l, -1000000000 ≤ x ∧ x ≤ 1000000000) (hp : PowT w) :
    Calls Tryd.prog 24 #[v, .string ⟨#[s]⟩, .func (.func 25) #[] #[]] w fun e w' => e = .returned (strOf (Lib.join (l.map Lib.itoa) [s])) ∧ Below w.heap.size w w' := by
  have hmk := run_make_row' (P := Tryd.prog) 48 9 (.string ⟨#[]⟩) 16 Tryd.underlying48 infoStr rfl .i64 .i64 l.length (by omega) (by omega)
  have HR := Lib.hid hr
  have HP := Lib.hid hp
  have hB : ∀ x ∈ l.map Lib.itoa, x.length ≤ 10000 := fun x hx => by
    obtain ⟨y, hy, rfl⟩ := List.mem_map.1 hx
    have := itoa_len9 (hr y hy).1 (hr y hy).2
    omega
  have HB := Lib.hid hB
  have HV := Lib.hid h
  obtain ⟨va, vc, rfl⟩ := h.shape
  clear h hr hp hB
  go_enter Tryd.func24, Tryd.ntmps24
  go_wp2
  go_loopg [15] l.length (fun g i wr => ∃ k : Nat, k ≤ l.length ∧ g = l.length - k ∧ i = .int .i64 k ∧ Below w.heap.size w wr ∧ w.heap.size < wr.heap.size ∧ wr.rowIs w.heap.size 9 l.length (wrd (fun j => (l.map Lib.itoa).getD j []) k))
  case atStart => exact ⟨0, Nat.zero_le _, rfl, rfl, (Below.refl _ _).alloc (Nat.le_refl _) _, by simp, (World.rowIs_made _ _ _ _).congr (fun j _ => by simp [wrd])⟩
  case round =>
    obtain ⟨k, hk, rfl, rfl, hb, hsz, hC⟩ := hrel
    clear hmk
    by_cases hlt : k < l.length
    · obtain ⟨x, cp, hx0, hx, hc⟩ := (HV.out.below hb).cons (by intro h; subst h; simp at hlt)
      obtain ⟨rfl, rfl⟩ : va = some x ∧ vc = cp := by simpa [eq_comm] using hx0
      have c1 := hc k hlt
      have s1 : wr.cell? ⟨w.heap.size, k, none⟩ = some (wrd (fun j => (l.map Lib.itoa).getD j []) k k) := hC.cell (by omega)
      have f1 : wr.frozen? ⟨w.heap.size, k, none⟩ = false := hC.frozen _
      have hgm := getD_mapT Lib.itoa l 0 hlt
      obtain ⟨y, hy⟩ : ∃ y, l.getD k 0 = y := ⟨_, rfl⟩
      have hym : y ∈ l := by rw [← hy]; simp [List.getD, hlt]
      have HD := dec_val y wr (HR.out y hym).1 (HR.out y hym).2 (HP.out.below hb)
      rw [hy] at c1 hgm
      have HG := Lib.hid hgm
      unfold strOf at HD
      clear hc hx0 hy hym hgm
      go_wp2_with fail
      refine HD.mono ?_
      rintro e w1 ⟨rfl, hb1⟩
      obtain ⟨hc1, hf1⟩ := bcell hb1
      rw [← hc1 _ _ hsz] at s1
      rw [← hf1 _ _ hsz] at f1
      clear hc1 hf1 c1 HD
      go_wp2
      go_roundg (l.length - (k + 1))
      case measure => omega
      case rel =>
        refine ⟨k + 1, by omega, rfl, by simp, (hb.trans (hb1.mono (by omega))).setCell (Nat.le_refl _) _, by have := hb1.size; simp [World.setCell]; omega, ?_⟩
        refine ((hC.of_block (hb1.block _ hsz)).set k _).congr (fun j _ => ?_)
        rw [← wrd_step (fun j => (l.map Lib.itoa).getD j []) k j]
        simp only [HG.out]
        rfl
    · have e : k = l.length := by omega
      subst e
      have hJ := joined w.heap.size l.length (l.map Lib.itoa) s l.length wr (by simpa using hC) (by simp) (by simpa using hl) HB.out
      rw [List.length_map] at hJ
      go_wp2_with fail
      refine hJ.mono ?_
      rintro e w1 ⟨rfl, hb1⟩
      go_wp2
      go_ret
      exact ⟨rfl, hb.trans (hb1.mono (by omega))⟩
end Go.Proofs.YtlpidgdlbannbabDoor
