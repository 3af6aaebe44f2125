/- Letters: the text of a ranking; the program's letterOf, textOfEach at letters. -/
import Derived.Test.YtnpolmanebmmcaaDoorTx1
import Derived.Test.YtnpolmanebmmcaaDoorRp1
import Derived.Laws.Concat
import Derived.Laws.Runes
namespace Go.Proofs.YtnpolmanebmmcaaDoor
open Go.ChangeShapes Go.WideShapes Go.ChangeAt Go.RowKit Go.Deep
set_option linter.unusedSimpArgs false
set_option linter.unusedVariables false
def ltr (x : Int) : UInt8 := UInt8.ofNat (97 + x.toNat)
def lt1 (x : Int) : List UInt8 := [ltr x]
def rtx (l : List Int) : List UInt8 := l.map ltr
def pln (n : Int) (l : List Int) : List UInt8 := Lib.itoa n ++ ([42] ++ (rtx l ++ [10]))
def pfl (X : Pr) : Nat → List UInt8
  | 0 => []
  | k + 1 => pfl X k ++ pln (X.2.getD k 0) (X.1.getD k [])
def pftext (X : Pr) : List UInt8 := pfl X X.1.length
theorem join_empty (T : List (List UInt8)) : Lib.join T [] = T.flatten := by
  cases T with
  | nil => simp [Lib.join_nil]
  | cons x r => rw [Lib.join_cons]; simp [Lib.joinTail]
theorem join_lt (l : List Int) : Lib.join (l.map lt1) [] = rtx l := by
  rw [join_empty]
  unfold rtx
  induction l with
  | nil => rfl
  | cons x r ih => simp [lt1, ih]
theorem ltr_enc (x : Int) (h0 : 0 ≤ x) (h1 : x ≤ 5) : Utf8.encode (97 + x) = bytesOf [ltr x] := by
  have : x = 0 ∨ x = 1 ∨ x = 2 ∨ x = 3 ∨ x = 4 ∨ x = 5 := by omega
  rcases this with rfl | rfl | rfl | rfl | rfl | rfl <;> rfl
set_option maxRecDepth 100000 in
theorem ilet (x : Int) (w : World) (h0 : 0 ≤ x) (h1 : x ≤ 5) :
    Calls Tryd.prog 18 #[.int .i64 x] w fun e w' => e = .returned (strOf (lt1 x)) ∧ Below w.heap.size w w' := by
  have wk : IntKind.i64.wrap (97 + x) = 97 + x := by rw [IntKind.wrap_i64]; omega
  have wr : IntKind.i32.wrap (97 + x) = 97 + x := by rw [IntKind.wrap_i32]; omega
  have hE := ltr_enc x h0 h1
  have E := Lib.hid hE
  clear hE
  go_enter Tryd.func18, Tryd.ntmps18
  go_wp2
  go_ret
  exact ⟨by rw [E.out]; rfl, Below.refl _ _⟩
theorem joined0 (c : Nat) (l : List Int) (cap : Nat) (w : World) (h : w.rowIs c 9 l.length (wrd (fun j => (l.map lt1).getD j []) l.length)) (hcap : l.length ≤ cap) (hn : l.length ≤ 1000) :
    Calls Tryd.prog 30 #[.slice (some ⟨c, 0, none⟩) l.length cap, .string ⟨#[]⟩] w fun e w' => e = .returned (strOf (rtx l)) ∧ Below w.heap.size w w' := by
  obtain ⟨T, hT⟩ : ∃ T, l.map lt1 = T := ⟨_, rfl⟩
  have hlT : T.length = l.length := by rw [← hT]; simp
  have hJ : (Lib.join T []).length ≤ 140737488355328 := by rw [← hT, join_lt]; simp [rtx]; omega
  rw [hT] at h
  have e1 : (T.map bytesOf).length = l.length := by simp [hlT]
  have e2 : (T.map bytesOf).map (fun b => b.data.toList) = T := by
    rw [List.map_map]
    conv => rhs; rw [← List.map_id T]
    refine List.map_congr_left (fun x _ => ?_)
    simp [bytesOf]
  have q := Tryd.strings_Join c 0 cap (T.map bytesOf) ⟨#[]⟩ w (fun j x hx => by
    rw [List.getElem?_map] at hx
    obtain ⟨y, hy, rfl⟩ := Option.map_eq_some_iff.1 hx
    obtain ⟨hjl, hyy⟩ := List.getElem?_eq_some_iff.1 hy
    rw [Nat.zero_add, World.rowIs.cell h (by omega)]
    simp [wrd, hjl, show j < l.length by omega, strOf, bytesOf, hyy]) h.lt (by rw [e1]; omega) (by rw [e1]; exact hcap) (by rw [e2]; exact hJ)
  rw [e2, e1, show Lib.join T (⟨#[]⟩ : ByteArray).data.toList = rtx l by rw [← hT]; exact join_lt l] at q
  exact q
set_option maxHeartbeats 1000000 in
set_option maxRecDepth 100000 in
theorem toe_let (v : Value) (l : List Int) (w : World) (h : RowV w v l) (hl : l.length ≤ 1000) (hr : ∀ x ∈ l, 0 ≤ x ∧ x ≤ 5) :
    Calls Tryd.prog 17 #[v, .string ⟨#[]⟩, .func (.func 18) #[] #[]] w fun e w' => e = .returned (strOf (rtx l)) ∧ Below w.heap.size w w' := by
  have hmk := run_make_row' (P := Tryd.prog) 53 9 (.string ⟨#[]⟩) 16 Tryd.underlying53 infoStr rfl .i64 .i64 l.length (by omega) (by omega)
  have HR := Lib.hid hr
  have HV := Lib.hid h
  obtain ⟨va, vc, rfl⟩ := h.shape
  clear h hr
  go_enter Tryd.func17, Tryd.ntmps17
  go_wp2
  go_loopg [15] l.length (fun g i wr => ∃ k : Nat, k ≤ l.length ∧ g = l.length - k ∧ i = .int .i64 k ∧ Below w.heap.size w wr ∧ w.heap.size < wr.heap.size ∧ wr.rowIs w.heap.size 9 l.length (wrd (fun j => (l.map lt1).getD j []) k))
  case atStart => exact ⟨0, Nat.zero_le _, rfl, rfl, (Below.refl _ _).alloc (Nat.le_refl _) _, by simp, (World.rowIs_made _ _ _ _).congr (fun j _ => by simp [wrd])⟩
  case round =>
    obtain ⟨k, hk, rfl, rfl, hb, hsz, hC⟩ := hrel
    clear hmk
    by_cases hlt : k < l.length
    · obtain ⟨x, cp, hx0, hx, hc⟩ := (HV.out.below hb).cons (by intro h; subst h; simp at hlt)
      obtain ⟨rfl, rfl⟩ : va = some x ∧ vc = cp := by simpa [eq_comm] using hx0
      have c1 := hc k hlt
      have s1 : wr.cell? ⟨w.heap.size, k, none⟩ = some (wrd (fun j => (l.map lt1).getD j []) k k) := hC.cell (by omega)
      have f1 : wr.frozen? ⟨w.heap.size, k, none⟩ = false := hC.frozen _
      have hgm := getD_mapT lt1 l 0 hlt
      obtain ⟨y, hy⟩ : ∃ y, l.getD k 0 = y := ⟨_, rfl⟩
      have hym : y ∈ l := by rw [← hy]; simp [List.getD, hlt]
      have HD := ilet y wr (HR.out y hym).1 (HR.out y hym).2
      rw [hy] at c1 hgm
      have HG := Lib.hid hgm
      unfold strOf at HD
      clear hc hx0 hy hym hgm
      go_wp2_with fail
      refine HD.mono ?_
      rintro e w1 ⟨rfl, hb1⟩
      obtain ⟨hc1, hf1⟩ := bcell hb1
      rw [← hc1 _ _ hsz] at s1
      rw [← hf1 _ _ hsz] at f1
      clear hc1 hf1 c1 HD
      go_wp2
      go_roundg (l.length - (k + 1))
      case measure => omega
      case rel =>
        refine ⟨k + 1, by omega, rfl, by simp, (hb.trans (hb1.mono (by omega))).setCell (Nat.le_refl _) _, by have := hb1.size; simp [World.setCell]; omega, ?_⟩
        refine ((hC.of_block (hb1.block _ hsz)).set k _).congr (fun j _ => ?_)
        rw [← wrd_step (fun j => (l.map lt1).getD j []) k j]
        simp only [HG.out]
        rfl
    · have e : k = l.length := by omega
      subst e
      have hJ := joined0 w.heap.size l l.length wr (by simpa using hC) (by simp) (by simpa using hl)
      go_wp2_with fail
      refine hJ.mono ?_
      rintro e w1 ⟨rfl, hb1⟩
      go_wp2
      go_ret
      exact ⟨rfl, hb.trans (hb1.mono (by omega))⟩
end Go.Proofs.YtnpolmanebmmcaaDoor
