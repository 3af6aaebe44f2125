/- Texts of voices: the program's. -/
import Derived.Test.YtlpidgdlbannbabDoorTx1
import Derived.Test.YtlpidgdlbannbabDoorK2v
import Derived.Laws.Concat
namespace Go.Proofs.YtlpidgdlbannbabDoor
open Go.ChangeShapes Go.WideShapes Go.ChangeAt Go.RowKit Go.Deep
set_option linter.unusedSimpArgs false
set_option linter.unusedVariables false
/-- Numbers that a valid list holds. -/
def smallI (l : List Int) : Prop := l.length ≤ 12 ∧ ∀ x ∈ l, -1000000000 ≤ x ∧ x ≤ 1000000000
theorem jn_int_len {l : List Int} (h : smallI l) (s : UInt8) (k : Nat) : (jn Lib.itoa l s k).length ≤ 144 := by
  have h1 := jn_len Lib.itoa l s k 11 (fun x hx => itoa_len9 (h.2 x hx).1 (h.2 x hx).2)
  have h2 := h.1
  omega
def sgn (b : Bool) : UInt8 := if b then 43 else 45
def vtext (q : Vc) : List UInt8 := sgn q.1 :: Lib.join (q.2.map Lib.itoa) [44]
theorem vtext_len {q : Vc} (h : smallI q.2) : (vtext q).length ≤ 145 := by
  have := jn_int_len h 44 q.2.length
  rw [jn_all] at this
  unfold vtext
  simp only [List.length_cons]
  omega
set_option maxHeartbeats 1000000 in
theorem ivtext (b : Bool) (v : Value) (l : List Int) (w : World) (h : RowV w v l) (hs : smallI l) (hp : PowT w) :
    Calls Tryd.prog 15 #[.agg #[.bool b, v]] w fun e w' => e = .returned (strOf (vtext (b, l))) ∧ Below w.heap.size w w' := by
  have b1 := (Below.refl w.heap.size w).alloc (Nat.le_refl _) (.cells #[.bool b, v] 36)
  have HT := toe_int v l 44 _ (h.below b1) (by have := hs.1; omega) hs.2 (hp.below b1)
  have hjl := jn_int_len hs 44 l.length
  rw [jn_all] at hjl
  have hv : vtext (b, l) = sgn b :: Lib.join (l.map Lib.itoa) [44] := rfl
  rw [hv]
  unfold strOf at HT ⊢
  generalize Lib.join (l.map Lib.itoa) [44] = J at HT hjl ⊢
  clear h hp hv
  cases b with
  | true =>
    have ha := fun W : World => run_string_add_sum (P := Tryd.prog) (w := W) ⟨#[43]⟩ ⟨J.toArray⟩ (by show 1 + J.length ≤ _; omega)
    go_enter Tryd.func15, Tryd.ntmps15
    go_wp2_with fail
    refine HT.mono ?_
    rintro e w1 ⟨rfl, hb1⟩
    go_wp2
    go_ret
    exact ⟨rfl, b1.trans (hb1.mono b1.size)⟩
  | false =>
    have ha := fun W : World => run_string_add_sum (P := Tryd.prog) (w := W) ⟨#[45]⟩ ⟨J.toArray⟩ (by show 1 + J.length ≤ _; omega)
    go_enter Tryd.func15, Tryd.ntmps15
    go_wp2_with fail
    refine HT.mono ?_
    rintro e w1 ⟨rfl, hb1⟩
    go_wp2
    go_ret
    exact ⟨rfl, b1.trans (hb1.mono b1.size)⟩
set_option maxHeartbeats 1000000 in
set_option maxRecDepth 100000 in
theorem toe_voice (L : List Vc) (B b cap : Nat) (w : World) (h : Vs w B b L) (hl : L.length ≤ 12) (hs : ∀ k, k < L.length → smallI (L.getD k (false, [])).2) (hp : PowT w) :
    Calls Tryd.prog 14 #[.slice (some ⟨b, 0, none⟩) L.length cap, .string ⟨#[32]⟩, .func (.func 15) #[] #[]] w fun e w' => e = .returned (strOf (Lib.join (L.map vtext) [32])) ∧ Below w.heap.size w w' := by
  have hmk := run_make_row' (P := Tryd.prog) 48 9 (.string ⟨#[]⟩) 16 Tryd.underlying48 infoStr rfl .i64 .i64 L.length (by omega) (by omega)
  have HP := Lib.hid hp
  have hB : ∀ x ∈ L.map vtext, x.length ≤ 10000 := fun x hx => by
    obtain ⟨y, hy, rfl⟩ := List.mem_map.1 hx
    obtain ⟨j, hj, rfl⟩ := List.mem_iff_getElem.1 hy
    have h1 := hs j hj
    have := vtext_len h1
    simp [List.getD, hj] at this
    omega
  have HB := Lib.hid hB
  have HS := Lib.hid hs
  clear hp hB hs
  go_enter Tryd.func14, Tryd.ntmps14
  go_wp2
  go_loopg [15] L.length (fun g i wr => ∃ k : Nat, k ≤ L.length ∧ g = L.length - k ∧ i = .int .i64 k ∧ Below w.heap.size w wr ∧ w.heap.size < wr.heap.size ∧ wr.rowIs w.heap.size 9 L.length (wrd (fun j => (L.map vtext).getD j []) k))
  case atStart => exact ⟨0, Nat.zero_le _, rfl, rfl, (Below.refl _ _).alloc (Nat.le_refl _) _, by simp, (World.rowIs_made _ _ _ _).congr (fun j _ => by simp [wrd])⟩
  case round =>
    obtain ⟨k, hk, rfl, rfl, hb, hsz, hC⟩ := hrel
    clear hmk
    by_cases hlt : k < L.length
    · obtain ⟨c, a1, a2, a3⟩ := (h.below hb).at hlt
      have hsm := HS.out k hlt
      have hgm := getD_mapT vtext L (false, []) hlt
      obtain ⟨q, hq⟩ : ∃ q, L.getD k (false, []) = q := ⟨_, rfl⟩
      rw [hq] at a1 a2 a3 hsm hgm
      obtain ⟨s, t⟩ := q
      simp only at a1 a2 a3 hsm
      have lb := (h.below hb).lt
      have b1 := (Below.refl wr.heap.size wr).alloc (Nat.le_refl _) (.cells #[.bool s, .slice (some ⟨c, 0, none⟩) t.length t.length] 36)
      have HD := ivtext s _ t _ (a3.below b1) hsm ((HP.out.below hb).below b1)
      have s1 : (wr.alloc (.cells #[.bool s, .slice (some ⟨c, 0, none⟩) t.length t.length] 36)).cell? ⟨w.heap.size, k, none⟩ = some (wrd (fun j => (L.map vtext).getD j []) k k) := ((b1.cell (p := ⟨w.heap.size, k, none⟩) hsz)).trans (hC.cell (by omega))
      have f1 : (wr.alloc (.cells #[.bool s, .slice (some ⟨c, 0, none⟩) t.length t.length] 36)).frozen? ⟨w.heap.size, k, none⟩ = false := ((b1.frozen (p := ⟨w.heap.size, k, none⟩) hsz)).trans (hC.frozen _)
      have HG := Lib.hid hgm
      have B1 := Lib.hid b1
      have S1 := Lib.hid s1
      have F1 := Lib.hid f1
      unfold strOf at HD
      clear hq hgm hsm a3 b1 s1 f1
      go_wp2_with fail
      refine HD.mono ?_
      rintro e w1 ⟨rfl, hb1⟩
      have hsz2 := Nat.lt_of_lt_of_le hsz B1.out.size
      obtain ⟨hc1, hf1⟩ := bcell hb1
      have s1 := S1.out
      have f1 := F1.out
      rw [← hc1 _ _ hsz2] at s1
      rw [← hf1 _ _ hsz2] at f1
      clear hc1 hf1 HD a1 a2
      go_wp2
      go_roundg (L.length - (k + 1))
      case measure => omega
      case rel =>
        have hb2 := B1.out.trans (hb1.mono B1.out.size)
        refine ⟨k + 1, by omega, rfl, by simp, (hb.trans (hb2.mono (by omega))).setCell (Nat.le_refl _) _, by have := hb2.size; simp [World.setCell]; omega, ?_⟩
        refine ((hC.of_block (hb2.block _ hsz)).set k _).congr (fun j _ => ?_)
        rw [← wrd_step (fun j => (L.map vtext).getD j []) k j]
        simp only [HG.out]
        rfl
    · have e : k = L.length := by omega
      subst e
      have hJ := joined w.heap.size L.length (L.map vtext) 32 L.length wr (by simpa using hC) (by simp) (by simp; omega) HB.out
      rw [List.length_map] at hJ
      go_wp2_with fail
      refine hJ.mono ?_
      rintro e w1 ⟨rfl, hb1⟩
      go_wp2
      go_ret
      exact ⟨rfl, hb.trans (hb1.mono (by omega))⟩
end Go.Proofs.YtlpidgdlbannbabDoor
