/- Several of this claim's texts in one: Ct1, Xa4, Xa5, Xm1, Xa6, Xa7, Xa8, Xa9, Xk1. -/
import Derived.Test.YtkaakomiimcbmaaDoorK2v
import Derived.Test.YtkaakomiimcbmaaDoorPo3
import Derived.Test.YtkaakomiimcbmaaDoorXaa
import Derived.Test.YtkaakomiimcbmaaDoorIn1
import Derived.Test.YtkaakomiimcbmaaDoorK1
import Derived.Test.YtkaakomiimcbmaaDoorApa
import Derived.Test.YtkaakomiimcbmaaDoorK8
/- slices.ContainsFunc over numbers and over lists of numbers, for any function that tells a bool. -/
namespace Go.Proofs.YtkaakomiimcbmaaDoor
open Go.ChangeShapes Go.WideShapes Go.ChangeAt Go.RowKit Go.Deep
set_option linter.unusedSimpArgs false
set_option linter.unusedVariables false
set_option maxHeartbeats 1000000 in
set_option maxRecDepth 100000 in
theorem idxI (F : FuncId) (HF : ∀ args w, (callFunc F args).run Tryd.prog w = .ok (.enter F args) w) (caps : Array Value) (l : List Int) (P : Nat → Bool) (v : Value) (w : World) (h : RowV w v l) (hl : l.length ≤ 1048576)
    (HT : ∀ k w', k < l.length → Below w.heap.size w w' → Calls Tryd.prog F (#[.int .i64 (l.getD k 0)] ++ caps) w' fun e w'' => e = .returned (.bool (P k)) ∧ Below w'.heap.size w' w'') :
    Calls Tryd.prog 71 #[v, .func (.func F) #[] caps] w fun e w' => (∃ r : Int, e = .returned (.int .i64 r) ∧ -1 ≤ r ∧ r ≤ 1048576 ∧ (r < 0 ↔ ∀ k, k < l.length → P k = false)) ∧ Below w.heap.size w w' := by
  have H := Lib.hid HT
  clear HT
  by_cases e : l = []
  · subst e
    obtain ⟨a, cap, rfl⟩ := h.shape
    clear h
    go_enter Tryd.func71, Tryd.ntmps71
    go_wp2
    go_loopg [8] 0 (fun g i wr => i = .int .i64 0 ∧ w = wr)
    case atStart => exact ⟨rfl, rfl⟩
    case round =>
      obtain ⟨rfl, rfl⟩ := hrel
      go_wp2
      go_ret
      exact ⟨⟨_, rfl, by omega, by omega, ⟨fun _ k hk => absurd hk (Nat.not_lt_zero _), fun _ => by omega⟩⟩, Below.refl _ _⟩
  · obtain ⟨x, cap, rfl, hx, hc⟩ := h.cons e
    clear h
    go_enter Tryd.func71, Tryd.ntmps71
    go_wp2
    go_loopg [8] l.length (fun g i wr => ∃ k : Nat, k ≤ l.length ∧ g = l.length - k ∧ i = .int .i64 k ∧ Below w.heap.size w wr ∧ Hid (∀ j, j < k → P j = false))
    case atStart => exact ⟨0, Nat.zero_le _, rfl, rfl, Below.refl _ _, fun j hj => absurd hj (Nat.not_lt_zero _)⟩
    case round =>
      obtain ⟨k, hk, rfl, rfl, hb, HK⟩ := hrel
      by_cases hlt : k < l.length
      · have c1 := (hb.cell (p := x.add k) (by rw [block_add]; exact hx)).trans (hc k hlt)
        have HC := H.out k wr hlt hb
        obtain ⟨z, hz⟩ : ∃ z, P k = z := ⟨_, rfl⟩
        obtain ⟨y, hy⟩ : ∃ y, l.getD k 0 = y := ⟨_, rfl⟩
        rw [hz, hy] at HC
        rw [hy] at c1
        have HZ := Lib.hid hz
        clear hz hy hc
        cases z with
        | false =>
          go_wp2_with fail
          refine HC.mono ?_
          rintro e w1 ⟨rfl, hb1⟩
          go_wp2
          go_roundg (l.length - (k + 1))
          case measure => omega
          case rel =>
            refine ⟨k + 1, by omega, rfl, by simp, hb.trans (hb1.mono hb.size), fun j hj => ?_⟩
            by_cases ej : j = k
            · subst ej; exact HZ.out
            · exact HK.out j (by omega)
        | true =>
          go_wp2_with fail
          refine HC.mono ?_
          rintro e w1 ⟨rfl, hb1⟩
          go_wp2
          go_ret
          refine ⟨⟨_, rfl, by omega, by omega, ⟨fun h => by omega, fun h => ?_⟩⟩, hb.trans (hb1.mono hb.size)⟩
          have h9 := h k hlt
          rw [HZ.out] at h9
          cases h9
      · have e : k = l.length := by omega
        subst e
        go_wp2
        go_ret
        exact ⟨⟨_, rfl, by omega, by omega, ⟨fun _ => HK.out, fun _ => by omega⟩⟩, hb⟩
theorem contI (F : FuncId) (HF : ∀ args w, (callFunc F args).run Tryd.prog w = .ok (.enter F args) w) (caps : Array Value) (l : List Int) (P : Nat → Bool) (v : Value) (w : World) (h : RowV w v l) (hl : l.length ≤ 1048576)
    (HT : ∀ k w', k < l.length → Below w.heap.size w w' → Calls Tryd.prog F (#[.int .i64 (l.getD k 0)] ++ caps) w' fun e w'' => e = .returned (.bool (P k)) ∧ Below w'.heap.size w' w'') :
    Calls Tryd.prog 57 #[v, .func (.func F) #[] caps] w fun e w' => (∃ z, e = .returned (.bool z) ∧ (z = false ↔ ∀ k, k < l.length → P k = false)) ∧ Below w.heap.size w w' := by
  have HI := idxI F HF caps l P v w h hl HT
  clear h HT
  go_enter Tryd.func57, Tryd.ntmps57
  go_wp2_with fail
  refine HI.mono ?_
  rintro e w1 ⟨⟨r, rfl, r1, r2, r3⟩, hb1⟩
  have R3 := Lib.hid r3
  clear r3
  by_cases h0 : r < 0
  · go_wp2
    go_ret
    exact ⟨⟨false, by first | rfl | simp [h0], ⟨fun _ => R3.out.1 h0, fun _ => rfl⟩⟩, hb1⟩
  · go_wp2
    go_ret
    exact ⟨⟨true, by first | rfl | simp [h0], ⟨(fun q => by cases q), (fun q => by have := R3.out.2 q; omega)⟩⟩, hb1⟩
/-- The numbers below n for which a function tells true, in order. -/
def selN (n : Nat) (P : Nat → Bool) : List Int := ((List.range n).filter P).map fun i : Nat => (i : Int)
theorem selN_succ (n : Nat) (P : Nat → Bool) : selN (n + 1) P = selN n P ++ if P n = true then [(n : Int)] else [] := by
  unfold selN
  rw [List.range_succ, List.filter_append, List.map_append]
  by_cases h : P n = true <;> simp [h]
theorem selN_len (n : Nat) (P : Nat → Bool) : (selN n P).length ≤ n := by
  unfold selN
  have := List.length_filter_le P (List.range n)
  simpa using this
theorem selN_congr {n : Nat} {P Q : Nat → Bool} (h : ∀ i, i < n → P i = Q i) : selN n P = selN n Q := by
  unfold selN
  congr 1
  refine List.filter_congr fun i hi => ?_
  exact h i (by simpa using hi)
theorem snoc_map' (l : List Int) (n : Int) : (l ++ [n]).map (Value.int .i64) = l.map (Value.int .i64) ++ [Value.int .i64 n] := by simp
theorem snoc_len' (l : List Int) (n : Int) : (l ++ [n]).length = l.length + 1 := by simp
end Go.Proofs.YtkaakomiimcbmaaDoor
/- The acts in force on a day: the program's list and the specification's. -/
namespace Go.Proofs.YtkaakomiimcbmaaDoor
open Go.ChangeShapes Go.WideShapes Go.ChangeAt Go.RowKit Go.Deep
set_option linter.unusedSimpArgs false
set_option linter.unusedVariables false
def hasB (f u d : Int) : Bool := decide (f ≤ d) && decide (d < u)
def frcP (L : List Ac) (d : Int) (k : Nat) : Bool := hasB (L.getD k ac0).1 (L.getD k ac0).2.1 d
def frcL (L : List Ac) (d : Int) : List Int := selN L.length (frcP L d)
theorem frcL_len (L : List Ac) (d : Int) : (frcL L d).length ≤ L.length := selN_len _ _
theorem frcL_lt {L : List Ac} {d : Int} {k : Nat} (hk : k < (frcL L d).length) : ∃ j : Nat, (frcL L d).getD k 0 = (j : Int) ∧ j < L.length := by
  have hm : (frcL L d).getD k 0 ∈ frcL L d := by
    rw [List.getD_eq_getElem?_getD, List.getElem?_eq_getElem hk]
    exact List.getElem_mem hk
  unfold frcL selN at hm
  obtain ⟨j, hj, e⟩ := List.mem_map.1 hm
  rw [List.mem_filter] at hj
  exact ⟨j, e.symm, by simpa using hj.1⟩
theorem ihas (f u d : Int) (w : World) : Calls Tryd.prog 55 #[.agg #[.int .i64 f, .int .i64 u], .int .i64 d] w fun e w' => e = .returned (.bool (hasB f u d)) ∧ Below w.heap.size w w' := by
  have b1 := (Below.refl w.heap.size w).alloc (Nat.le_refl _) (.cells #[.int .i64 f, .int .i64 u] 82)
  unfold hasB
  by_cases h1 : f ≤ d
  · by_cases h2 : d < u
    · rw [decide_eq_true h1, decide_eq_true h2]
      go_enter Tryd.func55, Tryd.ntmps55
      go_wp2
      go_ret
      exact ⟨rfl, b1⟩
    · rw [decide_eq_true h1, decide_eq_false h2]
      go_enter Tryd.func55, Tryd.ntmps55
      go_wp2
      go_ret
      exact ⟨rfl, b1⟩
  · rw [decide_eq_false h1]
    go_enter Tryd.func55, Tryd.ntmps55
    go_wp2
    go_ret
    exact ⟨rfl, b1⟩
/-- The acts of a history that lie in a row, if there are any. -/
def Hx (w : World) (a : Option Addr) (L : List Ac) : Prop := 0 < L.length → ∃ b, a = some ⟨b, 0, none⟩ ∧ Xx w b L
theorem Hx.below {w w' : World} {a : Option Addr} {L : List Ac} (h : Hx w a L) (hb : Below w.heap.size w w') : Hx w' a L := fun h0 => by
  obtain ⟨b, e, h1⟩ := h h0
  exact ⟨b, e, h1.below hb⟩
/-- The two boxes of the program's condition: a history and a day. -/
structure Hbx (w : World) (p q : Nat) (vb : Value) (a : Option Addr) (n cap : Nat) (d : Int) : Prop where
  c0 : w.cell? ⟨p, 0, none⟩ = some vb
  c1 : w.cell? ⟨p, 1, none⟩ = some (.slice a n cap)
  c2 : w.cell? ⟨q, 0, none⟩ = some (.int .i64 d)
  lp : p < w.heap.size
  lq : q < w.heap.size
theorem Hbx.below {w w' : World} {p q : Nat} {vb : Value} {a : Option Addr} {n cap : Nat} {d : Int} (h : Hbx w p q vb a n cap d) (hb : Below w.heap.size w w') : Hbx w' p q vb a n cap d :=
  ⟨(hb.cell (p := ⟨p, 0, none⟩) h.lp).trans h.c0, (hb.cell (p := ⟨p, 1, none⟩) h.lp).trans h.c1, (hb.cell (p := ⟨q, 0, none⟩) h.lq).trans h.c2, Nat.lt_of_lt_of_le h.lp hb.size, Nat.lt_of_lt_of_le h.lq hb.size⟩
set_option maxHeartbeats 1000000 in
set_option maxRecDepth 100000 in
theorem ifrc1 (L : List Ac) (a : Option Addr) (cap p q : Nat) (vb : Value) (d : Int) (k : Nat) (w : World) (hk : k < L.length) (hl : L.length ≤ 1048576) (hx : Hx w a L) (hh : Hbx w p q vb a L.length cap d) :
    Calls Tryd.prog 59 (#[.int .i64 (k : Int)] ++ #[.pointer (some ⟨p, 0, none⟩), .pointer (some ⟨q, 0, none⟩)]) w fun e w' => e = .returned (.bool (frcP L d k)) ∧ Below w.heap.size w w' := by
  obtain ⟨b, rfl, hy⟩ := hx (by omega)
  obtain ⟨c0, c1, c2, lp, lq⟩ := hh
  obtain ⟨c, a0, a1, a2, -⟩ := hy.2 k hk
  have bd : Below w.heap.size w w.drew := (Below.refl _ _).drew
  unfold frcP
  obtain ⟨x, hxq⟩ : ∃ x, L.getD k ac0 = x := ⟨_, rfl⟩
  rw [hxq] at a0 a1 a2 ⊢
  obtain ⟨m, n, l⟩ := x
  simp only at a0 a1 a2 ⊢
  clear hxq hx hy c0 a2
  show Calls _ _ #[.int .i64 (k : Int), .pointer (some ⟨p, 0, none⟩), .pointer (some ⟨q, 0, none⟩)] _ _
  go_enter Tryd.func59, Tryd.ntmps59
  go_wp2_with fail
  go_still_tail 7, (by kernel_rfl)
  change wpList _ _ _ _ _ w.drew
  go_wp2_with fail
  refine (ihas m n d w.drew).mono ?_
  rintro e w1 ⟨rfl, hb1⟩
  go_wp2
  go_ret
  exact ⟨rfl, bd.trans hb1⟩
set_option maxHeartbeats 1000000 in
set_option maxRecDepth 100000 in
theorem whoX (F : FuncId) (HF : ∀ args w, (callFunc F args).run Tryd.prog w = .ok (.enter F args) w) (caps : Array Value) (n : Nat) (P : Nat → Bool) (a : Option Addr) (cap : Nat) (w : World) (hn : n ≤ 1048576)
    (HT : ∀ (k : Nat) w', k < n → Below w.heap.size w w' → Calls Tryd.prog F (#[.int .i64 (k : Int)] ++ caps) w' fun e w'' => e = .returned (.bool (P k)) ∧ Below w'.heap.size w' w'') :
    Calls Tryd.prog 58 #[.slice a n cap, .func (.func F) #[] caps] w fun e w' => (∃ v, e = .returned v ∧ OwI w' w.heap.size w'.heap.size v (selN n P)) ∧ Below w.heap.size w w' := by
  obtain ⟨i0, hi, hz0, hz1, hz2⟩ := info_parts infoI
  have H := Lib.hid HT
  have hown0 : w.ownsRow w.heap.size 2 1 (.slice none 0 0) ([] : List Int).length (([] : List Int).map (Value.int .i64)) := ⟨rfl, .inl ⟨rfl, rfl⟩⟩
  clear HT
  go_enter Tryd.func58, Tryd.ntmps58
  go_wp2
  go_loopg [5, 9] n (fun g v i wr => ∃ (k : Nat) (l : List Int), k ≤ n ∧ g = n - k ∧ i = .int .i64 k ∧ l.length ≤ k ∧ Hid (l = selN k P) ∧ wr.ownsRow w.heap.size 2 1 v l.length (l.map (Value.int .i64)) ∧ Below w.heap.size w wr)
  case atStart => exact ⟨0, [], Nat.zero_le _, rfl, rfl, Nat.le_refl _, rfl, hown0, Below.refl _ _⟩
  case round =>
    clear hown0
    obtain ⟨k, l, hk, rfl, rfl, hll, HL, hown, hb⟩ := hrel
    by_cases hkn : k < n
    · have hC := H.out k _ hkn hb
      have hs := selN_succ k P
      obtain ⟨z, hz⟩ : ∃ z, P k = z := ⟨_, rfl⟩
      rw [hz] at hC hs
      have HS := Lib.hid hs
      have sw := hb.size
      clear hz hs
      cases z with
      | true =>
        have HE : Hid (l ++ [(k : Int)] = selN (k + 1) P) := by show l ++ [(k : Int)] = _; rw [HS.out, ← HL.out]; simp
        go_wp2_with fail
        refine hC.mono ?_
        rintro e w2 ⟨rfl, hb2⟩
        have hown2 := own_block7 hown fun g _ hg => hb2.block g hg
        have s2 := hb2.size
        go_wp2_with (first
          | (at_builtin; refine wpList_append_own _ rfl _ _ 29 rfl w.heap.size 2 i0 (.int .i64 0) 1 8 Tryd.underlying29 hi hz0 hz1 hz2 rfl (by decide) _ _ _ rfl (hown2.alloc _) ⟨w2.heap.size, 0, none⟩ 1 1 [.int .i64 (k : Int)] rfl rfl ?c1 ?c2 ?c3 ?c4 ?c5 ?_))
        case c1 => exact World.news_of_block (cs := #[.int .i64 (k : Int)]) (t := 2) (fr := (0, 0)) (heap_alloc_new w2 _)
        case c2 => simp [Value.oneCell']
        case c3 => unfold maxLen; omega
        case c4 => omega
        case c5 => simp; omega
        intro v' w3 hown3 hgrow _
        have hb3 := ((hb.trans (hb2.mono sw)).alloc (by omega) _).grown hgrow (by simp; omega) (fun x e => (hown.lt x e).1)
        have HO : Hid (w3.ownsRow w.heap.size 2 1 v' (l ++ [(k : Int)]).length ((l ++ [(k : Int)]).map (Value.int .i64))) := by rw [snoc_len', snoc_map']; exact hown3
        have HLN := Lib.hid (snoc_len' l (k : Int))
        clear hown3 hgrow
        go_wp2
        go_roundg (n - (k + 1))
        case measure => omega
        case rel => exact ⟨k + 1, l ++ [(k : Int)], by omega, rfl, by simp, by rw [HLN.out]; omega, HE, HO.out, hb3⟩
      | false =>
        have HE : Hid (l = selN (k + 1) P) := by show l = _; rw [HS.out, ← HL.out]; simp
        go_wp2_with fail
        refine hC.mono ?_
        rintro e w2 ⟨rfl, hb2⟩
        have hown2 := own_block7 hown fun g _ hg => hb2.block g hg
        have hb3 := hb.trans (hb2.mono sw)
        go_wp2
        go_roundg (n - (k + 1))
        case measure => omega
        case rel => exact ⟨k + 1, l, by omega, rfl, by simp, by omega, HE, hown2, hb3⟩
    · have e : k = n := by omega
      subst e
      go_wp2
      go_ret
      refine ⟨⟨_, rfl, ?_⟩, hb⟩
      rw [← HL.out]
      exact ow_of_own hown (Nat.le_refl _) (by omega)
set_option maxHeartbeats 1000000 in
set_option maxRecDepth 100000 in
theorem ifrc (L : List Ac) (vb : Value) (a : Option Addr) (cap : Nat) (d : Int) (w : World) (hx : Hx w a L) (hl : L.length ≤ 1048576) :
    Calls Tryd.prog 36 #[.agg #[vb, .slice a L.length cap], .int .i64 d] w fun e w' => (∃ v, e = .returned v ∧ OwI w' w.heap.size w'.heap.size v (frcL L d)) ∧ Below w.heap.size w w' := by
  have b1 := ((Below.refl w.heap.size w).alloc (Nat.le_refl _) (.cells #[vb, .slice a L.length cap] 63)).alloc (by simp) (.cells #[.int .i64 d] 2)
  have HB : Hbx ((w.alloc (.cells #[vb, .slice a L.length cap] 63)).alloc (.cells #[.int .i64 d] 2)) w.heap.size (w.heap.size + 1) vb a L.length cap d := ⟨by go_simp, by go_simp, by go_simp, by simp; omega, by simp⟩
  have HW := whoX 59 (fun _ _ => rfl) #[.pointer (some ⟨w.heap.size, 0, none⟩), .pointer (some ⟨w.heap.size + 1, 0, none⟩)] L.length (frcP L d) a cap _ hl (fun k w' hk hw => ifrc1 L a cap _ _ vb d k w' hk hl ((hx.below b1).below hw) (HB.below hw))
  unfold frcL
  clear hx
  go_enter Tryd.func36, Tryd.ntmps36
  go_wp2_with fail
  refine HW.mono ?_
  rintro e w2 ⟨⟨v, rfl, hv⟩, hb2⟩
  have hvw : OwI w2 w.heap.size w2.heap.size v (selN L.length (frcP L d)) := hv.mono (by simp; omega) (Nat.le_refl _)
  have hsh : ∃ a n c, v = .slice a n c := by
    obtain ⟨h | ⟨c, cap, N, f, h, -⟩, -⟩ := hv
    · exact ⟨_, _, _, h.1⟩
    · exact ⟨_, _, _, h⟩
  obtain ⟨va, vn, vc, rfl⟩ := hsh
  clear hv
  go_wp2
  go_ret
  exact ⟨⟨_, rfl, hvw⟩, b1.trans (hb2.mono b1.size)⟩
set_option maxHeartbeats 1000000 in
set_option maxRecDepth 100000 in
theorem sfrc (L : List Ac) (b cap : Nat) (d : Int) (w : World) (h : Xx w b L) (hl : L.length ≤ 1048576) :
    Calls Tryd.prog 34 #[.slice (some ⟨b, 0, none⟩) L.length cap, .int .i64 d] w fun e w' => (∃ v, e = .returned v ∧ OwI w' w.heap.size w'.heap.size v (frcL L d)) ∧ Below w.heap.size w w' := by
  obtain ⟨i0, hi, hz0, hz1, hz2⟩ := info_parts infoI
  have HX := Lib.hid h
  have hown0 : (w.alloc (.cells #[] 2)).ownsRow w.heap.size 2 1 (.slice (some ⟨w.heap.size, 0, none⟩) 0 0) ([] : List Int).length (([] : List Int).map (Value.int .i64)) := World.ownsRow_lit w #[] 0 (Nat.le_refl _) (by unfold maxLen; omega) rfl
  have hb0 := (Below.refl w.heap.size w).alloc (Nat.le_refl _) (.cells #[] 2)
  clear h
  go_enter Tryd.func34, Tryd.ntmps34
  go_wp2
  go_loopg [5, 6] L.length (fun g v i wr => ∃ (k : Nat) (l : List Int), k ≤ L.length ∧ g = L.length - k ∧ i = .int .i64 k ∧ l.length ≤ k ∧ Hid (l = selN k (frcP L d)) ∧ wr.ownsRow w.heap.size 2 1 v l.length (l.map (Value.int .i64)) ∧ Below w.heap.size w wr)
  case atStart => exact ⟨0, [], Nat.zero_le _, rfl, rfl, Nat.le_refl _, rfl, hown0, hb0⟩
  case round =>
    clear hown0 hb0
    obtain ⟨k, l, hk, rfl, rfl, hll, HL, hown, hb⟩ := hrel
    by_cases hkn : k < L.length
    · obtain ⟨c, a0, a1, -, -⟩ := (HX.out.below hb).2 k hkn
      have hs := selN_succ k (frcP L d)
      have hP : frcP L d k = hasB (L.getD k ac0).1 (L.getD k ac0).2.1 d := rfl
      obtain ⟨m, hm⟩ : ∃ m, (L.getD k ac0).1 = m := ⟨_, rfl⟩
      obtain ⟨n, hn⟩ : ∃ n, (L.getD k ac0).2.1 = n := ⟨_, rfl⟩
      rw [hm] at a0 hP
      rw [hn] at a1 hP
      rw [hP] at hs
      have HS := Lib.hid hs
      have sw := hb.size
      clear hs hP hm hn
      by_cases h1 : m ≤ d
      · by_cases h2 : d < n
        · have HE : Hid (l ++ [(k : Int)] = selN (k + 1) (frcP L d)) := by show l ++ [(k : Int)] = _; rw [HS.out, ← HL.out]; simp [hasB, h1, h2]
          go_wp2_with (first
            | (at_builtin; refine wpList_append_own _ rfl _ _ 29 rfl w.heap.size 2 i0 (.int .i64 0) 1 8 Tryd.underlying29 hi hz0 hz1 hz2 rfl (by decide) _ _ _ rfl (hown.alloc _) ⟨wr.heap.size, 0, none⟩ 1 1 [.int .i64 (k : Int)] rfl rfl ?c1 ?c2 ?c3 ?c4 ?c5 ?_))
          case c1 => exact World.news_of_block (cs := #[.int .i64 (k : Int)]) (t := 2) (fr := (0, 0)) (heap_alloc_new wr _)
          case c2 => simp [Value.oneCell']
          case c3 => unfold maxLen; omega
          case c4 => omega
          case c5 => simp; omega
          intro v' w3 hown3 hgrow _
          have hb3 := (hb.alloc (by omega) _).grown hgrow (by simp; omega) (fun x e => (hown.lt x e).1)
          have HO : Hid (w3.ownsRow w.heap.size 2 1 v' (l ++ [(k : Int)]).length ((l ++ [(k : Int)]).map (Value.int .i64))) := by rw [snoc_len', snoc_map']; exact hown3
          have HLN := Lib.hid (snoc_len' l (k : Int))
          clear hown3 hgrow
          go_wp2
          go_roundg (L.length - (k + 1))
          case measure => omega
          case rel => exact ⟨k + 1, l ++ [(k : Int)], by omega, rfl, by simp, by rw [HLN.out]; omega, HE, HO.out, hb3⟩
        · have HE : Hid (l = selN (k + 1) (frcP L d)) := by show l = _; rw [HS.out, ← HL.out]; simp [hasB, h2]
          go_wp2
          go_roundg (L.length - (k + 1))
          case measure => omega
          case rel => exact ⟨k + 1, l, by omega, rfl, by simp, by omega, HE, hown, hb⟩
      · have HE : Hid (l = selN (k + 1) (frcP L d)) := by show l = _; rw [HS.out, ← HL.out]; simp [hasB, h1]
        go_wp2
        go_roundg (L.length - (k + 1))
        case measure => omega
        case rel => exact ⟨k + 1, l, by omega, rfl, by simp, by omega, HE, hown, hb⟩
    · have e : k = L.length := by omega
      subst e
      go_wp2
      go_ret
      refine ⟨⟨_, rfl, ?_⟩, hb⟩
      show OwI _ _ _ _ (selN L.length (frcP L d))
      rw [← HL.out]
      exact ow_of_own hown (Nat.le_refl _) (by omega)
end Go.Proofs.YtkaakomiimcbmaaDoor
/- A history of a statute and acts: what the program makes of them. -/
namespace Go.Proofs.YtkaakomiimcbmaaDoor
open Go.ChangeShapes Go.WideShapes Go.ChangeAt Go.RowKit Go.Deep
set_option linter.unusedSimpArgs false
set_option linter.unusedVariables false
set_option maxRecDepth 100000 in
theorem infoEn : (Tryd.prog.info? 90).map (fun i => (i.zero, i.size, i.bytes)) = some (some (.agg #[.int .i64 0, .int .i64 0, .slice none 0 0]), 3, 40) := by kernel_rfl
/-- The cells of an act whose patch lies in block c. -/
def xv (X : Ac) (c : Nat) : List Value := [.int .i64 X.1, .int .i64 X.2.1, .slice (some ⟨c, 0, none⟩) X.2.2.length X.2.2.length]
def xvs (L : List Ac) (c : Nat → Nat) : Nat → List Value
  | 0 => []
  | k + 1 => xvs L c k ++ xv (L.getD k ac0) (c k)
theorem xvs_len (L : List Ac) (c : Nat → Nat) (k : Nat) : (xvs L c k).length = k * 3 := by
  induction k with
  | zero => rfl
  | succ k ih => simp [xvs, ih, xv]; omega
theorem xvs_get (L : List Ac) (c : Nat → Nat) {k j i : Nat} (hj : j < k) (hi : i < 3) : (xvs L c k)[j * 3 + i]? = (xv (L.getD j ac0) (c j))[i]? := by
  induction k with
  | zero => omega
  | succ k ih =>
    unfold xvs
    by_cases e : j = k
    · subst e
      rw [List.getElem?_append_right (by rw [xvs_len]; omega), xvs_len]
      congr 1; omega
    · rw [List.getElem?_append_left (by rw [xvs_len]; omega)]
      exact ih (by omega)
theorem hx_of_own {w : World} {base : Nat} {v : Value} {L : List Ac} {c : Nat → Nat} (h : w.ownsRow base 90 3 v L.length (xvs L c L.length)) (hE : ∀ k, k < L.length → Es w (c k) (L.getD k ac0).2.2) :
    ∃ a cap, v = .slice a L.length cap ∧ Hx w a L := by
  obtain ⟨_, h⟩ := h
  rcases h with ⟨rfl, h0⟩ | ⟨g, cap, cur, rfl, hb, hg, hn, hcap, hs, ht⟩
  · exact ⟨none, 0, by rw [h0], fun q => absurd q (by omega)⟩
  · refine ⟨_, cap, rfl, fun _ => ⟨g, rfl, (Array.getElem?_eq_some_iff.1 hg).1, fun k hk => ?_⟩⟩
    have hrow : w.rowIs g 90 cur.size (fun i => (cur[i]?).getD (.bool false)) := ⟨cur, hg, rfl, fun i hi => by simp [hi]⟩
    have key : ∀ i, i < 3 → w.cell? ⟨g, k * 3 + i, none⟩ = (xv (L.getD k ac0) (c k))[i]? := fun i hi => by
      have h1 : (cur.toList.take (L.length * 3))[k * 3 + i]? = (xvs L c L.length)[k * 3 + i]? := by rw [ht]
      rw [List.getElem?_take_of_lt (by omega), Array.getElem?_toList, xvs_get L c hk hi] at h1
      have hlt : k * 3 + i < cur.size := by
        by_cases q : k * 3 + i < cur.size
        · exact q
        · exfalso
          have hn : cur[k * 3 + i]? = none := Array.getElem?_eq_none (by omega)
          have : (xv (L.getD k ac0) (c k)).length = 3 := rfl
          rw [hn, List.getElem?_eq_getElem (by omega)] at h1
          cases h1
      rw [hrow.cell hlt, h1]
      have : (xv (L.getD k ac0) (c k)).length = 3 := rfl
      rw [List.getElem?_eq_getElem (by omega)]; rfl
    exact ⟨c k, key 0 (by omega), key 1 (by omega), key 2 (by omega), hE k hk⟩
def dayB (D : List Int) : Bool := D.all fun d => hasB 0 1000 d
theorem dayB_iff {D : List Int} : dayB D = true ↔ ∀ k, k < D.length → (!hasB 0 1000 (D.getD k 0)) = false := by
  unfold dayB
  rw [List.all_eq_true]
  constructor
  · intro h k hk
    rw [h _ (by rw [List.getD_eq_getElem?_getD, List.getElem?_eq_getElem hk]; exact List.getElem_mem hk)]; rfl
  · intro h d hd
    obtain ⟨j, hj, rfl⟩ := List.mem_iff_getElem.1 hd
    have := h j hj
    rw [List.getD_eq_getElem?_getD, List.getElem?_eq_getElem hj] at this
    simpa using this
theorem inoday (d : Int) (w : World) : Calls Tryd.prog 54 (#[.int .i64 d] ++ #[]) w fun e w' => e = .returned (.bool (!hasB 0 1000 d)) ∧ Below w.heap.size w w' := by
  show Calls _ _ #[.int .i64 d] _ _
  have HA := alldays w
  have HH := fun w' => ihas 0 1000 d w'
  generalize hasB 0 1000 d = z at HH ⊢
  go_enter Tryd.func54, Tryd.ntmps54
  go_wp2_with fail
  refine HA.mono ?_
  rintro e w1 ⟨rfl, hb1⟩
  go_wp2_with fail
  refine (HH w1).mono ?_
  rintro e w2 ⟨rfl, hb2⟩
  go_wp2
  go_ret
  exact ⟨by cases z <;> rfl, hb1.trans (hb2.mono hb1.size)⟩
abbrev hzero : Value := .agg #[.slice none 0 0, .slice none 0 0]
/-- What historyOf answers. -/
def Phist (S : List Ar) (L : List Ac) (D : List Int) (vb : Value) (w : World) (e : Ending) (w' : World) : Prop :=
  (((staB S && actsB L && dayB D) = true ∧ ∃ a cap, e = .returned (.tuple #[.agg #[vb, .slice a L.length cap], .bool true]) ∧ Hx w' a L) ∨
    ((staB S && actsB L && dayB D) = false ∧ e = .returned (.tuple #[hzero, .bool false]))) ∧ Below w.heap.size w w'
set_option maxHeartbeats 4000000 in
set_option maxRecDepth 100000 in
theorem ihist (L : List Ac) (S : List Ar) (b cap : Nat) (av : Option Addr) (cs : Nat) (da : Option Addr) (dc : Nat) (D : List Int) (w : World) (hX : Xx w b L) (hfX : FitsX L) (hS : Ax w av S) (hfS : FitsA S) (hD : RowV w (.slice da D.length dc) D) (hdl : D.length ≤ 1048576) :
    Calls Tryd.prog 35 #[.slice av S.length cs, .slice (some ⟨b, 0, none⟩) L.length cap, .slice da D.length dc] w (Phist S L D (.slice av S.length cs) w) := by
  obtain ⟨i0, hi, hz0, hz1, hz2⟩ := info_parts infoEn
  have b0 := (Below.refl w.heap.size w).alloc (Nat.le_refl _) (.cells #[.slice none 0 0, .slice none 0 0] 63)
  have hR0 : (w.alloc (.cells #[.slice none 0 0, .slice none 0 0] 63)).rowIs w.heap.size 63 2 (fun _ => .slice none 0 0) := by
    refine ⟨_, heap_alloc_new w _, rfl, fun i hi => ?_⟩
    match i, hi with
    | 0, _ => rfl
    | 1, _ => rfl
  have s0 : (w.alloc (.cells #[.slice none 0 0, .slice none 0 0] 63)).heap.size = w.heap.size + 1 := by simp
  have HS := istatx S av cs _ (hS.below b0) hfS
  have HA := Lib.hid (fun w' (hw : Below w.heap.size w w') => ivacts L b cap w' (hX.below hw) hfX)
  have HC := Lib.hid (fun w' (hw : Below w.heap.size w w') => contI 54 (fun _ _ => rfl) #[] D (fun k => !hasB 0 1000 (D.getD k 0)) (.slice da D.length dc) w' (hD.below hw) hdl (fun k w'' _ _ => inoday _ w''))
  have HX := Lib.hid hX
  have ll := hfX.1
  have HY := Lib.hid (@dayB_iff D)
  unfold Phist
  obtain ⟨zs, hzs⟩ : ∃ z, staB S = z := ⟨_, rfl⟩
  obtain ⟨za, hza⟩ : ∃ z, actsB L = z := ⟨_, rfl⟩
  obtain ⟨zd, hzd⟩ : ∃ z, dayB D = z := ⟨_, rfl⟩
  rw [hzs] at HS ⊢
  rw [hza] at HA ⊢
  rw [hzd] at HY ⊢
  clear hX hfX hS hfS hD hzs hza hzd
  obtain ⟨w1, hw1⟩ : ∃ w1, w.alloc (.cells #[.slice none 0 0, .slice none 0 0] 63) = w1 := ⟨_, rfl⟩
  rw [hw1] at b0 hR0 s0 HS
  cases zs with
  | false =>
    go_enter Tryd.func35, Tryd.ntmps35
    go_wp2_with fail
    refine HS.mono ?_
    rintro e w2 ⟨rfl, hb2⟩
    have hR2 := hR0.of_block (hb2.block _ hR0.lt)
    have r0 := hR2.cell (i := 0) (by omega)
    have r1 := hR2.cell (i := 1) (by omega)
    have f0 := hR2.frozen 0
    have f1 := hR2.frozen 1
    have b2 := b0.trans (hb2.mono b0.size)
    have n2 := hR2.lt
    clear HS HA HC hR2
    go_wp2
    refine bodyPost_ret (v := .tuple #[hzero, .bool false]) (by simp [results, Tryd.results35, go_sem, r0, r1, n2]) rfl ⟨.inr ⟨rfl, rfl⟩, ?_⟩
    first
      | exact b2
      | exact (b2.setCell (Nat.le_refl _) _).setCell (Nat.le_refl _) _
  | true =>
    cases za with
    | false =>
      go_enter Tryd.func35, Tryd.ntmps35
      go_wp2_with fail
      refine HS.mono ?_
      rintro e w2 ⟨rfl, hb2⟩
      have b2 := b0.trans (hb2.mono b0.size)
      have HA2 := HA.out w2 b2
      clear HA HS HC
      go_wp2_with fail
      refine HA2.mono ?_
      rintro e w3 ⟨rfl, hb3⟩
      have b3 := b2.trans (hb3.mono b2.size)
      have hR2 := (hR0.of_block (hb2.block _ hR0.lt))
      have hR3 := hR2.of_block (hb3.block _ hR2.lt)
      have r0 := hR3.cell (i := 0) (by omega)
      have r1 := hR3.cell (i := 1) (by omega)
      have f0 := hR3.frozen 0
      have f1 := hR3.frozen 1
      have n2 := hR3.lt
      clear HA2 hR2 hR3 hR0
      go_wp2
      refine bodyPost_ret (v := .tuple #[hzero, .bool false]) (by simp [results, Tryd.results35, go_sem, r0, r1, n2]) rfl ⟨.inr ⟨rfl, rfl⟩, ?_⟩
      first
        | exact b3
        | exact (b3.setCell (Nat.le_refl _) _).setCell (Nat.le_refl _) _
    | true =>
      go_enter Tryd.func35, Tryd.ntmps35
      go_wp2_with fail
      refine HS.mono ?_
      rintro e w2 ⟨rfl, hb2⟩
      have b2 := b0.trans (hb2.mono b0.size)
      have HA2 := HA.out w2 b2
      clear HA HS
      go_wp2_with fail
      refine HA2.mono ?_
      rintro e w3 ⟨rfl, hb3⟩
      have b3 := b2.trans (hb3.mono b2.size)
      have hR2 := (hR0.of_block (hb2.block _ hR0.lt))
      have hR3 := hR2.of_block (hb3.block _ hR2.lt)
      have HC3 := HC.out w3 b3
      clear HA2 hR2 hR0 HC hb2 hb3 b2
      go_wp2_with fail
      refine HC3.mono ?_
      rintro e w4 ⟨⟨z, rfl, hz⟩, hb4⟩
      have b4 := b3.trans (hb4.mono b3.size)
      have hR4 := hR3.of_block (hb4.block _ hR3.lt)
      have hzd : z = !zd := by
        cases z with
        | false =>
          have : zd = true := HY.out.2 (hz.1 rfl)
          rw [this]; rfl
        | true =>
          cases hq : zd with
          | false => rfl
          | true => exact absurd (hz.2 (HY.out.1 hq)) (by decide)
      clear HC3 hR3 hb4 b3 hz HY
      subst hzd
      cases zd with
      | false =>
        have r0 := hR4.cell (i := 0) (by omega)
        have r1 := hR4.cell (i := 1) (by omega)
        have f0 := hR4.frozen 0
        have f1 := hR4.frozen 1
        have n2 := hR4.lt
        clear hR4
        go_wp2
        refine bodyPost_ret (v := .tuple #[hzero, .bool false]) (by simp [results, Tryd.results35, go_sem, r0, r1, n2]) rfl ⟨.inr ⟨rfl, rfl⟩, ?_⟩
        first
          | exact b4
          | exact (b4.setCell (Nat.le_refl _) _).setCell (Nat.le_refl _) _
      | true =>
        have hpw := hR4.lt
        have bp := b4.alloc b4.size (.cells #[.slice av S.length cs, .slice none 0 0] 63)
        have hRp : (w4.alloc (.cells #[.slice av S.length cs, .slice none 0 0] 63)).rowIs w4.heap.size 63 2 (fun j => if j = 0 then .slice av S.length cs else .slice none 0 0) := by
          refine ⟨_, heap_alloc_new w4 _, rfl, fun i hi => ?_⟩
          match i, hi with
          | 0, _ => rfl
          | 1, _ => rfl
        have hRr := hR4.of_block (((Below.refl w4.heap.size w4).alloc (Nat.le_refl _) (.cells #[.slice av S.length cs, .slice none 0 0] 63)).block _ hpw)
        have hsz : (w4.alloc (.cells #[.slice av S.length cs, .slice none 0 0] 63)).heap.size = w4.heap.size + 1 := by simp
        obtain ⟨cf, hcf⟩ : ∃ cf : Nat → Nat, ∀ k, k < L.length → w.cell? ⟨b, k * 3, none⟩ = some (.int .i64 (L.getD k ac0).1) ∧ w.cell? ⟨b, k * 3 + 1, none⟩ = some (.int .i64 (L.getD k ac0).2.1) ∧ w.cell? ⟨b, k * 3 + 2, none⟩ = some (.slice (some ⟨cf k, 0, none⟩) (L.getD k ac0).2.2.length (L.getD k ac0).2.2.length) ∧ Es w (cf k) (L.getD k ac0).2.2 := by
          have : ∀ k, ∃ c, k < L.length → w.cell? ⟨b, k * 3, none⟩ = some (.int .i64 (L.getD k ac0).1) ∧ w.cell? ⟨b, k * 3 + 1, none⟩ = some (.int .i64 (L.getD k ac0).2.1) ∧ w.cell? ⟨b, k * 3 + 2, none⟩ = some (.slice (some ⟨c, 0, none⟩) (L.getD k ac0).2.2.length (L.getD k ac0).2.2.length) ∧ Es w c (L.getD k ac0).2.2 := fun k => by
            by_cases hk : k < L.length
            · obtain ⟨c, h⟩ := HX.out.2 k hk
              exact ⟨c, fun _ => h⟩
            · exact ⟨0, fun h => absurd h hk⟩
          obtain ⟨f, hf⟩ := Classical.axiomOfChoice this
          exact ⟨f, hf⟩
        have HCF := Lib.hid hcf
        have hown0 : (w4.alloc (.cells #[.slice av S.length cs, .slice none 0 0] 63)).ownsRow (w4.heap.size + 1) 90 3 (.slice none 0 0) 0 (xvs L cf 0) := ⟨by rfl, .inl ⟨rfl, rfl⟩⟩
        have hbw : b < w.heap.size := HX.out.1
        have b4s := b4.size
        clear hcf hR4
        go_wp2
        go_loopg [11, 30] L.length (fun g _ i wr => ∃ (k : Nat) (v : Value), k ≤ L.length ∧ g = L.length - k ∧ i = .int .i64 k ∧ Below w.heap.size w wr ∧ w4.heap.size < wr.heap.size ∧ wr.rowIs w4.heap.size 63 2 (fun j => if j = 0 then .slice av S.length cs else v) ∧ wr.rowIs w.heap.size 63 2 (fun _ => .slice none 0 0) ∧ wr.ownsRow (w4.heap.size + 1) 90 3 v k (xvs L cf k))
        case atStart => exact ⟨0, _, Nat.zero_le _, rfl, rfl, bp, by omega, hRp, hRr, hown0⟩
        case round =>
          clear hown0 hRp hRr bp hsz
          obtain ⟨k, v, hk, rfl, rfl, hb, hpl, hRp, hRr, hown⟩ := hrel
          obtain ⟨p, hp⟩ : ∃ p, w4.heap.size = p := ⟨_, rfl⟩
          rw [hp] at hpl hRp hown hpw
          simp only [hp]
          have HPP := Lib.hid hp
          clear hp b4 b4s
          have hpn : ¬ w.heap.size = p := by omega
          have hpn' : ¬ p = w.heap.size := by omega
          have hsh : ∃ va vn vc, v = .slice va vn vc := by
            obtain ⟨_, h | ⟨g, cap, cur, e, -⟩⟩ := hown
            · exact ⟨_, _, _, h.1⟩
            · exact ⟨_, _, _, e⟩
          obtain ⟨va, vn, vc, rfl⟩ := hsh
          have r1 : wr.cell? ⟨p, 1, none⟩ = some (.slice va vn vc) := hRp.cell (i := 1) (by omega)
          have f1 := hRp.frozen 1
          have lb := hb.size
          have nn1 : ¬ p = wr.heap.size := by omega
          have nn2 : ¬ p = wr.heap.size + 1 := by omega
          by_cases hlt : k < L.length
          · obtain ⟨a0, a1, a2, a3⟩ := HCF.out k hlt
            have d0 := (hb.cell (p := ⟨b, k * 3, none⟩) hbw).trans a0
            have d1 := (hb.cell (p := ⟨b, k * 3 + 1, none⟩) hbw).trans a1
            have d2 := (hb.cell (p := ⟨b, k * 3 + 2, none⟩) hbw).trans a2
            have hst : xvs L cf (k + 1) = xvs L cf k ++ xv (L.getD k ac0) (cf k) := rfl
            obtain ⟨q, hq⟩ : ∃ q, L.getD k ac0 = q := ⟨_, rfl⟩
            obtain ⟨c, hc⟩ : ∃ c, cf k = c := ⟨_, rfl⟩
            rw [hq, hc] at d2
            rw [hq] at d0 d1
            rw [hq, hc] at hst
            obtain ⟨m, n, l⟩ := q
            simp only at d0 d1 d2
            have HST := Lib.hid hst
            have HRP := Lib.hid hRp
            have HRR := Lib.hid hRr
            clear a0 a1 a2 a3 hq hc hst hRp hRr
            go_wp2_with (first
              | (at_builtin; refine wpList_append_own _ rfl _ _ 61 rfl (p + 1) 90 i0 _ 3 40 Tryd.underlying61 hi hz0 hz1 hz2 rfl (by decide) _ _ _ rfl ((hown.alloc _).alloc _) ⟨wr.heap.size + 1, 0, none⟩ 1 1 [.int .i64 m, .int .i64 n, .slice (some ⟨c, 0, none⟩) l.length l.length] rfl rfl ?c1 ?c2 ?c3 ?c4 ?c5 ?_))
            case c1 => exact World.news_of_block (cs := #[.int .i64 m, .int .i64 n, .slice (some ⟨c, 0, none⟩) l.length l.length]) (t := 90) (fr := (0, 0)) (by simpa using heap_alloc_new (wr.alloc (.cells #[.int .i64 m, .int .i64 n, .slice (some ⟨c, 0, none⟩) l.length l.length] 51)) _)
            case c2 => simp [Value.oneCell']
            case c3 => unfold maxLen; omega
            case c4 => omega
            case c5 => simp; omega
            intro v' w3 hown3 hgrow _
            have B3 : Below (p + 1) wr w3 := (((Below.refl (p + 1) wr).alloc (by omega) _).alloc (by simp; omega) _).grown hgrow (by simp; omega) (fun x e => (hown.lt x e).1)
            have hb3 : Below w.heap.size w w3 := hb.trans (B3.mono (by omega))
            have hRp3 := HRP.out.of_block (B3.block p (by omega))
            have hRr3 := HRR.out.of_block (B3.block w.heap.size (by omega))
            have hs3 : p < w3.heap.size := Nat.lt_of_lt_of_le hpl B3.size
            have g1 : w3.cell? ⟨p, 1, none⟩ = some (.slice va vn vc) := hRp3.cell (i := 1) (by omega)
            have f3 := hRp3.frozen 1
            have hO : w3.ownsRow (p + 1) 90 3 v' (k + 1) (xvs L cf (k + 1)) := by rw [HST.out]; exact hown3
            have hsh' : ∃ va vn vc, v' = .slice va vn vc := by
              obtain ⟨_, h | ⟨g, cap, cur, e, -⟩⟩ := hO
              · exact ⟨_, _, _, h.1⟩
              · exact ⟨_, _, _, e⟩
            obtain ⟨ua, un, uc, rfl⟩ := hsh'
            have HO2 := Lib.hid (ownsRow_setCell_below hO (a := ⟨p, 1, none⟩) (by show p < p + 1; omega) (.slice ua un uc))
            have HRP3 := Lib.hid (hRp3.set 1 (.slice ua un uc))
            have HRR3 := Lib.hid (World.rowIs.setOther hRr3 (a := ⟨p, 1, none⟩) (by show w.heap.size ≠ p; omega) (.slice ua un uc))
            have HB3 : Hid (Below w.heap.size w (w3.setCell ⟨p, 1, none⟩ (.slice ua un uc))) := Below.setCell hb3 (by show w.heap.size ≤ p; omega) _
            clear hown3 hgrow hown hO hRp3 hRr3 hb3 B3
            go_wp2
            have hp := HPP.out
            subst hp
            go_roundg (L.length - (k + 1))
            case measure => omega
            case rel =>
              refine ⟨k + 1, _, by omega, rfl, by simp, HB3.out, by simp [World.setCell]; omega, HRP3.out.congr (fun j hj => ?_), HRR3.out, HO2.out⟩
              match j, hj with
              | 0, _ => rfl
              | 1, _ => rfl
          · have e : k = L.length := by omega
            subst e
            have r0 : wr.cell? ⟨p, 0, none⟩ = some (.slice av S.length cs) := hRp.cell (i := 0) (by omega)
            have q0 : wr.cell? ⟨w.heap.size, 0, none⟩ = some (.slice none 0 0) := hRr.cell (i := 0) (by omega)
            have q1 : wr.cell? ⟨w.heap.size, 1, none⟩ = some (.slice none 0 0) := hRr.cell (i := 1) (by omega)
            have g0 := hRr.frozen 0
            have g1 := hRr.frozen 1
            have hwl := hRr.lt
            have hbb : Below w.heap.size w ((wr.setCell ⟨w.heap.size, 0, none⟩ (.slice av S.length cs)).setCell ⟨w.heap.size, 1, none⟩ (.slice va vn vc)) := Below.setCell (Below.setCell hb (Nat.le_refl _) _) (Nat.le_refl _) _
            have hE : ∀ j, j < L.length → Es ((wr.setCell ⟨w.heap.size, 0, none⟩ (.slice av S.length cs)).setCell ⟨w.heap.size, 1, none⟩ (.slice va vn vc)) (cf j) (L.getD j ac0).2.2 := fun j hj => by
              have h0 := (HCF.out j hj).2.2.2
              have hlt := h0.lt
              exact World.rowIs.setOther (World.rowIs.setOther (h0.below hb) (by show cf j ≠ w.heap.size; omega) _) (by show cf j ≠ w.heap.size; omega) _
            have hO2 := ownsRow_setCell_below (ownsRow_setCell_below hown (a := ⟨w.heap.size, 0, none⟩) (by show w.heap.size < p + 1; omega) (.slice av S.length cs)) (a := ⟨w.heap.size, 1, none⟩) (by show w.heap.size < p + 1; omega) (.slice va vn vc)
            obtain ⟨ha, hcp, hve, hHx⟩ := hx_of_own hO2 hE
            injection hve with e1 e2 e3
            subst e1
            subst e2
            subst e3
            have HHx := Lib.hid hHx
            have HBB := Lib.hid hbb
            clear hRp hRr hown hHx hO2 hE hbb
            go_wp2
            refine bodyPost_ret (v := .tuple #[.agg #[.slice av S.length cs, .slice va L.length vc], .bool true]) (by simp [results, Tryd.results35, go_sem, q0, q1, hwl]) rfl ⟨.inl ⟨rfl, _, _, rfl, HHx.out⟩, HBB.out⟩
end Go.Proofs.YtkaakomiimcbmaaDoor
/- The marks of a list of acts. -/
namespace Go.Proofs.YtkaakomiimcbmaaDoor
open Go.ChangeShapes Go.WideShapes Go.ChangeAt Go.RowKit Go.Deep
set_option linter.unusedSimpArgs false
set_option linter.unusedVariables false
set_option maxHeartbeats 2000000 in
set_option maxRecDepth 100000 in
theorem markEx (c n cap N : Nat) (k : Int) (w : World) (f : Nat → Value) (h : w.rowIs c 93 N f) (hN : n * 4 ≤ N) (hn : n ≤ 1048576) (h1 : 0 ≤ k) (h2 : k ≤ 4900000000000) :
    Calls Tryd.prog 37 #[.slice (some ⟨c, 0, none⟩) n cap, .int .i64 k] w fun e w' => e = .returned (.int .i64 (k + 4 * n)) ∧ w'.rowIs c 93 N (mkE f k n) ∧ Kept w w' (fun b => b = c) := by
  go_enter Tryd.func37, Tryd.ntmps37
  go_wp2
  go_loopg [1, 5] n (fun g kk i wr => ∃ m : Nat, m ≤ n ∧ g = n - m ∧ kk = .int .i64 (k + 4 * m) ∧ i = .int .i64 m ∧ wr.rowIs c 93 N (mkE f k m) ∧ Kept w wr (fun b => b = c))
  case atStart => exact ⟨0, Nat.zero_le _, rfl, by simp, rfl, h.congr (fun i _ => by simp [mkE]), Kept.refl _ _⟩
  case round =>
    obtain ⟨m, hm, rfl, rfl, rfl, hr, hk⟩ := hrel
    by_cases hlt : m < n
    · have c1 : wr.cell? ⟨c, m * 4, none⟩ = some (mkE f k m (m * 4)) := hr.cell (by omega)
      have c2 : wr.cell? ⟨c, m * 4 + 1, none⟩ = some (mkE f k m (m * 4 + 1)) := hr.cell (by omega)
      have c3 : wr.cell? ⟨c, m * 4 + 2, none⟩ = some (mkE f k m (m * 4 + 2)) := hr.cell (by omega)
      have c4 : wr.cell? ⟨c, m * 4 + 3, none⟩ = some (mkE f k m (m * 4 + 3)) := hr.cell (by omega)
      have f1 : wr.frozen? ⟨c, m * 4, none⟩ = false := hr.frozen _
      have f2 : wr.frozen? ⟨c, m * 4 + 1, none⟩ = false := hr.frozen _
      have f3 : wr.frozen? ⟨c, m * 4 + 2, none⟩ = false := hr.frozen _
      have f4 : wr.frozen? ⟨c, m * 4 + 3, none⟩ = false := hr.frozen _
      have hlc := hr.lt
      have HR := Lib.hid hr
      have HK := Lib.hid hk
      clear hr hk h
      obtain ⟨K, hK⟩ : ∃ K : Int, k + 4 * (m : Int) = K := ⟨_, rfl⟩
      have k0 : 0 ≤ K := by omega
      have k9 : K ≤ 5000000000000 := by omega
      simp only [hK]
      have HKK := Lib.hid hK
      have wk1 : IntKind.i64.wrap (K + 1) = K + 1 := by rw [IntKind.wrap_i64]; omega
      have wk2 : IntKind.i64.wrap (K + 1 + 1) = K + 2 := by rw [IntKind.wrap_i64]; omega
      have wk3 : IntKind.i64.wrap (K + 2 + 1) = K + 3 := by rw [IntKind.wrap_i64]; omega
      have wk4 : IntKind.i64.wrap (K + 3 + 1) = K + 4 := by rw [IntKind.wrap_i64]; omega
      have M2 := fun w' => mtext (K + 2) w' (by omega)
      have M3 := fun w' => mtext (K + 3) w' (by omega)
      clear hK
      go_wp2_with fail
      refine (M2 _).mono ?_
      rintro e w1 ⟨rfl, hb1⟩
      obtain ⟨hc1, hf1⟩ := bcell hb1
      have lc1 : c < ((wr.setCell ⟨c, m * 4, none⟩ (.int .i64 K)).setCell ⟨c, m * 4 + 1, none⟩ (.int .i64 (K + 1))).heap.size := by simp [World.setCell]; exact hlc
      have d3 : w1.cell? ⟨c, m * 4 + 2, none⟩ = some (mkE f k m (m * 4 + 2)) := by rw [hc1 _ _ lc1]; first | (go_simp; done) | (go_simp; exact c3)
      have d4 : w1.cell? ⟨c, m * 4 + 3, none⟩ = some (mkE f k m (m * 4 + 3)) := by rw [hc1 _ _ lc1]; first | (go_simp; done) | (go_simp; exact c4)
      have g3 : w1.frozen? ⟨c, m * 4 + 2, none⟩ = false := by rw [hf1 _ _ lc1]; first | (go_simp; done) | (go_simp; exact f3)
      have g4 : w1.frozen? ⟨c, m * 4 + 3, none⟩ = false := by rw [hf1 _ _ lc1]; first | (go_simp; done) | (go_simp; exact f4)
      have HR1 := Lib.hid (((HR.out.set (m * 4) (.int .i64 K)).set (m * 4 + 1) (.int .i64 (K + 1))).of_block (hb1.block c lc1))
      have HK1 : Hid (Kept w w1 (fun b => b = c)) := Lib.hid (((HK.out.trans (Kept.set _ _ _ rfl)).trans (Kept.set _ _ _ rfl)).trans (Kept.ofBel hb1))
      have lc1' : c < w1.heap.size := Nat.lt_of_lt_of_le lc1 hb1.size
      clear hc1 hf1 c1 c2 c3 c4 f1 f2 f3 f4 hb1 lc1 hlc M2
      go_wp2_with fail
      refine (M3 _).mono ?_
      rintro e w2 ⟨rfl, hb2⟩
      obtain ⟨hc2, hf2⟩ := bcell hb2
      have lc2 : c < (w1.setCell ⟨c, m * 4 + 2, none⟩ (.string (mtx (K + 2)))).heap.size := by simp [World.setCell]; exact lc1'
      have e4 : w2.cell? ⟨c, m * 4 + 3, none⟩ = some (mkE f k m (m * 4 + 3)) := by rw [hc2 _ _ lc2]; first | (go_simp; done) | (go_simp; exact d4)
      have h4 : w2.frozen? ⟨c, m * 4 + 3, none⟩ = false := by rw [hf2 _ _ lc2]; first | (go_simp; done) | (go_simp; exact g4)
      have HR2 := Lib.hid ((HR1.out.set (m * 4 + 2) (.string (mtx (K + 2)))).of_block (hb2.block c lc2))
      have HK2 : Hid (Kept w w2 (fun b => b = c)) := Lib.hid ((HK1.out.trans (Kept.set _ _ _ rfl)).trans (Kept.ofBel hb2))
      clear hc2 hf2 d3 d4 g3 g4 hb2 lc2 lc1' M3 HR HR1 HK1
      go_wp2
      go_roundg (n - (m + 1))
      case measure => omega
      case rel =>
        refine ⟨m + 1, by omega, rfl, by congr 1; have := HKK.out; omega, by simp, ?_, HK2.out.trans (Kept.set _ _ _ rfl)⟩
        refine (HR2.out.set (m * 4 + 3) (.string (mtx (K + 3)))).congr (fun j _ => ?_)
        rw [← mkE_step f k m j]
        simp only [HKK.out]
    · have e : m = n := by omega
      subst e
      go_wp2
      go_ret
      exact ⟨rfl, hr, hk⟩
/-- Acts in block b, their patches in the blocks c. -/
def ShX (w : World) (b n : Nat) (c len : Nat → Nat) : Prop :=
  (∃ f, w.rowIs b 51 (n * 3) f ∧ ∀ j, j < n → f (j * 3 + 2) = .slice (some ⟨c j, 0, none⟩) (len j) (len j)) ∧ ∀ j, j < n → ∃ f, w.rowIs (c j) 93 (len j * 4) f
theorem ShX.set2 {w : World} {b n : Nat} {c len : Nat → Nat} (h : ShX w b n c len) (k : Nat) (u v : Value) (hne : ∀ j, j < n → b ≠ c j) : ShX ((w.setCell ⟨b, k * 3, none⟩ u).setCell ⟨b, k * 3 + 1, none⟩ v) b n c len := by
  obtain ⟨⟨f, h1, h2⟩, h3⟩ := h
  refine ⟨⟨_, (h1.set (k * 3) u).set (k * 3 + 1) v, fun j hj => ?_⟩, fun i hi => ?_⟩
  · rw [if_neg (by omega), if_neg (by omega)]; exact h2 j hj
  · obtain ⟨f', h4⟩ := h3 i hi
    exact ⟨f', (h4.setOther (by exact fun e => hne i hi e.symm) _).setOther (by exact fun e => hne i hi e.symm) _⟩
theorem ShX.keep {w w' : World} {b n : Nat} {c len : Nat → Nat} (h : ShX w b n c len) {m : Nat} (hbc : b ≠ c m) (hinj : ∀ j, j < n → j ≠ m → c j ≠ c m) (hk : Kept w w' (fun x => x = c m)) (hr : ∃ f, w'.rowIs (c m) 93 (len m * 4) f) : ShX w' b n c len := by
  obtain ⟨⟨f, h1, h2⟩, h3⟩ := h
  refine ⟨⟨f, hk.row h1 hbc, h2⟩, fun j hj => ?_⟩
  by_cases e : j = m
  · subst e; exact hr
  · obtain ⟨f', h4⟩ := h3 j hj
    exact ⟨f', hk.row h4 (hinj j hj e)⟩
set_option maxHeartbeats 1000000 in
set_option maxRecDepth 100000 in
theorem markXS (b n cap lo hi : Nat) (c len : Nat → Nat) (k0 : Int) (w : World) (h : ShX w b n c len) (hn : n ≤ 1048576) (hl : ∀ j, j < n → len j ≤ 1048576) (hb : lo ≤ b ∧ b < hi) (hc : ∀ j, j < n → lo ≤ c j ∧ c j < hi ∧ b ≠ c j) (hinj : ∀ i j, i < n → j < n → i ≠ j → c i ≠ c j) (h1 : 0 ≤ k0) (h2 : k0 ≤ 400000000000) :
    Calls Tryd.prog 14 #[.slice (some ⟨b, 0, none⟩) n cap, .int .i64 k0] w fun e w' => (∃ r, e = .returned (.int .i64 r) ∧ 0 ≤ r ∧ r ≤ k0 + 4500000000000) ∧ Kept w w' (fun x => lo ≤ x ∧ x < hi) := by
  go_enter Tryd.func14, Tryd.ntmps14
  go_wp2
  go_loopg [1, 5] n (fun g kk i wr => ∃ (m : Nat) (k : Int), m ≤ n ∧ g = n - m ∧ kk = .int .i64 k ∧ i = .int .i64 m ∧ 0 ≤ k ∧ k ≤ k0 + 4194306 * m ∧ ShX wr b n c len ∧ Kept w wr (fun x => lo ≤ x ∧ x < hi))
  case atStart => exact ⟨0, k0, Nat.zero_le _, rfl, rfl, rfl, by omega, by omega, h, Kept.refl _ _⟩
  case round =>
    obtain ⟨m, k, hm, rfl, rfl, rfl, k1, k2, hS, hk⟩ := hrel
    by_cases hlt : m < n
    · have hS0 := hS
      obtain ⟨⟨f, q1, q2⟩, q3⟩ := hS
      have c1 : wr.cell? ⟨b, m * 3, none⟩ = some (f (m * 3)) := q1.cell (by omega)
      have c2 : wr.cell? ⟨b, m * 3 + 1, none⟩ = some (f (m * 3 + 1)) := q1.cell (by omega)
      have c3 : wr.cell? ⟨b, m * 3 + 2, none⟩ = some (.slice (some ⟨c m, 0, none⟩) (len m) (len m)) := by rw [← q2 m hlt]; exact q1.cell (by omega)
      have f1 : wr.frozen? ⟨b, m * 3, none⟩ = false := q1.frozen _
      have f2 : wr.frozen? ⟨b, m * 3 + 1, none⟩ = false := q1.frozen _
      have wk1 : IntKind.i64.wrap (k + 1) = k + 1 := by rw [IntKind.wrap_i64]; omega
      have wk2 : IntKind.i64.wrap (k + 1 + 1) = k + 2 := by rw [IntKind.wrap_i64]; omega
      have hlm := hl m hlt
      obtain ⟨hc1, hc2, hc3⟩ := hc m hlt
      have HS2 := Lib.hid (fun u v => hS0.set2 m u v (fun j hj => (hc j hj).2.2))
      obtain ⟨K, hK⟩ : ∃ K : Int, k + 2 = K := ⟨_, rfl⟩
      have hK1 : 0 ≤ K := by omega
      have hK2 : K ≤ 4900000000000 := by omega
      rw [hK] at wk2
      have HKK := Lib.hid hK
      have HI := Lib.hid (fun j (hj : j < n) (e : j ≠ m) => hinj j m hj hlt e)
      have HKP := Lib.hid hk
      clear hS0 q1 q2 q3 hK h hinj hk
      obtain ⟨fm, hrm⟩ := (HS2.out (.int .i64 k) (.int .i64 (k + 1))).2 m hlt
      have HM := markEx (c m) (len m) (len m) (len m * 4) K _ fm hrm (Nat.le_refl _) hlm hK1 hK2
      clear hrm
      go_wp2_with fail
      refine HM.mono ?_
      rintro e w1 ⟨rfl, hr1, hk1⟩
      have HS3 := Lib.hid ((HS2.out _ _).keep hc3 HI.out hk1 ⟨_, hr1⟩)
      have HK3 : Hid (Kept w w1 (fun x => lo ≤ x ∧ x < hi)) := Lib.hid (((HKP.out.trans (Kept.set _ _ _ ⟨hb.1, hb.2⟩)).trans (Kept.set _ _ _ ⟨hb.1, hb.2⟩)).trans (hk1.mono (fun x e => by subst e; exact ⟨hc1, hc2⟩)))
      clear hr1 hk1 HM
      go_wp2
      go_roundg (n - (m + 1))
      case measure => omega
      case rel => exact ⟨m + 1, K + 4 * len m, by omega, rfl, by first | rfl | simp, by simp, by omega, by have := HKK.out; omega, HS3.out, HK3.out⟩
    · have e : m = n := by omega
      subst e
      go_wp2
      go_ret
      exact ⟨⟨k, rfl, k1, by omega⟩, hk⟩
theorem markCpX {v : Value} {l : List Ac} {w : World} {lo hi : Nat} (k : Int) (h : CpX w lo hi v l) (h1 : 0 ≤ k) (h2 : k ≤ 400000000000) :
    Calls Tryd.prog 14 #[v, .int .i64 k] w fun e w' => (∃ r, e = .returned (.int .i64 r) ∧ 0 ≤ r ∧ r ≤ k + 4500000000000) ∧ Kept w w' (fun b => lo ≤ b ∧ b < hi) := by
  obtain ⟨rfl, -, ⟨h4, c, h3, h5⟩, hf⟩ := h
  refine markXS lo l.length l.length lo hi c (fun j => (l.getD j ac0).2.2.length) k w ⟨⟨_, h3.row, fun j hj => ?_⟩, fun j hj => ⟨_, (h3.own j hj).2⟩⟩ hf.1 (fun j hj => (hf.2 j hj).1) ⟨Nat.le_refl _, h4⟩ (fun j hj => ⟨by have := (h3.own j hj).1; omega, h5 j hj, by have := (h3.own j hj).1; omega⟩) (fun i j hi hj hij => ?_) h1 h2
  · have e1 : (j * 3 + 2) / 3 = j := by omega
    have e2 : (j * 3 + 2) % 3 = 2 := by omega
    simp [xf, e1, e2, hj]
  · by_cases q : i < j
    · exact h3.inj i j q hj
    · exact fun e => h3.inj j i (by omega) hi e.symm
end Go.Proofs.YtkaakomiimcbmaaDoor
/- The acts in force on a day: both exported calls. -/
namespace Go.Proofs.YtkaakomiimcbmaaDoor
open Go.ChangeShapes Go.WideShapes Go.ChangeAt Go.RowKit Go.Deep
set_option linter.unusedSimpArgs false
set_option linter.unusedVariables false
noncomputable def mAF (L : List Ac) (d : Int) : List Int × Bool := if (actsB L && inB d 0 999) = true then (frcL L d, true) else ([], false)
theorem has_in (d : Int) : hasB 0 1000 d = inB d 0 999 := by
  by_cases h : 0 ≤ d ∧ d ≤ 999
  · rw [inB_yes h.1 h.2]
    unfold hasB
    rw [decide_eq_true h.1, decide_eq_true (by omega)]; rfl
  · rw [inB_no h]
    unfold hasB
    by_cases h1 : 0 ≤ d
    · rw [decide_eq_false (p := d < 1000) (by omega)]; simp
    · rw [decide_eq_false h1]; rfl
theorem sday (d : Int) (w : World) : Calls Tryd.prog 33 #[.int .i64 d] w fun e w' => e = .returned (.bool (inB d 0 999)) ∧ w = w' := by
  have HI := in_val d 0 999
  generalize inB d 0 999 = z at HI ⊢
  go_enter Tryd.func33, Tryd.ntmps33
  go_wp2_with fail
  refine (HI _).mono ?_
  rintro e w1 ⟨rfl, rfl⟩
  go_wp2
  go_ret
  exact ⟨rfl, rfl⟩
theorem OwI.shape {w : World} {lo hi : Nat} {v : Value} {l : List Int} (h : OwI w lo hi v l) : ∃ a c, v = .slice a l.length c := by
  obtain ⟨h | ⟨c, cap, N, f, h, -⟩, -⟩ := h
  · obtain ⟨rfl, rfl⟩ := h; exact ⟨_, _, rfl⟩
  · exact ⟨_, _, h⟩
set_option maxHeartbeats 1000000 in
set_option maxRecDepth 100000 in
theorem sAF (L : List Ac) (d : Int) (w : World) (lo hi : Nat) (u : Value) (h : CpX w lo hi u L) (wf : (Lit.int .i64 d).wf = true) : Calls Tryd.prog 11 #[u, .int .i64 d] w (PIb (mAF L d) w) := by
  obtain ⟨rfl, h1, -, hf⟩ := h
  have HS := sacts L lo L.length w h1.toX hf
  have HD := sday d
  have HF := fun w' (hw : Below w.heap.size w w') => sfrc L lo L.length d w' (h1.toX.below hw) hf.1
  unfold mAF
  generalize inB d 0 999 = zd at HD ⊢
  generalize actsB L = za at HS ⊢
  generalize frcL L d = R at HF ⊢
  clear h1 hf
  cases za with
  | false =>
    go_enter Tryd.func11, Tryd.ntmps11
    go_wp2_with fail
    refine HS.mono ?_
    rintro e w1 ⟨rfl, hb1⟩
    go_wp2
    go_ret2
    exact ⟨_, rfl, RdI.nil _ _ _, hb1⟩
  | true =>
    cases zd with
    | false =>
      go_enter Tryd.func11, Tryd.ntmps11
      go_wp2_with fail
      refine HS.mono ?_
      rintro e w1 ⟨rfl, hb1⟩
      go_wp2_with fail
      refine (HD _).mono ?_
      rintro e w2 ⟨rfl, rfl⟩
      go_wp2
      go_ret2
      exact ⟨_, rfl, RdI.nil _ _ _, hb1⟩
    | true =>
      go_enter Tryd.func11, Tryd.ntmps11
      go_wp2_with fail
      refine HS.mono ?_
      rintro e w1 ⟨rfl, hb1⟩
      have HF1 := HF w1 hb1
      go_wp2_with fail
      refine (HD _).mono ?_
      rintro e w2 ⟨rfl, rfl⟩
      go_wp2_with fail
      refine HF1.mono ?_
      rintro e w3 ⟨⟨v, rfl, hv⟩, hb3⟩
      obtain ⟨va, vc, rfl⟩ := hv.shape
      have HV := Lib.hid (hv.mono hb1.size (Nat.le_refl _)).rd
      clear hv HF1 HF
      go_wp2
      go_ret2
      exact ⟨_, rfl, HV.out, hb1.trans (hb3.mono hb1.size)⟩
set_option maxHeartbeats 1000000 in
set_option maxRecDepth 100000 in
theorem iAF (L : List Ac) (d : Int) (w : World) (lo hi : Nat) (u : Value) (h : CpX w lo hi u L) (wf : (Lit.int .i64 d).wf = true) : Calls Tryd.prog 12 #[u, .int .i64 d] w (QIb (mAF L d) w) := by
  obtain ⟨rfl, h1, -, hf⟩ := h
  have b1 := (Below.refl w.heap.size w).alloc (Nat.le_refl _) (.cells #[.int .i64 d] 2)
  have HH := ihist L [] lo L.length none 0 (some ⟨w.heap.size, 0, none⟩) 1 [d] (w.alloc (.cells #[.int .i64 d] 2)) (h1.toX.below b1) hf (fun q => absurd q (by simp)) ⟨by simp, fun k hk => absurd hk (Nat.not_lt_zero _)⟩ (.inr ⟨_, 1, rfl, fun _ => by simp, fun i hi => by
    have hi0 : i = 0 := by simpa using hi
    subst hi0
    rw [Addr.add_lit, Nat.zero_add]
    go_simp⟩) (by simp)
  have hst : staB ([] : List Ar) = true := staB_yes ⟨by simp, fun k hk => absurd hk (Nat.not_lt_zero _)⟩
  have hdd : dayB [d] = inB d 0 999 := by
    unfold dayB
    rw [← has_in]; simp
  unfold Phist at HH
  rw [hst, hdd, Bool.true_and] at HH
  have HL := hf.1
  have HFR := Lib.hid (fun (vb : Value) (a : Option Addr) (cap : Nat) (w' : World) (hx : Hx w' a L) => ifrc L vb a cap d w' hx HL)
  unfold mAF
  generalize (actsB L && inB d 0 999) = z at HH ⊢
  generalize frcL L d = R at HFR ⊢
  clear h1 hf hst hdd
  cases z with
  | false =>
    go_enter Tryd.func12, Tryd.ntmps12
    go_wp2_with fail
    refine HH.mono ?_
    rintro e w2 ⟨⟨hz, -⟩ | ⟨-, rfl⟩, hb2⟩
    · cases hz
    · have b2 := b1.trans (hb2.mono b1.size)
      have b3 := b2.alloc b2.size (.cells #[.slice none 0 0, .slice none 0 0] 63)
      clear HH HFR
      go_wp2
      go_ret2
      exact ⟨_, rfl, OwI.nil _ _ _, b3⟩
  | true =>
    go_enter Tryd.func12, Tryd.ntmps12
    go_wp2_with fail
    refine HH.mono ?_
    rintro e w2 ⟨⟨-, a, cap, rfl, hx⟩ | ⟨hz, -⟩, hb2⟩
    · have b2 := b1.trans (hb2.mono b1.size)
      have b3 := (Below.refl w2.heap.size w2).alloc (Nat.le_refl _) (.cells #[.slice none 0 0, .slice a L.length cap] 63)
      have HF2 := HFR.out (.slice none 0 0) a cap _ (hx.below b3)
      have b4 := b2.trans (b3.mono b2.size)
      clear HH HFR hx
      go_wp2_with fail
      refine HF2.mono ?_
      rintro e w3 ⟨⟨v, rfl, hv⟩, hb3⟩
      obtain ⟨va, vc, rfl⟩ := hv.shape
      have HV := Lib.hid (hv.mono b4.size (Nat.le_refl _))
      have HB := Lib.hid (b4.trans (hb3.mono b4.size))
      clear hv HF2
      go_wp2
      go_ret2
      exact ⟨_, rfl, HV.out, HB.out⟩
    · cases hz
end Go.Proofs.YtkaakomiimcbmaaDoor
/- The statute of a day: what is left of it act by act; a statute copied. -/
namespace Go.Proofs.YtkaakomiimcbmaaDoor
open Go.ChangeShapes Go.WideShapes Go.ChangeAt Go.RowKit Go.Deep
set_option linter.unusedSimpArgs false
set_option linter.unusedVariables false
/-- Ids that rise up to n, and sentences. -/
def goodA (L : List Ar) (n : Nat) : Prop := ∀ k, k < L.length → (1 ≤ (L.getD k a0).1 ∧ (L.getD k a0).1 ≤ (n : Int)) ∧ senF (L.getD k a0).2 ∧ (0 < k → (L.getD (k - 1) a0).1 < (L.getD k a0).1)
theorem goodA_up (f : Int → Option Ar) (hf : ∀ i a, f i = some a → a.1 = i ∧ senF a.2) (n : Nat) : goodA (upA f n) n := by
  induction n with
  | zero => intro k hk; exact absurd hk (by simp [upA])
  | succ n ih =>
    rw [upA_succ]
    cases h : f ((n : Int) + 1) with
    | none =>
      simp only [List.append_nil]
      intro k hk
      obtain ⟨q1, q2, q3⟩ := ih k hk
      exact ⟨⟨q1.1, by omega⟩, q2, q3⟩
    | some a =>
      obtain ⟨e1, e2⟩ := hf _ _ h
      intro k hk
      simp only [List.length_append, List.length_cons, List.length_nil] at hk
      by_cases e : k < (upA f n).length
      · have g1 : (upA f n ++ [a]).getD k a0 = (upA f n).getD k a0 := by simp [List.getD, List.getElem?_append_left e]
        have g2 : (upA f n ++ [a]).getD (k - 1) a0 = (upA f n).getD (k - 1) a0 := by simp [List.getD, List.getElem?_append_left (show k - 1 < (upA f n).length by omega)]
        rw [g1, g2]
        obtain ⟨q1, q2, q3⟩ := ih k e
        exact ⟨⟨q1.1, by omega⟩, q2, q3⟩
      · have ek : k = (upA f n).length := by omega
        have g1 : (upA f n ++ [a]).getD k a0 = a := by subst ek; simp [List.getD]
        rw [g1]
        refine ⟨⟨by omega, by omega⟩, e2, fun h0 => ?_⟩
        have g2 : (upA f n ++ [a]).getD (k - 1) a0 = (upA f n).getD (k - 1) a0 := by simp [List.getD, List.getElem?_append_left (show k - 1 < (upA f n).length by omega)]
        rw [g2]
        have := (ih (k - 1) (by omega)).1.2
        omega
theorem sta_sen {S : List Ar} (oS : staF S) {i : Int} (h : tx S i ≠ ⟨#[]⟩) : senF (tx S i) := by
  unfold tx at h ⊢
  cases ha : fa S i with
  | none => rw [ha] at h; exact absurd rfl h
  | some a =>
    simp only
    have hm := List.mem_of_find?_eq_some ha
    obtain ⟨k, hk, e⟩ := List.mem_iff_getElem.1 hm
    have := (oS.2 k hk).2.1
    have g : S.getD k a0 = a := by simp [List.getD, hk, e]
    rwa [g] at this
theorem mAp_sta {S : List Ar} {P : List Ed} {r : List Ar} (oS : staF S) (oP : patF P) (h : mAp S P = (r, true)) : staF r := by
  have hall : ∀ i : Int, 1 ≤ i → i ≤ 99 → ∀ e, fnd P i = some e → tx S i = e.2.2.1 := fun i _ _ e he => by
    by_cases q : tx S i = e.2.2.1
    · exact q
    · rw [tp_bad oS oP he q] at h; cases h
  obtain ⟨h1, h2, h3⟩ := tp_all oS oP hall
  by_cases h8 : (cps (adds S) P).length ≤ 8
  · rw [mAp_yes ⟨h1, h8, h2⟩, h3] at h
    injection h with h _
    subst h
    have hl : (upA (ap S P) 99).length ≤ 8 := by rw [← h3, List.length_map]; exact h8
    have hg := goodA_up (ap S P) (fun i a ha => by
      by_cases q : tp S P i = ⟨#[]⟩
      · rw [ap_no q] at ha; cases ha
      · rw [ap_yes q] at ha
        injection ha with ha
        subst ha
        refine ⟨rfl, ?_⟩
        show senF (tp S P i)
        unfold tp at q ⊢
        cases hp : fnd P i with
        | none => rw [hp] at q; exact sta_sen oS q
        | some e =>
          rw [hp] at q
          have k := fnd_pat oP i e hp
          have z := (edF_alt e).1 k.2.2.2
          rcases z.2.1 with z | z
          · exact absurd z q
          · exact z) 99
    exact ⟨hl, fun k hk => hg k hk⟩
  · rw [mAp_no (fun q => h8 q.2.1)] at h; cases h
/-- A statute behind acts, one after another. -/
noncomputable def onL (L : List Ac) : List Ar → List Int → List Ar × Bool
  | S, [] => (S, true)
  | S, k :: ks => if (mAp S (L.getD k.toNat ac0).2.2).2 = true then onL L (mAp S (L.getD k.toNat ac0).2.2).1 ks else ([], false)
theorem onL_yes {L : List Ac} {S r : List Ar} {k : Nat} {ks : List Int} (h : mAp S (L.getD k ac0).2.2 = (r, true)) : onL L S ((k : Int) :: ks) = onL L r ks := by
  rw [onL, Int.toNat_natCast, h]; rfl
theorem onL_no {L : List Ac} {S r : List Ar} {k : Nat} {ks : List Int} (h : mAp S (L.getD k ac0).2.2 = (r, false)) : onL L S ((k : Int) :: ks) = ([], false) := by
  rw [onL, Int.toNat_natCast, h]; rfl
noncomputable def mON (S : List Ar) (L : List Ac) (d : Int) : List Ar × Bool := if (staB S && actsB L && inB d 0 999) = true then onL L S (frcL L d) else ([], false)
theorem OwA.ax {w : World} {lo hi : Nat} {v : Value} {L : List Ar} (h : OwA w lo hi v L) : ∃ a c, v = .slice a L.length c ∧ Ax w a L := by
  obtain ⟨h | ⟨c, cap, N, f, rfl, h1, h2, h3, h4, h5⟩, hl⟩ := h
  · obtain ⟨rfl, rfl⟩ := h; exact ⟨_, _, rfl, fun q => absurd q (by simp)⟩
  · refine ⟨_, _, rfl, fun _ => ⟨c, rfl, h4.lt, fun k hk => ⟨?_, ?_⟩⟩⟩
    · rw [h4.cell (i := k * 2) (by omega), h5 _ (by omega)]
      have e1 : k * 2 / 2 = k := by omega
      have e2 : k * 2 % 2 = 0 := by omega
      simp [ac2, e1, e2]
    · rw [h4.cell (i := k * 2 + 1) (by omega), h5 _ (by omega)]
      have e1 : (k * 2 + 1) / 2 = k := by omega
      have e2 : (k * 2 + 1) % 2 = 1 := by omega
      simp [ac2, e1, e2]
theorem ac2_one (L : List Ar) (j : Nat) : (ac2 L j).oneCell' = true := by
  unfold ac2; split <;> rfl
theorem flA_len (L : List Ar) : (flA L).length = L.length * 2 := by simp [flA]
theorem As.cells {w : World} {b : Nat} {L : List Ar} (h : As w b L) {j : Nat} (hj : j < L.length * 2) : w.cell? ⟨b, j, none⟩ = some (ac2 L j) := by
  rw [World.rowIs.cell h hj]
  have : j / 2 < L.length := by omega
  simp [af, ac2, this]
theorem newsA {w : World} {b : Nat} {L : List Ar} (h : As w b L) : ∀ j u, (flA L)[j]? = some u → w.cell? ((⟨b, 0, none⟩ : Addr).add j) = some u := by
  intro j u hj
  have hlen : j < L.length * 2 := by
    have := (List.getElem?_eq_some_iff.1 hj).1
    simpa [flA_len] using this
  rw [Addr.add_lit, Nat.zero_add, h.cells hlen]
  simpa [flA, hlen] using hj
theorem oneA (L : List Ar) : ∀ u ∈ flA L, u.oneCell' = true := by
  intro u hu
  obtain ⟨j, _, rfl⟩ := List.mem_map.1 hu
  exact ac2_one L j
set_option maxHeartbeats 1000000 in
set_option maxRecDepth 100000 in
theorem cloneA (b cap : Nat) (L : List Ar) (w : World) (h : As w b L) (hl : L.length ≤ 1048576) :
    Calls Tryd.prog 62 #[.slice (some ⟨b, 0, none⟩) L.length cap] w fun e w' => (∃ v, e = .returned v ∧ OwA w' w.heap.size w'.heap.size v L) ∧ Below w.heap.size w w' := by
  have heq : ∀ w : World, Sem.run Tryd.prog (binOp BinOp.eql 38 (.slice (some ⟨b, 0, none⟩) L.length cap) (.slice none 0 0)) w = .ok (.bool false) w := fun w => by
    first | rfl | kernel_rfl | (unfold binOp; simp [Tryd.underlying38, go_sem]; done)
  obtain ⟨i0, hi, hz0, hz1, hz2⟩ := info_parts7 infoAr
  have hown0 : (w.alloc (.cells #[] 72)).ownsRow w.heap.size 72 2 (.slice (some ⟨w.heap.size, 0, none⟩) 0 0) 0 [] := BldA.start w
  have hb0 : Below w.heap.size w (w.alloc (.cells #[] 72)) := (Below.refl _ _).alloc (Nat.le_refl _) _
  have HN := Lib.hid (newsA (h.below hb0))
  have HO := Lib.hid (oneA L)
  clear h
  go_enter Tryd.func62, Tryd.ntmps62
  go_wp2_with (first
    | (at_builtin; refine wpList_append_own _ rfl _ _ 38 rfl w.heap.size 72 i0 _ 2 24 Tryd.underlying38 hi hz0 hz1 hz2 rfl (by decide) _ _ _ rfl hown0 ⟨b, 0, none⟩ L.length cap (flA L) rfl ?c1 HN.out HO.out ?c3 ?c4 ?c5 ?_)
    | go_in)
  case c1 => rw [flA_len]
  case c3 => unfold maxLen; omega
  case c4 => omega
  case c5 => simp
  · intro v' w2 hown' hgrow hnil
    have hb2 := hb0.grown hgrow (by simp) (fun k hk => by cases hk; exact Nat.le_refl _)
    have hB : BldA w2 w.heap.size v' L := by
      unfold BldA
      simpa using hown'
    have hO := hB.done (Nat.le_refl _) hl
    obtain ⟨va, vc, rfl, -⟩ := hO.ax
    have HOO := Lib.hid hO
    clear hown' hgrow hnil hown0 hB hO
    go_wp2
    go_ret
    exact ⟨⟨_, rfl, HOO.out⟩, hb2⟩
end Go.Proofs.YtkaakomiimcbmaaDoor
/- The statute of a day: the specification's answer and the program's. -/
namespace Go.Proofs.YtkaakomiimcbmaaDoor
open Go.ChangeShapes Go.WideShapes Go.ChangeAt Go.RowKit Go.Deep
set_option linter.unusedSimpArgs false
set_option linter.unusedVariables false
theorem dropX_cons {R : List Int} {k : Nat} (hk : k < R.length) : R.drop k = R.getD k 0 :: R.drop (k + 1) := by
  rw [List.getD_eq_getElem?_getD, List.getElem?_eq_getElem hk]
  exact List.drop_eq_getElem_cons hk
/-- An act of a valid list has a valid patch. -/
theorem acts_pat {L : List Ac} (h : actsF L) {k : Nat} (hk : k < L.length) : patF (L.getD k ac0).2.2 := (h.2.1 k hk).2
set_option maxHeartbeats 4000000 in
set_option maxRecDepth 100000 in
theorem son (S : List Ar) (L : List Ac) (d : Int) (bs cs b cap : Nat) (w : World) (hS : As w bs S) (hX : Xx w b L) (oS : staF S) (oL : actsF L) :
    Calls Tryd.prog 40 #[.slice (some ⟨bs, 0, none⟩) S.length cs, .slice (some ⟨b, 0, none⟩) L.length cap, .int .i64 d] w (QAb (onL L S (frcL L d)) w) := by
  obtain ⟨i0, hi, hz0, hz1, hz2⟩ := info_parts7 infoAr
  have ls := oS.1
  have ll := oL.1
  have hown0 : (w.alloc (.cells #[] 72)).ownsRow w.heap.size 72 2 (.slice (some ⟨w.heap.size, 0, none⟩) 0 0) 0 [] := BldA.start w
  have hb0 : Below w.heap.size w (w.alloc (.cells #[] 72)) := (Below.refl _ _).alloc (Nat.le_refl _) _
  have HN := Lib.hid (newsA (hS.below hb0))
  have HO := Lib.hid (oneA S)
  have HX := Lib.hid hX
  have OL := Lib.hid oL
  have OS := Lib.hid oS
  have HF := Lib.hid (fun w' (hw : Below w.heap.size w w') => sfrc L b cap d w' (hX.below hw) (by omega))
  have hRL := frcL_len L d
  have HRT : Hid (∀ k : Nat, k < (frcL L d).length → ∃ j : Nat, (frcL L d).getD k 0 = (j : Int) ∧ j < L.length) := fun k hk => frcL_lt hk
  obtain ⟨R, hR⟩ : ∃ R, frcL L d = R := ⟨_, rfl⟩
  rw [hR] at HF hRL HRT ⊢
  clear hS hX oS oL hR
  go_enter Tryd.func40, Tryd.ntmps40
  go_wp2_with (first
    | (at_builtin; refine wpList_append_own _ rfl _ _ 38 rfl w.heap.size 72 i0 _ 2 24 Tryd.underlying38 hi hz0 hz1 hz2 rfl (by decide) _ _ _ rfl hown0 ⟨bs, 0, none⟩ S.length cs (flA S) rfl ?c1 HN.out HO.out ?c3 ?c4 ?c5 ?_)
    | go_in)
  case c1 => rw [flA_len]
  case c3 => unfold maxLen; omega
  case c4 => omega
  case c5 => simp
  intro v1 w1 hown' hgrow hnil
  have hb1 := hb0.grown hgrow (by simp) (fun k hk => by cases hk; exact Nat.le_refl _)
  have hB : BldA w1 w.heap.size v1 S := by
    unfold BldA
    simpa using hown'
  have hO1 := hB.done (Nat.le_refl _) (by omega)
  have hO1' := Lib.hid hO1
  obtain ⟨va, vc, rfl, -⟩ := hO1.ax
  have HF1 := HF.out w1 hb1
  clear hown' hgrow hnil hown0 hB hO1 HF HN HO
  go_wp2_with fail
  refine HF1.mono ?_
  rintro e w2 ⟨⟨vr, rfl, hvr⟩, hb2⟩
  obtain ⟨ra, rc, rfl⟩ := hvr.shape
  have hb2' := hb1.trans (hb2.mono hb1.size)
  have hO2 := Lib.hid ((hO1'.out.below hb2).mono (Nat.le_refl _) hb2.size)
  have HVR := Lib.hid hvr.rd.1
  clear HF1 hvr hb1 hb2 hO1'
  go_wp2
  go_loopg [8, 10] R.length (fun g v i wr => ∃ (k : Nat) (T : List Ar), k ≤ R.length ∧ g = R.length - k ∧ i = .int .i64 k ∧ Below w2.heap.size w2 wr ∧ Hid (onL L S R = onL L T (R.drop k)) ∧ Hid (staF T) ∧ Hid (OwA wr w.heap.size wr.heap.size v T))
  case atStart => exact ⟨0, S, Nat.zero_le _, rfl, rfl, Below.refl _ _, rfl, OS.out, hO2⟩
  case round =>
    clear hO2
    obtain ⟨k, T, hk, rfl, rfl, hb, HE, HT, HO⟩ := hrel
    obtain ⟨ta, tc, hv, hax⟩ := HO.out.ax
    subst hv
    have sb := hb.size
    have sb2 := hb2'.size
    by_cases hlt : k < R.length
    · obtain ⟨x, cp, hxe, hxb, hxc⟩ := (HVR.out.below hb).cons (by intro q; rw [q] at hlt; simp at hlt)
      injection hxe with q1 q2 q3
      subst q1
      obtain ⟨j, hj, hjl⟩ := HRT.out k hlt
      have c1 := hxc k hlt
      rw [hj] at c1
      obtain ⟨c, -, -, d2, d3⟩ := (HX.out.below (hb2'.trans (hb.mono sb2))).2 j hjl
      have hA := sappx T (L.getD j ac0).2.2 ta tc c (L.getD j ac0).2.2.length wr hax d3 HT.out (acts_pat OL.out hjl)
      unfold PAp at hA
      have hdr := dropX_cons hlt
      rw [hj] at hdr
      have HY := Lib.hid (show ∀ r, mAp T (L.getD j ac0).2.2 = (r, true) → onL L S R = onL L r (R.drop (k + 1)) from fun r h => by rw [HE.out, hdr]; exact onL_yes h)
      have HN := Lib.hid (show ∀ r, mAp T (L.getD j ac0).2.2 = (r, false) → onL L S R = ([], false) from fun r h => by rw [HE.out, hdr]; exact onL_no h)
      have HST := Lib.hid (fun r (h : mAp T (L.getD j ac0).2.2 = (r, true)) => mAp_sta HT.out (acts_pat OL.out hjl) h)
      obtain ⟨P, hP⟩ : ∃ P, (L.getD j ac0).2.2 = P := ⟨_, rfl⟩
      rw [hP] at d2 hA HY HN HST
      clear d3 hax hP hdr q2 q3 hxc hj HO
      go_wp2_with fail
      refine hA.mono ?_
      rintro e w3 ⟨v, r, z, rfl, hv, hb3, hm⟩
      obtain ⟨ua, uc, rfl, -⟩ := hv.ax
      have hb4 := hb.trans (hb3.mono sb)
      have HB4 := Lib.hid (hb2'.trans (hb4.mono sb2))
      cases z with
      | false =>
        have HNO := Lib.hid (HN.out [] (by simpa using hm))
        clear hA hv hm hb3 HY HN HST
        go_wp2
        go_ret2
        rw [HNO.out]
        exact ⟨_, rfl, OwA.nil _ _ _, HB4.out⟩
      | true =>
        have hm' : mAp T P = (r, true) := by simpa using hm
        have HYY := Lib.hid (HY.out r hm')
        have HSS := Lib.hid (HST.out r hm')
        have HOV := Lib.hid (hv.mono (lo' := w.heap.size) (by omega) (Nat.le_refl _))
        clear hA hv hm hm' hb3 HY HN HST
        go_wp2
        go_roundg (R.length - (k + 1))
        case measure => omega
        case rel => exact ⟨k + 1, r, by omega, rfl, by simp, hb4, HYY, HSS, HOV⟩
    · have e : k = R.length := by omega
      subst e
      have HEE : Hid (onL L S R = (T, true)) := by
        show onL L S R = (T, true)
        rw [HE.out, List.drop_length]; rfl
      have HB4 := Lib.hid (hb2'.trans (hb.mono sb2))
      clear hax
      go_wp2
      go_ret2
      rw [HEE.out]
      exact ⟨_, rfl, HO.out, HB4.out⟩
end Go.Proofs.YtkaakomiimcbmaaDoor
/- The statute of a day: both exported calls. -/
namespace Go.Proofs.YtkaakomiimcbmaaDoor
open Go.ChangeShapes Go.WideShapes Go.ChangeAt Go.RowKit Go.Deep
set_option linter.unusedSimpArgs false
set_option linter.unusedVariables false
set_option maxHeartbeats 4000000 in
set_option maxRecDepth 100000 in
theorem itext (S : List Ar) (L : List Ac) (d : Int) (bs cs : Nat) (a : Option Addr) (cap : Nat) (w : World) (hS : As w bs S) (hX : Hx w a L) (oS : staF S) (oL : actsF L) :
    Calls Tryd.prog 42 #[.agg #[.slice (some ⟨bs, 0, none⟩) S.length cs, .slice a L.length cap], .int .i64 d] w (QAb (onL L S (frcL L d)) w) := by
  have ls := oS.1
  have ll := oL.1
  have b0 := (Below.refl w.heap.size w).alloc (Nat.le_refl _) (.cells #[.slice (some ⟨bs, 0, none⟩) S.length cs, .slice a L.length cap] 63)
  have p0 : (w.alloc (.cells #[.slice (some ⟨bs, 0, none⟩) S.length cs, .slice a L.length cap] 63)).cell? ⟨w.heap.size, 0, none⟩ = some (.slice (some ⟨bs, 0, none⟩) S.length cs) := by go_simp
  have p1 : (w.alloc (.cells #[.slice (some ⟨bs, 0, none⟩) S.length cs, .slice a L.length cap] 63)).cell? ⟨w.heap.size, 1, none⟩ = some (.slice a L.length cap) := by go_simp
  have s0 : w.heap.size < (w.alloc (.cells #[.slice (some ⟨bs, 0, none⟩) S.length cs, .slice a L.length cap] 63)).heap.size := by simp
  have HC := cloneA bs cs S (w.alloc (.cells #[.slice (some ⟨bs, 0, none⟩) S.length cs, .slice a L.length cap] 63)) (hS.below b0) (by omega)
  have HX := Lib.hid hX
  have OL := Lib.hid oL
  have OS := Lib.hid oS
  have HF := Lib.hid (fun w' (hw : Below w.heap.size w w') => ifrc L (.slice (some ⟨bs, 0, none⟩) S.length cs) a cap d w' (hX.below hw) (by omega))
  have hRL := frcL_len L d
  have HRT : Hid (∀ k : Nat, k < (frcL L d).length → ∃ j : Nat, (frcL L d).getD k 0 = (j : Int) ∧ j < L.length) := fun k hk => frcL_lt hk
  obtain ⟨R, hR⟩ : ∃ R, frcL L d = R := ⟨_, rfl⟩
  rw [hR] at HF hRL HRT ⊢
  obtain ⟨w0, hw0⟩ : ∃ w0, w.alloc (.cells #[.slice (some ⟨bs, 0, none⟩) S.length cs, .slice a L.length cap] 63) = w0 := ⟨_, rfl⟩
  rw [hw0] at b0 p0 p1 s0 HC
  clear hS hX oS oL hR
  go_enter Tryd.func42, Tryd.ntmps42
  go_wp2_with fail
  refine HC.mono ?_
  rintro e w1 ⟨⟨v1, rfl, hO1⟩, hb1⟩
  obtain ⟨va, vc, rfl, -⟩ := hO1.ax
  have q0 := (hb1.cell (p := ⟨w.heap.size, 0, none⟩) s0).trans p0
  have q1 := (hb1.cell (p := ⟨w.heap.size, 1, none⟩) s0).trans p1
  have s1 := hb1.size
  have bw1 := b0.trans (hb1.mono b0.size)
  have HF1 := HF.out w1 bw1
  have hO1' := Lib.hid hO1
  clear HC HF hO1 p0 p1 hw0
  go_wp2_with fail
  refine HF1.mono ?_
  rintro e w2 ⟨⟨vr, rfl, hvr⟩, hb2⟩
  obtain ⟨ra, rc, rfl⟩ := hvr.shape
  have r1 := (hb2.cell (p := ⟨w.heap.size, 1, none⟩) (by show w.heap.size < _; omega)).trans q1
  have hb2' := bw1.trans (hb2.mono bw1.size)
  have s2 := hb2.size
  have hO2 := Lib.hid ((hO1'.out.below hb2).mono (lo' := w.heap.size) (by omega) s2)
  have HVR := Lib.hid hvr.rd.1
  clear HF1 hvr q0 q1 hO1' hb1 hb2
  go_wp2
  go_loopg [6, 7, 9, 17] R.length (fun g v _ _ i wr => ∃ (k : Nat) (T : List Ar), k ≤ R.length ∧ g = R.length - k ∧ i = .int .i64 k ∧ Below w2.heap.size w2 wr ∧ Hid (onL L S R = onL L T (R.drop k)) ∧ Hid (staF T) ∧ Hid (OwA wr w.heap.size wr.heap.size v T))
  case atStart => exact ⟨0, S, Nat.zero_le _, rfl, rfl, Below.refl _ _, rfl, OS.out, hO2⟩
  case round =>
    clear hO2
    obtain ⟨k, T, hk, rfl, rfl, hb, HE, HT, HO⟩ := hrel
    obtain ⟨ta, tc, hv, hax⟩ := HO.out.ax
    subst hv
    have sb := hb.size
    have sb2 := hb2'.size
    have r2 := (hb.cell (p := ⟨w.heap.size, 1, none⟩) (by show w.heap.size < _; omega)).trans r1
    by_cases hlt : k < R.length
    · obtain ⟨x, cp, hxe, hxb, hxc⟩ := (HVR.out.below hb).cons (by intro q; rw [q] at hlt; simp at hlt)
      injection hxe with q1 q2 q3
      subst q1
      obtain ⟨j, hj, hjl⟩ := HRT.out k hlt
      have c1 := hxc k hlt
      rw [hj] at c1
      obtain ⟨b, hae, hxx⟩ := (HX.out.below (hb2'.trans (hb.mono sb2))) (by omega)
      subst hae
      obtain ⟨c, -, -, d2, d3⟩ := hxx.2 j hjl
      have hA := iapplx T (L.getD j ac0).2.2 ta tc c wr hax d3 HT.out (acts_pat OL.out hjl)
      unfold QAb at hA
      have hdr := dropX_cons hlt
      rw [hj] at hdr
      have HY := Lib.hid (show ∀ r, mAp T (L.getD j ac0).2.2 = (r, true) → onL L S R = onL L r (R.drop (k + 1)) from fun r h => by rw [HE.out, hdr]; exact onL_yes h)
      have HN := Lib.hid (show ∀ r, mAp T (L.getD j ac0).2.2 = (r, false) → onL L S R = ([], false) from fun r h => by rw [HE.out, hdr]; exact onL_no h)
      have HST := Lib.hid (fun r (h : mAp T (L.getD j ac0).2.2 = (r, true)) => mAp_sta HT.out (acts_pat OL.out hjl) h)
      obtain ⟨P, hP⟩ : ∃ P, (L.getD j ac0).2.2 = P := ⟨_, rfl⟩
      rw [hP] at d2 hA HY HN HST
      obtain ⟨⟨r, z⟩, hm⟩ : ∃ p, mAp T P = p := ⟨_, rfl⟩
      rw [hm] at hA
      simp only at hA
      clear d3 hax hP hdr q2 q3 hxc hj HO hxx
      go_wp2_with fail
      refine hA.mono ?_
      rintro e w3 ⟨v, rfl, hv, hb3⟩
      obtain ⟨ua, uc, rfl, -⟩ := hv.ax
      have hb4 := hb.trans (hb3.mono sb)
      have HB4 := Lib.hid (hb2'.trans (hb4.mono sb2))
      cases z with
      | false =>
        have HNO := Lib.hid (HN.out r hm)
        clear hA hv hm hb3 HY HN HST
        go_wp2
        go_ret2
        rw [HNO.out]
        exact ⟨_, rfl, OwA.nil _ _ _, HB4.out⟩
      | true =>
        have HYY := Lib.hid (HY.out r hm)
        have HSS := Lib.hid (HST.out r hm)
        have HOV := Lib.hid (hv.mono (lo' := w.heap.size) (by omega) (Nat.le_refl _))
        clear hA hv hm hb3 HY HN HST
        go_wp2
        go_roundg (R.length - (k + 1))
        case measure => omega
        case rel => exact ⟨k + 1, r, by omega, rfl, by simp, hb4, HYY, HSS, HOV⟩
    · have e : k = R.length := by omega
      subst e
      have HEE : Hid (onL L S R = (T, true)) := by
        show onL L S R = (T, true)
        rw [HE.out, List.drop_length]; rfl
      have HB4 := Lib.hid (hb2'.trans (hb.mono sb2))
      clear hax
      go_wp2
      go_ret2
      rw [HEE.out]
      exact ⟨_, rfl, HO.out, HB4.out⟩
theorem sboth (S : List Ar) (L : List Ac) (bs cs b cap : Nat) (w : World) (hS : As w bs S) (hfS : FitsA S) (hX : Xx w b L) (hfX : FitsX L) :
    Calls Tryd.prog 39 #[.slice (some ⟨bs, 0, none⟩) S.length cs, .slice (some ⟨b, 0, none⟩) L.length cap] w fun e w' => e = .returned (.bool (staB S && actsB L)) ∧ Below w.heap.size w w' := by
  have HS := sstat S bs cs w hS hfS
  have HA := fun w' (hw : Below w.heap.size w w') => sacts L b cap w' (hX.below hw) hfX
  generalize staB S = z at HS ⊢
  generalize actsB L = y at HA ⊢
  clear hS hX
  cases z with
  | false =>
    go_enter Tryd.func39, Tryd.ntmps39
    go_wp2_with fail
    refine HS.mono ?_
    rintro e w1 ⟨rfl, hd⟩
    have hb1 := hd.below
    go_wp2
    go_ret
    exact ⟨rfl, hb1⟩
  | true =>
    go_enter Tryd.func39, Tryd.ntmps39
    go_wp2_with fail
    refine HS.mono ?_
    rintro e w1 ⟨rfl, hd⟩
    have hb1 := hd.below
    have HA1 := HA w1 hb1
    go_wp2_with fail
    refine HA1.mono ?_
    rintro e w2 ⟨rfl, hb2⟩
    go_wp2
    go_ret
    exact ⟨by cases y <;> rfl, hb1.trans (hb2.mono hb1.size)⟩
set_option maxHeartbeats 2000000 in
set_option maxRecDepth 100000 in
theorem sON (S : List Ar) (L : List Ac) (d : Int) (w : World) (lo hi : Nat) (u : Value) (h : CpA w lo hi u S) (lo' hi' : Nat) (u' : Value) (h' : CpX w lo' hi' u' L) (wf : (Lit.int .i64 d).wf = true) : Calls Tryd.prog 18 #[u, u', .int .i64 d] w (PAb (mON S L d) w) := by
  obtain ⟨rfl, hS, -, hfS⟩ := h
  obtain ⟨rfl, hX, -, hfX⟩ := h'
  have HB := sboth S L lo S.length lo' L.length w hS hfS hX.toX hfX
  have HD := sday d
  have HO := Lib.hid (fun (oS : staF S) (oL : actsF L) w' (hw : Below w.heap.size w w') => son S L d lo S.length lo' L.length w' (hS.below hw) (hX.toX.below hw) oS oL)
  unfold mON
  have hz : ∀ z, (staB S && actsB L) = z → z = true → staF S ∧ actsF L := fun z e h => by
    rw [h, Bool.and_eq_true] at e
    exact ⟨staB_iff.1 e.1, actsB_iff.1 e.2⟩
  obtain ⟨z, he⟩ : ∃ z, (staB S && actsB L) = z := ⟨_, rfl⟩
  have HZ := Lib.hid (hz z he)
  rw [he] at HB ⊢
  obtain ⟨y, hy⟩ : ∃ y, inB d 0 999 = y := ⟨_, rfl⟩
  rw [hy] at HD ⊢
  clear hS hX hz he hy
  cases z with
  | false =>
    go_enter Tryd.func18, Tryd.ntmps18
    go_wp2_with fail
    refine HB.mono ?_
    rintro e w1 ⟨rfl, hb1⟩
    go_wp2
    go_ret2
    exact ⟨_, rfl, RdA.nil _ _ _, hb1⟩
  | true =>
    cases y with
    | false =>
      go_enter Tryd.func18, Tryd.ntmps18
      go_wp2_with fail
      refine HB.mono ?_
      rintro e w1 ⟨rfl, hb1⟩
      go_wp2_with fail
      refine (HD _).mono ?_
      rintro e w2 ⟨rfl, rfl⟩
      go_wp2
      go_ret2
      exact ⟨_, rfl, RdA.nil _ _ _, hb1⟩
    | true =>
      obtain ⟨oS, oL⟩ := HZ.out rfl
      have HO1 := HO.out oS oL
      obtain ⟨⟨r, z⟩, hm⟩ : ∃ p, onL L S (frcL L d) = p := ⟨_, rfl⟩
      rw [hm] at HO1
      simp only [Bool.and_self, if_true, hm]
      clear hm oS oL HO
      go_enter Tryd.func18, Tryd.ntmps18
      go_wp2_with fail
      refine HB.mono ?_
      rintro e w1 ⟨rfl, hb1⟩
      have HO2 := HO1 w1 hb1
      unfold QAb at HO2
      go_wp2_with fail
      refine (HD _).mono ?_
      rintro e w2 ⟨rfl, rfl⟩
      go_wp2_with fail
      refine HO2.mono ?_
      rintro e w3 ⟨v, rfl, hv, hb3⟩
      obtain ⟨va, vc, rfl, -⟩ := hv.ax
      have HV := Lib.hid (hv.mono hb1.size (Nat.le_refl _)).rd
      clear hv HO1 HO2
      go_wp2
      go_ret2
      exact ⟨_, rfl, HV.out, hb1.trans (hb3.mono hb1.size)⟩
set_option maxHeartbeats 2000000 in
set_option maxRecDepth 100000 in
theorem iON (S : List Ar) (L : List Ac) (d : Int) (w : World) (lo hi : Nat) (u : Value) (h : CpA w lo hi u S) (lo' hi' : Nat) (u' : Value) (h' : CpX w lo' hi' u' L) (wf : (Lit.int .i64 d).wf = true) : Calls Tryd.prog 20 #[u, u', .int .i64 d] w (QAb (mON S L d) w) := by
  obtain ⟨rfl, hS, -, hfS⟩ := h
  obtain ⟨rfl, hX, -, hfX⟩ := h'
  have b1 := (Below.refl w.heap.size w).alloc (Nat.le_refl _) (.cells #[.int .i64 d] 2)
  have HH := ihist L S lo' L.length (some ⟨lo, 0, none⟩) S.length (some ⟨w.heap.size, 0, none⟩) 1 [d] (w.alloc (.cells #[.int .i64 d] 2)) (hX.toX.below b1) hfX (hS.below b1).ax hfS (.inr ⟨_, 1, rfl, fun _ => by simp, fun i hi => by
    have hi0 : i = 0 := by simpa using hi
    subst hi0
    rw [Addr.add_lit, Nat.zero_add]
    go_simp⟩) (by simp)
  have hdd : dayB [d] = inB d 0 999 := by
    unfold dayB
    rw [← has_in]; simp
  unfold Phist at HH
  rw [hdd] at HH
  have HT := Lib.hid (fun (oS : staF S) (oL : actsF L) (a : Option Addr) (cap : Nat) (w' : World) (hw : Below w.heap.size w w') (hx : Hx w' a L) => itext S L d lo S.length a cap w' (hS.below hw) hx oS oL)
  have hz : ∀ z, (staB S && actsB L && inB d 0 999) = z → z = true → staF S ∧ actsF L := fun z e h => by
    rw [h, Bool.and_eq_true, Bool.and_eq_true] at e
    exact ⟨staB_iff.1 e.1.1, actsB_iff.1 e.1.2⟩
  unfold mON
  obtain ⟨z, he⟩ : ∃ z, (staB S && actsB L && inB d 0 999) = z := ⟨_, rfl⟩
  have HZ := Lib.hid (hz z he)
  rw [he] at HH ⊢
  clear hS hX hz he hdd
  cases z with
  | false =>
    go_enter Tryd.func20, Tryd.ntmps20
    go_wp2_with fail
    refine HH.mono ?_
    rintro e w2 ⟨⟨hz, -⟩ | ⟨-, rfl⟩, hb2⟩
    · cases hz
    · have b2 := b1.trans (hb2.mono b1.size)
      have b3 := b2.alloc b2.size (.cells #[.slice none 0 0, .slice none 0 0] 63)
      clear HH HT
      go_wp2
      go_ret2
      exact ⟨_, rfl, OwA.nil _ _ _, b3⟩
  | true =>
    obtain ⟨oS, oL⟩ := HZ.out rfl
    have HT1 := Lib.hid (HT.out oS oL)
    obtain ⟨⟨r, z⟩, hm⟩ : ∃ p, onL L S (frcL L d) = p := ⟨_, rfl⟩
    rw [hm] at HT1
    simp only [if_true, hm]
    clear hm oS oL HT
    go_enter Tryd.func20, Tryd.ntmps20
    go_wp2_with fail
    refine HH.mono ?_
    rintro e w2 ⟨⟨-, a, cap, rfl, hx⟩ | ⟨hz, -⟩, hb2⟩
    · have b2 := b1.trans (hb2.mono b1.size)
      have b3 := (Below.refl w2.heap.size w2).alloc (Nat.le_refl _) (.cells #[.slice (some ⟨lo, 0, none⟩) S.length S.length, .slice a L.length cap] 63)
      have b4 := b2.trans (b3.mono b2.size)
      have HT2 := HT1.out a cap _ b4 (hx.below b3)
      unfold QAb at HT2
      clear HH HT1 hx
      go_wp2_with fail
      refine HT2.mono ?_
      rintro e w3 ⟨v, rfl, hv, hb3⟩
      obtain ⟨va, vc, rfl, -⟩ := hv.ax
      have HV := Lib.hid (hv.mono b4.size (Nat.le_refl _))
      have HB := Lib.hid (b4.trans (hb3.mono b4.size))
      clear hv HT2
      go_wp2
      go_ret2
      exact ⟨_, rfl, HV.out, HB.out⟩
    · cases hz
end Go.Proofs.YtkaakomiimcbmaaDoor
/- A copy of acts is kept. -/
namespace Go.Proofs.YtkaakomiimcbmaaDoor
open Go.ChangeShapes Go.WideShapes Go.ChangeAt Go.RowKit Go.Deep
theorem CpX.kept {w w' : World} {lo hi : Nat} {v : Value} {l : List Ac} {S : Nat → Prop} (h : CpX w lo hi v l) (hk : Kept w w' S) (hs : ∀ b, lo ≤ b → b < hi → ¬ S b) : CpX w' lo hi v l := by
  obtain ⟨h1, h2, ⟨h3, c, h4, h5⟩, h6⟩ := h
  have hc : CopyX lo lo w' l l.length l.length c := ⟨hk.row h4.row (hs lo (Nat.le_refl _) h3), fun j hj => ⟨(h4.own j hj).1, hk.row (h4.own j hj).2 (hs (c j) (by have := (h4.own j hj).1; omega) (h5 j hj))⟩, h4.inj⟩
  exact ⟨h1, ⟨c, hc⟩, ⟨h3, c, hc, h5⟩, h6⟩
end Go.Proofs.YtkaakomiimcbmaaDoor
