/- Several of this claim's texts in one: Cm1, Cm2. -/
import Derived.Test.YtkaakomiimcbmaaDoorMpa
import Derived.Test.YtkaakomiimcbmaaDoorDla
/- Two patches in one: pure, and the program's composed. -/
namespace Go.Proofs.YtkaakomiimcbmaaDoor
open Go.ChangeShapes Go.WideShapes Go.ChangeAt Go.RowKit Go.Deep
set_option linter.unusedSimpArgs false
set_option linter.unusedVariables false
/-- The edit y does not fit what x has left. -/
noncomputable def neO (x y : Ed) : Bool := @decide (y.2.2.1 ≠ x.2.2.2) (Classical.propDecidable _)
theorem neO_no {x y : Ed} (h : y.2.2.1 = x.2.2.2) : neO x y = false := by simp [neO, h]
theorem neO_yes {x y : Ed} (h : y.2.2.1 ≠ x.2.2.2) : neO x y = true := by simp [neO, h]
noncomputable def joinE (x y : Ed) : Ed := (kindE x.2.2.1 y.2.2.2, x.2.1, x.2.2.1, y.2.2.2)
noncomputable def difE (e : Ed) : Bool := @decide (e.2.2.1 ≠ e.2.2.2) (Classical.propDecidable _)
theorem difE_no {e : Ed} (h : e.2.2.1 = e.2.2.2) : difE e = false := by simp [difE, h]
theorem difE_yes {e : Ed} (h : e.2.2.1 ≠ e.2.2.2) : difE e = true := by simp [difE, h]
noncomputable def cps (P Q : List Ed) : List Ed := (mrg joinE P Q).filter fun e => difE e
/-- What composed says. -/
noncomputable def cmpd (P Q : List Ed) : List Ed × Bool := if (shd P Q neO).isEmpty then (cps P Q, true) else ([], false)
set_option maxHeartbeats 1000000 in
theorem icp1 (x y : Ed) (w : World) : Calls Tryd.prog 79 #[vE x, vE y] w fun e w' => e = .returned (.bool (neO x y)) ∧ Below w.heap.size w w' := by
  obtain ⟨k, i, a, b⟩ := x
  obtain ⟨k', i', a', b'⟩ := y
  unfold vE
  simp only
  have b1 := ((Below.refl w.heap.size w).alloc (Nat.le_refl _) (.cells #[.int .i64 k, .int .i64 i, .string a, .string b] 93)).alloc (by simp) (.cells #[.int .i64 k', .int .i64 i', .string a', .string b'] 93)
  by_cases h : a' = b
  · subst h
    rw [neO_no rfl]
    go_enter Tryd.func79, Tryd.ntmps79
    go_wp2
    go_ret
    exact ⟨by simp, b1⟩
  · rw [neO_yes h]
    have t := str_ne h
    clear h
    go_enter Tryd.func79, Tryd.ntmps79
    go_wp2
    go_ret
    exact ⟨by simp [t], b1⟩
set_option maxHeartbeats 1000000 in
theorem icp3 (x : Ed) (w : World) : Calls Tryd.prog 84 #[vE x] w fun e w' => e = .returned (.bool (!difE x)) ∧ Below w.heap.size w w' := by
  obtain ⟨k, i, a, b⟩ := x
  unfold vE
  simp only
  have b1 := (Below.refl w.heap.size w).alloc (Nat.le_refl _) (.cells #[.int .i64 k, .int .i64 i, .string a, .string b] 93)
  by_cases h : a = b
  · subst h
    rw [difE_no rfl]
    go_enter Tryd.func84, Tryd.ntmps84
    go_wp2
    go_ret
    exact ⟨by simp, b1⟩
  · rw [difE_yes h]
    have t := str_ne h
    clear h
    go_enter Tryd.func84, Tryd.ntmps84
    go_wp2
    go_ret
    exact ⟨by simp [t], b1⟩
set_option maxHeartbeats 1000000 in
theorem icp2 (x y : Ed) (w : World) : Calls Tryd.prog 82 #[vE x, vE y] w fun e w' => e = .returned (vE (joinE x y)) ∧ Below w.heap.size w w' := by
  obtain ⟨k, i, a, b⟩ := x
  obtain ⟨k', i', a', b'⟩ := y
  unfold vE joinE
  simp only
  have b1 := (((Below.refl w.heap.size w).alloc (Nat.le_refl _) (.cells #[.int .i64 k, .int .i64 i, .string a, .string b] 93)).alloc (by simp) (.cells #[.int .i64 k', .int .i64 i', .string a', .string b'] 93)).alloc (by simp; omega) (.cells #[.int .i64 0, .int .i64 0, .string ⟨#[]⟩, .string ⟨#[]⟩] 93)
  have HE := fun W => iefrom i a b' W
  obtain ⟨z, hz⟩ : ∃ z, kindE a b' = z := ⟨_, rfl⟩
  simp only [hz] at HE ⊢
  clear hz
  go_enter Tryd.func82, Tryd.ntmps82
  go_wp2_with fail
  refine (HE _).mono ?_
  rintro e w1 ⟨rfl, hb⟩
  have hs := hb.size
  have hb1 := b1.trans (hb.mono (by simp; omega))
  have p0 := hb.cell (p := ⟨w.heap.size + 1 + 1, 0, none⟩) (by simp)
  have p1 := hb.cell (p := ⟨w.heap.size + 1 + 1, 1, none⟩) (by simp)
  have p2 := hb.cell (p := ⟨w.heap.size + 1 + 1, 2, none⟩) (by simp)
  have p3 := hb.cell (p := ⟨w.heap.size + 1 + 1, 3, none⟩) (by simp)
  have f0 := hb.frozen (p := ⟨w.heap.size + 1 + 1, 0, none⟩) (by simp)
  have f1 := hb.frozen (p := ⟨w.heap.size + 1 + 1, 1, none⟩) (by simp)
  have f2 := hb.frozen (p := ⟨w.heap.size + 1 + 1, 2, none⟩) (by simp)
  have f3 := hb.frozen (p := ⟨w.heap.size + 1 + 1, 3, none⟩) (by simp)
  rw [show (((w.alloc (.cells #[.int .i64 k, .int .i64 i, .string a, .string b] 93)).alloc (.cells #[.int .i64 k', .int .i64 i', .string a', .string b'] 93)).alloc (.cells #[.int .i64 0, .int .i64 0, .string ⟨#[]⟩, .string ⟨#[]⟩] 93)).cell? ⟨w.heap.size + 1 + 1, 0, none⟩ = some (.int .i64 0) by go_simp] at p0
  rw [show (((w.alloc (.cells #[.int .i64 k, .int .i64 i, .string a, .string b] 93)).alloc (.cells #[.int .i64 k', .int .i64 i', .string a', .string b'] 93)).alloc (.cells #[.int .i64 0, .int .i64 0, .string ⟨#[]⟩, .string ⟨#[]⟩] 93)).cell? ⟨w.heap.size + 1 + 1, 1, none⟩ = some (.int .i64 0) by go_simp] at p1
  rw [show (((w.alloc (.cells #[.int .i64 k, .int .i64 i, .string a, .string b] 93)).alloc (.cells #[.int .i64 k', .int .i64 i', .string a', .string b'] 93)).alloc (.cells #[.int .i64 0, .int .i64 0, .string ⟨#[]⟩, .string ⟨#[]⟩] 93)).cell? ⟨w.heap.size + 1 + 1, 2, none⟩ = some (.string ⟨#[]⟩) by go_simp] at p2
  rw [show (((w.alloc (.cells #[.int .i64 k, .int .i64 i, .string a, .string b] 93)).alloc (.cells #[.int .i64 k', .int .i64 i', .string a', .string b'] 93)).alloc (.cells #[.int .i64 0, .int .i64 0, .string ⟨#[]⟩, .string ⟨#[]⟩] 93)).cell? ⟨w.heap.size + 1 + 1, 3, none⟩ = some (.string ⟨#[]⟩) by go_simp] at p3
  rw [show (((w.alloc (.cells #[.int .i64 k, .int .i64 i, .string a, .string b] 93)).alloc (.cells #[.int .i64 k', .int .i64 i', .string a', .string b'] 93)).alloc (.cells #[.int .i64 0, .int .i64 0, .string ⟨#[]⟩, .string ⟨#[]⟩] 93)).frozen? ⟨w.heap.size + 1 + 1, 0, none⟩ = false by go_simp] at f0
  rw [show (((w.alloc (.cells #[.int .i64 k, .int .i64 i, .string a, .string b] 93)).alloc (.cells #[.int .i64 k', .int .i64 i', .string a', .string b'] 93)).alloc (.cells #[.int .i64 0, .int .i64 0, .string ⟨#[]⟩, .string ⟨#[]⟩] 93)).frozen? ⟨w.heap.size + 1 + 1, 1, none⟩ = false by go_simp] at f1
  rw [show (((w.alloc (.cells #[.int .i64 k, .int .i64 i, .string a, .string b] 93)).alloc (.cells #[.int .i64 k', .int .i64 i', .string a', .string b'] 93)).alloc (.cells #[.int .i64 0, .int .i64 0, .string ⟨#[]⟩, .string ⟨#[]⟩] 93)).frozen? ⟨w.heap.size + 1 + 1, 2, none⟩ = false by go_simp] at f2
  rw [show (((w.alloc (.cells #[.int .i64 k, .int .i64 i, .string a, .string b] 93)).alloc (.cells #[.int .i64 k', .int .i64 i', .string a', .string b'] 93)).alloc (.cells #[.int .i64 0, .int .i64 0, .string ⟨#[]⟩, .string ⟨#[]⟩] 93)).frozen? ⟨w.heap.size + 1 + 1, 3, none⟩ = false by go_simp] at f3
  have hB : ∀ a b c d, Below w.heap.size w ((((w1.setCell ⟨w.heap.size + 1 + 1, 0, none⟩ a).setCell ⟨w.heap.size + 1 + 1, 1, none⟩ b).setCell ⟨w.heap.size + 1 + 1, 2, none⟩ c).setCell ⟨w.heap.size + 1 + 1, 3, none⟩ d) := fun a b c d => by
    refine Below.setCell (Below.setCell (Below.setCell (Below.setCell hb1 ?_ _) ?_ _) ?_ _) ?_ _ <;> (show w.heap.size ≤ w.heap.size + 1 + 1; omega)
  clear hb HE b1
  go_wp2
  refine bodyPost_ret (v := .agg #[.int .i64 z, .int .i64 i, .string a, .string b']) (by simp [results, Tryd.results82, go_sem, p0, p1, p2, p3]) rfl ⟨rfl, ?_⟩
  exact hB _ _ _ _
set_option maxHeartbeats 1000000 in
theorem idxnil7 (F : FuncId) (w : World) : Calls Tryd.prog 87 #[.slice none 0 0, .func (.func F) #[] #[]] w fun e w' => e = .returned (.int .i64 (-1)) ∧ w = w' := by
  go_enter Tryd.func87, Tryd.ntmps87
  go_wp2
  go_loopg [8] 0 (fun g i wr => g = 0 ∧ i = .int .i64 0 ∧ w = wr)
  case atStart => exact ⟨rfl, rfl, rfl⟩
  case round =>
    obtain ⟨rfl, rfl, rfl⟩ := hrel
    go_wp2
    go_ret
    exact ⟨rfl, rfl⟩
set_option maxHeartbeats 1000000 in
theorem delnil7 (F : FuncId) (w : World) : Calls Tryd.prog 83 #[.slice none 0 0, .func (.func F) #[] #[]] w fun e w' => e = .returned (.slice none 0 0) ∧ w = w' := by
  have HI := idxnil7 F w
  go_enter Tryd.func83, Tryd.ntmps83
  go_wp2_with fail
  refine HI.mono ?_
  rintro e w1 ⟨rfl, rfl⟩
  clear HI
  go_wp2
  go_ret
  exact ⟨rfl, rfl⟩
set_option maxHeartbeats 2000000 in
set_option maxRecDepth 100000 in
theorem icompd (P Q : List Ed) (bp cp bq cq : Nat) (w : World) (hp : Es w bp P) (hq : Es w bq Q) (lp : P.length ≤ 1000) (lq : Q.length ≤ 1000) (kp : P.length ≤ cp) (kq : Q.length ≤ cq) (kp9 : cp ≤ 1048576) (kq9 : cq ≤ 1048576)
    (wp : ∀ k, k < P.length → (Lit.int .i64 (P.getD k e0).2.1).wf = true) (wq : ∀ k, k < Q.length → (Lit.int .i64 (Q.getD k e0).2.1).wf = true) :
    Calls Tryd.prog 75 #[.slice (some ⟨bp, 0, none⟩) P.length cp, .slice (some ⟨bq, 0, none⟩) Q.length cq] w (QDb (cmpd P Q) w) := by
  have HS := ishared 79 (fun _ _ => rfl) neO P Q bp cp bq cq w hp hq (by omega) (by omega) wp wq (fun x y w' _ _ => icp1 x y w')
  have HMG := Lib.hid (fun w' (hw : Below w.heap.size w w') => imergeB 81 82 (fun _ _ => rfl) (fun _ _ => rfl) joinE icmpE icp2 P Q bp cp bq cq w' (hp.below hw) (hq.below hw) lp lq kp kq kp9 kq9)
  have hlen := mrg_len joinE _ P Q (Nat.le_refl _)
  unfold QDb
  by_cases hc : shd P Q neO = []
  · have hm : cmpd P Q = (cps P Q, true) := by unfold cmpd; rw [hc]; rfl
    rw [hm, show cps P Q = (mrg joinE P Q).filter (fun e => difE e) from rfl]
    rw [hc] at HS
    obtain ⟨L, hL⟩ : ∃ L, mrg joinE P Q = L := ⟨_, rfl⟩
    rw [hL] at HMG hlen ⊢
    have hfl := List.length_filter_le (fun e => difE e) L
    clear hp hq hm hc hL wp wq
    go_enter Tryd.func75, Tryd.ntmps75
    go_wp2_with fail
    refine HS.mono ?_
    rintro e w2 ⟨⟨v, rfl, hv⟩, hb2⟩
    obtain ⟨va, vc, rfl⟩ := hv.rd.1.shape
    have HM2 := HMG.out w2 hb2
    have hs2 := hb2.size
    clear hv HS
    go_wp2_with fail
    refine HM2.mono ?_
    rintro e w3 ⟨⟨v', rfl, hO⟩, hb3⟩
    have hb := hb2.trans (hb3.mono hs2)
    clear HM2
    rcases hO with ⟨h0, ⟨rfl, h1⟩ | ⟨g, cap, cur, rfl, h1, h2, h3, h4, h5, h6⟩⟩
    · have hnil : L = [] := List.eq_nil_of_length_eq_zero h1
      subst hnil
      have HD := delnil7 84 w3
      clear h0 h1 hlen hfl HMG
      go_wp2_with fail
      refine HD.mono ?_
      rintro e w4 ⟨rfl, rfl⟩
      clear HD
      go_wp2
      go_ret2
      exact ⟨_, rfl, OwD.nil _ _ _, hb⟩
    · have hOD : OwD w3 w2.heap.size w3.heap.size (.slice (some ⟨g, 0, none⟩) L.length cap) L := BldD.done ⟨h0, .inr ⟨g, cap, cur, rfl, h1, h2, h3, h4, h5, h6⟩⟩ (Nat.le_refl _) (by omega)
      obtain ⟨⟨q, -⟩ | ⟨c, cap', N, f, q, g1, g2, g3, hrow, hfv⟩, -⟩ := hOD
      · cases q
      injection q with q1 q2 q3
      injection q1 with q1
      injection q1 with q1
      subst q1
      clear h0 h1 h2 h4 h5 h6 q2 q3
      have HD := del_any7 (fun y => difE y) 84 (fun _ _ => rfl) #[] (fun _ => True) (fun x w' _ => by simpa using icp3 x w') g cap N (fun _ _ _ _ => trivial) f L w3 trivial (by omega) hrow g3 h3 hfv
      clear hrow hfv HMG
      go_wp2_with fail
      refine HD.mono ?_
      rintro e w4 ⟨⟨f', rfl, hrow', hfv'⟩, hk4⟩
      have hb4 : Below w.heap.size w w4 := hb.trans (hk4.below (by have := hb.size; omega) (fun x hx => by omega))
      have hOW : OwD w4 w.heap.size w4.heap.size (.slice (some ⟨g, 0, none⟩) (L.filter fun y => difE y).length cap) (L.filter fun y => difE y) :=
        ⟨.inr ⟨g, cap, N, f', rfl, by omega, by have := hk4.size; omega, by omega, hrow', hfv'⟩, by omega⟩
      have HOW := Lib.hid hOW
      clear hOW hrow' hfv' hk4 HD
      go_wp2
      go_ret2
      exact ⟨_, rfl, HOW.out, hb4⟩
  · have hm : cmpd P Q = ([], false) := by
      unfold cmpd
      rw [if_neg]
      intro h
      exact hc (by simpa using h)
    rw [hm]
    have hpos : 0 < (shd P Q neO).length := List.length_pos_iff.2 hc
    have hpl : (0 : Int) < ((shd P Q neO).length : Int) := by omega
    have hcl := shd_len P Q neO
    obtain ⟨C, hC⟩ : ∃ C, shd P Q neO = C := ⟨_, rfl⟩
    rw [hC] at HS hpos hpl hcl
    clear hm hc hC hp hq HMG wp wq
    go_enter Tryd.func75, Tryd.ntmps75
    go_wp2_with fail
    refine HS.mono ?_
    rintro e w2 ⟨⟨v, rfl, hv⟩, hb2⟩
    obtain ⟨va, vc, rfl⟩ := hv.rd.1.shape
    clear hv HS
    go_wp2
    go_ret2
    exact ⟨_, rfl, OwD.nil _ _ _, hb2⟩
end Go.Proofs.YtkaakomiimcbmaaDoor
/- Two patches in one: both answers of ComposePatches. -/
namespace Go.Proofs.YtkaakomiimcbmaaDoor
open Go.ChangeShapes Go.WideShapes Go.ChangeAt Go.RowKit Go.Deep
set_option linter.unusedSimpArgs false
set_option linter.unusedVariables false
theorem fnd_pat {L : List Ed} (hL : patF L) : ∀ i e, fnd L i = some e → e.2.1 = i ∧ 1 ≤ i ∧ i ≤ 99 ∧ edF e := by
  intro i e h
  obtain ⟨h1, h2⟩ := fnd_some h
  have h4 := pat_ok hL e h1
  obtain ⟨k, hk, rfl⟩ := List.mem_iff_getElem.1 h1
  have h3 := (hL.2 k hk).1
  have : L.getD k e0 = L[k] := by simp [List.getD, hk]
  rw [this] at h3
  exact ⟨h2, by omega, by omega, h4⟩
/-- What the composed patch has at an Id. -/
noncomputable def cf (P Q : List Ed) (i : Int) : Option Ed := (mid joinE (fnd P i) (fnd Q i)).filter fun e => difE e
theorem edF_dif {e : Ed} (h : edF e) : difE e = true := difE_yes fun q => edF_ne h q.symm
theorem cf_nn {P Q : List Ed} {i : Int} (h1 : fnd P i = none) (h2 : fnd Q i = none) : cf P Q i = none := by unfold cf; rw [h1, h2]; rfl
theorem cf_ns {P Q : List Ed} {i : Int} {y : Ed} (h1 : fnd P i = none) (h2 : fnd Q i = some y) (h : edF y) : cf P Q i = some y := by
  unfold cf mid; rw [h1, h2]; simp [Option.filter, edF_dif h]
theorem cf_sn {P Q : List Ed} {i : Int} {x : Ed} (h1 : fnd P i = some x) (h2 : fnd Q i = none) (h : edF x) : cf P Q i = some x := by
  unfold cf mid; rw [h1, h2]; simp [Option.filter, edF_dif h]
theorem cf_ss {P Q : List Ed} {i : Int} {x y : Ed} (h1 : fnd P i = some x) (h2 : fnd Q i = some y) : cf P Q i = if difE (joinE x y) = true then some (joinE x y) else none := by
  unfold cf mid; rw [h1, h2]
  cases h : difE (joinE x y) <;> simp [Option.filter, h]
theorem cf_ok {P Q : List Ed} (hP : patF P) (hQ : patF Q) : ∀ i e, cf P Q i = some e → e.2.1 = i ∧ 1 ≤ i ∧ i ≤ 99 := by
  intro i e h
  cases hp : fnd P i with
  | none =>
    cases hq : fnd Q i with
    | none => rw [cf_nn hp hq] at h; cases h
    | some y =>
      have k := fnd_pat hQ i y hq
      rw [cf_ns hp hq k.2.2.2] at h
      injection h with h; subst h
      exact ⟨k.1, k.2.1, k.2.2.1⟩
  | some x =>
    have k := fnd_pat hP i x hp
    cases hq : fnd Q i with
    | none =>
      rw [cf_sn hp hq k.2.2.2] at h
      injection h with h; subst h
      exact ⟨k.1, k.2.1, k.2.2.1⟩
    | some y =>
      rw [cf_ss hp hq] at h
      split at h
      · injection h with h; subst h
        exact ⟨k.1, k.2.1, k.2.2.1⟩
      · cases h
theorem cf_cps {P Q : List Ed} (hP : patF P) (hQ : patF Q) : upTo (cf P Q) 99 = cps P Q := by
  obtain ⟨h1, h2⟩ := mrg_incs joinE (fun _ _ => rfl) _ P Q (Nat.le_refl _) (pat_incs hP.2) (pat_incs hQ.2)
  rw [upTo_all]
  exact idsOf_eq (cf_ok hP hQ) (incs_filter h1 _) fun i => by unfold cps cf; rw [fnd_filter h1, h2]
theorem shd_none {P Q : List Ed} (hP : patF P) (hQ : patF Q) (h : ∀ i : Int, 1 ≤ i → i ≤ 99 → ∀ x y, fnd P i = some x → fnd Q i = some y → y.2.2.1 = x.2.2.2) : shd P Q neO = [] := by
  apply List.eq_nil_iff_forall_not_mem.2
  intro i hi
  obtain ⟨y, hy, rfl, x, hx, hc⟩ := shd_mem.1 hi
  rw [lst_fnd (pat_incs hP.2)] at hx
  have k := fnd_pat hP _ _ hx
  have hq := fnd_of_mem (pat_incs hQ.2) hy
  rw [neO_no (h _ k.2.1 k.2.2.1 x y hx hq)] at hc
  cases hc
theorem shd_some {P Q : List Ed} (hP : patF P) {i : Int} {x y : Ed} (hx : fnd P i = some x) (hy : fnd Q i = some y) (h : y.2.2.1 ≠ x.2.2.2) : shd P Q neO ≠ [] := by
  intro hc
  obtain ⟨h1, h2⟩ := fnd_some hy
  have : i ∈ shd P Q neO := shd_mem.2 ⟨y, h1, h2, x, by rw [lst_fnd (pat_incs hP.2)]; exact hx, neO_yes h⟩
  rw [hc] at this
  cases this
noncomputable def mCmp (P Q : List Ed) : List Ed × Bool := if ((patB P && patB Q) && (shd P Q neO).isEmpty) && decide ((cps P Q).length ≤ 16) then (cps P Q, true) else ([], false)
theorem mCmp_no {P Q : List Ed} (h : ¬ (patB P && patB Q) = true) : mCmp P Q = ([], false) := by
  unfold mCmp
  rw [if_neg]
  intro k
  exact h (Bool.and_eq_true_iff.1 (Bool.and_eq_true_iff.1 k).1).1
theorem mCmp_conf {P Q : List Ed} (h : ¬ shd P Q neO = []) : mCmp P Q = ([], false) := by
  unfold mCmp
  rw [if_neg]
  intro k
  exact h (by simpa using (Bool.and_eq_true_iff.1 (Bool.and_eq_true_iff.1 k).1).2)
theorem mCmp_long {P Q : List Ed} (h : ¬ (cps P Q).length ≤ 16) : mCmp P Q = ([], false) := by
  unfold mCmp
  rw [if_neg]
  intro k
  exact h (by simpa using (Bool.and_eq_true_iff.1 k).2)
theorem mCmp_yes {P Q : List Ed} (h1 : (patB P && patB Q) = true) (h2 : shd P Q neO = []) (h3 : (cps P Q).length ≤ 16) : mCmp P Q = (cps P Q, true) := by
  unfold mCmp
  rw [if_pos]
  rw [h1, h2]
  simpa using h3
theorem cps_len (P Q : List Ed) : (cps P Q).length ≤ P.length + Q.length := Nat.le_trans (List.length_filter_le _ _) (mrg_len joinE _ P Q (Nat.le_refl _))
end Go.Proofs.YtkaakomiimcbmaaDoor
