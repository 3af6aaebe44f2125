/- The specification's ranks by its contract. -/
import Derived.Test.YtlpidgdlbannbaaVq2
import Derived.Deep.RegionHeld3
import Derived.Deep.AppendLies
namespace Go.Proofs.Ytlpidgdlbannbaa
open Go.ChangeShapes Go.WideShapes Go.ChangeAt Go.RowKit Go.Deep
set_option linter.unusedSimpArgs false
set_option linter.unusedVariables false
set_option maxRecDepth 100000 in
theorem at_any (v : Value) (l : List Int) (n : Int) (w : World) (h : RowV w v l) (hl : l.length ≤ 9223372036854775807) :
    Calls Try.prog 89 #[v, .int .i64 n] w fun e w' => e = .returned (.int .i64 (ix l n)) ∧ w = w' := by
  by_cases e : l = []
  · subst e
    obtain ⟨a, cap, rfl⟩ := h.shape
    clear h
    go_enter Try.func89, Try.ntmps89
    go_wp2
    go_loopg [5] 0 (fun g i wr => i = .int .i64 0 ∧ w = wr)
    case atStart => exact ⟨rfl, rfl⟩
    case round =>
      obtain ⟨rfl, rfl⟩ := hrel
      go_wp2
      go_ret
      simp [ix]
  · obtain ⟨x, cap, rfl, hx, hc⟩ := h.cons e
    clear h
    go_enter Try.func89, Try.ntmps89
    go_wp2
    go_loopg [5] l.length (fun g i wr => ∃ k : Nat, k ≤ l.length ∧ g = l.length - k ∧ i = .int .i64 k ∧ w = wr ∧ Hid (∀ j (hj : j < l.length), j < k → l[j] ≠ n))
    case atStart => exact ⟨0, Nat.zero_le _, rfl, rfl, rfl, fun j _ hj => absurd hj (Nat.not_lt_zero _)⟩
    case round =>
      obtain ⟨k, hk, rfl, rfl, rfl, H⟩ := hrel
      by_cases hlt : k < l.length
      · have c1 := hc k hlt
        have eg : l.getD k 0 = l[k] := by simp [List.getD, hlt]
        rw [eg] at c1
        obtain ⟨y, hy⟩ : ∃ y, l[k] = y := ⟨_, rfl⟩
        rw [hy] at c1
        have HY := Lib.hid hy
        clear hy eg hc
        by_cases hq : y = n
        · subst hq
          go_wp2
          go_ret
          rw [ix_hit hlt HY.out H.out]
          exact ⟨rfl, rfl⟩
        · have hq' : (y == n) = false := by simp [hq]
          go_wp2
          go_roundg (l.length - (k + 1))
          case measure => omega
          case rel =>
            refine ⟨k + 1, by omega, rfl, by simp, rfl, fun j h1 h2 => ?_⟩
            by_cases ej : j = k
            · subst ej; rw [HY.out]; exact hq
            · exact H.out j h1 (by omega)
      · have e : k = l.length := by omega
        subst e
        go_wp2
        go_ret
        have hm : ¬ n ∈ l := fun hm => by
          obtain ⟨j, hj, e⟩ := List.mem_iff_getElem.1 hm
          exact H.out j hj hj e
        rw [ix_miss hm]
        exact ⟨rfl, rfl⟩

theorem row_of_own {w : World} {base : Nat} {v : Value} {l : List Int} (h : w.ownsRow base 2 1 v l.length (l.map (Value.int .i64))) : RowV w v l := by
  obtain ⟨_, h⟩ := h
  rcases h with ⟨rfl, h0⟩ | ⟨g, cap, cur, rfl, _, hg, hn, _, hs, ht⟩
  · exact .inl ⟨rfl, List.eq_nil_of_length_eq_zero h0⟩
  · refine .inr ⟨_, cap, rfl, fun _ => (Array.getElem?_eq_some_iff.1 hg).1, fun i hi => ?_⟩
    rw [Addr.add_lit, Nat.zero_add]
    have h1 : (cur.toList.take (l.length * 1))[i]? = (l.map (Value.int .i64))[i]? := by rw [ht]
    rw [Nat.mul_one, List.getElem?_take_of_lt hi, Array.getElem?_toList] at h1
    simp only [World.cell?, hg]
    simp [h1, List.getD, hi]
/-- The value leads into blocks from lo to below hi. -/
def InB (v : Value) (lo hi : Nat) : Prop := ∀ k, v.ownBlock = some k → lo ≤ k ∧ k < hi
theorem RowV.kept {w w' : World} {v : Value} {l : List Int} {S : Nat → Prop} (h : RowV w v l) (hk : Kept w w' S) (hs : ∀ k, v.ownBlock = some k → ¬ S k) : RowV w' v l := by
  rcases h with h | ⟨x, cap, rfl, hx, hc⟩
  · exact .inl h
  · refine .inr ⟨x, cap, rfl, fun q => Nat.lt_of_lt_of_le (hx q) hk.size, fun i hi => ?_⟩
    rw [← hc i hi]
    exact World.cell?_of_block (by rw [block_add]; exact hk.block x.block (hx (by omega)) (hs _ rfl))
set_option maxHeartbeats 1000000 in
set_option maxRecDepth 100000 in
theorem sranks (L : List Vc) (B b cap bp : Nat) (p : List Int) (w : World) (h : Vs w B b L) (hf : Fits L) (hp : OwnI w bp p) (hl : p.length ≤ 1048576) (hok : pathOk L p) :
    Calls Try.prog 56 #[.slice (some ⟨b, 0, none⟩) L.length cap, .slice (some ⟨bp, 0, none⟩) p.length p.length] w fun e w' => (∃ v, e = .returned v ∧ RowV w' v (rkL L p) ∧ InB v w.heap.size w'.heap.size) ∧ Below w.heap.size w w' := by
  obtain ⟨i0, hi, hz0, hz1, hz2⟩ := info_parts infoI
  have hpos := hok.1
  have HOK := Lib.hid hok
  clear hok
  go_enter Try.func56, Try.ntmps56
  go_wp2
  have hown0 : (w.alloc (.cells #[] 2)).ownsRow w.heap.size 2 1 (.slice (some ⟨w.heap.size, 0, none⟩) 0 0) 0 [] := World.ownsRow_lit w #[] 0 (Nat.le_refl _) (by unfold maxLen; omega) rfl
  have hb0 : Below w.heap.size w (w.alloc (.cells #[] 2)) := (Below.refl _ _).alloc (Nat.le_refl _) _
  go_loopg [5, 6] (p.length - 1) (fun g v i wr => ∃ k : Nat, 1 ≤ k ∧ k ≤ p.length ∧ g = p.length - k ∧ i = .int .i64 k ∧ wr.ownsRow w.heap.size 2 1 v (k - 1) (((rkL L p).take (k - 1)).map (Value.int .i64)) ∧ Below w.heap.size w wr)
  case atStart => exact ⟨1, by omega, hpos, by first | rfl | omega, rfl, by simpa using hown0, hb0⟩
  case round =>
    clear hown0 hb0
    obtain ⟨k, hk1, hk2, rfl, rfl, hown, hb⟩ := hrel
    by_cases hlt : k < p.length
    · obtain ⟨k', hkk'⟩ : ∃ k', k = k' + 1 := ⟨k - 1, by omega⟩
      have hlk : k' < p.length := by omega
      have c1 : wr.cell? ⟨bp, k', none⟩ = some (.int .i64 (p.getD k' 0)) := World.rowIs.cell (hp.below hb) hlk
      have c2 : wr.cell? ⟨bp, k, none⟩ = some (.int .i64 (p.getD k 0)) := World.rowIs.cell (hp.below hb) hlt
      have hst := (HOK.out.2.2 k' hlk).1
      obtain ⟨y, hy⟩ : ∃ y, p.getD k' 0 = y := ⟨_, rfl⟩
      obtain ⟨y2, hy2⟩ : ∃ y, p.getD k 0 = y := ⟨_, rfl⟩
      rw [hy] at c1 hst
      rw [hy2] at c2
      obtain ⟨j, rfl⟩ : ∃ j : Nat, y = j := ⟨y.toNat, by omega⟩
      have hj : j < L.length := by omega
      obtain ⟨c, a1, a2, a3⟩ := (h.below hb).at hj
      have hlen := hf.2 j hj
      have hvq : vAt L (j : Int) = L.getD j (false, []) := by simp [vAt]
      obtain ⟨⟨s, t⟩, hq⟩ : ∃ q, L.getD j (false, []) = q := ⟨_, rfl⟩
      rw [hq] at a1 a2 a3 hvq hlen
      simp only at a1 a2 a3 hlen
      obtain ⟨z, hz⟩ : ∃ z, ix t y2 = z := ⟨_, rfl⟩
      have hzb := ix_bd t y2
      rw [hz] at hzb
      have hz9 : z ≤ 1048577 := by omega
      have hz8 : -1 ≤ z := hzb.1
      have wz : IntKind.i64.wrap (z + 1) = z + 1 := by rw [IntKind.wrap_i64]; omega
      have HA := at_any _ _ y2 wr.drew (a3.below (Below.refl _ _).drew) (by omega)
      rw [hz] at HA
      have hrk : (rkL L p).getD k' 0 = z + 1 := by
        rw [rkL_at L p (by omega), hy, hvq, show k' + 1 = k by omega, hy2]
        simp only
        rw [hz]
      have htk : ((rkL L p).take (k - 1)).map (Value.int .i64) ++ [Value.int .i64 (z + 1)] = ((rkL L p).take (k + 1 - 1)).map (Value.int .i64) := by
        have h1 : k - 1 = k' := by omega
        have h2 : k + 1 - 1 = k' + 1 := by omega
        have h3 : k' < (rkL L p).length := by rw [rkL_len]; omega
        rw [h1, h2, List.take_add_one]
        simp [List.getD, h3] at hrk
        simp [h3, hrk]
      have HT := Lib.hid htk
      have lb := hp.lt
      have lb2 := h.lt
      have lbs := hb.size
      have av1 : u5.ownBlock ≠ some bp := fun e => by have := (hown.lt _ e).1; omega
      have av2 : u5.ownBlock ≠ some b := fun e => by have := (hown.lt _ e).1; omega
      have wk1 : IntKind.i64.wrap ((k : Int) - 1) = k' := by rw [IntKind.wrap_i64]; omega
      have wk2 : (k : Int) - 1 = k' := by omega
      have wk3 : IntKind.i64.wrap (k' : Int) = k' := by rw [IntKind.wrap_i64]; omega
      have HKK := Lib.hid hkk'
      clear htk hrk hz hzb hq hvq hy hy2 hst a1 a3 hlen hkk'
      go_wp2_with fail
      go_region_held3 (fun w' => w'.cell? ⟨bp, k', none⟩ = some (.int .i64 (j : Int)) ∧ w'.cell? ⟨bp, k, none⟩ = some (.int .i64 y2) ∧ w'.cell? ⟨b, j * 2 + 1, none⟩ = some (.slice (some ⟨c, 0, none⟩) t.length t.length))
        (first
          | go_keep
          | (go_split_ands
             refine ⟨?_, ?_, ?_⟩
             · (rw [hgrow.cell_far _ (by simp; omega) (Ne.symm av1)]; assumption)
             · (rw [hgrow.cell_far _ (by simp; omega) (Ne.symm av1)]; assumption)
             · (rw [hgrow.cell_far _ (by simp; omega) (Ne.symm av2)]; assumption)))
        (first
          | (go_simp; go_at_call 89; refine HA.mono ?_; rintro e w1 ⟨rfl, rfl⟩)
          | (refine step_append_lies _ (by rfl) _ _ _ (by rfl) w.heap.size 2 i0 _ 1 8 Try.underlying29 hi hz0 hz1 hz2 rfl (by omega) u5 _ _ (by rfl) ((hown.drew).alloc _)
              ⟨wr.heap.size, 0, none⟩ 1 1 [.int .i64 (z + 1)] (by rfl) (by rfl) (World.news_of_block (cs := #[.int .i64 (z + 1)]) (t := 2) (fr := (0, 0)) (heap_alloc_new wr.drew _)) (by simp [Value.oneCell'])
              (by omega) (by unfold maxLen; omega) (by omega) (by have := hb.size; simp; omega) (wr.heap.size + 1) (by simp) ?_; intro gg cap w1 hown1 hgrow hat hlt))
      go_wp2
      go_roundg (p.length - (k + 1))
      case measure => omega
      case rel =>
        refine ⟨k + 1, by omega, by omega, by first | rfl | omega, by simp, ?_, ((hb.alloc hb.size _).drew).grown hgrow (by simp; omega) (fun x e => (hown.lt x e).1)⟩
        rw [HT.out] at hown1
        have e1 : k - 1 + 1 = k := by omega
        rw [e1] at hown1
        exact hown1
    · have e : k = p.length := by omega
      subst e
      go_wp2
      go_ret
      refine ⟨⟨_, rfl, ?_, fun x e => ?_⟩, hb⟩
      · refine row_of_own (base := w.heap.size) ?_
        have e1 : (rkL L p).take (p.length - 1) = rkL L p := List.take_of_length_le (by rw [rkL_len]; exact Nat.le_refl _)
        rw [e1] at hown
        rw [rkL_len]
        exact hown
      · exact hown.lt x e
set_option maxHeartbeats 600000 in
theorem sRanks (L : List Vc) (B b cap bp : Nat) (p : List Int) (w : World) (h : Vs w B b L) (hf : Fits L) (hp : OwnI w bp p) (hl : p.length ≤ 1048576) :
    Calls Try.prog 22 #[.slice (some ⟨b, 0, none⟩) L.length cap, .slice (some ⟨bp, 0, none⟩) p.length p.length] w fun e w' => (∃ v, e = .returned (.tuple #[v, .bool (pB L p)]) ∧ RowV w' v (if pB L p = true then rkL L p else []) ∧ InB v w.heap.size w'.heap.size) ∧ Below w.heap.size w w' := by
  have HV := sok_any L B b cap w h hf
  have HP := fun w' (hw : Below w.heap.size w w') => spath_any L B b cap bp p w' (h.below hw) hf (hp.below hw) hl
  have HR := fun w' (hw : Below w.heap.size w w') (hok : pathOk L p) => sranks L B b cap bp p w' (h.below hw) hf (hp.below hw) hl hok
  have hz : pB L p = (okLB L && pathB L p) := rfl
  have hpi : pathB L p = true → pathOk L p := fun q => by unfold pathB at q; exact @of_decide_eq_true _ (Classical.propDecidable _) q
  rw [hz]
  generalize okLB L = zv at HV ⊢
  generalize pathB L p = zp at HP hpi ⊢
  clear hz
  cases zv with
  | false =>
    go_enter Try.func22, Try.ntmps22
    go_wp2_with fail
    refine HV.mono ?_
    rintro e w1 ⟨rfl, hb1⟩
    go_wp2
    go_ret2
    exact ⟨⟨_, rfl, .inl ⟨rfl, rfl⟩, fun k e => by cases e⟩, hb1⟩
  | true =>
    cases zp with
    | false =>
      go_enter Try.func22, Try.ntmps22
      go_wp2_with fail
      refine HV.mono ?_
      rintro e w1 ⟨rfl, hb1⟩
      go_wp2_with fail
      refine (HP _ hb1).mono ?_
      rintro e w2 ⟨rfl, hb2⟩
      go_wp2
      go_ret2
      exact ⟨⟨_, rfl, .inl ⟨rfl, rfl⟩, fun k e => by cases e⟩, hb1.trans (hb2.mono hb1.size)⟩
    | true =>
      have hok := Lib.hid (hpi rfl)
      clear hpi
      go_enter Try.func22, Try.ntmps22
      go_wp2_with fail
      refine HV.mono ?_
      rintro e w1 ⟨rfl, hb1⟩
      go_wp2_with fail
      refine (HP _ hb1).mono ?_
      rintro e w2 ⟨rfl, hb2⟩
      have b2 := hb1.trans (hb2.mono hb1.size)
      go_wp2_with fail
      refine (HR _ b2 hok.out).mono ?_
      rintro e w3 ⟨⟨v, rfl, hv, hin⟩, hb3⟩
      go_wp2
      go_ret2
      exact ⟨⟨_, rfl, hv, fun k e => ⟨Nat.le_trans b2.size (hin k e).1, (hin k e).2⟩⟩, b2.trans (hb3.mono b2.size)⟩
end Go.Proofs.Ytlpidgdlbannbaa
