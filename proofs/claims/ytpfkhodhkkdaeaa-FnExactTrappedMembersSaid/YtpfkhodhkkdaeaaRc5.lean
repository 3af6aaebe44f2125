/- TrappedMembers on both sides. -/
import Derived.Test.YtpfkhodhkkdaeaaRc4
namespace Go.Proofs.Ytpfkhodhkkdaeaa
open Go.ChangeShapes Go.WideShapes Go.ChangeAt Go.RowKit Go.Deep
set_option linter.unusedSimpArgs false
set_option linter.unusedVariables false
/-- Nobody who can be reached from member i keeps anything. -/
def trp (L : List (List Sq)) (i : Nat) : Prop := ∀ k, k < L.length → Rch (nxS L) [(i : Int)] (k : Int) → (keptL L).getD k 0 = 0
noncomputable def trpL (L : List (List Sq)) : List Int := setL L.length (trp L)
noncomputable def mTrp (L : List (List Sq)) : List Int × Bool := if okSB L = true then (trpL L, true) else ([], false)
theorem mTrp_yes {L : List (List Sq)} (h : okSB L = true) : mTrp L = (trpL L, true) := by unfold mTrp; rw [if_pos h]
theorem mTrp_no {L : List (List Sq)} (h : okSB L = false) : mTrp L = ([], false) := by unfold mTrp; rw [if_neg (by rw [h]; decide)]
theorem kept_bd {L : List (List Sq)} (h : okS L) {k : Nat} (hk : k < L.length) : 0 ≤ (keptL L).getD k 0 ∧ (keptL L).getD k 0 ≤ 12 := by
  rw [keptL_at L hk]
  have := rowS_bd (h.2.2 k hk) (m := (L.getD k []).length) (Nat.le_refl _)
  omega
set_option maxHeartbeats 2000000 in
set_option maxRecDepth 100000 in
theorem strapped (L : List (List Sq)) (lo : Nat) (w : World) (h : SS w lo lo L) (hf : FitsS L) (hok : okS L) :
    Calls Try.prog 77 #[.slice (some ⟨lo, 0, none⟩) L.length L.length] w fun e w' => (∃ (b cap : Nat) (A : Nat → Bool), e = .returned (.slice (some ⟨b, 0, none⟩) L.length cap) ∧ b < w'.heap.size ∧ (∀ j, j < L.length → w'.cell? ⟨b, j, none⟩ = some (.bool (A j))) ∧ ∀ j, j < L.length → (A j = true ↔ trp L j)) ∧ Below w.heap.size w w' := by
  obtain ⟨i0, hi, hz0, hz1, hz2⟩ := info_parts infoB
  have n6 := hok.2.1
  have n1 := hok.1
  have hK := skept L lo lo L.length w h hf hok
  have HKB := Lib.hid (fun k (hk : k < L.length) => kept_bd hok hk)
  have HP := Lib.hid (fun w' (hw : Below w.heap.size w w') => sparts L lo lo L.length w' (h.below hw) hf hok)
  have HR := Lib.hid (fun (mn lo' hi' : Nat) (hmn : mn < L.length) (v : Value) (w' : World) (hv : RdJ w' lo' hi' v (partsT L L.length)) => sreached (partsT L L.length) (nxS L) L.length mn lo' hi' v w' hv (partsT_len L L.length) (by omega) hmn (fun i hi => by rw [partsT_at L hi, rowP_len]) (fun i k hi hk => adj_iff hok hi hk) (fun i hi => nx_rng hok hi))
  clear hok hf h
  go_enter Try.func77, Try.ntmps77
  go_wp2_with fail
  refine hK.mono ?_
  rintro e w1 ⟨⟨kv, rfl, hkv⟩, hb1⟩
  have s1 := hb1.size
  have hkr : RowV w1 kv (keptL L) := by rw [← keptL_len L] at hkv; exact (ow_of_own hkv (Nat.le_refl _) (by rw [keptL_len]; omega)).rd.1
  obtain ⟨kx, kcap, rfl, hkx, hkc⟩ := hkr.cons (fun e => by have q := keptL_len L; rw [e] at q; simp at q; omega)
  rw [keptL_len] at hkc
  have HKC := Lib.hid hkc
  have hkll : L.length ≤ (keptL L).length := by rw [keptL_len]; exact Nat.le_refl _
  have hown0 : (w1.alloc (.cells #[] 4)).ownsRow w1.heap.size 4 1 (.slice (some ⟨w1.heap.size, 0, none⟩) 0 0) 0 ((List.range 0).map (fun _ => Value.bool false)) := World.ownsRow_lit w1 #[] 0 (Nat.le_refl _) (by unfold maxLen; omega) rfl
  have hc0 : Below w1.heap.size w1 (w1.alloc (.cells #[] 4)) := (Below.refl _ _).alloc (Nat.le_refl _) _
  clear hkv hkr hkc
  go_wp2
  go_loopg [4, 5] L.length (fun g v i wr => ∃ (k : Nat) (A : Nat → Bool), k ≤ L.length ∧ g = L.length - k ∧ i = .int .i64 k ∧ wr.ownsRow w1.heap.size 4 1 v k ((List.range k).map (fun j => Value.bool (A j))) ∧ Hid (∀ j, j < k → (A j = true ↔ trp L j)) ∧ Below w1.heap.size w1 wr)
  case atStart => exact ⟨0, fun _ => false, Nat.zero_le _, rfl, rfl, hown0, fun j hj => absurd hj (Nat.not_lt_zero _), hc0⟩
  case round =>
    clear hown0 hc0
    obtain ⟨k, A, hk, rfl, rfl, hown, HA, hcb⟩ := hrel
    have hb := hb1.trans (hcb.mono s1)
    obtain ⟨wo, rfl⟩ : ∃ wo : World, wo = wr := ⟨_, rfl⟩
    by_cases hkn : k < L.length
    · have sw := hb.size
      have sc := hcb.size
      go_wp2_with fail
      refine (HP.out _ hb).mono ?_
      rintro e w2 ⟨⟨v, rfl, hv⟩, hb2⟩
      have s2 := hb2.size
      go_wp2_with fail
      refine (HR.out _ _ _ hkn _ _ hv).mono ?_
      rintro e w3 ⟨⟨Rd, rfl, hrow, hRd⟩, hb3⟩
      have s3 := hb3.size
      have HRD := Lib.hid hRd
      have hbw : Below wo.heap.size wo w3 := hb2.trans (hb3.mono s2)
      have lrow := hrow.lt
      clear hRd hv hb2 hb3
      go_wp2
      go_loopg [7, 8] L.length (fun g tt kk wi => ∃ (j : Nat) (z : Bool), j ≤ L.length ∧ g = L.length - j ∧ kk = .int .i64 j ∧ tt = .bool z ∧ Hid (z = true ↔ ∀ q, q < j → Rch (nxS L) [(k : Int)] (q : Int) → (keptL L).getD q 0 = 0) ∧ w3 = wi)
      case atStart => exact ⟨0, true, Nat.zero_le _, rfl, rfl, rfl, ⟨fun _ q hq => absurd hq (Nat.not_lt_zero _), fun _ => rfl⟩, rfl⟩
      case round =>
        obtain ⟨j, z, hj, rfl, rfl, rfl, HZ, rfl⟩ := hrel
        by_cases hjn : j < L.length
        · have c1 := hrow.cell hjn
          have c2 := (hbw.cell (p := kx.add j) (by rw [block_add]; omega)).trans ((hcb.cell (p := kx.add j) (by rw [block_add]; exact hkx)).trans (HKC.out j hjn))
          have hrj := HRD.out j hjn
          obtain ⟨rz, hrz⟩ : ∃ x, Rd j = x := ⟨_, rfl⟩
          obtain ⟨y, hy⟩ : ∃ y, (keptL L).getD j 0 = y := ⟨_, rfl⟩
          rw [hrz] at c1 hrj
          rw [hy] at c2
          have HRJ := Lib.hid hrj
          have HY := Lib.hid hy
          have hnext : ∀ z' : Bool, (z' = true ↔ (z = true ∧ (rz = true → y = 0))) → (z' = true ↔ ∀ q, q < j + 1 → Rch (nxS L) [(k : Int)] (q : Int) → (keptL L).getD q 0 = 0) := fun z' hz' => by
            rw [hz', HZ.out]
            constructor
            · rintro ⟨h1, h2⟩ q hq hR
              by_cases e : q = j
              · subst e; rw [HY.out]; exact h2 (HRJ.out.2 hR)
              · exact h1 q (by omega) hR
            · intro h1
              exact ⟨fun q hq => h1 q (by omega), fun hr => by rw [← HY.out]; exact h1 j (by omega) (HRJ.out.1 hr)⟩
          have HN := Lib.hid hnext
          clear hrz hy hrj hnext
          cases z with
          | false =>
            go_wp2
            go_roundg (L.length - (j + 1))
            case measure => omega
            case rel => exact ⟨j + 1, false, by omega, rfl, by simp, rfl, HN.out false (by simp), rfl⟩
          | true =>
            cases rz with
            | false =>
              go_wp2
              go_roundg (L.length - (j + 1))
              case measure => omega
              case rel => exact ⟨j + 1, true, by omega, rfl, by simp, rfl, HN.out true (by simp), rfl⟩
            | true =>
              by_cases hy0 : y = 0
              · subst hy0
                go_wp2
                go_roundg (L.length - (j + 1))
                case measure => omega
                case rel => exact ⟨j + 1, true, by omega, rfl, by simp, rfl, HN.out true (by simp), rfl⟩
              · have hy1 : (y == 0) = false := by simp [hy0]
                have HY0 := Lib.hid hy0
                clear hy0
                go_wp2
                go_roundg (L.length - (j + 1))
                case measure => omega
                case rel => exact ⟨j + 1, false, by omega, rfl, by simp, rfl, HN.out false (by have := HY0.out; simp [this]), rfl⟩
        · have e : j = L.length := by omega
          subst e
          have hown3 := own_blockJ hown fun g _ hg => hbw.block g hg
          have HAN : Hid (∀ j, j < k + 1 → ((if j = k then z else A j) = true ↔ trp L j)) := fun j hj => by
            by_cases e : j = k
            · subst e; rw [if_pos rfl]; exact HZ.out
            · rw [if_neg e]; exact HA.out j (by omega)
          have hml : (List.range (k + 1)).map (fun j => Value.bool (if j = k then z else A j)) = (List.range k).map (fun j => Value.bool (A j)) ++ [Value.bool z] := by
            rw [List.range_succ, List.map_append]
            congr 1
            · refine List.map_congr_left fun i hi => ?_
              have : i < k := by simpa using hi
              simp [Nat.ne_of_lt this]
            · simp
          have HML := Lib.hid hml
          clear hml
          go_wp2_with (first
            | (at_builtin; refine wpList_append_own _ rfl _ _ 82 rfl w1.heap.size 4 i0 (.bool false) 1 1 Try.underlying82 hi hz0 hz1 hz2 rfl (by decide) _ _ _ rfl (hown3.alloc _) ⟨w3.heap.size, 0, none⟩ 1 1 [.bool z] rfl rfl (World.news_of_block (cs := #[.bool z]) (t := 4) (fr := (0, 0)) (heap_alloc_new w3 _)) (by simp [Value.oneCell']) (by unfold maxLen; omega) (by omega) (by simp; omega) ?_))
          intro v' w4 hown4 hgrow _
          have hb4 := ((hcb.trans (hbw.mono sc)).alloc (by omega) (.cells #[.bool z] 4)).grown hgrow (by simp; omega) (fun x e => (hown.lt x e).1)
          have HO4 : Hid (w4.ownsRow w1.heap.size 4 1 v' (k + 1) ((List.range (k + 1)).map (fun j => Value.bool (if j = k then z else A j)))) := by show World.ownsRow _ _ _ _ _ _ _; rw [HML.out]; exact hown4
          clear hown4 hgrow
          go_wp2
          go_roundg (L.length - (k + 1))
          case measure => omega
          case rel => exact ⟨k + 1, _, by omega, rfl, by simp, HO4.out, HAN, hb4⟩
    · have e : k = L.length := by omega
      subst e
      go_wp2
      go_ret
      refine ⟨?_, hb⟩
      obtain ⟨_, ⟨-, h0⟩ | ⟨g, cap, cur, rfl, _, hg, hn, _, hs, ht⟩⟩ := hown
      · omega
      · refine ⟨g, cap, A, rfl, (Array.getElem?_eq_some_iff.1 hg).1, fun j hj => ?_, HA.out⟩
        have h1 : (cur.toList.take (L.length * 1))[j]? = ((List.range L.length).map fun j => Value.bool (A j))[j]? := by rw [ht]
        rw [Nat.mul_one, List.getElem?_take_of_lt hj, Array.getElem?_toList] at h1
        simp only [World.cell?, hg]
        simp [h1, hj]
end Go.Proofs.Ytpfkhodhkkdaeaa
