/- Lists of lists of shares that a call answers: read, compared, marked. -/
import Derived.Test.YtlpidgdlbannbaaK2
namespace Go.Proofs.Ytlpidgdlbannbaa
open Go.ChangeShapes Go.WideShapes Go.ChangeAt Go.RowKit Go.Deep
set_option linter.unusedSimpArgs false
set_option linter.unusedVariables false
/-- v is the list t of shares in memory of the call's own, a row in one block from lo to below hi. -/
def Ow1S (w : World) (lo hi : Nat) (v : Value) (t : List Sq) : Prop :=
  (v = .slice none 0 0 ∧ t = []) ∨ ∃ (c cap N : Nat) (f : Nat → Value), v = .slice (some ⟨c, 0, none⟩) t.length cap ∧ lo ≤ c ∧ c < hi ∧ t.length * 2 ≤ N ∧ w.rowIs c 86 N f ∧ ∀ i, i < t.length → f (i * 2) = .int .i64 (t.getD i (0, 0)).1 ∧ f (i * 2 + 1) = .int .i64 (t.getD i (0, 0)).2
theorem Ow1S.block {w w' : World} {lo hi : Nat} {v : Value} {t : List Sq} (h : Ow1S w lo hi v t) (hb : ∀ c, v.ownBlock = some c → c < w.heap.size → w'.heap[c]? = w.heap[c]?) : Ow1S w' lo hi v t := by
  rcases h with h | ⟨c, cap, N, f, rfl, h1, h2, h3, h4, h5⟩
  · exact .inl h
  · exact .inr ⟨c, cap, N, f, rfl, h1, h2, h3, h4.of_block (hb c rfl h4.lt), h5⟩
theorem Ow1S.mono {w : World} {lo hi lo' hi' : Nat} {v : Value} {t : List Sq} (h : Ow1S w lo hi v t) (e1 : lo' ≤ lo) (e2 : hi ≤ hi') : Ow1S w lo' hi' v t := by
  rcases h with h | ⟨c, cap, N, f, rfl, h1, h2, h3, h4, h5⟩
  · exact .inl h
  · exact .inr ⟨c, cap, N, f, rfl, by omega, by omega, h3, h4, h5⟩
theorem Ow1S.inb {w : World} {lo hi : Nat} {v : Value} {t : List Sq} (h : Ow1S w lo hi v t) : InB v lo hi := by
  rcases h with ⟨rfl, -⟩ | ⟨c, cap, N, f, rfl, h1, h2, h3, h4, h5⟩
  · intro k e; cases e
  · intro k e
    have e : c = k := by simpa [Value.ownBlock] using e
    omega
theorem Ow1S.list {w : World} {lo hi : Nat} {v : Value} {t : List Sq} (h : Ow1S w lo hi v t) : ListS w v t := by
  rcases h with h | ⟨c, cap, N, f, rfl, h1, h2, h3, h4, h5⟩
  · exact .inl h
  · refine .inr ⟨_, cap, rfl, fun _ => h4.lt, fun i hi => ?_⟩
    obtain ⟨e1, e2⟩ := h5 i hi
    rw [Addr.add_lit, Nat.zero_add]
    exact ⟨by rw [h4.cell (i := i * 2) (by omega), e1], by show w.cell? ⟨c, i * 2 + 1, none⟩ = _; rw [h4.cell (i := i * 2 + 1) (by omega), e2]⟩
/-- v, read in w, is the list L; its memory lies in blocks from lo to below hi. -/
def RdS (w : World) (lo hi : Nat) (v : Value) (L : List (List Sq)) : Prop :=
  ((v = .slice none 0 0 ∧ L = []) ∨ ∃ (b cap N : Nat) (f : Nat → Value), v = .slice (some ⟨b, 0, none⟩) L.length cap ∧ lo ≤ b ∧ b < hi ∧ L.length ≤ N ∧ w.rowIs b 84 N f ∧ ∀ i, i < L.length → Ow1S w lo hi (f i) (L.getD i [])) ∧ FitsS L
theorem RdS.at {w w' : World} {lo hi : Nat} {v : Value} {L : List (List Sq)} (h : RdS w lo hi v L) (hb : ∀ c, lo ≤ c → c < hi → c < w.heap.size → w'.heap[c]? = w.heap[c]?) : RdS w' lo hi v L := by
  obtain ⟨h | ⟨b, cap, N, f, rfl, h1, h2, h3, h4, h5⟩, hf⟩ := h
  · exact ⟨.inl h, hf⟩
  · exact ⟨.inr ⟨b, cap, N, f, rfl, h1, h2, h3, h4.of_block (hb b h1 h2 h4.lt), fun i hi => (h5 i hi).block fun c e hc => hb c ((h5 i hi).inb c e).1 ((h5 i hi).inb c e).2 hc⟩, hf⟩
theorem RdS.below {w w' : World} {lo hi : Nat} {v : Value} {L : List (List Sq)} (h : RdS w lo hi v L) (hb : Below w.heap.size w w') : RdS w' lo hi v L := h.at fun c _ _ hc => hb.block c hc
theorem RdS.kept {w w' : World} {lo hi : Nat} {v : Value} {L : List (List Sq)} {S : Nat → Prop} (h : RdS w lo hi v L) (hk : Kept w w' S) (hs : ∀ b, lo ≤ b → b < hi → ¬ S b) : RdS w' lo hi v L := h.at fun c h1 h2 hc => hk.block c hc (hs c h1 h2)
theorem RdS.mono {w : World} {lo hi lo' hi' : Nat} {v : Value} {L : List (List Sq)} (h : RdS w lo hi v L) (e1 : lo' ≤ lo) (e2 : hi ≤ hi') : RdS w lo' hi' v L := by
  obtain ⟨h | ⟨b, cap, N, f, rfl, h1, h2, h3, h4, h5⟩, hf⟩ := h
  · exact ⟨.inl h, hf⟩
  · exact ⟨.inr ⟨b, cap, N, f, rfl, by omega, by omega, h3, h4, fun i hi => (h5 i hi).mono e1 e2⟩, hf⟩
theorem FitsS.nil : FitsS [] := ⟨by simp, fun k hk => absurd hk (Nat.not_lt_zero _)⟩
theorem RdS.nil (w : World) (lo hi : Nat) : RdS w lo hi (.slice none 0 0) [] := ⟨.inl ⟨rfl, rfl⟩, FitsS.nil⟩
theorem RdS.list {w : World} {lo hi : Nat} {v : Value} {L : List (List Sq)} (h : RdS w lo hi v L) : ListSS w v L := by
  obtain ⟨h | ⟨b, cap, N, f, rfl, h1, h2, h3, h4, h5⟩, hf⟩ := h
  · exact .inl h
  · refine .inr ⟨_, cap, rfl, fun _ => h4.lt, fun i hi => ⟨f i, ?_, (h5 i hi).list⟩⟩
    rw [Addr.add_lit, Nat.zero_add, h4.cell (i := i) (by omega)]
theorem eqRdS {v v' : Value} {L : List (List Sq)} {w : World} {lo hi lo' hi' : Nat} (h : RdS w lo hi v L) (h' : RdS w lo' hi' v' L) :
    Calls Try.prog 41 #[v, v'] w fun e w' => e = .returned (.bool true) ∧ Below w.heap.size w w' := eqSS v v' L w h.list h'.list h.2
/-- v is the list L in memory of the call's own, each list in a block of its own. -/
def OwS (w : World) (lo hi : Nat) (v : Value) (L : List (List Sq)) : Prop :=
  ((v = .slice none 0 0 ∧ L = []) ∨ ∃ (b cap N : Nat) (f : Nat → Value), v = .slice (some ⟨b, 0, none⟩) L.length cap ∧ lo ≤ b ∧ b < hi ∧ L.length ≤ N ∧ w.rowIs b 84 N f ∧ (∀ i, i < L.length → Ow1S w lo hi (f i) (L.getD i [])) ∧
    (∀ i, i < L.length → (f i).ownBlock ≠ some b) ∧ ∀ i j c, i < j → j < L.length → (f i).ownBlock = some c → (f j).ownBlock ≠ some c) ∧ FitsS L
theorem OwS.rd {w : World} {lo hi : Nat} {v : Value} {L : List (List Sq)} (h : OwS w lo hi v L) : RdS w lo hi v L := by
  obtain ⟨h | ⟨b, cap, N, f, rfl, h1, h2, h3, h4, h5, _⟩, hf⟩ := h
  · exact ⟨.inl h, hf⟩
  · exact ⟨.inr ⟨b, cap, N, f, rfl, h1, h2, h3, h4, h5⟩, hf⟩
theorem OwS.at {w w' : World} {lo hi : Nat} {v : Value} {L : List (List Sq)} (h : OwS w lo hi v L) (hb : ∀ c, lo ≤ c → c < hi → c < w.heap.size → w'.heap[c]? = w.heap[c]?) : OwS w' lo hi v L := by
  obtain ⟨h | ⟨b, cap, N, f, rfl, h1, h2, h3, h4, h5, h6⟩, hf⟩ := h
  · exact ⟨.inl h, hf⟩
  · exact ⟨.inr ⟨b, cap, N, f, rfl, h1, h2, h3, h4.of_block (hb b h1 h2 h4.lt), fun i hi => (h5 i hi).block fun c e hc => hb c ((h5 i hi).inb c e).1 ((h5 i hi).inb c e).2 hc, h6⟩, hf⟩
theorem OwS.below {w w' : World} {lo hi : Nat} {v : Value} {L : List (List Sq)} (h : OwS w lo hi v L) (hb : Below w.heap.size w w') : OwS w' lo hi v L := h.at fun c _ _ hc => hb.block c hc
theorem OwS.kept {w w' : World} {lo hi : Nat} {v : Value} {L : List (List Sq)} {S : Nat → Prop} (h : OwS w lo hi v L) (hk : Kept w w' S) (hs : ∀ b, lo ≤ b → b < hi → ¬ S b) : OwS w' lo hi v L := h.at fun c h1 h2 hc => hk.block c hc (hs c h1 h2)
theorem OwS.nil (w : World) (lo hi : Nat) : OwS w lo hi (.slice none 0 0) [] := ⟨.inl ⟨rfl, rfl⟩, FitsS.nil⟩
/-- Marks from k to below r lie in the list of shares at v. -/
def Mr1S (w : World) (lo hi : Nat) (v : Value) (k r : Int) : Prop :=
  (∃ a cap, v = .slice a 0 cap ∧ r = k) ∨ ∃ (c n cap N : Nat) (f : Nat → Value), v = .slice (some ⟨c, 0, none⟩) n cap ∧ lo ≤ c ∧ c < hi ∧ n * 2 ≤ N ∧ n ≤ 1048576 ∧ w.rowIs c 86 N f ∧ (∀ i, i < n * 2 → f i = .int .i64 (k + i)) ∧ r = k + 2 * n
theorem Mr1S.block {w w' : World} {lo hi : Nat} {v : Value} {k r : Int} (h : Mr1S w lo hi v k r) (hb : ∀ c, v.ownBlock = some c → lo ≤ c → c < hi → c < w.heap.size → w'.heap[c]? = w.heap[c]?) : Mr1S w' lo hi v k r := by
  rcases h with h | ⟨c, n, cap, N, f, rfl, h1, h2, h3, h0, h4, h5, h6⟩
  · exact .inl h
  · exact .inr ⟨c, n, cap, N, f, rfl, h1, h2, h3, h0, h4.of_block (hb c rfl h1 h2 h4.lt), h5, h6⟩
set_option maxRecDepth 100000 in
theorem markS_nil (a : Option Addr) (cap : Nat) (k : Int) (w : World) :
    Calls Try.prog 75 #[.slice a 0 cap, .int .i64 k] w fun e w' => e = .returned (.int .i64 k) ∧ w = w' := by
  go_enter Try.func75, Try.ntmps75
  go_wp2
  go_loopg [1, 5] 0 (fun g kk i wr => kk = .int .i64 k ∧ i = .int .i64 0 ∧ w = wr)
  case atStart => exact ⟨rfl, rfl, rfl⟩
  case round =>
    obtain ⟨rfl, rfl, rfl⟩ := hrel
    go_wp2
    go_ret
    exact ⟨rfl, rfl⟩
set_option maxRecDepth 100000 in
theorem heldS_nil (a : Option Addr) (cap : Nat) (k : Int) (w : World) :
    Calls Try.prog 76 #[.slice a 0 cap, .int .i64 k] w fun e w' => e = .returned (.int .i64 k) ∧ w = w' := by
  go_enter Try.func76, Try.ntmps76
  go_wp2
  go_loopg [1, 5] 0 (fun g kk i wr => kk = .int .i64 k ∧ i = .int .i64 0 ∧ w = wr)
  case atStart => exact ⟨rfl, rfl, rfl⟩
  case round =>
    obtain ⟨rfl, rfl, rfl⟩ := hrel
    go_wp2
    go_ret
    exact ⟨rfl, rfl⟩
set_option maxRecDepth 100000 in
theorem markSN (c n cap N : Nat) (k : Int) (w : World) (f : Nat → Value) (h : w.rowIs c 86 N f) (hN : n * 2 ≤ N) (hn : n ≤ 1048576) (h1 : 0 ≤ k) (h2 : k ≤ 4000000000000) :
    Calls Try.prog 75 #[.slice (some ⟨c, 0, none⟩) n cap, .int .i64 k] w fun e w' => e = .returned (.int .i64 (k + 2 * n)) ∧ w'.rowIs c 86 N (mkf f k (n * 2)) ∧ Kept w w' (fun b => b = c) := by
  go_enter Try.func75, Try.ntmps75
  go_wp2
  go_loopg [1, 5] n (fun g kk i wr => ∃ m : Nat, m ≤ n ∧ g = n - m ∧ kk = .int .i64 (k + 2 * m) ∧ i = .int .i64 m ∧ wr.rowIs c 86 N (mkf f k (m * 2)) ∧ Kept w wr (fun b => b = c))
  case atStart => exact ⟨0, Nat.zero_le _, rfl, by simp, rfl, h.congr (fun i _ => by simp [mkf]), Kept.refl _ _⟩
  case round =>
    obtain ⟨m, hm, rfl, rfl, rfl, hr, hk⟩ := hrel
    by_cases hlt : m < n
    · have c1 : wr.cell? ⟨c, m * 2, none⟩ = some (mkf f k (m * 2) (m * 2)) := hr.cell (by omega)
      have c2 : wr.cell? ⟨c, m * 2 + 1, none⟩ = some (mkf f k (m * 2) (m * 2 + 1)) := hr.cell (by omega)
      have f1 : wr.frozen? ⟨c, m * 2, none⟩ = false := hr.frozen _
      have f2 : wr.frozen? ⟨c, m * 2 + 1, none⟩ = false := hr.frozen _
      have wk : IntKind.i64.wrap (k + 2 * (m : Int)) = k + 2 * m := by rw [IntKind.wrap_i64]; omega
      have wk1 : IntKind.i64.wrap (k + 2 * (m : Int) + 1) = k + 2 * m + 1 := by rw [IntKind.wrap_i64]; omega
      have wk2 : IntKind.i64.wrap (k + 2 * (m : Int) + 1 + 1) = k + 2 * m + 1 + 1 := by rw [IntKind.wrap_i64]; omega
      go_wp2
      go_roundg (n - (m + 1))
      case measure => omega
      case rel =>
        refine ⟨m + 1, by omega, rfl, by (congr 1; first | (simp; omega) | (rw [wk2]; simp; omega)), by simp, ((hr.set (m * 2) _).set (m * 2 + 1) _).congr (fun i _ => ?_), (hk.trans (Kept.set _ _ _ rfl)).trans (Kept.set _ _ _ rfl)⟩
        unfold mkf
        by_cases e : i = m * 2 + 1
        · subst e; rw [if_pos rfl, if_pos (by omega)]; congr 1; simp; omega
        · rw [if_neg e]
          by_cases e2 : i = m * 2
          · subst e2; rw [if_pos rfl, if_pos (by omega)]; congr 1; simp; omega
          · rw [if_neg e2]
            by_cases hi : i < m * 2
            · rw [if_pos hi, if_pos (by omega)]
            · rw [if_neg hi, if_neg (by omega)]
    · have e : m = n := by omega
      subst e
      go_wp2
      go_ret
      exact ⟨rfl, hr, hk⟩
theorem mark1S {v : Value} {t : List Sq} {w : World} {lo hi : Nat} (k : Int) (h : Ow1S w lo hi v t) (hl : t.length ≤ 1048576) (h1 : 0 ≤ k) (h2 : k ≤ 4000000000000) :
    Calls Try.prog 75 #[v, .int .i64 k] w fun e w' => (∃ r, e = .returned (.int .i64 r) ∧ k ≤ r ∧ r ≤ k + 2097152 ∧ Mr1S w' lo hi v k r) ∧ Kept w w' (fun b => v.ownBlock = some b) := by
  rcases h with ⟨rfl, rfl⟩ | ⟨c, cap, N, f, rfl, q1, q2, q3, q4, q5⟩
  · exact (markS_nil none 0 k w).mono fun e w' ⟨he, hw⟩ => ⟨⟨k, he, by omega, by omega, .inl ⟨none, 0, rfl, rfl⟩⟩, hw ▸ Kept.refl _ _⟩
  · exact (markSN c t.length cap N k w f q4 q3 hl h1 h2).mono fun e w' ⟨he, hr, hk⟩ => ⟨⟨_, he, by omega, by omega, .inr ⟨c, t.length, cap, N, _, rfl, q1, q2, q3, hl, hr, fun i hi => by simp [mkf, hi], rfl⟩⟩, hk.mono (fun b e => by subst e; rfl)⟩
set_option maxRecDepth 100000 in
theorem heldSN (c n cap N : Nat) (k : Int) (w : World) (f : Nat → Value) (h : w.rowIs c 86 N f) (hN : n * 2 ≤ N) (hf : ∀ i, i < n * 2 → f i = .int .i64 (k + i)) (hn : n ≤ 1048576) (h1 : 0 ≤ k) (h2 : k ≤ 4000000000000) :
    Calls Try.prog 76 #[.slice (some ⟨c, 0, none⟩) n cap, .int .i64 k] w fun e w' => e = .returned (.int .i64 (k + 2 * n)) ∧ w = w' := by
  have HF := Lib.hid hf
  clear hf
  go_enter Try.func76, Try.ntmps76
  go_wp2
  go_loopg [1, 5] n (fun g kk i wr => ∃ m : Nat, m ≤ n ∧ g = n - m ∧ kk = .int .i64 (k + 2 * m) ∧ i = .int .i64 m ∧ w = wr)
  case atStart => exact ⟨0, Nat.zero_le _, rfl, by simp, rfl, rfl⟩
  case round =>
    obtain ⟨m, hm, rfl, rfl, rfl, rfl⟩ := hrel
    by_cases hlt : m < n
    · have c1 : w.cell? ⟨c, m * 2, none⟩ = some (.int .i64 (k + 2 * m)) := (h.cell (by omega)).trans (by rw [HF.out (m * 2) (by omega)]; congr 2; simp; omega)
      have c2 : w.cell? ⟨c, m * 2 + 1, none⟩ = some (.int .i64 (k + 2 * m + 1)) := (h.cell (by omega)).trans (by rw [HF.out (m * 2 + 1) (by omega)]; congr 2; simp; omega)
      have wk : IntKind.i64.wrap (k + 2 * (m : Int)) = k + 2 * m := by rw [IntKind.wrap_i64]; omega
      have wk1 : IntKind.i64.wrap (k + 2 * (m : Int) + 1) = k + 2 * m + 1 := by rw [IntKind.wrap_i64]; omega
      have wk2 : IntKind.i64.wrap (k + 2 * (m : Int) + 1 + 1) = k + 2 * m + 1 + 1 := by rw [IntKind.wrap_i64]; omega
      go_wp2
      go_roundg (n - (m + 1))
      case measure => omega
      case rel => exact ⟨m + 1, by omega, rfl, by (congr 1; first | (simp; omega) | (rw [wk2]; simp; omega)), by simp, rfl⟩
    · have e : m = n := by omega
      subst e
      go_wp2
      go_ret
      exact ⟨rfl, rfl⟩
theorem held1S {v : Value} {w : World} {lo hi : Nat} {k r : Int} (h : Mr1S w lo hi v k r) (h1 : 0 ≤ k) (h2 : k ≤ 4000000000000) :
    Calls Try.prog 76 #[v, .int .i64 k] w fun e w' => e = .returned (.int .i64 r) ∧ w = w' := by
  rcases h with ⟨a, cap, rfl, rfl⟩ | ⟨c, n, cap, N, f, rfl, q1, q2, q3, q0, q4, q5, rfl⟩
  · exact heldS_nil a cap r w
  · exact heldSN c n cap N k w f q4 q3 q5 q0 h1 h2
/-- Marks from k to below r lie in the lists at v, one list behind the other. -/
def MrS (w : World) (lo hi : Nat) (v : Value) (k r : Int) : Prop :=
  (∃ a cap, v = .slice a 0 cap ∧ r = k) ∨ ∃ (b n cap N : Nat) (f : Nat → Value) (K : Nat → Int), v = .slice (some ⟨b, 0, none⟩) n cap ∧ lo ≤ b ∧ b < hi ∧ n ≤ N ∧ n ≤ 1048576 ∧ w.rowIs b 84 N f ∧ (∀ i, i < n → Mr1S w lo hi (f i) (K i) (K (i + 1)) ∧ K i ≤ K (i + 1) ∧ K (i + 1) ≤ K i + 2097152) ∧ K 0 = k ∧ r = K n
theorem MrS.at {w w' : World} {lo hi : Nat} {v : Value} {k r : Int} (h : MrS w lo hi v k r) (hb : ∀ c, lo ≤ c → c < hi → c < w.heap.size → w'.heap[c]? = w.heap[c]?) : MrS w' lo hi v k r := by
  rcases h with h | ⟨b, n, cap, N, f, K, rfl, h1, h2, h3, h0, h4, h5, h6⟩
  · exact .inl h
  · exact .inr ⟨b, n, cap, N, f, K, rfl, h1, h2, h3, h0, h4.of_block (hb b h1 h2 h4.lt), fun i hi => ⟨(h5 i hi).1.block fun c _ a1 a2 hc => hb c a1 a2 hc, (h5 i hi).2⟩, h6⟩
theorem MrS.below {w w' : World} {lo hi : Nat} {v : Value} {k r : Int} (h : MrS w lo hi v k r) (hb : Below w.heap.size w w') : MrS w' lo hi v k r := h.at fun c _ _ hc => hb.block c hc
theorem MrS.kept {w w' : World} {lo hi : Nat} {v : Value} {k r : Int} {S : Nat → Prop} (h : MrS w lo hi v k r) (hk : Kept w w' S) (hs : ∀ b, lo ≤ b → b < hi → ¬ S b) : MrS w' lo hi v k r := h.at fun c h1 h2 hc => hk.block c hc (hs c h1 h2)
/-- What holds when the first m lists are marked. -/
structure MkgS (w : World) (lo hi b n N : Nat) (f : Nat → Value) (L : List (List Sq)) (k : Int) (m : Nat) (K : Nat → Int) : Prop where
  row : w.rowIs b 84 N f
  done : ∀ i, i < m → Mr1S w lo hi (f i) (K i) (K (i + 1)) ∧ K i ≤ K (i + 1) ∧ K (i + 1) ≤ K i + 2097152
  open_ : ∀ i, m ≤ i → i < n → Ow1S w lo hi (f i) (L.getD i [])
  zero : K 0 = k
  bd : k ≤ K m ∧ K m ≤ k + 2097152 * m
theorem MkgS.step {w w' : World} {lo hi b n N : Nat} {f : Nat → Value} {L : List (List Sq)} {k : Int} {m : Nat} {K : Nat → Int} (h : MkgS w lo hi b n N f L k m K) (hm : m < n)
    (hne : ∀ i, i < n → (f i).ownBlock ≠ some b) (hinj : ∀ i j c, i < j → j < n → (f i).ownBlock = some c → (f j).ownBlock ≠ some c)
    {r : Int} (h1 : K m ≤ r) (h2 : r ≤ K m + 2097152) (hr : Mr1S w' lo hi (f m) (K m) r) (hk : Kept w w' (fun c => (f m).ownBlock = some c)) : ∃ K', MkgS w' lo hi b n N f L k (m + 1) K' ∧ K' (m + 1) = r := by
  refine ⟨fun i => if i ≤ m then K i else r, ⟨hk.row h.row (fun e => hne m hm e), fun i hi => ?_, fun i hi hn => ?_, by simpa using h.zero, ?_⟩, by simp only [if_neg (show ¬ m + 1 ≤ m by omega)]⟩
  · by_cases e : i = m
    · subst e
      simp only [Nat.le_refl, if_true, if_neg (show ¬ i + 1 ≤ i by omega)]
      exact ⟨hr, h1, h2⟩
    · have hi' : i < m := by omega
      simp only [if_pos (show i ≤ m by omega), if_pos (show i + 1 ≤ m by omega)]
      obtain ⟨a, b⟩ := h.done i hi'
      exact ⟨a.block fun c e1 _ _ hc => hk.block c hc (fun e2 => hinj i m c hi' hm e1 e2), b⟩
  · exact (h.open_ i (by omega) hn).block fun c e1 hc => hk.block c hc (fun e2 => hinj m i c (by omega) hn e2 e1)
  · have := h.bd
    simp only [if_neg (show ¬ m + 1 ≤ m by omega)]
    constructor <;> omega
set_option maxHeartbeats 1000000 in
set_option maxRecDepth 100000 in
theorem markOwS {v : Value} {L : List (List Sq)} {w : World} {lo hi : Nat} (k : Int) (h : OwS w lo hi v L) (h1 : 0 ≤ k) (h2 : k ≤ 400000000000) :
    Calls Try.prog 42 #[v, .int .i64 k] w fun e w' => (∃ r, e = .returned (.int .i64 r) ∧ k ≤ r ∧ r ≤ k + 3000000000000 ∧ MrS w' lo hi v k r) ∧ Kept w w' (fun b => lo ≤ b ∧ b < hi) := by
  obtain ⟨⟨rfl, rfl⟩ | ⟨b, cap, N, f, rfl, q1, q2, q3, q4, q5, q6, q7⟩, hf1, hf2⟩ := h
  · go_enter Try.func42, Try.ntmps42
    go_wp2
    go_loopg [1, 5] 0 (fun g kk i wr => kk = .int .i64 k ∧ i = .int .i64 0 ∧ w = wr)
    case atStart => exact ⟨rfl, rfl, rfl⟩
    case round =>
      obtain ⟨rfl, rfl, rfl⟩ := hrel
      go_wp2
      go_ret
      exact ⟨⟨k, rfl, by omega, by omega, .inl ⟨none, 0, rfl, rfl⟩⟩, Kept.refl _ _⟩
  · have HQ6 := Lib.hid q6
    have HQ7 := Lib.hid q7
    have HF2 := Lib.hid hf2
    have hinb := fun i hi => (q5 i hi).inb
    have HINB := Lib.hid hinb
    have hM : MkgS w lo hi b L.length N f L k 0 (fun _ => k) := ⟨q4, fun i hi => absurd hi (Nat.not_lt_zero _), fun i _ hi => q5 i hi, rfl, by omega⟩
    clear q4 q5 q6 q7 hf2 hinb
    go_enter Try.func42, Try.ntmps42
    go_wp2
    go_loopg [1, 5] L.length (fun g kk i wr => ∃ (m : Nat) (K : Nat → Int) (z : Int), m ≤ L.length ∧ g = L.length - m ∧ kk = .int .i64 z ∧ i = .int .i64 m ∧ k ≤ z ∧ z ≤ k + 2097152 * m ∧ Hid (z = K m) ∧ MkgS wr lo hi b L.length N f L k m K ∧ Kept w wr (fun x => lo ≤ x ∧ x < hi))
    case atStart => exact ⟨0, fun _ => k, k, Nat.zero_le _, rfl, rfl, rfl, by omega, by omega, rfl, hM, Kept.refl _ _⟩
    case round =>
      clear hM
      obtain ⟨m, K, z, hm, rfl, rfl, rfl, z1, z2, HZ, hM, hk⟩ := hrel
      by_cases hlt : m < L.length
      · have c2 : wr.cell? ⟨b, m, none⟩ = some (f m) := hM.row.cell (by omega)
        have HS := mark1S z (hM.open_ m (Nat.le_refl _) hlt) (HF2.out m hlt) (by omega) (by omega)
        have hib := HINB.out m hlt
        have HIB := Lib.hid hib
        clear hib
        obtain ⟨fm, hfm⟩ : ∃ x, f m = x := ⟨_, rfl⟩
        rw [hfm] at c2 HS
        have HFM := Lib.hid hfm
        clear hfm
        go_wp2_with fail
        refine HS.mono ?_
        rintro e w1 ⟨⟨r, rfl, r1, r2, hr⟩, hk1⟩
        obtain ⟨K', hM', HK'⟩ := hM.step hlt HQ6.out HQ7.out (r := r) (by have := HZ.out; omega) (by have := HZ.out; omega) (by have := HZ.out; have e := HFM.out; rw [← this, e]; exact hr) (by rw [HFM.out]; exact hk1)
        have HKR := Lib.hid HK'
        have hk2 := hk.trans (hk1.mono (fun x e => HIB.out x (by rw [HFM.out]; exact e)))
        clear HK' hr hk1
        go_wp2
        go_roundg (L.length - (m + 1))
        case measure => omega
        case rel => exact ⟨m + 1, K', r, by omega, rfl, rfl, by simp, by omega, by omega, HKR.out.symm, hM', hk2⟩
      · have e : m = L.length := by omega
        subst e
        go_wp2
        go_ret
        exact ⟨⟨z, rfl, z1, by omega, .inr ⟨b, L.length, cap, N, f, K, rfl, q1, q2, q3, hf1, hM.row, hM.done, hM.zero, HZ.out⟩⟩, hk⟩
theorem monoK {n : Nat} {K : Nat → Int} (h : ∀ i, i < n → K i ≤ K (i + 1) ∧ K (i + 1) ≤ K i + 2097152) (m : Nat) (hm : m ≤ n) : K 0 ≤ K m ∧ K m ≤ K 0 + 2097152 * m := by
  induction m with
  | zero => simp
  | succ m ih =>
    have a := ih (by omega)
    have b := h m (by omega)
    omega
set_option maxHeartbeats 1000000 in
set_option maxRecDepth 100000 in
theorem heldMkS {v : Value} {w : World} {lo hi : Nat} {k r : Int} (h : MrS w lo hi v k r) (h1 : 0 ≤ k) (h2 : k ≤ 400000000000) :
    Calls Try.prog 43 #[v, .int .i64 k] w fun e w' => e = .returned (.int .i64 r) ∧ w = w' := by
  rcases h with ⟨a, cap, rfl, rfl⟩ | ⟨b, n, cap, N, f, K, rfl, q1, q2, q3, q0, q4, q5, rfl, rfl⟩
  · go_enter Try.func43, Try.ntmps43
    go_wp2
    go_loopg [1, 5] 0 (fun g kk i wr => kk = .int .i64 r ∧ i = .int .i64 0 ∧ w = wr)
    case atStart => exact ⟨rfl, rfl, rfl⟩
    case round =>
      obtain ⟨rfl, rfl, rfl⟩ := hrel
      go_wp2
      go_ret
      exact ⟨rfl, rfl⟩
  · have HB := Lib.hid (fun i hi => (q5 i hi).2)
    have HM := Lib.hid (fun i hi => (q5 i hi).1)
    clear q5
    go_enter Try.func43, Try.ntmps43
    go_wp2
    go_loopg [1, 5] n (fun g kk i wr => ∃ (m : Nat) (z : Int), m ≤ n ∧ g = n - m ∧ kk = .int .i64 z ∧ i = .int .i64 m ∧ Hid (z = K m) ∧ w = wr)
    case atStart => exact ⟨0, _, Nat.zero_le _, rfl, rfl, rfl, rfl, rfl⟩
    case round =>
      obtain ⟨m, z, hm, rfl, rfl, rfl, HZ, rfl⟩ := hrel
      obtain ⟨z1, z2⟩ := monoK HB.out m hm
      rw [← HZ.out] at z1 z2
      by_cases hlt : m < n
      · have c2 : w.cell? ⟨b, m, none⟩ = some (f m) := q4.cell (by omega)
        have HS := held1S (HM.out m hlt) (by have := HZ.out; omega) (by have := HZ.out; omega)
        rw [← HZ.out] at HS
        obtain ⟨z3, z4⟩ := monoK HB.out (m + 1) (by omega)
        obtain ⟨fm, hfm⟩ : ∃ x, f m = x := ⟨_, rfl⟩
        obtain ⟨z', hz'⟩ : ∃ x, K (m + 1) = x := ⟨_, rfl⟩
        rw [hfm] at c2 HS
        rw [hz'] at HS z3 z4
        have HZ' := Lib.hid hz'
        have hnn : ¬ z' < 0 := by omega
        clear hfm hz'
        go_wp2_with fail
        refine HS.mono ?_
        rintro e w1 ⟨rfl, rfl⟩
        go_wp2
        go_roundg (n - (m + 1))
        case measure => omega
        case rel => exact ⟨m + 1, z', by omega, rfl, rfl, by simp, HZ'.out.symm, rfl⟩
      · have e : m = n := by omega
        subst e
        go_wp2
        go_ret
        exact ⟨by rw [HZ.out]; rfl, rfl⟩
/-- A list of lists of shares to be read, and a bool. -/
def PSb (m : List (List Sq) × Bool) (w : World) (e : Ending) (w' : World) : Prop := ∃ v, e = .returned (.tuple #[v, .bool m.2]) ∧ RdS w' w.heap.size w'.heap.size v m.1 ∧ Below w.heap.size w w'
theorem PSb.out {l : List (List Sq)} {z : Bool} {w w' : World} {e : Ending} (h : PSb (l, z) w e w') : ∃ v, e = .returned (.tuple #[v, .bool z]) ∧ RdS w' w.heap.size w'.heap.size v l ∧ Below w.heap.size w w' := h
def QSb (m : List (List Sq) × Bool) (w : World) (e : Ending) (w' : World) : Prop := ∃ v, e = .returned (.tuple #[v, .bool m.2]) ∧ OwS w' w.heap.size w'.heap.size v m.1 ∧ Below w.heap.size w w'
theorem QSb.out {l : List (List Sq)} {z : Bool} {w w' : World} {e : Ending} (h : QSb (l, z) w e w') : ∃ v, e = .returned (.tuple #[v, .bool z]) ∧ OwS w' w.heap.size w'.heap.size v l ∧ Below w.heap.size w w' := h
end Go.Proofs.Ytlpidgdlbannbaa
