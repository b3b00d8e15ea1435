/-
  The program's device (layer 5): what a number leaves of an open word; what a crash leaves in memory.
-/
import Derived.Test.YtnaenokegomoeaaPmK
import Derived.Test.YtnaenokegomoeaaOcAll
namespace Go.Proofs.Ytnaenokegomoeaa
set_option linter.unusedVariables false
set_option linter.unusedSimpArgs false
open Go.RowKit

theorem rest3 (n : Int) : (n.tmod 3 + 3).tmod 3 = n % 3 := by
  have h1 : -3 < n.tmod 3 ∧ n.tmod 3 < 3 := ⟨Int.lt_tmod_of_pos n (by decide), Int.tmod_lt_of_pos n (by decide)⟩
  have h2 : n.tmod 3 % 3 = n % 3 := by
    rcases Int.emod_emod_of_dvd n (show (3 : Int) ∣ 3 from Int.dvd_refl 3) with h
    have := Int.tmod_add_mul_tdiv n 3
    omega
  rw [Int.tmod_eq_emod_of_nonneg (by omega)]
  omega

set_option maxRecDepth 100000 in
set_option maxHeartbeats 1000000 in
theorem pkept_any (f : Pm.F) (n : Int) (w : World) (hn : (Lit.int .i64 n).wf = true) :
    Calls Try.prog 39 #[.agg (fateV f).toArray, .int .i64 n] w fun e w' => e = .returned (.int .u64 (f.value n)) ∧ Below w.heap.size w w' := by
  have h3 : n % 3 = 0 ∨ n % 3 = 1 ∨ n % 3 = 2 := by omega
  have hb := bd_i64 hn
  have hr := rest3 n
  obtain ⟨a, l, fl, se, st⟩ := f
  show Calls Try.prog 39 #[.agg #[.int .i64 a, .int .u64 l, .bool fl, .int .u64 se, .int .u64 st], .int .i64 n] w _
  have HBL := hide (fun o => (Below.refl w.heap.size w).alloc (Nat.le_refl _) o)
  clear hn
  have hv : (n % 3 = 0 ∧ Pm.F.value ⟨a, l, fl, se, st⟩ n = l) ∨ (n % 3 = 1 ∧ fl = true ∧ Pm.F.value ⟨a, l, fl, se, st⟩ n = se) ∨ (n % 3 = 1 ∧ fl = false ∧ Pm.F.value ⟨a, l, fl, se, st⟩ n = l) ∨ (n % 3 = 2 ∧ Pm.F.value ⟨a, l, fl, se, st⟩ n = st) := by
    unfold Pm.F.value
    rcases h3 with h | h | h
    · simp [h]
    · cases fl <;> simp [h]
    · simp [h]
  clear h3
  have h1 : -3 < n.tmod 3 ∧ n.tmod 3 < 3 := ⟨Int.lt_tmod_of_pos n (by decide), Int.tmod_lt_of_pos n (by decide)⟩
  obtain ⟨t, ht⟩ : ∃ t, n.tmod 3 = t := ⟨_, rfl⟩
  rw [ht] at hr h1
  obtain ⟨h1, h1'⟩ := h1
  rcases hv with ⟨h, hv⟩ | ⟨h, rfl, hv⟩ | ⟨h, rfl, hv⟩ | ⟨h, hv⟩
  all_goals
    have HV := hide hv
    rw [h] at hr
    clear h hv
    go_enter Try.func39, Try.ntmps39
    go_wp2
    go_ret
    exact ⟨by rw [HV.out]; rfl, HBL.out _⟩

theorem lastN_here {ws : List Pm.W} {k m : Nat} {f : Pm.F} (l : List Int) (h : (Pm.fatesFrom k ws)[m]? = some f) : ((Pm.lastN m ws l).getD (f.at' - k) (Pm.still 0)).lasts = f.lasts := by
  induction ws generalizing k m l with
  | nil => simp [Pm.fatesFrom] at h
  | cons x r ih =>
    unfold Pm.fatesFrom at h
    split at h
    · rename_i ho
      cases m with
      | zero =>
        simp at h
        subst h
        simp only [Nat.sub_self]
        unfold Pm.lastN
        rfl
      | succ m =>
        simp at h
        have h1 := (Pm.lastN_step l.tail h).1
        have h2 := ih l.tail h
        rw [show f.at' - k = (f.at' - (k + 1)) + 1 by omega]
        unfold Pm.lastN
        rw [if_pos ho, List.getD_cons_succ]
        exact h2
    · rename_i ho
      have h1 := (Pm.lastN_step l h).1
      have h2 := ih l h
      rw [show f.at' - k = (f.at' - (k + 1)) + 1 by omega]
      cases m with
      | zero =>
        unfold Pm.lastN at h2 ⊢
        rw [List.getD_cons_succ]
        exact h2
      | succ m =>
        unfold Pm.lastN
        rw [if_neg ho, List.getD_cons_succ]
        exact h2

/-- what lasts behind one fate more. -/
theorem lastL_step {ws : List Pm.W} {m : Nat} {f : Pm.F} (l : List Int) (h : (Pm.fatesFrom 0 ws)[m]? = some f) :
    f.at' < ws.length ∧ Pm.lastL (Pm.lastN (m + 1) ws l) = (Pm.lastL (Pm.lastN m ws l)).set f.at' (f.value (l.getD m 0)) ∧ (l.length ≤ m → Pm.lastL (Pm.lastN (m + 1) ws l) = Pm.lastL (Pm.lastN m ws l)) := by
  obtain ⟨_, h2, h3⟩ := Pm.lastN_step l h
  rw [Nat.sub_zero] at h2 h3
  have e : Pm.lastL (Pm.lastN (m + 1) ws l) = (Pm.lastL (Pm.lastN m ws l)).set f.at' (f.value (l.getD m 0)) := by
    rw [h3, (set_last _ _ _ (by rw [Pm.lastN_length]; exact h2)).1]
  refine ⟨h2, e, fun hl => ?_⟩
  rw [e]
  have hv : f.value (l.getD m 0) = f.lasts := by
    rw [List.getD_eq_getElem?_getD, List.getElem?_eq_none hl]
    unfold Pm.F.value
    simp
  have hh := lastN_here l h
  rw [Nat.sub_zero] at hh
  rw [hv, ← hh]
  apply List.ext_getElem?
  intro j
  rw [List.getElem?_set]
  split
  · rename_i e
    subst e
    have hlt : f.at' < (Pm.lastN m ws l).length := by rw [Pm.lastN_length]; exact h2
    simp [Pm.lastL, hlt]
  · rfl
theorem lastL_settle (ws : List Pm.W) : Pm.lastL (ws.map Pm.settle) = Pm.lastL ws ∧ Pm.storedL (ws.map Pm.settle) = Pm.lastL ws := by
  unfold Pm.lastL Pm.storedL
  rw [List.map_map, List.map_map]
  exact ⟨rfl, rfl⟩
theorem lastL_crash {s : Pm.D} (h : s.Ok) (l : List Int) : Pm.lastL (Pm.crashW s.ws l) = Pm.lastL (Pm.lastN (Pm.fates s).length s.ws l) ∧ Pm.storedL (Pm.crashW s.ws l) = Pm.lastL (Pm.lastN (Pm.fates s).length s.ws l) := by
  rw [← Pm.lastN_all h.ws 0 l]
  exact lastL_settle _

/-- copy(d.stored, d.lasts). -/
theorem copy_words {W : World} {g h N c : Nat} {zs ys : List Int} {tl : List Value} (hg : W.heap[g]? = some (.cells (blkT zs tl) 22 (0, 0))) (hh : W.heap[h]? = some (.cells (blk .u64 ys) 22 (0, 0))) (hz : zs.length = N) (hy : ys.length = N) :
    (Builtin.copy_ #[26, 26] 3 #[.slice (some ⟨g, 0, none⟩) N c, .slice (some ⟨h, 0, none⟩) N N]).run Try.prog W = .ok (.int .i64 N) (W.setRow g (blkT ys tl)) := by
  by_cases h0 : N = 0
  · subst h0
    obtain rfl : zs = [] := List.eq_nil_of_length_eq_zero hz
    obtain rfl : ys = [] := List.eq_nil_of_length_eq_zero hy
    rw [setRow_self W g _ _ _ hg]
    exact run_copy_none (P := Try.prog) _ 26 26 3 22 _ _ 0 c 0 0 Try.underlying26 (by kernel_rfl) rfl
  · have hr := run_copy_row (P := Try.prog) W 26 26 3 22 g 0 N c ⟨h, 0, none⟩ N N (blkT zs tl) 22 (ys.map (Value.int .u64)) Try.underlying26 (by kernel_rfl) hg (by simp [hy]) (block_cell hh) (by simp [blkT, hz, hy]) (oneCells _ _)
    rw [hr]
    simp [blkT, hy, goInt]
    rw [List.drop_append, List.drop_of_length_le (by simp [hz])]
    simp [hz]

/-- a device behind a crash. -/
theorem PX.crashed {w : World} {b : Nat} {s : Pm.D} {F : Nat → Prop} {g0 g1 c1 gm n : Nat} {tl : List Value} {M : DataW Unit} {pa : Option Addr} {pc : Nat} {laid : Int} (h : PX w b s F g0 g1 c1 gm n tl M pa pc laid) (l : List Int) {W : World} {F' : Nat → Prop} {gm' : Nat} (hF : ∀ k, F k → F' k) (hgm : F' gm') (hn1 : w.heap.size ≤ gm')
    (hd : W.heap[b]? = some (.cells #[.slice (some ⟨g0, 0, none⟩) s.ws.length s.ws.length, .slice (some ⟨g1, 0, none⟩) s.ws.length c1, .map (some gm'), .int .i64 s.steps, .bool false, .int .i64 0, .slice none 0 0, .int .i64 laid] 80 (0, 0)))
    (h0 : W.heap[g0]? = some (.cells (blk .u64 (Pm.lastL (Pm.lastN (Pm.fates s).length s.ws l))) 22 (0, 0))) (h1 : W.heap[g1]? = some (.cells (blkT (Pm.lastL (Pm.lastN (Pm.fates s).length s.ws l)) tl) 22 (0, 0)))
    (hm : W.ownsMap (H := Unit) Try.prog 3 (plainElem Try.prog 22) gm' 0 (.map [])) : PX W b (Pm.crash s l) F' g0 g1 c1 gm' 0 tl (.map []) none 0 laid := by
  obtain ⟨n1, n2, n3, n4, n5, n6⟩ := h.ne
  have l0 := heap_lt h.dev
  have l1 := heap_lt h.k0
  have l2 := heap_lt h.k1
  obtain ⟨e1, e2⟩ := lastL_crash h.ok l
  have hl : (Pm.crash s l).ws.length = s.ws.length := Pm.crashW_length _ _
  refine ⟨?_, ?_, ?_, hm, Sent.none (fun x hx => ?_), by rw [hl]; exact h.cap, ⟨rfl, .inl rfl⟩, .inl rfl, ⟨hF _ h.mine.1, hF _ h.mine.2.1, hF _ h.mine.2.2.1, hgm⟩, ⟨n1, n2, by omega, n4, by omega, by omega⟩, .inl rfl, h.laid0, ⟨Pm.crashW_ok h.ok.ws l, (by intro p hp; cases hp), ⟨Int.le_refl _, by unfold Pm.crash; simp⟩, Nat.zero_le _⟩⟩
  · rw [hl]; exact hd
  · unfold Pm.crash; simp only [e1]; exact h0
  · unfold Pm.crash; simp only [e2]; exact h1
  · have := Pm.crashW_still s.ws l x hx
    rw [this]
    exact ⟨rfl, rfl⟩
end Go.Proofs.Ytnaenokegomoeaa
