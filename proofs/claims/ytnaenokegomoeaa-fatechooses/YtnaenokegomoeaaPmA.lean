/-
  The program's device (layer 5) in memory: its words, its map of what was sent, its plan.
-/
import Derived.Test.YtnaenokegomoeaaRefDevH
import Derived.Maps.OwnSet
import Derived.Maps.RangeWalk
namespace Go.Proofs.Ytnaenokegomoeaa
set_option linter.unusedVariables false
set_option linter.unusedSimpArgs false
open Go.RowKit

theorem lawI : Maps.Keyed Try.prog 3 := Maps.int_keyed Try.underlying3
theorem zeroU (w : World) : (zeroValue 22).run Try.prog w = .ok (.int .u64 0) w := by kernel_rfl

/-- words in memory, with room behind them. -/
def blkT (zs : List Int) (tl : List Value) : Array Value := (zs.map (Value.int .u64) ++ tl).toArray
theorem blkT_get (zs : List Int) (tl : List Value) (i : Nat) (h : i < zs.length) : (blkT zs tl)[i]? = some (.int .u64 (zs.getD i 0)) := by
  simp [blkT, List.getElem?_append, h]
theorem blkT_set (zs : List Int) (tl : List Value) (i : Nat) (z : Int) (h : i < zs.length) : (blkT zs tl).setIfInBounds i (.int .u64 z) = blkT (zs.set i z) tl := by
  simp [blkT, List.set_append, h]
theorem cell_blkT {w : World} {g : Nat} {zs : List Int} {tl : List Value} {T : TypeId} (h : w.heap[g]? = some (.cells (blkT zs tl) T (0, 0))) {i : Nat} (hi : i < zs.length) : w.cell? ⟨g, i, none⟩ = some (.int .u64 (zs.getD i 0)) ∧ w.frozen? ⟨g, i, none⟩ = false :=
  ⟨by simp [World.cell?, h, blkT_get zs tl i hi], by simp [World.frozen?, h]⟩

/-- the map of what was sent says what the words say. -/
structure Sent (M : DataW Unit) (ws : List Pm.W) : Prop where
  has : ∀ i : Nat, i < ws.length → Maps.has M (.int .i64 i) = (ws.getD i (Pm.still 0)).flushed
  val : ∀ i : Nat, i < ws.length → M.atKey (.int .i64 i) (.lit (.int .u64 0)) = .lit (.int .u64 (ws.getD i (Pm.still 0)).sent)
  dom : ∀ x : Int, Maps.has M (.int .i64 x) = true → 0 ≤ x ∧ x < (ws.length : Int)

theorem key_ne {i j : Int} (h : j ≠ i) : (Lit.int .i64 j) ≠ (Lit.int .i64 i) := fun e => h (by cases e; rfl)
theorem getD_set {ws : List Pm.W} {i j : Nat} (x : Pm.W) (hi : i < ws.length) : (ws.set i x).getD j (Pm.still 0) = if j = i then x else ws.getD j (Pm.still 0) := by
  simp only [List.getD_eq_getElem?_getD, List.getElem?_set]
  by_cases h : i = j
  · subst h
    simp [hi]
  · rw [if_neg h, if_neg (Ne.symm h)]
/-- words of which nothing was sent. -/
theorem Sent.none {ws : List Pm.W} (h : ∀ x ∈ ws, x.flushed = false ∧ x.sent = 0) : Sent (.map []) ws := by
  have key : ∀ i, i < ws.length → (ws.getD i (Pm.still 0)).flushed = false ∧ (ws.getD i (Pm.still 0)).sent = 0 := fun i hi => by
    have e : ws.getD i (Pm.still 0) = ws[i] := by simp [hi]
    rw [e]
    exact h _ (List.getElem_mem hi)
  refine ⟨fun i hi => ?_, fun i hi => ?_, fun x hx => ?_⟩
  · rw [(key i hi).1]; rfl
  · rw [(key i hi).2]; rfl
  · cases hx
/-- one word is sent. -/
theorem Sent.put {M : DataW Unit} {ws : List Pm.W} (h : Sent M ws) (hM : Maps.IsMap M) {i : Nat} (hi : i < ws.length) {x : Pm.W} (h1 : x.flushed = true) : Sent (M.put (.int .i64 i) (.lit (.int .u64 x.sent))) (ws.set i x) := by
  refine ⟨fun j hj => ?_, fun j hj => ?_, fun y hy => ?_⟩
  · rw [getD_set x hi]
    by_cases e : j = i
    · subst e
      rw [if_pos rfl, h1, Maps.has_put_same hM (show WideAt.IsKeyLit (.int .i64 _) from trivial)]
    · rw [if_neg e, Maps.has_put_other (key_ne (by omega))]
      exact h.has j (by simpa using hj)
  · rw [getD_set x hi]
    by_cases e : j = i
    · subst e
      rw [if_pos rfl, Maps.atKey_put_same hM (show WideAt.IsKeyLit (.int .i64 _) from trivial)]
    · rw [if_neg e, Maps.atKey_put_other (key_ne (by omega))]
      exact h.val j (by simpa using hj)
  · rw [List.length_set]
    by_cases e : y = i
    · omega
    · rw [Maps.has_put_other (key_ne e)] at hy
      exact h.dom y hy
/-- one word isn't sent any more. -/
theorem Sent.del {M : DataW Unit} {ws : List Pm.W} (h : Sent M ws) {i : Nat} (hi : i < ws.length) {x : Pm.W} (h1 : x.flushed = false) (h2 : x.sent = 0) : Sent (M.del (.int .i64 i)) (ws.set i x) := by
  refine ⟨fun j hj => ?_, fun j hj => ?_, fun y hy => ?_⟩
  · rw [getD_set x hi]
    by_cases e : j = i
    · subst e
      rw [if_pos rfl, h1, Maps.has_del_same]
    · rw [if_neg e, Maps.has_del_other (key_ne (by omega))]
      exact h.has j (by simpa using hj)
  · rw [getD_set x hi]
    by_cases e : j = i
    · subst e
      rw [if_pos rfl, h2, Maps.atKey_del_same]
    · rw [if_neg e, Maps.atKey_del_other (key_ne (by omega))]
      exact h.val j (by simpa using hj)
  · rw [List.length_set]
    by_cases e : y = i
    · subst e
      rw [Maps.has_del_same] at hy
      cases hy
    · rw [Maps.has_del_other (key_ne e)] at hy
      exact h.dom y hy
/-- where what was sent stays. -/
theorem Sent.same {M : DataW Unit} {ws ws' : List Pm.W} (h : Sent M ws) (hl : ws'.length = ws.length) (he : ∀ i, i < ws.length → (ws'.getD i (Pm.still 0)).flushed = (ws.getD i (Pm.still 0)).flushed ∧ (ws'.getD i (Pm.still 0)).sent = (ws.getD i (Pm.still 0)).sent) : Sent M ws' := by
  refine ⟨fun i hi => ?_, fun i hi => ?_, fun x hx => ?_⟩
  · rw [(he i (by omega)).1]; exact h.has i (by omega)
  · rw [(he i (by omega)).2]; exact h.val i (by omega)
  · rw [hl]; exact h.dom x hx

/-- the program's device at block b. -/
structure PX (w : World) (b : Nat) (s : Pm.D) (F : Nat → Prop) (g0 g1 c1 gm n : Nat) (tl : List Value) (M : DataW Unit) (pa : Option Addr) (pc : Nat) (laid : Int) : Prop where
  dev : w.heap[b]? = some (.cells #[.slice (some ⟨g0, 0, none⟩) s.ws.length s.ws.length, .slice (some ⟨g1, 0, none⟩) s.ws.length c1, .map (some gm), .int .i64 s.steps, .bool (decide (s.left = 0)), .int .i64 (if 0 < s.left then s.left else 0), .slice pa s.plan.length pc, .int .i64 laid] 80 (0, 0))
  k0 : w.heap[g0]? = some (.cells (blk .u64 (Pm.lastL s.ws)) 22 (0, 0))
  k1 : w.heap[g1]? = some (.cells (blkT (Pm.storedL s.ws) tl) 22 (0, 0))
  mp : w.ownsMap Try.prog 3 (plainElem Try.prog 22) gm n M
  sent : Sent M s.ws
  cap : s.ws.length ≤ c1 ∧ c1 ≤ maxLen
  row : Row .i64 w pa s.plan.length s.plan
  apart : s.plan.length = 0 ∨ ∃ g off, pa = some ⟨g, off, none⟩ ∧ F g ∧ g ≠ b ∧ g ≠ g0 ∧ g ≠ g1 ∧ g ≠ gm
  mine : F b ∧ F g0 ∧ F g1 ∧ F gm
  ne : b ≠ g0 ∧ b ≠ g1 ∧ b ≠ gm ∧ g0 ≠ g1 ∧ g0 ≠ gm ∧ g1 ≠ gm
  lay : s.plan.length = 0 ∨ laid = (s.steps : Int) - s.since
  laid0 : 0 ≤ laid ∧ laid ≤ s.steps
  ok : s.Ok

theorem PX.fields {w : World} {b : Nat} {s : Pm.D} {F : Nat → Prop} {g0 g1 c1 gm n : Nat} {tl : List Value} {M : DataW Unit} {pa : Option Addr} {pc : Nat} {laid : Int} (h : PX w b s F g0 g1 c1 gm n tl M pa pc laid) :
    w.cell? ⟨b, 0, none⟩ = some (.slice (some ⟨g0, 0, none⟩) s.ws.length s.ws.length) ∧ w.cell? ⟨b, 1, none⟩ = some (.slice (some ⟨g1, 0, none⟩) s.ws.length c1) ∧ w.cell? ⟨b, 2, none⟩ = some (.map (some gm)) ∧
    w.cell? ⟨b, 3, none⟩ = some (.int .i64 s.steps) ∧ w.cell? ⟨b, 4, none⟩ = some (.bool (decide (s.left = 0))) ∧ w.cell? ⟨b, 5, none⟩ = some (.int .i64 (if 0 < s.left then s.left else 0)) ∧ w.cell? ⟨b, 6, none⟩ = some (.slice pa s.plan.length pc) ∧ w.cell? ⟨b, 7, none⟩ = some (.int .i64 laid) := by
  simp [World.cell?, h.dev]
theorem PX.free {w : World} {b : Nat} {s : Pm.D} {F : Nat → Prop} {g0 g1 c1 gm n : Nat} {tl : List Value} {M : DataW Unit} {pa : Option Addr} {pc : Nat} {laid : Int} (h : PX w b s F g0 g1 c1 gm n tl M pa pc laid) (i : Nat) : w.frozen? ⟨b, i, none⟩ = false := by
  simp [World.frozen?, h.dev]

theorem heap_lt {w : World} {k : Nat} {o : Obj} (h : w.heap[k]? = some o) : k < w.heap.size := (Array.getElem?_eq_some_iff.1 h).1
theorem ownsMap_block {w w' : World} {P : Program} {k : TypeId} {R : Value → Option (DataW Unit × List MemPlace)} {b n : Nat} {D : DataW Unit} (h : w.ownsMap P k R b n D) (hb : w'.heap[b]? = w.heap[b]?) : w'.ownsMap P k R b n D := by
  obtain ⟨es, clock, h1, h2⟩ := h
  exact ⟨es, clock, hb.trans h1, h2⟩

/-- where all its blocks are as they were. -/
theorem PX.kept {w : World} {b : Nat} {s : Pm.D} {F : Nat → Prop} {g0 g1 c1 gm n : Nat} {tl : List Value} {M : DataW Unit} {pa : Option Addr} {pc : Nat} {laid : Int} (h : PX w b s F g0 g1 c1 gm n tl M pa pc laid) {w' : World} (hs : w.heap.size ≤ w'.heap.size) (hk : ∀ k, F k → k < w.heap.size → w'.heap[k]? = w.heap[k]?) : PX w' b s F g0 g1 c1 gm n tl M pa pc laid := by
  obtain ⟨m1, m2, m3, m4⟩ := h.mine
  refine ⟨?_, ?_, ?_, ?_, h.sent, h.cap, ?_, h.apart, h.mine, h.ne, h.lay, h.laid0, h.ok⟩
  · rw [hk b m1 (heap_lt h.dev)]; exact h.dev
  · rw [hk g0 m2 (heap_lt h.k0)]; exact h.k0
  · rw [hk g1 m3 (heap_lt h.k1)]; exact h.k1
  · exact ownsMap_block h.mp (hk gm m4 h.mp.lt)
  · obtain ⟨r1, r2⟩ := h.row
    refine ⟨r1, ?_⟩
    rcases h.apart with h0 | ⟨g, off, rfl, hF, _⟩
    · exact .inl h0
    · rcases r2 with r2 | ⟨g', off', e, hlt, hc⟩
      · exact .inl r2
      · cases e
        refine .inr ⟨g, off, rfl, Nat.lt_of_lt_of_le hlt hs, fun j hj => ?_⟩
        rw [World.cell?_of_block (w := w) (hk g hF hlt)]
        exact hc j hj
theorem PX.drew {w : World} {b : Nat} {s : Pm.D} {F : Nat → Prop} {g0 g1 c1 gm n : Nat} {tl : List Value} {M : DataW Unit} {pa : Option Addr} {pc : Nat} {laid : Int} (h : PX w b s F g0 g1 c1 gm n tl M pa pc laid) (k : Nat) : PX (w.drewN k) b s F g0 g1 c1 gm n tl M pa pc laid := h.kept (Nat.le_refl _) (fun _ _ _ => rfl)
theorem PX.below {w : World} {b : Nat} {s : Pm.D} {F : Nat → Prop} {g0 g1 c1 gm n : Nat} {tl : List Value} {M : DataW Unit} {pa : Option Addr} {pc : Nat} {laid : Int} (h : PX w b s F g0 g1 c1 gm n tl M pa pc laid) {w' : World} (hb : Below w.heap.size w w') : PX w' b s F g0 g1 c1 gm n tl M pa pc laid := h.kept hb.size (fun k _ hk => hb.block k hk)

/-- the plan's row where the blocks that were turned are others. -/
theorem PX.row' {w : World} {b : Nat} {s : Pm.D} {F : Nat → Prop} {g0 g1 c1 gm n : Nat} {tl : List Value} {M : DataW Unit} {pa : Option Addr} {pc : Nat} {laid : Int} (h : PX w b s F g0 g1 c1 gm n tl M pa pc laid) {w' : World} (hs : w.heap.size ≤ w'.heap.size) (hk : ∀ k, k ≠ b → k ≠ g0 → k ≠ g1 → k ≠ gm → k < w.heap.size → w'.heap[k]? = w.heap[k]?) : Row .i64 w' pa s.plan.length s.plan := by
  obtain ⟨r1, r2⟩ := h.row
  refine ⟨r1, ?_⟩
  rcases h.apart with h0 | ⟨g, off, rfl, hF, q0, q1, q2, q3⟩
  · exact .inl h0
  · rcases r2 with r2 | ⟨g', off', e, hlt, hc⟩
    · exact .inl r2
    · cases e
      refine .inr ⟨g, off, rfl, Nat.lt_of_lt_of_le hlt hs, fun j hj => ?_⟩
      rw [World.cell?_of_block (w := w) (hk g q0 q1 q2 q3 hlt)]
      exact hc j hj

/-- where just the device's own block was turned (its counts and its power). -/
theorem PX.turn {w : World} {b : Nat} {s : Pm.D} {F : Nat → Prop} {g0 g1 c1 gm n : Nat} {tl : List Value} {M : DataW Unit} {pa : Option Addr} {pc : Nat} {laid : Int} (h : PX w b s F g0 g1 c1 gm n tl M pa pc laid) {w' : World} {s' : Pm.D} (hs : w.heap.size ≤ w'.heap.size) (hk : ∀ k, k ≠ b → k < w.heap.size → w'.heap[k]? = w.heap[k]?)
    (hb : w'.heap[b]? = some (.cells #[.slice (some ⟨g0, 0, none⟩) s.ws.length s.ws.length, .slice (some ⟨g1, 0, none⟩) s.ws.length c1, .map (some gm), .int .i64 s'.steps, .bool (decide (s'.left = 0)), .int .i64 (if 0 < s'.left then s'.left else 0), .slice pa s.plan.length pc, .int .i64 laid] 80 (0, 0)))
    (h1 : s'.ws = s.ws) (h2 : s'.plan = s.plan) (h3 : s.steps ≤ s'.steps) (h4 : s'.plan.length = 0 ∨ laid = (s'.steps : Int) - s'.since) (hok : s'.Ok) : PX w' b s' F g0 g1 c1 gm n tl M pa pc laid := by
  obtain ⟨n1, n2, n3, n4, n5, n6⟩ := h.ne
  refine ⟨?_, ?_, ?_, ?_, ?_, ?_, ?_, ?_, h.mine, h.ne, h4, ⟨h.laid0.1, by have := h.laid0.2; omega⟩, hok⟩
  · rw [h1, h2]; exact hb
  · rw [h1, hk g0 (Ne.symm n1) (heap_lt h.k0)]; exact h.k0
  · rw [h1, hk g1 (Ne.symm n2) (heap_lt h.k1)]; exact h.k1
  · exact ownsMap_block h.mp (hk gm (Ne.symm n3) h.mp.lt)
  · rw [h1]; exact h.sent
  · rw [h1]; exact h.cap
  · rw [h2]; exact h.row' hs (fun k hb _ _ _ hlt => hk k hb hlt)
  · rw [h2]; exact h.apart

/-- the program's device, whatever its blocks. -/
def PDev (w : World) (b : Nat) (s : Pm.D) (F : Nat → Prop) : Prop := ∃ g0 g1 c1 gm n tl M pa pc laid, PX w b s F g0 g1 c1 gm n tl M pa pc laid ∧ n ≤ 8 * s.steps
theorem PDev.ok {w : World} {b : Nat} {s : Pm.D} {F : Nat → Prop} (h : PDev w b s F) : s.Ok := by
  obtain ⟨_, _, _, _, _, _, _, _, _, _, h, _⟩ := h
  exact h.ok
theorem PDev.kept {w w' : World} {b : Nat} {s : Pm.D} {F : Nat → Prop} (h : PDev w b s F) (hs : w.heap.size ≤ w'.heap.size) (hk : ∀ k, F k → k < w.heap.size → w'.heap[k]? = w.heap[k]?) : PDev w' b s F := by
  obtain ⟨g0, g1, c1, gm, n, tl, M, pa, pc, laid, h, hn⟩ := h
  exact ⟨g0, g1, c1, gm, n, tl, M, pa, pc, laid, h.kept hs hk, hn⟩
/-- what an act leaves of it. -/
def PNext (w : World) (b : Nat) (s' : Pm.D) (F : Nat → Prop) (w' : World) : Prop := ∃ F', PDev w' b s' F' ∧ Grows F w F' w' ∧ (∀ k, F k → F' k) ∧ Only F w w'
/-- .. with how often its map was written. -/
def PMid (w : World) (b : Nat) (s' : Pm.D) (F : Nat → Prop) (m : Nat) (w' : World) : Prop := ∃ F', (∃ g0 g1 c1 gm n tl M pa pc laid, PX w' b s' F' g0 g1 c1 gm n tl M pa pc laid ∧ n ≤ m) ∧ Grows F w F' w' ∧ (∀ k, F k → F' k) ∧ Only F w w'
theorem PMid.next {w w' : World} {b : Nat} {s : Pm.D} {F : Nat → Prop} {m : Nat} (h : PMid w b s F m w') (hm : m ≤ 8 * s.steps) : PNext w b s F w' := by
  obtain ⟨F', ⟨g0, g1, c1, gm, n, tl, M, pa, pc, laid, h, hn⟩, h2⟩ := h
  exact ⟨F', ⟨g0, g1, c1, gm, n, tl, M, pa, pc, laid, h, by omega⟩, h2⟩
theorem PX.mid {w w' : World} {b : Nat} {s : Pm.D} {F : Nat → Prop} {g0 g1 c1 gm n : Nat} {tl : List Value} {M : DataW Unit} {pa : Option Addr} {pc : Nat} {laid : Int} (h : PX w' b s F g0 g1 c1 gm n tl M pa pc laid) (ho : Only F w w') {m : Nat} (hm : n ≤ m) : PMid w b s F m w' :=
  ⟨F, ⟨_, _, _, _, _, _, _, _, _, _, h, hm⟩, Grows.refl F w w', fun _ h => h, ho⟩
end Go.Proofs.Ytnaenokegomoeaa
