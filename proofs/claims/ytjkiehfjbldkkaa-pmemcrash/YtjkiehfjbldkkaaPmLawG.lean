/-
  Layer 5's statements: PmemCrash: what it is told.
-/
import Derived.Test.YtjkiehfjbldkkaaPmLawS
namespace Go.Proofs.Ytjkiehfjbldkkaa
set_option linter.unusedVariables false
set_option linter.unusedSimpArgs false
open Go.RowKit

set_option maxHeartbeats 1000000 in
/-- Image, with the block that it makes. -/
theorem pimage_new {w : World} {b : Nat} {s : Pm.D} {F : Nat → Prop} (h : PDev w b s F) (hm : s.ws.length ≤ 40000) :
    Calls Try.prog 21 #[.pointer (some ⟨b, 0, none⟩)] w fun e w' => ∃ g, e = .returned (.slice (some ⟨g, 0, none⟩) (8 * s.ws.length) (8 * s.ws.length)) ∧ w.heap.size ≤ g ∧ w'.heap[g]? = some (.cells (blk .u8 (octs (Pm.lastL s.ws))) 5 (0, 0)) ∧ Below w.heap.size w w' := by
  obtain ⟨g0, g1, c1, gm, n, tl, M, pa, pc, laid, h, hn⟩ := h
  have HO := hide (octets_any (some ⟨g0, 0, none⟩) s.ws.length s.ws.length (Pm.lastL s.ws) w (by omega) (row_of_block h.k0 (lastL_len _)) (wf_last h.ok))
  have HT : Hid (octTo (Pm.lastL s.ws) s.ws.length = octs (Pm.lastL s.ws)) := by
    show _ = _
    have := octTo_all (Pm.lastL s.ws)
    rw [lastL_len] at this
    exact this
  obtain ⟨f0, f1, f2, f3, f4, f5, f6, f7⟩ := h.fields
  clear h f1 f2 f3 f4 f5 f6 f7 hn
  generalize s.ws.length = N at *
  go_enter Try.func21, Try.ntmps21
  go_wp2_with (go_at_call 42; refine HO.out.mono ?_; rintro e w1 ⟨rfl, hb, hg⟩)
  go_ret
  rw [HT.out] at hg
  exact ⟨_, rfl, Nat.le_refl _, hg, hb⟩
/-- Fates, with the row that it owns. -/
theorem pfates_own {w : World} {b : Nat} {s : Pm.D} {F : Nat → Prop} (h : PDev w b s F) (hm : s.ws.length ≤ 40000) :
    Calls Try.prog 19 #[.pointer (some ⟨b, 0, none⟩)] w fun e w' => ∃ v, e = .returned v ∧ w'.ownsRow w.heap.size 63 5 v (Pm.fates s).length (fateCells (Pm.fates s)) ∧ Below w.heap.size w w' := by
  obtain ⟨g0, g1, c1, gm, n, tl, M, pa, pc, laid, h, hn⟩ := h
  exact pfates_x h hm

theorem octs_append (a b : List Int) : octs (a ++ b) = octs a ++ octs b := by simp [octs]
theorem octs_cons (x : Int) (R : List Int) : octs (x :: R) = Nums.lay x 8 ++ octs R := by
  unfold octs
  rw [List.flatMap_cons]
theorem octs_mid (A R : List Int) (x v : Int) : splice (octs (A ++ x :: R)) (8 * A.length) (Nums.lay v 8) = octs (A ++ v :: R) := by
  have l1 : (octs A).length = 8 * A.length := octs_length A
  unfold splice
  rw [octs_append, octs_append, octs_cons, octs_cons, Nums.length_lay, List.take_left' l1, List.drop_append, List.drop_of_length_le (by omega), l1, List.nil_append]
  have e : 8 * A.length + 8 - 8 * A.length = 8 := by omega
  rw [e, List.drop_left' (Nums.length_lay 8 x)]
theorem octs_set {L : List Int} {i : Nat} (v : Int) (h : i < L.length) : splice (octs L) (8 * i) (Nums.lay v 8) = octs (L.set i v) := by
  have e1 : L = L.take i ++ L[i] :: L.drop (i + 1) := by simp
  have e2 : L.set i v = L.take i ++ v :: L.drop (i + 1) := List.set_eq_take_append_cons_drop.trans (if_pos h)
  have e3 := octs_mid (L.take i) (L.drop (i + 1)) L[i] v
  rw [← e1, ← e2, List.length_take, Nat.min_eq_left (by omega)] at e3
  exact e3
theorem octs_at {L : List Int} {i : Nat} (h : i < L.length) : ((octs L).drop (8 * i)).take 8 = Nums.lay (L.getD i 0) 8 := by
  have e := oct_at L L.length i h (Nat.le_refl _)
  rw [octTo_all] at e
  exact e
theorem copied_snoc (now : List Int) (fs : List Pm.F) (f : Pm.F) (was : List Int) : Pm.copied now (fs ++ [f]) was = (Pm.copied now fs was).set f.at' (now.getD f.at' 0) := by
  induction fs generalizing was with
  | nil => rfl
  | cons g r ih =>
    rw [List.cons_append, Pm.copied, ih]
    rfl
theorem copied_step (now : List Int) {fs : List Pm.F} {k : Nat} {f : Pm.F} (was : List Int) (h : fs[k]? = some f) : Pm.copied now (fs.take (k + 1)) was = (Pm.copied now (fs.take k) was).set f.at' (now.getD f.at' 0) := by
  have hlt := (List.getElem?_eq_some_iff.1 h).1
  have e : fs.take (k + 1) = fs.take k ++ [f] := by
    rw [List.take_add_one, h]
    rfl
  rw [e, copied_snoc]

set_option maxRecDepth 100000 in
set_option maxHeartbeats 1000000 in
theorem crash_great {w : World} {p : Option Addr} {pl pc : Nat} {l : List Int} (hP : Arg .i64 w p pl pc l) {a : Option Addr} {len cap : Nat} {xs : List Ac} (hA : Acts w a len cap xs) (h : smallB xs 40 = false ∨ (smallB xs 40 = true ∧ 60 < pl)) :
    Calls Try.prog 6 #[.slice a len cap, .slice p pl pc] w fun e w' => e = .returned (.bool true) ∧ Below w.heap.size w w' := by
  have HA := hide hA
  clear hA
  rcases h with h | ⟨h, h1⟩
  · go_enter Try.func6, Try.ntmps6
    go_wp2_with fail
    refine (awake_any _).mono ?_
    rintro e w1 ⟨rfl, hb1⟩
    have HB1 := hide hb1
    clear hb1
    go_wp2_with fail
    refine (small_any (HA.out.below HB1.out) 40 (by decide)).mono ?_
    rintro e w2 ⟨rfl, hb2⟩
    have HB2 := hide (HB1.out.trans (hb2.mono HB1.out.size))
    clear hb2
    go_wp2_with fail
    refine (awake_any _).mono ?_
    rintro e w3 ⟨rfl, hb3⟩
    have HB3 := hide (HB2.out.trans (hb3.mono HB2.out.size))
    clear hb3
    go_wp2_with fail
    go_ret
    exact ⟨rfl, HB3.out⟩
  · have h1' : (60 : Int) < (pl : Int) := by omega
    go_enter Try.func6, Try.ntmps6
    go_wp2_with fail
    refine (awake_any _).mono ?_
    rintro e w1 ⟨rfl, hb1⟩
    have HB1 := hide hb1
    clear hb1
    go_wp2_with fail
    refine (small_any (HA.out.below HB1.out) 40 (by decide)).mono ?_
    rintro e w2 ⟨rfl, hb2⟩
    have HB2 := hide (HB1.out.trans (hb2.mono HB1.out.size))
    clear hb2
    go_wp2_with fail
    refine (awake_any _).mono ?_
    rintro e w3 ⟨rfl, hb3⟩
    have HB3 := hide (HB2.out.trans (hb3.mono HB2.out.size))
    clear hb3
    go_wp2_with fail
    go_ret
    exact ⟨rfl, HB3.out⟩

/-- what holds of a device while acts are done. -/
structure Doing (n k : Nat) (s : Pm.D) : Prop where
  len : s.ws.length = n
  plan : s.plan.length ≤ 40
  steps : s.steps ≤ k
theorem Doing.act {n k : Nat} {s : Pm.D} (h : Doing n k s) (a : Pm.A) (hl : a.l.length ≤ 40) : Doing n (k + 1) (Pm.act s a) := by
  refine ⟨by rw [Pm.act_length]; exact h.len, ?_, ?_⟩
  · rcases act_plan s a with e | e | e
    · rw [e]; exact h.plan
    · rw [e]; exact hl
    · rw [e]; simp
  · have := h.steps
    rcases Pm.act_steps s a with e | e <;> rw [e] <;> omega
end Go.Proofs.Ytjkiehfjbldkkaa
