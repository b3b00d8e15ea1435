/-
  What layer 5's statements ask of the document's device, as plain facts: no program is named here.
-/
import Derived.Test.YtjkiehfjbldkkaaPmNums
namespace Go.Proofs.Ytjkiehfjbldkkaa
set_option linter.unusedVariables false
set_option linter.unusedSimpArgs false
namespace Pm

/-- a word at a place, behind what was done to the words. -/
theorem evict_at (ws : List W) (plan : List Int) (since : Nat) {i : Nat} {x : W} (h : ws[i]? = some x) : (evict ws plan since)[i]? = some x ∨ (evict ws plan since)[i]? = some (x.last x.stored) := by
  have hi := (List.getElem?_eq_some_iff.1 h).1
  unfold evict
  split
  · exact .inl h
  · simp only
    split
    · exact .inl h
    · rw [List.getElem?_set]
      split
      · rename_i e
        subst e
        rw [if_pos hi]
        right
        rw [List.getD_eq_getElem?_getD, h]
        rfl
      · exact .inl h
theorem put_at {ws : List W} {i j : Nat} {v : Int} (h : j ≠ i) : (put ws j v)[i]? = ws[i]? := by
  unfold put
  rw [List.getElem?_set, if_neg h]
theorem put_here {ws : List W} {i : Nat} {v : Int} {x : W} (h : ws[i]? = some x) : (put ws i v)[i]? = some { x with stored := v } := by
  have hi := (List.getElem?_eq_some_iff.1 h).1
  unfold put
  rw [List.getElem?_set, if_pos rfl, if_pos hi, List.getD_eq_getElem?_getD, h]
  rfl
theorem sendL_at {ws : List W} {k i : Nat} {x : W} (hk : 8 * k + 8 ≤ ws.length) (h : ws[i]? = some x) : (sendL ws k)[i]? = some (if 8 * k ≤ i ∧ i < 8 * k + 8 then x.send else x) := by
  unfold sendL
  by_cases h1 : i < 8 * k
  · rw [if_neg (by omega), List.getElem?_append_left (by simp; omega), List.getElem?_append_left (by simp; omega), List.getElem?_take, if_pos h1, h]
  · by_cases h2 : i < 8 * k + 8
    · rw [if_pos (by omega), List.getElem?_append_left (by simp; omega), List.getElem?_append_right (by simp; omega), List.length_take, Nat.min_eq_left (by omega), List.getElem?_map, List.getElem?_take, if_pos (by omega), List.getElem?_drop, show 8 * k + (i - 8 * k) = i by omega, h]
      rfl
    · rw [if_neg (by omega), List.getElem?_append_right (by simp; omega)]
      simp only [List.length_append, List.length_take, List.length_map, List.length_drop]
      rw [List.getElem?_drop, show 8 * k + 8 + (i - (min (8 * k) ws.length + min 8 (ws.length - 8 * k))) = i by omega, h]
theorem crashW_at {ws : List W} {i : Nat} {x : W} (l : List Int) (h : ws[i]? = some x) : ∃ n, (crashW ws l)[i]? = some (if x.isOpen = true then still (choose x n) else still x.lasts) := by
  induction ws generalizing l i with
  | nil => simp at h
  | cons y r ih =>
    unfold crashW
    cases i with
    | zero =>
      simp at h
      subst h
      refine ⟨l.headD 0, ?_⟩
      split <;> simp
    | succ i =>
      simp at h
      split
      · obtain ⟨n, e⟩ := ih l.tail h
        exact ⟨n, by simpa using e⟩
      · obtain ⟨n, e⟩ := ih l h
        exact ⟨n, by simpa using e⟩

/-! what was flushed and then fenced lasts -/
/-- a word that holds v for good. -/
def Kept (x : W) (v : Int) : Prop := x.lasts = v ∧ x.stored = v ∧ (x.flushed = true → x.sent = v)
def KeptAt (s : D) (i : Nat) (v : Int) : Prop := ∃ x, s.ws[i]? = some x ∧ Kept x v
theorem Kept.last {x : W} {v : Int} (h : Kept x v) : Kept (x.last x.stored) v := ⟨h.2.1, h.2.1, fun e => by cases e⟩
theorem Kept.send {x : W} {v : Int} (h : Kept x v) : Kept x.send v := ⟨h.1, h.2.1, fun _ => h.2.1⟩
theorem Kept.fence {x : W} {v : Int} (h : Kept x v) : Kept x.fence v := by
  unfold W.fence
  split
  · rename_i e
    exact ⟨h.2.2 e, h.2.1, fun e => by cases e⟩
  · exact h
theorem Kept.choose {x : W} {v : Int} (h : Kept x v) (n : Int) : choose x n = v := by
  unfold Pm.choose
  split
  · exact h.2.1
  · split
    · rename_i e
      exact h.2.2 e.2
    · exact h.1
theorem kept_still (v : Int) : Kept (still v) v := ⟨rfl, rfl, fun e => by cases e⟩
theorem kept_evict {ws : List W} {i : Nat} {v : Int} (plan : List Int) (since : Nat) (h : ∃ x, ws[i]? = some x ∧ Kept x v) : ∃ x, (evict ws plan since)[i]? = some x ∧ Kept x v := by
  obtain ⟨x, hx, hk⟩ := h
  rcases evict_at ws plan since hx with e | e
  · exact ⟨x, e, hk⟩
  · exact ⟨_, e, hk.last⟩
theorem kept_act {s : D} {i : Nat} {v : Int} (h : KeptAt s i v) (a : A) (ha : a.kind % 7 = 0 → a.at'.toNat ≠ i ∨ a.at' < 0) : KeptAt (act s a) i v := by
  have h' := h
  obtain ⟨x, hx, hk⟩ := h
  unfold act
  split
  · rename_i e
    unfold store
    split
    · rename_i he
      have := (err_at he).2.1
      refine kept_evict _ _ ⟨x, ?_, hk⟩
      rw [put_at (by rcases ha e with h | h <;> omega)]
      exact hx
    · exact h'
  · split
    · exact h'
    · split
      · unfold flush
        split
        · rename_i he
          refine kept_evict _ _ ?_
          have := sendL_at (err_flush he).2.2 hx
          split at this
          · exact ⟨_, this, hk.send⟩
          · exact ⟨_, this, hk⟩
        · exact h'
      · split
        · unfold fence
          split
          · refine kept_evict _ _ ⟨x.fence, ?_, hk.fence⟩
            rw [List.getElem?_map, hx]
            rfl
          · exact h'
        · split
          · unfold KeptAt
            rw [arm_ws]
            exact h'
          · split
            · exact h'
            · obtain ⟨n, e⟩ := crashW_at a.l hx
              refine ⟨_, e, ?_⟩
              split
              · rw [hk.choose]
                exact kept_still v
              · rw [hk.1]
                exact kept_still v
theorem kept_crash {s : D} {i : Nat} {v : Int} (h : KeptAt s i v) (l : List Int) : KeptAt (crash s l) i v := kept_act h ⟨6, 0, 0, l⟩ (fun e => by simp at e)

/-! what a crash leaves -/
def F.value (f : F) (n : Int) : Int := if n % 3 = 2 then f.stored else if n % 3 = 1 ∧ f.flushed = true then f.sent else f.lasts
theorem fates_at {ws : List W} {k i : Nat} {f : F} (l : List Int) (h : (fatesFrom k ws)[i]? = some f) : k ≤ f.at' ∧ f.at' < k + ws.length ∧ (crashW ws l)[f.at' - k]? = some (still (f.value (l.getD i 0))) := by
  induction ws generalizing k i l with
  | nil => simp [fatesFrom] at h
  | cons x r ih =>
    unfold fatesFrom at h
    unfold crashW
    split at h
    · rename_i ho
      rw [if_pos ho]
      cases i with
      | zero =>
        simp at h
        subst h
        refine ⟨Nat.le_refl _, by simp, ?_⟩
        simp only [Nat.sub_self, List.getElem?_cons_zero, Option.some.injEq]
        unfold F.value choose
        cases l <;> simp
      | succ i =>
        simp at h
        obtain ⟨h1, h2, h3⟩ := ih l.tail h
        refine ⟨by omega, by simp; omega, ?_⟩
        rw [show f.at' - k = (f.at' - (k + 1)) + 1 by omega, List.getElem?_cons_succ, h3]
        cases l <;> simp
    · rename_i ho
      rw [if_neg ho]
      obtain ⟨h1, h2, h3⟩ := ih l h
      refine ⟨by omega, by simp; omega, ?_⟩
      rw [show f.at' - k = (f.at' - (k + 1)) + 1 by omega, List.getElem?_cons_succ, h3]
theorem fates_not {ws : List W} {k j : Nat} {x : W} (l : List Int) (h : ws[j]? = some x) (hn : ∀ f ∈ fatesFrom k ws, f.at' ≠ k + j) : (crashW ws l)[j]? = some (still x.lasts) := by
  induction ws generalizing k j l with
  | nil => simp at h
  | cons y r ih =>
    unfold fatesFrom at hn
    unfold crashW
    cases j with
    | zero =>
      simp at h
      subst h
      split at hn
      · exact absurd rfl (hn ⟨k, y.lasts, y.flushed, y.sent, y.stored⟩ (by simp))
      · rename_i ho
        rw [if_neg ho]
        rfl
    | succ j =>
      simp at h
      split at hn
      · rename_i ho
        rw [if_pos ho, List.getElem?_cons_succ]
        exact ih (k := k + 1) l.tail h (fun f hf => by have := hn f (by simp [hf]); omega)
      · rename_i ho
        rw [if_neg ho, List.getElem?_cons_succ]
        exact ih (k := k + 1) l h (fun f hf => by have := hn f hf; omega)
/-- the words that lasted, with those that were open as they last now. -/
def copied (now : List Int) : List F → List Int → List Int
  | [], was => was
  | f :: r, was => copied now r (was.set f.at' (now.getD f.at' 0))
theorem copied_length (now : List Int) (fs : List F) (was : List Int) : (copied now fs was).length = was.length := by
  induction fs generalizing was with
  | nil => rfl
  | cons f r ih => rw [copied, ih, List.length_set]
theorem copied_at (now : List Int) (fs : List F) (was : List Int) (j : Nat) : (copied now fs was)[j]? = was[j]? ∨ ((∃ f ∈ fs, f.at' = j) ∧ (j < was.length → (copied now fs was)[j]? = some (now.getD j 0))) := by
  induction fs generalizing was with
  | nil => exact .inl rfl
  | cons f r ih =>
    rw [copied]
    rcases ih (was.set f.at' (now.getD f.at' 0)) with h | ⟨⟨g, hg, e⟩, h⟩
    · by_cases hj : f.at' = j
      · refine .inr ⟨⟨f, by simp, hj⟩, fun hl => ?_⟩
        rw [h, List.getElem?_set, if_pos hj, if_pos (by omega), hj]
      · left
        rw [h, List.getElem?_set, if_neg hj]
    · exact .inr ⟨⟨g, by simp [hg], e⟩, fun hl => h (by simpa using hl)⟩
theorem copied_in (now : List Int) (fs : List F) (was : List Int) {j : Nat} (hj : j < was.length) (h : ∃ f ∈ fs, f.at' = j) : (copied now fs was)[j]? = some (now.getD j 0) := by
  induction fs generalizing was with
  | nil => obtain ⟨f, hf, _⟩ := h; cases hf
  | cons f r ih =>
    rw [copied]
    by_cases hr : ∃ g ∈ r, g.at' = j
    · exact ih _ (by simpa using hj) hr
    · obtain ⟨g, hg, e⟩ := h
      rcases List.mem_cons.1 hg with rfl | hg
      · rcases copied_at now r (was.set g.at' (now.getD g.at' 0)) j with h1 | ⟨h1, _⟩
        · rw [h1, List.getElem?_set, if_pos e, if_pos (by omega), e]
        · exact absurd h1 hr
      · exact absurd ⟨g, hg, e⟩ hr
def lastL (ws : List W) : List Int := ws.map W.lasts
def storedL (ws : List W) : List Int := ws.map W.stored
theorem copied_all (ws : List W) (l : List Int) : copied (lastL (crashW ws l)) (fatesFrom 0 ws) (lastL ws) = lastL (crashW ws l) := by
  apply List.ext_getElem?
  intro j
  by_cases hj : j < ws.length
  · have hjl : j < (lastL ws).length := by simpa [lastL] using hj
    have hc : (lastL (crashW ws l))[j]? = some ((lastL (crashW ws l)).getD j 0) := by
      rw [List.getD_eq_getElem?_getD, List.getElem?_eq_getElem (by simp [lastL, crashW_length]; exact hj)]
      rfl
    by_cases h : ∃ f ∈ fatesFrom 0 ws, f.at' = j
    · rw [copied_in _ _ _ hjl h, hc]
    · rcases copied_at (lastL (crashW ws l)) (fatesFrom 0 ws) (lastL ws) j with h1 | ⟨h1, _⟩
      · have hx : ws[j]? = some ws[j] := List.getElem?_eq_getElem hj
        have := fates_not (k := 0) l hx (fun f hf e => h ⟨f, hf, by omega⟩)
        rw [h1]
        unfold lastL
        rw [List.getElem?_map, List.getElem?_map, this, hx]
        rfl
      · exact absurd h1 h
  · rw [List.getElem?_eq_none (by rw [copied_length]; simp [lastL]; omega), List.getElem?_eq_none (by simp [lastL, crashW_length]; omega)]
theorem still_open (v : Int) : (still v).isOpen = false := by simp [W.isOpen, still]
theorem fates_still {ws : List W} (h : ∀ x ∈ ws, x = still x.lasts) (k : Nat) : fatesFrom k ws = [] := by
  induction ws generalizing k with
  | nil => rfl
  | cons x r ih =>
    unfold fatesFrom
    have hx := h x (by simp)
    rw [hx, still_open, if_neg (by decide)]
    exact ih (fun y hy => h y (by simp [hy])) _
theorem crashW_same {ws : List W} (h : ∀ x ∈ ws, x = still x.lasts) (l : List Int) : crashW ws l = ws := by
  induction ws generalizing l with
  | nil => rfl
  | cons x r ih =>
    have hx := h x (by simp)
    unfold crashW
    rw [hx, still_open, if_neg (by decide), ih (fun y hy => h y (by simp [hy]))]
    rfl
theorem stored_still {ws : List W} (h : ∀ x ∈ ws, x = still x.lasts) : storedL ws = lastL ws := by
  unfold storedL lastL
  refine List.map_congr_left fun x hx => ?_
  rw [h x hx]
  rfl

/-! without power -/
theorem power_act {s : D} {k : Nat} (h : s.left = (k : Int) - s.steps ∧ s.steps ≤ k) (a : A) (h4 : a.kind % 7 ≠ 4) (h6 : a.kind % 7 ≠ 6) : (act s a).left = (k : Int) - (act s a).steps ∧ (act s a).steps ≤ k := by
  have key : ∀ ws, s.left ≠ 0 → (step s ws).left = (k : Int) - (step s ws).steps ∧ (step s ws).steps ≤ k := fun ws hl => by
    show (if 0 < s.left then s.left - 1 else s.left) = (k : Int) - ((s.steps + 1 : Nat) : Int) ∧ s.steps + 1 ≤ k
    rw [if_pos (by omega)]
    omega
  unfold act
  split
  · unfold store
    split
    · rename_i he
      exact key _ (err_at he).1
    · exact h
  · split
    · exact h
    · split
      · unfold flush
        split
        · rename_i he
          exact key _ (err_at he).1
        · exact h
      · split
        · unfold fence
          split
          · rename_i he
            exact key _ (err_at he).1
          · exact h
        · first
          | (rw [if_neg h4]; split; exact h; exfalso; omega)
          | (split; exact h; exfalso; omega)
theorem off_act {s : D} (h : s.left = 0) (a : A) (h4 : a.kind % 7 ≠ 4) (h6 : a.kind % 7 ≠ 6) : (act s a).ws = s.ws ∧ (act s a).steps = s.steps ∧ (a.kind % 7 ≠ 5 → actE s a = 3) := by
  have he : ∀ a n, err s a n = 3 := fun a n => by unfold err; rw [if_pos h]
  unfold act actE store flush fence
  simp only [he]
  repeat' split
  all_goals first | exact ⟨rfl, rfl, fun _ => rfl⟩ | (exfalso; omega) | exact ⟨rfl, rfl, fun _ => by omega⟩ | contradiction

/-! plans -/
/-- a device with a plan beside one without. -/
structure Beside (plan : List Int) (d c : D) : Prop where
  dp : d.plan = plan
  cp : c.plan = []
  len : d.ws.length = c.ws.length
  same : storedL d.ws = storedL c.ws
  left : d.left = c.left
  steps : d.steps = c.steps
  since : d.since = d.steps
  out : 0 < d.steps → plan ≠ [] → 0 < d.ws.length → 0 ≤ plan.getD ((d.steps - 1) % plan.length) 0 →
    ∃ x, d.ws[(plan.getD ((d.steps - 1) % plan.length) 0).toNat % d.ws.length]? = some x ∧ x.lasts = x.stored
theorem stored_last (ws : List W) (i : Nat) : storedL (ws.set i ((ws.getD i (still 0)).last (ws.getD i (still 0)).stored)) = storedL ws := by
  unfold storedL
  rw [List.map_set]
  apply List.ext_getElem?
  intro j
  rw [List.getElem?_set]
  split
  · rename_i e
    subst e
    split
    · rename_i hi
      simp at hi
      simp [W.last, hi]
    · rename_i hi
      rw [List.getElem?_eq_none (by omega)]
  · rfl
theorem evict_stored (ws : List W) (plan : List Int) (since : Nat) : storedL (evict ws plan since) = storedL ws := by
  unfold evict
  split
  · rfl
  · simp only
    split
    · rfl
    · exact stored_last _ _
theorem evict_none (ws : List W) (since : Nat) : evict ws [] since = ws := by simp [evict]
theorem evict_out (ws : List W) (plan : List Int) (since : Nat) (hp : plan ≠ []) (hl : 0 < ws.length) (h0 : 0 ≤ plan.getD (since % plan.length) 0) :
    ∃ x, (evict ws plan since)[(plan.getD (since % plan.length) 0).toNat % ws.length]? = some x ∧ x.lasts = x.stored := by
  unfold evict
  have hpl : 0 < plan.length := List.length_pos_iff.2 hp
  rw [if_neg (by omega)]
  simp only
  rw [if_neg (by omega)]
  rw [List.getElem?_set, if_pos rfl, if_pos (Nat.mod_lt _ hl)]
  exact ⟨_, rfl, rfl⟩
theorem beside_step {plan : List Int} {d c : D} (h : Beside plan d c) {x y : List W} (hl : x.length = d.ws.length) (hl2 : y.length = c.ws.length) (hs : storedL x = storedL y) : Beside plan (step d x) (step c y) := by
  refine ⟨h.dp, h.cp, ?_, ?_, ?_, ?_, ?_, ?_⟩
  · rw [step_ws, step_ws, evict_length, evict_length, hl, hl2, h.len]
  · rw [step_ws, step_ws, evict_stored, evict_stored, hs]
  · show (if 0 < d.left then d.left - 1 else d.left) = (if 0 < c.left then c.left - 1 else c.left)
    rw [h.left]
  · show d.steps + 1 = c.steps + 1
    rw [h.steps]
  · show d.since + 1 = d.steps + 1
    rw [h.since]
  · intro _ hp h1 h2
    rw [step_ws, evict_length] at h1
    rw [step_steps, Nat.add_sub_cancel] at h2 ⊢
    rw [step_ws, evict_length]
    rw [h.dp, h.since]
    exact evict_out x plan d.steps hp h1 h2
theorem beside_same {plan : List Int} {d c : D} (h : Beside plan d c) {i : Nat} : (d.ws.getD i (still 0)).stored = (c.ws.getD i (still 0)).stored := by
  have e := congrArg (fun l => l[i]?) h.same
  unfold storedL at e
  simp only [List.getElem?_map] at e
  rw [List.getD_eq_getElem?_getD, List.getD_eq_getElem?_getD]
  cases h1 : d.ws[i]? <;> cases h2 : c.ws[i]? <;> rw [h1, h2] at e <;> simp at e
  all_goals first | rfl | (simpa using e)
theorem beside_err {plan : List Int} {d c : D} (h : Beside plan d c) (a : Int) (n : Nat) : err d a n = err c a n := by unfold err; rw [h.left]
theorem put_stored (x : List W) (i : Nat) (v : Int) : storedL (put x i v) = (storedL x).set i v := by
  unfold storedL put
  rw [List.map_set]
theorem fence_stored (x : List W) : storedL (x.map W.fence) = storedL x := by
  unfold storedL
  rw [List.map_map]
  refine List.map_congr_left fun y _ => ?_
  show (W.fence y).stored = _
  unfold W.fence
  split <;> rfl
theorem sendL_stored (x : List W) (k : Nat) : storedL (sendL x k) = storedL x := by
  unfold storedL sendL
  rw [List.map_append, List.map_append, List.map_map]
  have e : (List.map (W.stored ∘ W.send) ((x.drop (8 * k)).take 8)) = ((x.drop (8 * k)).take 8).map W.stored := List.map_congr_left fun y _ => rfl
  rw [e, ← List.map_append, ← List.map_append]
  congr 1
  rw [List.append_assoc, show x.drop (8 * k + 8) = (x.drop (8 * k)).drop 8 by rw [List.drop_drop], List.take_append_drop, List.take_append_drop]
theorem beside_act {plan : List Int} {d c : D} (h : Beside plan d c) (a : A) (h5 : a.kind % 7 ≠ 5) (h6 : a.kind % 7 ≠ 6) : Beside plan (act d a) (act c a) ∧ actV d a = actV c a ∧ actE d a = actE c a := by
  have he := beside_err h
  refine ⟨?_, ?_, ?_⟩
  · unfold act
    split
    · unfold store
      rw [he, h.len]
      split
      · exact beside_step h (put_length _ _ _) (put_length _ _ _) (by rw [put_stored, put_stored, h.same])
      · exact h
    · split
      · exact h
      · split
        · unfold flush
          rw [he, h.len]
          split
          · rename_i hf
            have hc := err_flush hf
            exact beside_step h (sendL_length (by rw [h.len]; exact hc.2.2)) (sendL_length hc.2.2) (by rw [sendL_stored, sendL_stored, h.same])
          · exact h
        · split
          · unfold fence
            rw [he]
            split
            · exact beside_step h (by simp) (by simp) (by rw [fence_stored, fence_stored, h.same])
            · exact h
          · split
            · unfold arm
              rw [h.left]
              split
              · exact h
              · exact ⟨h.dp, h.cp, h.len, h.same, rfl, h.steps, h.since, h.out⟩
            · exfalso; omega
  · unfold actV load
    rw [he, h.len, beside_same h]
  · unfold actE
    rw [he, he, he, h.len]
theorem beside_new (plan : List Int) (n : Nat) : Beside plan (lay (new n) plan) (new n) :=
  ⟨rfl, rfl, rfl, rfl, rfl, rfl, rfl, fun h => absurd h (Nat.lt_irrefl _)⟩
end Pm
end Go.Proofs.Ytjkiehfjbldkkaa
