/-
  PmNums, PmLaws, PmCrash, FtNums, FtMore, FtPlainB, in one text.
-/
import Derived.WalkKit
namespace Go.Proofs.Ytnaenokegomoeaa
set_option linter.unusedVariables false
set_option linter.unusedSimpArgs false
namespace Pm

/-- a word: what lasts, what was stored, what was sent (0, if it wasn't). -/
structure W where
  lasts : Int
  stored : Int
  sent : Int
  flushed : Bool
/-- a word of which only one value may last. -/
def still (v : Int) : W := ⟨v, v, 0, false⟩
def W.isOpen (x : W) : Bool := x.flushed || decide (x.stored ≠ x.lasts)
/-- a value lasts. -/
def W.last (x : W) (v : Int) : W := ⟨v, x.stored, 0, false⟩
def W.send (x : W) : W := ⟨x.lasts, x.stored, x.stored, true⟩
def W.fence (x : W) : W := if x.flushed then x.last x.sent else x
/-- what a number chooses. -/
def choose (x : W) (n : Int) : Int := if n % 3 = 2 then x.stored else if n % 3 = 1 ∧ x.flushed = true then x.sent else x.lasts

/-- a device: its words; the plan, and how many steps there were since it was laid; how many steps till the power goes (-1: it doesn't); steps. -/
structure D where
  ws : List W
  plan : List Int
  since : Nat
  left : Int
  steps : Nat

def new (n : Nat) : D := ⟨List.replicate n (still 0), [], 0, -1, 0⟩
def of (vs : List Int) : D := ⟨vs.map still, [], 0, -1, 0⟩
/-- the error of one of n things. -/
def err (s : D) (at' : Int) (n : Nat) : Int := if s.left = 0 then 3 else if at' < 0 ∨ (n : Int) ≤ at' then 2 else 0
/-- the words behind a step: one may be evicted. -/
def evict (ws : List W) (plan : List Int) (since : Nat) : List W :=
  if plan.length = 0 ∨ ws.length = 0 then ws
  else
    let p := plan.getD (since % plan.length) 0
    if p < 0 then ws
    else
      let i := p.toNat % ws.length
      ws.set i ((ws.getD i (still 0)).last (ws.getD i (still 0)).stored)
/-- behind a step that made the words so. -/
def step (s : D) (ws : List W) : D := ⟨evict ws s.plan s.since, s.plan, s.since + 1, if 0 < s.left then s.left - 1 else s.left, s.steps + 1⟩
def put (ws : List W) (i : Nat) (v : Int) : List W := ws.set i { ws.getD i (still 0) with stored := v }
/-- a line is sent. -/
def sendL (ws : List W) (line : Nat) : List W := ws.take (8 * line) ++ ((ws.drop (8 * line)).take 8).map W.send ++ ws.drop (8 * line + 8)

def store (s : D) (at' v : Int) : D := if err s at' s.ws.length = 0 then step s (put s.ws at'.toNat v) else s
def load (s : D) (at' : Int) : Int := if err s at' s.ws.length = 0 then (s.ws.getD at'.toNat (still 0)).stored else 0
def flush (s : D) (line : Int) : D := if err s line (s.ws.length / 8) = 0 then step s (sendL s.ws line.toNat) else s
def fence (s : D) : D := if err s 0 1 = 0 then step s (s.ws.map W.fence) else s
def arm (s : D) (n : Int) : D := if s.left = 0 then s else { s with left := if n < -1 then -1 else n }
def lay (s : D) (l : List Int) : D := { s with plan := l, since := 0 }

/-- an open word, told. -/
structure F where
  at' : Nat
  lasts : Int
  flushed : Bool
  sent : Int
  stored : Int
def fatesFrom : Nat → List W → List F
  | _, [] => []
  | k, x :: r => if x.isOpen = true then ⟨k, x.lasts, x.flushed, x.sent, x.stored⟩ :: fatesFrom (k + 1) r else fatesFrom (k + 1) r
def fates (s : D) : List F := fatesFrom 0 s.ws
/-- the words that a crash leaves. -/
def crashW : List W → List Int → List W
  | [], _ => []
  | x :: r, l => if x.isOpen = true then still (choose x (l.headD 0)) :: crashW r l.tail else still x.lasts :: crashW r l
def crash (s : D) (l : List Int) : D := ⟨crashW s.ws l, [], 0, -1, s.steps⟩

/-- an act: which one, where, what, and its list. -/
structure A where
  kind : Int
  at' : Int
  w : Int
  l : List Int
/-- the device behind an act. -/
def act (s : D) (a : A) : D :=
  if a.kind % 7 = 0 then store s a.at' a.w else if a.kind % 7 = 1 then s else if a.kind % 7 = 2 then flush s a.at' else if a.kind % 7 = 3 then fence s
  else if a.kind % 7 = 4 then arm s a.at' else if a.kind % 7 = 5 then lay s a.l else crash s a.l
/-- the number that an act answers. -/
def actV (s : D) (a : A) : Int := if a.kind % 7 = 1 then load s a.at' else 0
/-- the error that an act answers. -/
def actE (s : D) (a : A) : Int :=
  if a.kind % 7 = 0 then err s a.at' s.ws.length else if a.kind % 7 = 1 then err s a.at' s.ws.length else if a.kind % 7 = 2 then err s a.at' (s.ws.length / 8) else if a.kind % 7 = 3 then err s 0 1 else 0
def acts (s : D) (l : List A) : D := l.foldl act s

/-- what holds of every device. -/
structure W.Ok (x : W) : Prop where
  l0 : 0 ≤ x.lasts
  l1 : x.lasts ≤ 18446744073709551615
  s0 : 0 ≤ x.stored
  s1 : x.stored ≤ 18446744073709551615
  t0 : 0 ≤ x.sent
  t1 : x.sent ≤ 18446744073709551615
  un : x.flushed = false → x.sent = 0
structure D.Ok (s : D) : Prop where
  ws : ∀ x ∈ s.ws, x.Ok
  plan : ∀ p ∈ s.plan, -9223372036854775808 ≤ p ∧ p ≤ 9223372036854775807
  left : -1 ≤ s.left ∧ s.left ≤ 9223372036854775807
  since : s.since ≤ s.steps

theorem still_ok {v : Int} (h0 : 0 ≤ v) (h1 : v ≤ 18446744073709551615) : (still v).Ok := ⟨h0, h1, h0, h1, by simp [still], by simp [still], fun _ => rfl⟩
theorem W.Ok.last {x : W} (h : x.Ok) {v : Int} (h0 : 0 ≤ v) (h1 : v ≤ 18446744073709551615) : (x.last v).Ok := ⟨h0, h1, h.s0, h.s1, by simp [W.last], by simp [W.last], fun _ => rfl⟩
theorem W.Ok.send {x : W} (h : x.Ok) : x.send.Ok := ⟨h.l0, h.l1, h.s0, h.s1, h.s0, h.s1, fun e => by cases e⟩
theorem W.Ok.fence {x : W} (h : x.Ok) : x.fence.Ok := by
  unfold W.fence
  split
  · exact h.last h.t0 h.t1
  · exact h
theorem choose_ok {x : W} (h : x.Ok) (n : Int) : 0 ≤ choose x n ∧ choose x n ≤ 18446744073709551615 := by
  unfold choose
  split
  · exact ⟨h.s0, h.s1⟩
  · split
    · exact ⟨h.t0, h.t1⟩
    · exact ⟨h.l0, h.l1⟩

theorem mem_set {α : Type} {l : List α} {i : Nat} {x y : α} (h : y ∈ l.set i x) : y ∈ l ∨ y = x := List.mem_or_eq_of_mem_set h
theorem getD_ok {ws : List W} (h : ∀ x ∈ ws, x.Ok) (i : Nat) : (ws.getD i (still 0)).Ok := by
  by_cases hi : i < ws.length
  · rw [List.getD_eq_getElem?_getD, List.getElem?_eq_getElem hi, Option.getD_some]
    exact h _ (List.getElem_mem hi)
  · rw [List.getD_eq_getElem?_getD, List.getElem?_eq_none (by omega), Option.getD_none]
    exact still_ok (by decide) (by decide)

theorem evict_length (ws : List W) (plan : List Int) (since : Nat) : (evict ws plan since).length = ws.length := by
  unfold evict
  split
  · rfl
  · simp only
    split
    · rfl
    · simp
theorem evict_ok {ws : List W} (h : ∀ x ∈ ws, x.Ok) (plan : List Int) (since : Nat) : ∀ x ∈ evict ws plan since, x.Ok := by
  unfold evict
  split
  · exact h
  · simp only
    split
    · exact h
    · intro x hx
      rcases mem_set hx with hx | rfl
      · exact h x hx
      · have := getD_ok h ((plan.getD (since % plan.length) 0).toNat % ws.length)
        exact this.last this.s0 this.s1
theorem step_ok {s : D} (h : s.Ok) {ws : List W} (hw : ∀ x ∈ ws, x.Ok) : (step s ws).Ok := by
  refine ⟨evict_ok hw _ _, h.plan, ?_, ?_⟩
  · have := h.left
    show -1 ≤ (if 0 < s.left then s.left - 1 else s.left) ∧ (if 0 < s.left then s.left - 1 else s.left) ≤ _
    split <;> omega
  · have := h.since
    show s.since + 1 ≤ s.steps + 1
    omega
theorem put_ok {ws : List W} (h : ∀ x ∈ ws, x.Ok) (i : Nat) {v : Int} (h0 : 0 ≤ v) (h1 : v ≤ 18446744073709551615) : ∀ x ∈ put ws i v, x.Ok := by
  intro x hx
  rcases mem_set hx with hx | rfl
  · exact h x hx
  · have := getD_ok h i
    exact ⟨this.l0, this.l1, h0, h1, this.t0, this.t1, this.un⟩
theorem put_length (ws : List W) (i : Nat) (v : Int) : (put ws i v).length = ws.length := by simp [put]
theorem sendL_ok {ws : List W} (h : ∀ x ∈ ws, x.Ok) (k : Nat) : ∀ x ∈ sendL ws k, x.Ok := by
  intro x hx
  unfold sendL at hx
  rcases List.mem_append.1 hx with hx | hx
  · rcases List.mem_append.1 hx with hx | hx
    · exact h x (List.mem_of_mem_take hx)
    · obtain ⟨y, hy, rfl⟩ := List.mem_map.1 hx
      exact (h y (List.mem_of_mem_drop (List.mem_of_mem_take hy))).send
  · exact h x (List.mem_of_mem_drop hx)
theorem sendL_length {ws : List W} {k : Nat} (h : 8 * k + 8 ≤ ws.length) : (sendL ws k).length = ws.length := by
  simp [sendL]
  omega
theorem crashW_length (ws : List W) (l : List Int) : (crashW ws l).length = ws.length := by
  induction ws generalizing l with
  | nil => rfl
  | cons x r ih =>
    unfold crashW
    split <;> simp [ih]
theorem crashW_still (ws : List W) (l : List Int) : ∀ x ∈ crashW ws l, x = still x.lasts := by
  induction ws generalizing l with
  | nil => intro x hx; cases hx
  | cons y r ih =>
    intro x hx
    unfold crashW at hx
    split at hx
    · rcases List.mem_cons.1 hx with rfl | hx
      · rfl
      · exact ih _ x hx
    · rcases List.mem_cons.1 hx with rfl | hx
      · rfl
      · exact ih _ x hx
theorem crashW_ok {ws : List W} (h : ∀ x ∈ ws, x.Ok) (l : List Int) : ∀ x ∈ crashW ws l, x.Ok := by
  induction ws generalizing l with
  | nil => intro x hx; cases hx
  | cons y r ih =>
    have hy := h y (by simp)
    intro x hx
    unfold crashW at hx
    split at hx
    · rcases List.mem_cons.1 hx with rfl | hx
      · exact still_ok (choose_ok hy _).1 (choose_ok hy _).2
      · exact ih (fun z hz => h z (by simp [hz])) _ x hx
    · rcases List.mem_cons.1 hx with rfl | hx
      · exact still_ok hy.l0 hy.l1
      · exact ih (fun z hz => h z (by simp [hz])) _ x hx

theorem step_ws (s : D) (ws : List W) : (step s ws).ws = evict ws s.plan s.since := rfl
theorem store_length (s : D) (a v : Int) : (store s a v).ws.length = s.ws.length := by
  unfold store
  split
  · rw [step_ws, evict_length, put_length]
  · rfl
theorem err_flush {s : D} {line : Int} (h : err s line (s.ws.length / 8) = 0) : s.left ≠ 0 ∧ 0 ≤ line ∧ 8 * line.toNat + 8 ≤ s.ws.length := by
  unfold err at h
  split at h
  · cases h
  · split at h
    · cases h
    · refine ⟨by assumption, by omega, by omega⟩
theorem err_at {s : D} {a : Int} {n : Nat} (h : err s a n = 0) : s.left ≠ 0 ∧ 0 ≤ a ∧ a.toNat < n := by
  unfold err at h
  split at h
  · cases h
  · split at h
    · cases h
    · refine ⟨by assumption, by omega, by omega⟩
theorem flush_length (s : D) (k : Int) : (flush s k).ws.length = s.ws.length := by
  unfold flush
  split
  · rename_i h
    rw [step_ws, evict_length, sendL_length (err_flush h).2.2]
  · rfl
theorem fence_length (s : D) : (fence s).ws.length = s.ws.length := by
  unfold fence
  split
  · rw [step_ws, evict_length, List.length_map]
  · rfl
theorem arm_ws (s : D) (n : Int) : (arm s n).ws = s.ws := by unfold arm; split <;> rfl
theorem act_length (s : D) (a : A) : (act s a).ws.length = s.ws.length := by
  unfold act
  split
  · exact store_length _ _ _
  · split
    · rfl
    · split
      · exact flush_length _ _
      · split
        · exact fence_length _
        · split
          · rw [arm_ws]
          · split
            · rfl
            · exact crashW_length _ _
theorem acts_length (s : D) (l : List A) : (acts s l).ws.length = s.ws.length := by
  induction l generalizing s with
  | nil => rfl
  | cons a r ih => show (acts (act s a) r).ws.length = _; rw [ih, act_length]

/-- what holds of an act's numbers. -/
structure A.Ok (a : A) : Prop where
  at0 : -9223372036854775808 ≤ a.at'
  at1 : a.at' ≤ 9223372036854775807
  w0 : 0 ≤ a.w
  w1 : a.w ≤ 18446744073709551615
  l : ∀ p ∈ a.l, -9223372036854775808 ≤ p ∧ p ≤ 9223372036854775807

theorem store_ok {s : D} (h : s.Ok) (a : Int) {v : Int} (h0 : 0 ≤ v) (h1 : v ≤ 18446744073709551615) : (store s a v).Ok := by
  unfold store
  split
  · exact step_ok h (put_ok h.ws _ h0 h1)
  · exact h
theorem flush_ok {s : D} (h : s.Ok) (a : Int) : (flush s a).Ok := by
  unfold flush
  split
  · exact step_ok h (sendL_ok h.ws _)
  · exact h
theorem fence_ok {s : D} (h : s.Ok) : (fence s).Ok := by
  unfold fence
  split
  · refine step_ok h (fun x hx => ?_)
    obtain ⟨y, hy, rfl⟩ := List.mem_map.1 hx
    exact (h.ws y hy).fence
  · exact h
theorem arm_ok {s : D} (h : s.Ok) {n : Int} (hn : n ≤ 9223372036854775807) : (arm s n).Ok := by
  unfold arm
  split
  · exact h
  · refine ⟨h.ws, h.plan, ?_, h.since⟩
    show -1 ≤ (if n < -1 then -1 else n) ∧ (if n < -1 then -1 else n) ≤ _
    split <;> omega
theorem lay_ok {s : D} (h : s.Ok) {l : List Int} (hl : ∀ p ∈ l, -9223372036854775808 ≤ p ∧ p ≤ 9223372036854775807) : (lay s l).Ok := ⟨h.ws, hl, h.left, Nat.zero_le _⟩
theorem crash_ok {s : D} (h : s.Ok) (l : List Int) : (crash s l).Ok := ⟨crashW_ok h.ws l, (by intro p hp; cases hp), ⟨by simp [crash], by simp [crash]⟩, Nat.zero_le _⟩
theorem act_ok {s : D} (h : s.Ok) {a : A} (ha : a.Ok) : (act s a).Ok := by
  unfold act
  split
  · exact store_ok h _ ha.w0 ha.w1
  · split
    · exact h
    · split
      · exact flush_ok h _
      · split
        · exact fence_ok h
        · split
          · exact arm_ok h ha.at1
          · split
            · exact lay_ok h ha.l
            · exact crash_ok h _
theorem new_ok (n : Nat) : (new n).Ok := ⟨fun x hx => by rw [(List.mem_replicate.1 hx).2]; exact still_ok (by decide) (by decide), (by intro p hp; cases hp), ⟨by simp [new], by simp [new]⟩, Nat.le_refl _⟩
theorem of_ok {vs : List Int} (h : ∀ v ∈ vs, 0 ≤ v ∧ v ≤ 18446744073709551615) : (of vs).Ok := ⟨fun x hx => by
  obtain ⟨v, hv, rfl⟩ := List.mem_map.1 hx
  exact still_ok (h v hv).1 (h v hv).2, (by intro p hp; cases hp), ⟨by simp [of], by simp [of]⟩, Nat.le_refl _⟩
theorem step_steps (s : D) (ws : List W) : (step s ws).steps = s.steps + 1 := rfl
theorem act_steps (s : D) (a : A) : (act s a).steps = s.steps ∨ (act s a).steps = s.steps + 1 := by
  unfold act store flush fence arm
  repeat' split
  all_goals first | exact .inl rfl | exact .inr rfl
end Pm
end Go.Proofs.Ytnaenokegomoeaa

namespace Go.Proofs.Ytnaenokegomoeaa
set_option linter.unusedVariables false
set_option linter.unusedSimpArgs false
namespace Pm

/-- a word at a place, behind what was done to the words. -/
theorem evict_at (ws : List W) (plan : List Int) (since : Nat) {i : Nat} {x : W} (h : ws[i]? = some x) : (evict ws plan since)[i]? = some x ∨ (evict ws plan since)[i]? = some (x.last x.stored) := by
  have hi := (List.getElem?_eq_some_iff.1 h).1
  unfold evict
  split
  · exact .inl h
  · simp only
    split
    · exact .inl h
    · rw [List.getElem?_set]
      split
      · rename_i e
        subst e
        rw [if_pos hi]
        right
        rw [List.getD_eq_getElem?_getD, h]
        rfl
      · exact .inl h
theorem put_at {ws : List W} {i j : Nat} {v : Int} (h : j ≠ i) : (put ws j v)[i]? = ws[i]? := by
  unfold put
  rw [List.getElem?_set, if_neg h]
theorem put_here {ws : List W} {i : Nat} {v : Int} {x : W} (h : ws[i]? = some x) : (put ws i v)[i]? = some { x with stored := v } := by
  have hi := (List.getElem?_eq_some_iff.1 h).1
  unfold put
  rw [List.getElem?_set, if_pos rfl, if_pos hi, List.getD_eq_getElem?_getD, h]
  rfl
theorem sendL_at {ws : List W} {k i : Nat} {x : W} (hk : 8 * k + 8 ≤ ws.length) (h : ws[i]? = some x) : (sendL ws k)[i]? = some (if 8 * k ≤ i ∧ i < 8 * k + 8 then x.send else x) := by
  unfold sendL
  by_cases h1 : i < 8 * k
  · rw [if_neg (by omega), List.getElem?_append_left (by simp; omega), List.getElem?_append_left (by simp; omega), List.getElem?_take, if_pos h1, h]
  · by_cases h2 : i < 8 * k + 8
    · rw [if_pos (by omega), List.getElem?_append_left (by simp; omega), List.getElem?_append_right (by simp; omega), List.length_take, Nat.min_eq_left (by omega), List.getElem?_map, List.getElem?_take, if_pos (by omega), List.getElem?_drop, show 8 * k + (i - 8 * k) = i by omega, h]
      rfl
    · rw [if_neg (by omega), List.getElem?_append_right (by simp; omega)]
      simp only [List.length_append, List.length_take, List.length_map, List.length_drop]
      rw [List.getElem?_drop, show 8 * k + 8 + (i - (min (8 * k) ws.length + min 8 (ws.length - 8 * k))) = i by omega, h]
theorem crashW_at {ws : List W} {i : Nat} {x : W} (l : List Int) (h : ws[i]? = some x) : ∃ n, (crashW ws l)[i]? = some (if x.isOpen = true then still (choose x n) else still x.lasts) := by
  induction ws generalizing l i with
  | nil => simp at h
  | cons y r ih =>
    unfold crashW
    cases i with
    | zero =>
      simp at h
      subst h
      refine ⟨l.headD 0, ?_⟩
      split <;> simp
    | succ i =>
      simp at h
      split
      · obtain ⟨n, e⟩ := ih l.tail h
        exact ⟨n, by simpa using e⟩
      · obtain ⟨n, e⟩ := ih l h
        exact ⟨n, by simpa using e⟩

/-! what was flushed and then fenced lasts -/
/-- a word that holds v for good. -/
def Kept (x : W) (v : Int) : Prop := x.lasts = v ∧ x.stored = v ∧ (x.flushed = true → x.sent = v)
def KeptAt (s : D) (i : Nat) (v : Int) : Prop := ∃ x, s.ws[i]? = some x ∧ Kept x v
theorem Kept.last {x : W} {v : Int} (h : Kept x v) : Kept (x.last x.stored) v := ⟨h.2.1, h.2.1, fun e => by cases e⟩
theorem Kept.send {x : W} {v : Int} (h : Kept x v) : Kept x.send v := ⟨h.1, h.2.1, fun _ => h.2.1⟩
theorem Kept.fence {x : W} {v : Int} (h : Kept x v) : Kept x.fence v := by
  unfold W.fence
  split
  · rename_i e
    exact ⟨h.2.2 e, h.2.1, fun e => by cases e⟩
  · exact h
theorem Kept.choose {x : W} {v : Int} (h : Kept x v) (n : Int) : choose x n = v := by
  unfold Pm.choose
  split
  · exact h.2.1
  · split
    · rename_i e
      exact h.2.2 e.2
    · exact h.1
theorem kept_still (v : Int) : Kept (still v) v := ⟨rfl, rfl, fun e => by cases e⟩
theorem kept_evict {ws : List W} {i : Nat} {v : Int} (plan : List Int) (since : Nat) (h : ∃ x, ws[i]? = some x ∧ Kept x v) : ∃ x, (evict ws plan since)[i]? = some x ∧ Kept x v := by
  obtain ⟨x, hx, hk⟩ := h
  rcases evict_at ws plan since hx with e | e
  · exact ⟨x, e, hk⟩
  · exact ⟨_, e, hk.last⟩
theorem kept_act {s : D} {i : Nat} {v : Int} (h : KeptAt s i v) (a : A) (ha : a.kind % 7 = 0 → a.at'.toNat ≠ i ∨ a.at' < 0) : KeptAt (act s a) i v := by
  have h' := h
  obtain ⟨x, hx, hk⟩ := h
  unfold act
  split
  · rename_i e
    unfold store
    split
    · rename_i he
      have := (err_at he).2.1
      refine kept_evict _ _ ⟨x, ?_, hk⟩
      rw [put_at (by rcases ha e with h | h <;> omega)]
      exact hx
    · exact h'
  · split
    · exact h'
    · split
      · unfold flush
        split
        · rename_i he
          refine kept_evict _ _ ?_
          have := sendL_at (err_flush he).2.2 hx
          split at this
          · exact ⟨_, this, hk.send⟩
          · exact ⟨_, this, hk⟩
        · exact h'
      · split
        · unfold fence
          split
          · refine kept_evict _ _ ⟨x.fence, ?_, hk.fence⟩
            rw [List.getElem?_map, hx]
            rfl
          · exact h'
        · split
          · unfold KeptAt
            rw [arm_ws]
            exact h'
          · split
            · exact h'
            · obtain ⟨n, e⟩ := crashW_at a.l hx
              refine ⟨_, e, ?_⟩
              split
              · rw [hk.choose]
                exact kept_still v
              · rw [hk.1]
                exact kept_still v
theorem kept_crash {s : D} {i : Nat} {v : Int} (h : KeptAt s i v) (l : List Int) : KeptAt (crash s l) i v := kept_act h ⟨6, 0, 0, l⟩ (fun e => by simp at e)

/-! what a crash leaves -/
def F.value (f : F) (n : Int) : Int := if n % 3 = 2 then f.stored else if n % 3 = 1 ∧ f.flushed = true then f.sent else f.lasts
theorem fates_at {ws : List W} {k i : Nat} {f : F} (l : List Int) (h : (fatesFrom k ws)[i]? = some f) : k ≤ f.at' ∧ f.at' < k + ws.length ∧ (crashW ws l)[f.at' - k]? = some (still (f.value (l.getD i 0))) := by
  induction ws generalizing k i l with
  | nil => simp [fatesFrom] at h
  | cons x r ih =>
    unfold fatesFrom at h
    unfold crashW
    split at h
    · rename_i ho
      rw [if_pos ho]
      cases i with
      | zero =>
        simp at h
        subst h
        refine ⟨Nat.le_refl _, by simp, ?_⟩
        simp only [Nat.sub_self, List.getElem?_cons_zero, Option.some.injEq]
        unfold F.value choose
        cases l <;> simp
      | succ i =>
        simp at h
        obtain ⟨h1, h2, h3⟩ := ih l.tail h
        refine ⟨by omega, by simp; omega, ?_⟩
        rw [show f.at' - k = (f.at' - (k + 1)) + 1 by omega, List.getElem?_cons_succ, h3]
        cases l <;> simp
    · rename_i ho
      rw [if_neg ho]
      obtain ⟨h1, h2, h3⟩ := ih l h
      refine ⟨by omega, by simp; omega, ?_⟩
      rw [show f.at' - k = (f.at' - (k + 1)) + 1 by omega, List.getElem?_cons_succ, h3]
theorem fates_not {ws : List W} {k j : Nat} {x : W} (l : List Int) (h : ws[j]? = some x) (hn : ∀ f ∈ fatesFrom k ws, f.at' ≠ k + j) : (crashW ws l)[j]? = some (still x.lasts) := by
  induction ws generalizing k j l with
  | nil => simp at h
  | cons y r ih =>
    unfold fatesFrom at hn
    unfold crashW
    cases j with
    | zero =>
      simp at h
      subst h
      split at hn
      · exact absurd rfl (hn ⟨k, y.lasts, y.flushed, y.sent, y.stored⟩ (by simp))
      · rename_i ho
        rw [if_neg ho]
        rfl
    | succ j =>
      simp at h
      split at hn
      · rename_i ho
        rw [if_pos ho, List.getElem?_cons_succ]
        exact ih (k := k + 1) l.tail h (fun f hf => by have := hn f (by simp [hf]); omega)
      · rename_i ho
        rw [if_neg ho, List.getElem?_cons_succ]
        exact ih (k := k + 1) l h (fun f hf => by have := hn f hf; omega)
/-- the words that lasted, with those that were open as they last now. -/
def copied (now : List Int) : List F → List Int → List Int
  | [], was => was
  | f :: r, was => copied now r (was.set f.at' (now.getD f.at' 0))
theorem copied_length (now : List Int) (fs : List F) (was : List Int) : (copied now fs was).length = was.length := by
  induction fs generalizing was with
  | nil => rfl
  | cons f r ih => rw [copied, ih, List.length_set]
theorem copied_at (now : List Int) (fs : List F) (was : List Int) (j : Nat) : (copied now fs was)[j]? = was[j]? ∨ ((∃ f ∈ fs, f.at' = j) ∧ (j < was.length → (copied now fs was)[j]? = some (now.getD j 0))) := by
  induction fs generalizing was with
  | nil => exact .inl rfl
  | cons f r ih =>
    rw [copied]
    rcases ih (was.set f.at' (now.getD f.at' 0)) with h | ⟨⟨g, hg, e⟩, h⟩
    · by_cases hj : f.at' = j
      · refine .inr ⟨⟨f, by simp, hj⟩, fun hl => ?_⟩
        rw [h, List.getElem?_set, if_pos hj, if_pos (by omega), hj]
      · left
        rw [h, List.getElem?_set, if_neg hj]
    · exact .inr ⟨⟨g, by simp [hg], e⟩, fun hl => h (by simpa using hl)⟩
theorem copied_in (now : List Int) (fs : List F) (was : List Int) {j : Nat} (hj : j < was.length) (h : ∃ f ∈ fs, f.at' = j) : (copied now fs was)[j]? = some (now.getD j 0) := by
  induction fs generalizing was with
  | nil => obtain ⟨f, hf, _⟩ := h; cases hf
  | cons f r ih =>
    rw [copied]
    by_cases hr : ∃ g ∈ r, g.at' = j
    · exact ih _ (by simpa using hj) hr
    · obtain ⟨g, hg, e⟩ := h
      rcases List.mem_cons.1 hg with rfl | hg
      · rcases copied_at now r (was.set g.at' (now.getD g.at' 0)) j with h1 | ⟨h1, _⟩
        · rw [h1, List.getElem?_set, if_pos e, if_pos (by omega), e]
        · exact absurd h1 hr
      · exact absurd ⟨g, hg, e⟩ hr
def lastL (ws : List W) : List Int := ws.map W.lasts
def storedL (ws : List W) : List Int := ws.map W.stored
theorem copied_all (ws : List W) (l : List Int) : copied (lastL (crashW ws l)) (fatesFrom 0 ws) (lastL ws) = lastL (crashW ws l) := by
  apply List.ext_getElem?
  intro j
  by_cases hj : j < ws.length
  · have hjl : j < (lastL ws).length := by simpa [lastL] using hj
    have hc : (lastL (crashW ws l))[j]? = some ((lastL (crashW ws l)).getD j 0) := by
      rw [List.getD_eq_getElem?_getD, List.getElem?_eq_getElem (by simp [lastL, crashW_length]; exact hj)]
      rfl
    by_cases h : ∃ f ∈ fatesFrom 0 ws, f.at' = j
    · rw [copied_in _ _ _ hjl h, hc]
    · rcases copied_at (lastL (crashW ws l)) (fatesFrom 0 ws) (lastL ws) j with h1 | ⟨h1, _⟩
      · have hx : ws[j]? = some ws[j] := List.getElem?_eq_getElem hj
        have := fates_not (k := 0) l hx (fun f hf e => h ⟨f, hf, by omega⟩)
        rw [h1]
        unfold lastL
        rw [List.getElem?_map, List.getElem?_map, this, hx]
        rfl
      · exact absurd h1 h
  · rw [List.getElem?_eq_none (by rw [copied_length]; simp [lastL]; omega), List.getElem?_eq_none (by simp [lastL, crashW_length]; omega)]
theorem still_open (v : Int) : (still v).isOpen = false := by simp [W.isOpen, still]
theorem fates_still {ws : List W} (h : ∀ x ∈ ws, x = still x.lasts) (k : Nat) : fatesFrom k ws = [] := by
  induction ws generalizing k with
  | nil => rfl
  | cons x r ih =>
    unfold fatesFrom
    have hx := h x (by simp)
    rw [hx, still_open, if_neg (by decide)]
    exact ih (fun y hy => h y (by simp [hy])) _
theorem crashW_same {ws : List W} (h : ∀ x ∈ ws, x = still x.lasts) (l : List Int) : crashW ws l = ws := by
  induction ws generalizing l with
  | nil => rfl
  | cons x r ih =>
    have hx := h x (by simp)
    unfold crashW
    rw [hx, still_open, if_neg (by decide), ih (fun y hy => h y (by simp [hy]))]
    rfl
theorem stored_still {ws : List W} (h : ∀ x ∈ ws, x = still x.lasts) : storedL ws = lastL ws := by
  unfold storedL lastL
  refine List.map_congr_left fun x hx => ?_
  rw [h x hx]
  rfl

/-! without power -/
theorem power_act {s : D} {k : Nat} (h : s.left = (k : Int) - s.steps ∧ s.steps ≤ k) (a : A) (h4 : a.kind % 7 ≠ 4) (h6 : a.kind % 7 ≠ 6) : (act s a).left = (k : Int) - (act s a).steps ∧ (act s a).steps ≤ k := by
  have key : ∀ ws, s.left ≠ 0 → (step s ws).left = (k : Int) - (step s ws).steps ∧ (step s ws).steps ≤ k := fun ws hl => by
    show (if 0 < s.left then s.left - 1 else s.left) = (k : Int) - ((s.steps + 1 : Nat) : Int) ∧ s.steps + 1 ≤ k
    rw [if_pos (by omega)]
    omega
  unfold act
  split
  · unfold store
    split
    · rename_i he
      exact key _ (err_at he).1
    · exact h
  · split
    · exact h
    · split
      · unfold flush
        split
        · rename_i he
          exact key _ (err_at he).1
        · exact h
      · split
        · unfold fence
          split
          · rename_i he
            exact key _ (err_at he).1
          · exact h
        · first
          | (rw [if_neg h4]; split; exact h; exfalso; omega)
          | (split; exact h; exfalso; omega)
theorem off_act {s : D} (h : s.left = 0) (a : A) (h4 : a.kind % 7 ≠ 4) (h6 : a.kind % 7 ≠ 6) : (act s a).ws = s.ws ∧ (act s a).steps = s.steps ∧ (a.kind % 7 ≠ 5 → actE s a = 3) := by
  have he : ∀ a n, err s a n = 3 := fun a n => by unfold err; rw [if_pos h]
  unfold act actE store flush fence
  simp only [he]
  repeat' split
  all_goals first | exact ⟨rfl, rfl, fun _ => rfl⟩ | (exfalso; omega) | exact ⟨rfl, rfl, fun _ => by omega⟩ | contradiction

/-! plans -/
/-- a device with a plan beside one without. -/
structure Beside (plan : List Int) (d c : D) : Prop where
  dp : d.plan = plan
  cp : c.plan = []
  len : d.ws.length = c.ws.length
  same : storedL d.ws = storedL c.ws
  left : d.left = c.left
  steps : d.steps = c.steps
  since : d.since = d.steps
  out : 0 < d.steps → plan ≠ [] → 0 < d.ws.length → 0 ≤ plan.getD ((d.steps - 1) % plan.length) 0 →
    ∃ x, d.ws[(plan.getD ((d.steps - 1) % plan.length) 0).toNat % d.ws.length]? = some x ∧ x.lasts = x.stored
theorem stored_last (ws : List W) (i : Nat) : storedL (ws.set i ((ws.getD i (still 0)).last (ws.getD i (still 0)).stored)) = storedL ws := by
  unfold storedL
  rw [List.map_set]
  apply List.ext_getElem?
  intro j
  rw [List.getElem?_set]
  split
  · rename_i e
    subst e
    split
    · rename_i hi
      simp at hi
      simp [W.last, hi]
    · rename_i hi
      rw [List.getElem?_eq_none (by omega)]
  · rfl
theorem evict_stored (ws : List W) (plan : List Int) (since : Nat) : storedL (evict ws plan since) = storedL ws := by
  unfold evict
  split
  · rfl
  · simp only
    split
    · rfl
    · exact stored_last _ _
theorem evict_none (ws : List W) (since : Nat) : evict ws [] since = ws := by simp [evict]
theorem evict_out (ws : List W) (plan : List Int) (since : Nat) (hp : plan ≠ []) (hl : 0 < ws.length) (h0 : 0 ≤ plan.getD (since % plan.length) 0) :
    ∃ x, (evict ws plan since)[(plan.getD (since % plan.length) 0).toNat % ws.length]? = some x ∧ x.lasts = x.stored := by
  unfold evict
  have hpl : 0 < plan.length := List.length_pos_iff.2 hp
  rw [if_neg (by omega)]
  simp only
  rw [if_neg (by omega)]
  rw [List.getElem?_set, if_pos rfl, if_pos (Nat.mod_lt _ hl)]
  exact ⟨_, rfl, rfl⟩
theorem beside_step {plan : List Int} {d c : D} (h : Beside plan d c) {x y : List W} (hl : x.length = d.ws.length) (hl2 : y.length = c.ws.length) (hs : storedL x = storedL y) : Beside plan (step d x) (step c y) := by
  refine ⟨h.dp, h.cp, ?_, ?_, ?_, ?_, ?_, ?_⟩
  · rw [step_ws, step_ws, evict_length, evict_length, hl, hl2, h.len]
  · rw [step_ws, step_ws, evict_stored, evict_stored, hs]
  · show (if 0 < d.left then d.left - 1 else d.left) = (if 0 < c.left then c.left - 1 else c.left)
    rw [h.left]
  · show d.steps + 1 = c.steps + 1
    rw [h.steps]
  · show d.since + 1 = d.steps + 1
    rw [h.since]
  · intro _ hp h1 h2
    rw [step_ws, evict_length] at h1
    rw [step_steps, Nat.add_sub_cancel] at h2 ⊢
    rw [step_ws, evict_length]
    rw [h.dp, h.since]
    exact evict_out x plan d.steps hp h1 h2
theorem beside_same {plan : List Int} {d c : D} (h : Beside plan d c) {i : Nat} : (d.ws.getD i (still 0)).stored = (c.ws.getD i (still 0)).stored := by
  have e := congrArg (fun l => l[i]?) h.same
  unfold storedL at e
  simp only [List.getElem?_map] at e
  rw [List.getD_eq_getElem?_getD, List.getD_eq_getElem?_getD]
  cases h1 : d.ws[i]? <;> cases h2 : c.ws[i]? <;> rw [h1, h2] at e <;> simp at e
  all_goals first | rfl | (simpa using e)
theorem beside_err {plan : List Int} {d c : D} (h : Beside plan d c) (a : Int) (n : Nat) : err d a n = err c a n := by unfold err; rw [h.left]
theorem put_stored (x : List W) (i : Nat) (v : Int) : storedL (put x i v) = (storedL x).set i v := by
  unfold storedL put
  rw [List.map_set]
theorem fence_stored (x : List W) : storedL (x.map W.fence) = storedL x := by
  unfold storedL
  rw [List.map_map]
  refine List.map_congr_left fun y _ => ?_
  show (W.fence y).stored = _
  unfold W.fence
  split <;> rfl
theorem sendL_stored (x : List W) (k : Nat) : storedL (sendL x k) = storedL x := by
  unfold storedL sendL
  rw [List.map_append, List.map_append, List.map_map]
  have e : (List.map (W.stored ∘ W.send) ((x.drop (8 * k)).take 8)) = ((x.drop (8 * k)).take 8).map W.stored := List.map_congr_left fun y _ => rfl
  rw [e, ← List.map_append, ← List.map_append]
  congr 1
  rw [List.append_assoc, show x.drop (8 * k + 8) = (x.drop (8 * k)).drop 8 by rw [List.drop_drop], List.take_append_drop, List.take_append_drop]
theorem beside_act {plan : List Int} {d c : D} (h : Beside plan d c) (a : A) (h5 : a.kind % 7 ≠ 5) (h6 : a.kind % 7 ≠ 6) : Beside plan (act d a) (act c a) ∧ actV d a = actV c a ∧ actE d a = actE c a := by
  have he := beside_err h
  refine ⟨?_, ?_, ?_⟩
  · unfold act
    split
    · unfold store
      rw [he, h.len]
      split
      · exact beside_step h (put_length _ _ _) (put_length _ _ _) (by rw [put_stored, put_stored, h.same])
      · exact h
    · split
      · exact h
      · split
        · unfold flush
          rw [he, h.len]
          split
          · rename_i hf
            have hc := err_flush hf
            exact beside_step h (sendL_length (by rw [h.len]; exact hc.2.2)) (sendL_length hc.2.2) (by rw [sendL_stored, sendL_stored, h.same])
          · exact h
        · split
          · unfold fence
            rw [he]
            split
            · exact beside_step h (by simp) (by simp) (by rw [fence_stored, fence_stored, h.same])
            · exact h
          · split
            · unfold arm
              rw [h.left]
              split
              · exact h
              · exact ⟨h.dp, h.cp, h.len, h.same, rfl, h.steps, h.since, h.out⟩
            · exfalso; omega
  · unfold actV load
    rw [he, h.len, beside_same h]
  · unfold actE
    rw [he, he, he, h.len]
theorem beside_new (plan : List Int) (n : Nat) : Beside plan (lay (new n) plan) (new n) :=
  ⟨rfl, rfl, rfl, rfl, rfl, rfl, rfl, fun h => absurd h (Nat.lt_irrefl _)⟩
end Pm
end Go.Proofs.Ytnaenokegomoeaa

namespace Go.Proofs.Ytnaenokegomoeaa
set_option linter.unusedVariables false
set_option linter.unusedSimpArgs false
namespace Pm

/-- the first m open words last as it is chosen. -/
def lastN : Nat → List W → List Int → List W
  | 0, ws, _ => ws
  | _ + 1, [], _ => []
  | m + 1, x :: r, l => if x.isOpen = true then x.last (choose x (l.headD 0)) :: lastN m r l.tail else x :: lastN (m + 1) r l
/-- what lasts is what was stored. -/
def settle (x : W) : W := ⟨x.lasts, x.lasts, x.sent, x.flushed⟩

theorem lastN_length (m : Nat) (ws : List W) (l : List Int) : (lastN m ws l).length = ws.length := by
  induction ws generalizing m l with
  | nil => cases m <;> rfl
  | cons x r ih =>
    cases m with
    | zero => rfl
    | succ m =>
      unfold lastN
      split <;> simp [ih]
theorem lastN_ok {ws : List W} (h : ∀ x ∈ ws, x.Ok) (m : Nat) (l : List Int) : ∀ x ∈ lastN m ws l, x.Ok := by
  induction ws generalizing m l with
  | nil => cases m <;> exact h
  | cons y r ih =>
    cases m with
    | zero => exact h
    | succ m =>
      have hy := h y (by simp)
      intro x hx
      unfold lastN at hx
      split at hx
      · rcases List.mem_cons.1 hx with rfl | hx
        · exact hy.last (choose_ok hy _).1 (choose_ok hy _).2
        · exact ih (fun z hz => h z (by simp [hz])) _ _ x hx
      · rcases List.mem_cons.1 hx with rfl | hx
        · exact hy
        · exact ih (fun z hz => h z (by simp [hz])) _ _ x hx
theorem lastN_step {ws : List W} {k m : Nat} {f : F} (l : List Int) (h : (fatesFrom k ws)[m]? = some f) :
    k ≤ f.at' ∧ f.at' - k < ws.length ∧ lastN (m + 1) ws l = (lastN m ws l).set (f.at' - k) (((lastN m ws l).getD (f.at' - k) (still 0)).last (f.value (l.getD m 0))) := by
  induction ws generalizing k m l with
  | nil => simp [fatesFrom] at h
  | cons x r ih =>
    unfold fatesFrom at h
    split at h
    · rename_i ho
      cases m with
      | zero =>
        simp at h
        subst h
        refine ⟨Nat.le_refl _, by simp, ?_⟩
        simp only [Nat.sub_self]
        unfold lastN
        rw [if_pos ho]
        unfold lastN
        simp only [List.set_cons_zero, List.getD_cons_zero]
        unfold F.value choose
        cases l <;> simp
      | succ m =>
        simp at h
        obtain ⟨h1, h2, h3⟩ := ih l.tail h
        refine ⟨by omega, by simp; omega, ?_⟩
        rw [show f.at' - k = (f.at' - (k + 1)) + 1 by omega]
        conv => lhs; unfold lastN
        rw [if_pos ho, h3]
        have e : lastN (m + 1) (x :: r) l = x.last (choose x (l.headD 0)) :: lastN m r l.tail := by
          conv => lhs; unfold lastN
          rw [if_pos ho]
        rw [e, List.set_cons_succ, List.getD_cons_succ]
        cases l <;> simp
    · rename_i ho
      obtain ⟨h1, h2, h3⟩ := ih l h
      refine ⟨by omega, by simp; omega, ?_⟩
      rw [show f.at' - k = (f.at' - (k + 1)) + 1 by omega]
      conv => lhs; unfold lastN
      rw [if_neg ho, h3]
      cases m with
      | zero =>
        have e0 : ∀ ys, lastN 0 ys l = ys := fun ys => by unfold lastN; rfl
        rw [e0, e0, List.set_cons_succ, List.getD_cons_succ]
      | succ m =>
        have e : lastN (m + 1) (x :: r) l = x :: lastN (m + 1) r l := by
          conv => lhs; unfold lastN
          rw [if_neg ho]
        rw [e, List.set_cons_succ, List.getD_cons_succ]
theorem lastN_all {ws : List W} (h : ∀ x ∈ ws, x.Ok) (k : Nat) (l : List Int) : (lastN (fatesFrom k ws).length ws l).map settle = crashW ws l := by
  induction ws generalizing k l with
  | nil => rfl
  | cons x r ih =>
    have hx := h x (by simp)
    have hr : ∀ z ∈ r, z.Ok := fun z hz => h z (by simp [hz])
    have e0 : ∀ ys, lastN 0 ys l = ys := fun ys => by unfold lastN; rfl
    have hst : x.isOpen = false → settle x = still x.lasts := fun ho => by
      unfold W.isOpen at ho
      simp at ho
      obtain ⟨a, b, c, d⟩ := x
      have h1 := hx.un ho.1
      simp only at ho h1 ⊢
      unfold settle still
      simp only
      rw [h1, ho.1]
    unfold fatesFrom crashW
    cases ho : x.isOpen with
    | true =>
      simp only [if_true]
      rw [List.length_cons]
      unfold lastN
      rw [if_pos ho, List.map_cons, ih hr]
      rfl
    | false =>
      simp only [Bool.false_eq_true, if_false]
      have ihr := ih hr (k + 1) l
      cases hm : (fatesFrom (k + 1) r).length with
      | zero =>
        rw [hm, e0] at ihr
        rw [e0, List.map_cons, hst ho, ihr]
      | succ m =>
        rw [hm] at ihr
        unfold lastN
        rw [if_neg (by rw [ho]; decide), List.map_cons, hst ho, ihr]
end Pm
end Go.Proofs.Ytnaenokegomoeaa

namespace Go.Proofs.Ytnaenokegomoeaa
set_option linter.unusedVariables false
set_option linter.unusedSimpArgs false
namespace Pm

/-- three values, each once, where it stands first. -/
def vals3 (a b c : Int) : List Int := a :: ((if b = a then [] else [b]) ++ (if c = a ∨ c = b then [] else [c]))
/-- what may last of a word. -/
def wordVals (x : W) : List Int := if x.isOpen = true then vals3 (choose x 0) (choose x 1) (choose x 2) else [x.lasts]
/-- what may last of an open word, told as a fate. -/
def F.vals (f : F) : List Int := vals3 (f.value 0) (f.value 1) (f.value 2)
/-- the images, by the words that last. -/
def images : List W → List (List Int)
  | [] => [[]]
  | x :: r => (wordVals x).flatMap fun v => (images r).map (v :: ·)

theorem vals3_nodup (a b c : Int) : (vals3 a b c).Nodup := by
  unfold vals3
  by_cases h1 : b = a
  · by_cases h2 : c = a
    · simp [h1, h2]
    · simp [h1, h2, Ne.symm h2]
  · by_cases h2 : c = a
    · simp [h1, h2, Ne.symm h1]
    · by_cases h3 : c = b
      · simp [h1, h2, h3, Ne.symm h1]
      · simp [h1, h2, h3, Ne.symm h1, Ne.symm h2, Ne.symm h3]
theorem mem_vals3 {a b c v : Int} : v ∈ vals3 a b c ↔ v = a ∨ v = b ∨ v = c := by
  unfold vals3
  by_cases h1 : b = a
  · by_cases h2 : c = a
    · simp [h1, h2]
    · simp [h1, h2]
  · by_cases h2 : c = a
    · simp [h1, h2]
      constructor
      · rintro (h | h)
        · exact .inl h
        · exact .inr (.inl h)
      · rintro (h | h | h)
        · exact .inl h
        · exact .inr h
        · exact .inl h
    · by_cases h3 : c = b
      · simp [h1, h2, h3]
      · simp [h1, h2, h3]
theorem vals3_pos (a b c : Int) : 0 < (vals3 a b c).length := by simp [vals3]
theorem vals3_le (a b c : Int) : (vals3 a b c).length ≤ 3 := by
  unfold vals3
  rw [List.length_cons, List.length_append]
  split <;> split <;> simp

theorem wordVals_nodup (x : W) : (wordVals x).Nodup := by
  unfold wordVals
  split
  · exact vals3_nodup _ _ _
  · simp
theorem wordVals_pos (x : W) : 0 < (wordVals x).length := by
  unfold wordVals
  split
  · exact vals3_pos _ _ _
  · simp
theorem choose_rest (x : W) (n : Int) : choose x n = choose x (n % 3) := by
  unfold choose
  rw [Int.emod_emod_of_dvd n (Int.dvd_refl 3)]
/-- whatever a number chooses may last. -/
theorem choose_mem (x : W) (n : Int) (h : x.isOpen = true) : choose x n ∈ wordVals x := by
  unfold wordVals
  rw [if_pos h, mem_vals3, choose_rest]
  have : n % 3 = 0 ∨ n % 3 = 1 ∨ n % 3 = 2 := by omega
  rcases this with e | e | e
  · exact .inl (by rw [e])
  · exact .inr (.inl (by rw [e]))
  · exact .inr (.inr (by rw [e]))

theorem mem_images {ws : List W} {L : List Int} : L ∈ images ws ↔ L.length = ws.length ∧ ∀ (i : Nat) (x : W), ws[i]? = some x → ∃ v, L[i]? = some v ∧ v ∈ wordVals x := by
  induction ws generalizing L with
  | nil =>
    simp [images]
  | cons x r ih =>
    unfold images
    simp only [List.mem_flatMap, List.mem_map]
    constructor
    · rintro ⟨v, hv, M, hM, rfl⟩
      obtain ⟨h1, h2⟩ := ih.1 hM
      refine ⟨by simp [h1], fun i y hi => ?_⟩
      cases i with
      | zero =>
        simp at hi
        subst hi
        exact ⟨v, rfl, hv⟩
      | succ i => exact h2 i y (by simpa using hi)
    · rintro ⟨h1, h2⟩
      cases L with
      | nil => simp at h1
      | cons v M =>
        obtain ⟨u, hu, hm⟩ := h2 0 x rfl
        simp at hu
        subst hu
        exact ⟨v, hm, M, ih.2 ⟨by simpa using h1, fun i y hi => h2 (i + 1) y (by simpa using hi)⟩, rfl⟩
theorem images_nodup (ws : List W) : (images ws).Nodup := by
  induction ws with
  | nil => simp [images]
  | cons x r ih =>
    unfold images
    have key : ∀ vs : List Int, vs.Nodup → (vs.flatMap fun v => (images r).map (v :: ·)).Nodup := fun vs => by
      induction vs with
      | nil => intro _; simp
      | cons v t iht =>
        intro hn
        rw [List.nodup_cons] at hn
        rw [List.flatMap_cons, List.nodup_append]
        refine ⟨?_, iht hn.2, ?_⟩
        · exact List.Pairwise.map _ (fun a b hab e => hab (List.cons.inj e).2) ih
        · intro a ha b hb e
          subst e
          simp only [List.mem_map, List.mem_flatMap] at ha hb
          obtain ⟨M, _, rfl⟩ := ha
          obtain ⟨u, hu, M', _, e⟩ := hb
          exact hn.1 ((List.cons.inj e).1 ▸ hu)
    exact key _ (wordVals_nodup x)
/-- whatever a crash leaves may be left. -/
theorem crash_mem (ws : List W) (l : List Int) : lastL (crashW ws l) ∈ images ws := by
  induction ws generalizing l with
  | nil => simp [images, lastL, crashW]
  | cons x r ih =>
    unfold images crashW
    simp only [List.mem_flatMap, List.mem_map]
    split
    · rename_i ho
      exact ⟨choose x (l.headD 0), choose_mem x _ ho, lastL (crashW r l.tail), ih _, rfl⟩
    · rename_i ho
      exact ⟨x.lasts, by unfold wordVals; rw [if_neg ho]; simp, lastL (crashW r l), ih _, rfl⟩

/-- the least choice by which a word is left. -/
def least (x : W) (v : Int) : Nat := if choose x 0 = v then 0 else if choose x 1 = v then 1 else 2
/-- the choices by which an image is left. -/
def choices : List W → List Int → List Int
  | [], _ => []
  | x :: r, L => if x.isOpen = true then (least x (L.headD 0) : Int) :: choices r L.tail else choices r L.tail
theorem least_at {x : W} {v : Int} (ho : x.isOpen = true) (h : v ∈ wordVals x) : choose x (least x v) = v := by
  unfold wordVals at h
  rw [if_pos ho, mem_vals3] at h
  unfold least
  by_cases h0 : choose x 0 = v
  · rw [if_pos h0]; exact h0
  · rw [if_neg h0]
    by_cases h1 : choose x 1 = v
    · rw [if_pos h1]; exact h1
    · rw [if_neg h1]
      rcases h with h | h | h
      · exact absurd h.symm h0
      · exact absurd h.symm h1
      · exact h.symm
/-- a crash with these leaves that image. -/
theorem crash_choices {ws : List W} {L : List Int} (h : L ∈ images ws) : lastL (crashW ws (choices ws L)) = L := by
  induction ws generalizing L with
  | nil =>
    simp [images] at h
    subst h
    rfl
  | cons x r ih =>
    unfold images at h
    simp only [List.mem_flatMap, List.mem_map] at h
    obtain ⟨v, hv, M, hM, rfl⟩ := h
    unfold choices
    simp only [List.headD_cons, List.tail_cons]
    split
    · rename_i ho
      unfold crashW
      rw [if_pos ho]
      simp only [List.headD_cons, List.tail_cons]
      show (still (choose x (least x v))).lasts :: lastL (crashW r (choices r M)) = _
      rw [ih hM]
      show choose x (least x v) :: M = _
      rw [least_at ho hv]
    · rename_i ho
      unfold crashW
      rw [if_neg ho]
      show x.lasts :: lastL (crashW r (choices r M)) = _
      rw [ih hM]
      unfold wordVals at hv
      rw [if_neg ho] at hv
      simp at hv
      rw [hv]
theorem choices_length (ws : List W) (L : List Int) (k : Nat) : (choices ws L).length = (fatesFrom k ws).length := by
  induction ws generalizing L k with
  | nil => rfl
  | cons x r ih =>
    unfold choices fatesFrom
    split
    · simp [ih L.tail (k + 1)]
    · exact ih _ _

/-- how many there are. -/
theorem images_length (ws : List W) : (images ws).length = (ws.map fun x => (wordVals x).length).foldr (· * ·) 1 := by
  induction ws with
  | nil => rfl
  | cons x r ih =>
    unfold images
    rw [List.map_cons, List.foldr_cons, ← ih]
    generalize images r = M
    generalize wordVals x = vs
    induction vs with
    | nil => simp
    | cons v t iht =>
      rw [List.flatMap_cons, List.length_append, iht, List.length_map, List.length_cons, Nat.succ_mul, Nat.add_comm]
theorem images_pos (ws : List W) : 0 < (images ws).length := by
  have := crash_mem ws []
  exact List.length_pos_of_mem this
/-- the k-th image, from the last word on; and what is left of k. -/
def imageAt : List W → Nat → List Int × Nat
  | [], k => ([], k)
  | x :: r, k => ((wordVals x).getD ((imageAt r k).2 % (wordVals x).length) 0 :: (imageAt r k).1, (imageAt r k).2 / (wordVals x).length)
theorem flat_at (M : List (List Int)) (hM : 0 < M.length) : ∀ (vs : List Int) (k : Nat), (vs.flatMap fun v => M.map (v :: ·))[k]? = (vs[k / M.length]?).bind fun v => (M[k % M.length]?).map (v :: ·)
  | [], k => by simp
  | v :: t, k => by
    rw [List.flatMap_cons]
    by_cases hk : k < M.length
    · rw [List.getElem?_append_left (by simpa using hk), Nat.div_eq_of_lt hk, Nat.mod_eq_of_lt hk]
      simp
    · rw [List.getElem?_append_right (by simp; omega), List.length_map, flat_at M hM t (k - M.length)]
      have e1 : k / M.length = (k - M.length) / M.length + 1 := by
        rw [Nat.div_eq_sub_div hM (by omega)]
      have e2 : k % M.length = (k - M.length) % M.length := by
        rw [Nat.mod_eq_sub_mod (by omega)]
      rw [e1, e2]
      simp
theorem imageAt_spec (ws : List W) (k : Nat) : (imageAt ws k).2 = k / (images ws).length ∧ (images ws)[k % (images ws).length]? = some (imageAt ws k).1 := by
  induction ws with
  | nil => simp [imageAt, images, Nat.mod_one]
  | cons x r ih =>
    have hp := images_pos r
    have hv := wordVals_pos x
    have hl : (images (x :: r)).length = (wordVals x).length * (images r).length := by
      rw [images_length, List.map_cons, List.foldr_cons, ← images_length]
    have e0 : imageAt (x :: r) k = ((wordVals x).getD ((imageAt r k).2 % (wordVals x).length) 0 :: (imageAt r k).1, (imageAt r k).2 / (wordVals x).length) := rfl
    rw [e0, hl, ih.1]
    refine ⟨by rw [Nat.div_div_eq_div_mul, Nat.mul_comm], ?_⟩
    have e1 : images (x :: r) = (wordVals x).flatMap fun v => (images r).map (v :: ·) := rfl
    rw [e1, flat_at _ hp]
    have d1 : k % ((wordVals x).length * (images r).length) / (images r).length = k / (images r).length % (wordVals x).length := by
      rw [Nat.mul_comm, Nat.mod_mul_right_div_self]
    have d2 : k % ((wordVals x).length * (images r).length) % (images r).length = k % (images r).length := Nat.mod_mul_left_mod _ _ _
    rw [d1, d2, ih.2, List.getElem?_eq_getElem (Nat.mod_lt _ hv)]
    simp [List.getD_eq_getElem?_getD, Nat.mod_lt _ hv]
/-- the k-th image. -/
theorem image_at {ws : List W} {k : Nat} (h : k < (images ws).length) : (images ws)[k]? = some (imageAt ws k).1 := by
  have := (imageAt_spec ws k).2
  rw [Nat.mod_eq_of_lt h] at this
  exact this

/-- the product of numbers. -/
def prod : List Nat → Nat
  | [] => 1
  | a :: r => a * prod r
theorem prod_append (a b : List Nat) : prod (a ++ b) = prod a * prod b := by
  induction a with
  | nil => simp [prod]
  | cons x r ih => rw [List.cons_append, prod, ih, prod, Nat.mul_assoc]
/-- an open word's values, told as its fate's. -/
theorem vals_of (x : W) (k : Nat) (h : x.isOpen = true) : wordVals x = F.vals ⟨k, x.lasts, x.flushed, x.sent, x.stored⟩ := by
  unfold wordVals F.vals F.value choose
  rw [if_pos h]
theorem fates_prod (ws : List W) (k : Nat) : prod ((fatesFrom k ws).map fun f => f.vals.length) = (images ws).length := by
  induction ws generalizing k with
  | nil => rfl
  | cons x r ih =>
    have hl : (images (x :: r)).length = (wordVals x).length * (images r).length := by
      rw [images_length, List.map_cons, List.foldr_cons, ← images_length]
    have e : fatesFrom k (x :: r) = if x.isOpen = true then ⟨k, x.lasts, x.flushed, x.sent, x.stored⟩ :: fatesFrom (k + 1) r else fatesFrom (k + 1) r := rfl
    rw [hl, ← ih (k + 1), e]
    split
    · rename_i ho
      rw [List.map_cons, prod, vals_of x k ho]
    · rename_i ho
      unfold wordVals
      rw [if_neg ho]
      simp
/-- how many images, as it is counted: at most as many as count. -/
def counted (fs : List F) : Nat := min (prod (fs.map fun f => f.vals.length)) 1099511627776
theorem counted_step {fs : List F} {k : Nat} {f : F} (h : fs[k]? = some f) : counted (fs.take (k + 1)) = min (counted (fs.take k) * f.vals.length) 1099511627776 := by
  have e : fs.take (k + 1) = fs.take k ++ [f] := by
    rw [List.take_add_one, h]
    rfl
  unfold counted
  rw [e, List.map_append, prod_append]
  show min (prod _ * (f.vals.length * 1)) _ = _
  rw [Nat.mul_one]
  generalize prod ((fs.take k).map fun f => f.vals.length) = a
  have hb : 0 < f.vals.length := vals3_pos _ _ _
  by_cases ha : a ≤ 1099511627776
  · rw [Nat.min_eq_left ha]
  · have h1 : 1099511627776 ≤ a * f.vals.length := Nat.le_trans (by omega) (Nat.le_mul_of_pos_right a hb)
    have h2 : 1099511627776 ≤ 1099511627776 * f.vals.length := Nat.le_mul_of_pos_right _ hb
    rw [Nat.min_eq_right h1, Nat.min_eq_right (show 1099511627776 ≤ a by omega), Nat.min_eq_right h2]
end Pm
end Go.Proofs.Ytnaenokegomoeaa

namespace Go.Proofs.Ytnaenokegomoeaa
set_option linter.unusedVariables false
set_option linter.unusedSimpArgs false
namespace Pm

/-- the least number by which a crash leaves that of a fate; 3: none. -/
def F.least (f : F) (v : Int) : Nat := if v = f.lasts then 0 else if f.flushed = true ∧ v = f.sent then 1 else if v = f.stored then 2 else 3
/-- the fate of a word. -/
def toF (k : Nat) (x : W) : F := ⟨k, x.lasts, x.flushed, x.sent, x.stored⟩
theorem choose_zero (x : W) : choose x 0 = x.lasts := rfl
theorem choose_one (x : W) : choose x 1 = if x.flushed = true then x.sent else x.lasts := by
  unfold choose
  cases x.flushed <;> rfl
theorem choose_two (x : W) : choose x 2 = x.stored := rfl
theorem least_mem (x : W) (k : Nat) (v : Int) (ho : x.isOpen = true) : (toF k x).least v < 3 ↔ v ∈ wordVals x := by
  unfold wordVals
  rw [if_pos ho, mem_vals3, choose_zero, choose_one, choose_two]
  unfold F.least toF
  simp only
  by_cases h0 : v = x.lasts
  · rw [if_pos h0]
    exact ⟨fun _ => .inl h0, fun _ => by decide⟩
  · rw [if_neg h0]
    cases hf : x.flushed
    · rw [if_neg (fun h => by cases h.1)]
      by_cases h2 : v = x.stored
      · rw [if_pos h2]
        exact ⟨fun _ => .inr (.inr h2), fun _ => by decide⟩
      · rw [if_neg h2]
        refine ⟨fun h => absurd h (by decide), fun h => ?_⟩
        rcases h with h | h | h
        · exact absurd h h0
        · simp at h
          exact absurd h h0
        · exact absurd h h2
    · by_cases h1 : v = x.sent
      · rw [if_pos ⟨rfl, h1⟩]
        exact ⟨fun _ => .inr (.inl (by simpa using h1)), fun _ => by decide⟩
      · rw [if_neg (fun h => h1 h.2)]
        by_cases h2 : v = x.stored
        · rw [if_pos h2]
          exact ⟨fun _ => .inr (.inr h2), fun _ => by decide⟩
        · rw [if_neg h2]
          refine ⟨fun h => absurd h (by decide), fun h => ?_⟩
          rcases h with h | h | h
          · exact absurd h h0
          · simp at h
            exact absurd h h1
          · exact absurd h h2
theorem least_same (x : W) (k : Nat) (v : Int) (h : (toF k x).least v < 3) : least x v = (toF k x).least v := by
  unfold least
  rw [choose_zero, choose_one]
  unfold F.least toF at *
  simp only at *
  by_cases h0 : v = x.lasts
  · rw [if_pos h0, if_pos h0.symm]
  · rw [if_neg h0] at h ⊢
    rw [if_neg (Ne.symm h0)]
    cases hf : x.flushed
    · rw [hf, if_neg (fun h => by cases h.1)] at h
      have e1 : (if false = true then x.sent else x.lasts) = x.lasts := rfl
      rw [e1, if_neg (Ne.symm h0), if_neg (show ¬ (false = true ∧ v = x.sent) from fun h => by cases h.1)]
      by_cases h2 : v = x.stored
      · rw [if_pos h2]
      · rw [if_neg h2] at h
        exact absurd h (by decide)
    · rw [if_pos rfl]
      by_cases h1 : v = x.sent
      · rw [if_pos h1.symm, if_pos ⟨rfl, h1⟩]
      · rw [hf, if_neg (fun h => h1 h.2)] at h
        rw [if_neg (Ne.symm h1), if_neg (fun h => h1 h.2)]
        by_cases h2 : v = x.stored
        · rw [if_pos h2]
        · rw [if_neg h2] at h
          exact absurd h (by decide)

theorem mem_fates {ws : List W} {k : Nat} {f : F} : f ∈ fatesFrom k ws ↔ ∃ j x, ws[j]? = some x ∧ x.isOpen = true ∧ f = toF (k + j) x := by
  induction ws generalizing k with
  | nil => simp [fatesFrom]
  | cons y r ih =>
    have e : fatesFrom k (y :: r) = if y.isOpen = true then toF k y :: fatesFrom (k + 1) r else fatesFrom (k + 1) r := rfl
    have ih' := ih (k := k + 1)
    constructor
    · intro h
      rw [e] at h
      have key : f ∈ fatesFrom (k + 1) r → ∃ j x, (y :: r)[j]? = some x ∧ x.isOpen = true ∧ f = toF (k + j) x := fun h => by
        obtain ⟨j, x, h1, h2, h3⟩ := ih'.1 h
        exact ⟨j + 1, x, by simpa using h1, h2, by rw [h3, Nat.add_assoc, Nat.add_comm 1 j]⟩
      split at h
      · rename_i ho
        rcases List.mem_cons.1 h with h | h
        · exact ⟨0, y, rfl, ho, h⟩
        · exact key h
      · exact key h
    · rintro ⟨j, x, h1, h2, h3⟩
      rw [e]
      cases j with
      | zero =>
        simp at h1
        subst h1
        rw [if_pos h2]
        exact List.mem_cons.2 (.inl h3)
      | succ j =>
        have : f ∈ fatesFrom (k + 1) r := ih'.2 ⟨j, x, by simpa using h1, h2, by rw [h3, Nat.add_assoc, Nat.add_comm 1 j]⟩
        split
        · exact List.mem_cons.2 (.inr this)
        · exact this

/-- whether an image may be left, told by the fates. -/
theorem may_iff {ws : List W} {L : List Int} (hl : L.length = ws.length) : L ∈ images ws ↔ (∀ f ∈ fatesFrom 0 ws, f.least (L.getD f.at' 0) < 3) ∧ copied L (fatesFrom 0 ws) (lastL ws) = L := by
  have hget : ∀ j, j < ws.length → L[j]? = some (L.getD j 0) := fun j hj => by
    rw [List.getD_eq_getElem?_getD, List.getElem?_eq_getElem (by omega)]
    rfl
  have hlast : ∀ (j : Nat) (x : W), ws[j]? = some x → (lastL ws)[j]? = some x.lasts := fun j x hx => by simp [lastL, hx]
  constructor
  · intro h
    obtain ⟨_, h2⟩ := mem_images.1 h
    have h1 : ∀ f ∈ fatesFrom 0 ws, f.least (L.getD f.at' 0) < 3 := fun f hf => by
      obtain ⟨j, x, hx, ho, rfl⟩ := mem_fates.1 hf
      rw [Nat.zero_add]
      refine (least_mem x j _ ho).2 ?_
      obtain ⟨v, hv, hm⟩ := h2 j x hx
      have := hget j (List.getElem?_eq_some_iff.1 hx).1
      rw [hv] at this
      show L.getD j 0 ∈ _
      rw [← Option.some.inj this]
      exact hm
    refine ⟨h1, ?_⟩
    apply List.ext_getElem?
    intro j
    by_cases hj : j < ws.length
    · obtain ⟨x, hx⟩ : ∃ x, ws[j]? = some x := ⟨_, List.getElem?_eq_getElem hj⟩
      by_cases ho : x.isOpen = true
      · rw [copied_in L (fatesFrom 0 ws) (lastL ws) (j := j) (by simpa [lastL] using hj) ⟨toF j x, mem_fates.2 ⟨j, x, hx, ho, by rw [Nat.zero_add]⟩, rfl⟩, hget j hj]
      · rcases copied_at L (fatesFrom 0 ws) (lastL ws) j with e | ⟨⟨f, hf, e⟩, _⟩
        · rw [e, hlast j x hx]
          obtain ⟨v, hv, hm⟩ := h2 j x hx
          unfold wordVals at hm
          rw [if_neg ho] at hm
          rw [hv, List.mem_singleton.1 hm]
        · obtain ⟨i, y, hy, hyo, rfl⟩ := mem_fates.1 hf
          have e' : 0 + i = j := e
          have : i = j := by omega
          subst this
          rw [hx] at hy
          cases hy
          exact absurd hyo ho
    · rw [List.getElem?_eq_none (by rw [copied_length]; simp [lastL]; omega), List.getElem?_eq_none (by omega)]
  · rintro ⟨h1, h2⟩
    refine mem_images.2 ⟨hl, fun j x hx => ⟨L.getD j 0, hget j (List.getElem?_eq_some_iff.1 hx).1, ?_⟩⟩
    by_cases ho : x.isOpen = true
    · exact (least_mem x j _ ho).1 (h1 (toF j x) (mem_fates.2 ⟨j, x, hx, ho, by rw [Nat.zero_add]⟩))
    · unfold wordVals
      rw [if_neg ho, List.mem_singleton]
      rcases copied_at L (fatesFrom 0 ws) (lastL ws) j with e | ⟨⟨f, hf, e⟩, _⟩
      · rw [h2, hget j (List.getElem?_eq_some_iff.1 hx).1, hlast j x hx] at e
        exact Option.some.inj e
      · obtain ⟨i, y, hy, hyo, rfl⟩ := mem_fates.1 hf
        have e' : 0 + i = j := e
        have : i = j := by omega
        subst this
        rw [hx] at hy
        cases hy
        exact absurd hyo ho
/-- the choices, told by the fates. -/
theorem choices_from {ws : List W} : ∀ {M pre : List Int}, M.length = ws.length → (∀ f ∈ fatesFrom pre.length ws, f.least ((pre ++ M).getD f.at' 0) < 3) → choices ws M = (fatesFrom pre.length ws).map fun f => (f.least ((pre ++ M).getD f.at' 0) : Int) := by
  induction ws with
  | nil => intro M pre _ _; rfl
  | cons x r ih =>
    intro M pre hl h
    cases M with
    | nil => simp at hl
    | cons m t =>
      have hcat : pre ++ m :: t = (pre ++ [m]) ++ t := by simp
      have hlen : (pre ++ [m]).length = pre.length + 1 := by simp
      have hat : (pre ++ m :: t).getD pre.length 0 = m := by simp
      have e : fatesFrom pre.length (x :: r) = if x.isOpen = true then toF pre.length x :: fatesFrom (pre.length + 1) r else fatesFrom (pre.length + 1) r := rfl
      rw [e] at h ⊢
      have ih' := ih (M := t) (pre := pre ++ [m]) (by simpa using hl)
      rw [hlen, ← hcat] at ih'
      unfold choices
      simp only [List.headD_cons, List.tail_cons]
      by_cases ho : x.isOpen = true
      · rw [if_pos ho] at h ⊢
        rw [if_pos ho, List.map_cons, ih' (fun f hf => h f (List.mem_cons.2 (.inr hf)))]
        have h0 := h (toF pre.length x) (by simp)
        have e1 : (toF pre.length x).at' = pre.length := rfl
        rw [e1, hat] at h0 ⊢
        rw [least_same x pre.length m h0]
      · rw [if_neg ho] at h ⊢
        rw [if_neg ho]
        exact ih' h
theorem choices_fates {ws : List W} {L : List Int} (h : L ∈ images ws) : choices ws L = (fatesFrom 0 ws).map fun f => (f.least (L.getD f.at' 0) : Int) := by
  have hl := (mem_images.1 h).1
  have := choices_from (M := L) (pre := []) hl ((may_iff hl).1 h).1
  simpa using this
theorem vals_bd {f : F} {lo hi : Int} (h0 : lo ≤ f.lasts ∧ f.lasts ≤ hi) (h1 : lo ≤ f.sent ∧ f.sent ≤ hi) (h2 : lo ≤ f.stored ∧ f.stored ≤ hi) : ∀ v ∈ f.vals, lo ≤ v ∧ v ≤ hi := fun v hv => by
  have hb : ∀ n, lo ≤ f.value n ∧ f.value n ≤ hi := fun n => by
    unfold F.value
    split
    · exact h2
    · split
      · exact h1
      · exact h0
  unfold F.vals at hv
  rcases mem_vals3.1 hv with rfl | rfl | rfl
  · exact hb 0
  · exact hb 1
  · exact hb 2
end Pm
end Go.Proofs.Ytnaenokegomoeaa

namespace Go.Proofs.Ytnaenokegomoeaa
set_option linter.unusedVariables false
set_option linter.unusedSimpArgs false
namespace Pm

theorem flat_same {α β : Type} {l : List α} {f g : α → List β} (h : ∀ a ∈ l, f a = g a) : l.flatMap f = l.flatMap g := by
  induction l with
  | nil => rfl
  | cons a r ih => rw [List.flatMap_cons, List.flatMap_cons, h a (by simp), ih (fun b hb => h b (by simp [hb]))]
theorem flat_one {α β : Type} (l : List α) (f : α → β) : (l.flatMap fun a => [f a]) = l.map f := by
  induction l with
  | nil => rfl
  | cons a r ih => rw [List.flatMap_cons, ih]; rfl
/-- each image with each value at a place. -/
def spreadL (LL : List (List Int)) (p : Nat) (vs : List Int) : List (List Int) := LL.flatMap fun L => vs.map fun v => L.set p v
theorem spreadL_length (LL : List (List Int)) (p : Nat) (vs : List Int) : (spreadL LL p vs).length = LL.length * vs.length := by
  unfold spreadL
  induction LL with
  | nil => simp
  | cons L r ih => rw [List.flatMap_cons, List.length_append, ih, List.length_map, List.length_cons, Nat.succ_mul, Nat.add_comm]
theorem spreadL_step {LL : List (List Int)} {k : Nat} {L : List Int} (p : Nat) (vs : List Int) (h : LL[k]? = some L) : spreadL (LL.take (k + 1)) p vs = spreadL (LL.take k) p vs ++ vs.map fun v => L.set p v := by
  unfold spreadL
  rw [List.take_add_one, h, List.flatMap_append]
  simp
theorem spreadL_len {LL : List (List Int)} {N p : Nat} {vs : List Int} (h : ∀ L ∈ LL, L.length = N) : ∀ L ∈ spreadL LL p vs, L.length = N := fun L hL => by
  unfold spreadL at hL
  obtain ⟨M, hM, hL⟩ := List.mem_flatMap.1 hL
  obtain ⟨v, _, rfl⟩ := List.mem_map.1 hL
  rw [List.length_set]
  exact h M hM
/-- all fates, one behind the other. -/
def spreadAll (fs : List F) (LL : List (List Int)) : List (List Int) := fs.foldl (fun M f => spreadL M f.at' f.vals) LL
theorem spreadAll_step {fs : List F} {k : Nat} {f : F} (LL : List (List Int)) (h : fs[k]? = some f) : spreadAll (fs.take (k + 1)) LL = spreadL (spreadAll (fs.take k) LL) f.at' f.vals := by
  unfold spreadAll
  rw [List.take_add_one, h, List.foldl_append]
  rfl
theorem spreadAll_length (fs : List F) (LL : List (List Int)) : (spreadAll fs LL).length = LL.length * prod (fs.map fun f => f.vals.length) := by
  induction fs generalizing LL with
  | nil => simp [spreadAll, prod]
  | cons f r ih =>
    show (spreadAll r (spreadL LL f.at' f.vals)).length = _
    rw [ih, spreadL_length, List.map_cons, prod, Nat.mul_assoc]
theorem spreadAll_len {fs : List F} {LL : List (List Int)} {N : Nat} (h : ∀ L ∈ LL, L.length = N) : ∀ L ∈ spreadAll fs LL, L.length = N := by
  induction fs generalizing LL with
  | nil => exact h
  | cons f r ih => exact ih (LL := spreadL LL f.at' f.vals) (spreadL_len h)
theorem images_snoc (ws : List W) (x : W) : images (ws ++ [x]) = (images ws).flatMap fun M => (wordVals x).map fun v => M ++ [v] := by
  induction ws with
  | nil =>
    show (wordVals x).flatMap (fun v => [[v]]) = _
    simp [images]
    induction wordVals x with
    | nil => rfl
    | cons a t ih => simp [ih]
  | cons y r ih =>
    show (wordVals y).flatMap (fun v => (images (r ++ [x])).map (v :: ·)) = ((wordVals y).flatMap fun v => (images r).map (v :: ·)).flatMap _
    rw [ih, List.flatMap_assoc]
    congr 1
    funext v
    rw [List.map_flatMap, List.flatMap_map]
    congr 1
    funext M
    rw [List.map_map]
    rfl
theorem images_mem_length {ws : List W} {M : List Int} (h : M ∈ images ws) : M.length = ws.length := (mem_images.1 h).1
theorem spreadAll_from : ∀ (r p : List W), spreadAll (fatesFrom p.length r) ((images p).map (· ++ lastL r)) = images (p ++ r)
  | [], p => by
    show (images p).map (· ++ []) = images (p ++ [])
    simp
  | x :: r, p => by
    have ih := spreadAll_from r (p ++ [x])
    have hlen : (p ++ [x]).length = p.length + 1 := by simp
    rw [hlen, List.append_assoc] at ih
    have e : fatesFrom p.length (x :: r) = if x.isOpen = true then toF p.length x :: fatesFrom (p.length + 1) r else fatesFrom (p.length + 1) r := rfl
    have key : (images (p ++ [x])).map (· ++ lastL r) = (images p).flatMap fun M => (wordVals x).map fun v => M ++ v :: lastL r := by
      rw [images_snoc, List.map_flatMap]
      congr 1
      funext M
      rw [List.map_map]
      congr 1
      funext v
      simp
    rw [e]
    by_cases ho : x.isOpen = true
    · rw [if_pos ho]
      show spreadAll (fatesFrom (p.length + 1) r) (spreadL ((images p).map (· ++ lastL (x :: r))) p.length (toF p.length x).vals) = _
      have hv : (toF p.length x).vals = wordVals x := (vals_of x p.length ho).symm
      have e2 : spreadL ((images p).map (· ++ lastL (x :: r))) p.length (toF p.length x).vals = (images (p ++ [x])).map (· ++ lastL r) := by
        rw [key, hv]
        unfold spreadL
        rw [List.flatMap_map]
        refine flat_same fun M hM => ?_
        apply List.map_congr_left
        intro v _
        rw [← images_mem_length hM]
        simp [lastL]
      rw [e2]
      exact ih
    · rw [if_neg ho]
      have e2 : (images p).map (· ++ lastL (x :: r)) = (images (p ++ [x])).map (· ++ lastL r) := by
        rw [key]
        unfold wordVals
        rw [if_neg ho]
        simp only [List.map_cons, List.map_nil]
        rw [flat_one]
        rfl
      rw [e2]
      exact ih
/-- all of them, in order. -/
theorem spreadAll_all (s : D) : spreadAll (fates s) [lastL s.ws] = images s.ws := by
  have := spreadAll_from s.ws []
  simp only [List.nil_append, List.length_nil] at this
  unfold fates
  rw [← this]
  rfl
theorem prod_take_le {fs : List F} (k : Nat) : prod ((fs.take k).map fun f => f.vals.length) ≤ prod (fs.map fun f => f.vals.length) := by
  have e : fs.map (fun f => f.vals.length) = (fs.take k).map (fun f => f.vals.length) ++ (fs.drop k).map (fun f => f.vals.length) := by
    rw [← List.map_append, List.take_append_drop]
  rw [e, prod_append]
  refine Nat.le_mul_of_pos_right _ ?_
  have key : ∀ l : List F, 0 < prod (l.map fun f => f.vals.length) := fun l => by
    induction l with
    | nil => decide
    | cons a r ih => exact Nat.mul_pos (vals3_pos _ _ _) ih
  exact key _
/-- of a word of which one value may last it is what lasts. -/
theorem vals_one {ws : List W} {f : F} (hf : f ∈ fatesFrom 0 ws) (h1 : f.vals.length ≤ 1) : f.vals = [f.lasts] := by
  obtain ⟨t, ht⟩ : ∃ t, f.vals = f.lasts :: t := ⟨_, rfl⟩
  rw [ht, List.length_cons] at h1
  have : t = [] := List.eq_nil_of_length_eq_zero (by omega)
  rw [ht, this]
/-- the values at a place stay those that last till its fate comes. -/
theorem spread_still {LL : List (List Int)} {p : Nat} {v : Int} (h : ∀ L ∈ LL, L[p]? = some v) : spreadL LL p [v] = LL := by
  unfold spreadL
  induction LL with
  | nil => rfl
  | cons L r ih =>
    rw [List.flatMap_cons, ih (fun M hM => h M (by simp [hM]))]
    have e := h L (by simp)
    obtain ⟨h1, h2⟩ := List.getElem?_eq_some_iff.1 e
    have : L.set p v = L := by rw [← h2]; exact List.set_getElem_self h1
    simp [this]
theorem spreadAll_other {fs : List F} {LL : List (List Int)} {p : Nat} {v : Int} (h : ∀ L ∈ LL, L[p]? = some v) (hf : ∀ f ∈ fs, f.at' ≠ p) : ∀ L ∈ spreadAll fs LL, L[p]? = some v := by
  induction fs generalizing LL with
  | nil => exact h
  | cons f r ih =>
    refine ih (LL := spreadL LL f.at' f.vals) (fun L hL => ?_) (fun g hg => hf g (by simp [hg]))
    unfold spreadL at hL
    obtain ⟨M, hM, hL⟩ := List.mem_flatMap.1 hL
    obtain ⟨u, _, rfl⟩ := List.mem_map.1 hL
    rw [List.getElem?_set_ne (hf f (by simp))]
    exact h M hM
/-- the places of fates grow. -/
theorem fates_lt {ws : List W} {k i j : Nat} {f g : F} (hf : (fatesFrom k ws)[i]? = some f) (hg : (fatesFrom k ws)[j]? = some g) (h : i < j) : f.at' < g.at' := by
  induction ws generalizing k i j with
  | nil => simp [fatesFrom] at hf
  | cons x r ih =>
    have e : fatesFrom k (x :: r) = if x.isOpen = true then toF k x :: fatesFrom (k + 1) r else fatesFrom (k + 1) r := rfl
    rw [e] at hf hg
    split at hf
    · rename_i ho
      rw [if_pos ho] at hg
      obtain ⟨j, rfl⟩ : ∃ q, j = q + 1 := ⟨j - 1, by omega⟩
      rw [List.getElem?_cons_succ] at hg
      cases i with
      | zero =>
        rw [List.getElem?_cons_zero] at hf
        obtain ⟨q, y, _, _, rfl⟩ := mem_fates.1 (List.mem_of_getElem? hg)
        rw [← Option.some.inj hf]
        show k < k + 1 + q
        omega
      | succ i =>
        rw [List.getElem?_cons_succ] at hf
        exact ih hf hg (by omega)
    · rename_i ho
      rw [if_neg ho] at hg
      exact ih hf hg h
/-- a fate of which one value may last changes nothing. -/
theorem spread_one {ws : List W} {k : Nat} {f : F} (hf : (fatesFrom 0 ws)[k]? = some f) (h1 : f.vals.length ≤ 1) : spreadAll ((fatesFrom 0 ws).take (k + 1)) [lastL ws] = spreadAll ((fatesFrom 0 ws).take k) [lastL ws] := by
  have hm := List.mem_of_getElem? hf
  rw [spreadAll_step _ hf, vals_one hm h1]
  apply spread_still
  apply spreadAll_other
  · intro L hL
    rw [List.mem_singleton.1 hL]
    obtain ⟨j, x, hx, _, rfl⟩ := mem_fates.1 hm
    show (lastL ws)[0 + j]? = some x.lasts
    rw [Nat.zero_add]
    simp [lastL, hx]
  · intro g hg e
    obtain ⟨i, hi⟩ := List.getElem?_of_mem hg
    have hik : i < k := by
      have := (List.getElem?_eq_some_iff.1 hi).1
      rw [List.length_take] at this
      omega
    rw [List.getElem?_take, if_pos hik] at hi
    have := fates_lt hi hf hik
    omega
end Pm
end Go.Proofs.Ytnaenokegomoeaa
