/-
  The document's device (layer 5), as plain lists: no program is named here.
-/
import Derived.WalkKit
namespace Go.Proofs.Ytjkiehfjbldkkaa
set_option linter.unusedVariables false
set_option linter.unusedSimpArgs false
namespace Pm

/-- a word: what lasts, what was stored, what was sent (0, if it wasn't). -/
structure W where
  lasts : Int
  stored : Int
  sent : Int
  flushed : Bool
/-- a word of which only one value may last. -/
def still (v : Int) : W := ⟨v, v, 0, false⟩
def W.isOpen (x : W) : Bool := x.flushed || decide (x.stored ≠ x.lasts)
/-- a value lasts. -/
def W.last (x : W) (v : Int) : W := ⟨v, x.stored, 0, false⟩
def W.send (x : W) : W := ⟨x.lasts, x.stored, x.stored, true⟩
def W.fence (x : W) : W := if x.flushed then x.last x.sent else x
/-- what a number chooses. -/
def choose (x : W) (n : Int) : Int := if n % 3 = 2 then x.stored else if n % 3 = 1 ∧ x.flushed = true then x.sent else x.lasts

/-- a device: its words; the plan, and how many steps there were since it was laid; how many steps till the power goes (-1: it doesn't); steps. -/
structure D where
  ws : List W
  plan : List Int
  since : Nat
  left : Int
  steps : Nat

def new (n : Nat) : D := ⟨List.replicate n (still 0), [], 0, -1, 0⟩
def of (vs : List Int) : D := ⟨vs.map still, [], 0, -1, 0⟩
/-- the error of one of n things. -/
def err (s : D) (at' : Int) (n : Nat) : Int := if s.left = 0 then 3 else if at' < 0 ∨ (n : Int) ≤ at' then 2 else 0
/-- the words behind a step: one may be evicted. -/
def evict (ws : List W) (plan : List Int) (since : Nat) : List W :=
  if plan.length = 0 ∨ ws.length = 0 then ws
  else
    let p := plan.getD (since % plan.length) 0
    if p < 0 then ws
    else
      let i := p.toNat % ws.length
      ws.set i ((ws.getD i (still 0)).last (ws.getD i (still 0)).stored)
/-- behind a step that made the words so. -/
def step (s : D) (ws : List W) : D := ⟨evict ws s.plan s.since, s.plan, s.since + 1, if 0 < s.left then s.left - 1 else s.left, s.steps + 1⟩
def put (ws : List W) (i : Nat) (v : Int) : List W := ws.set i { ws.getD i (still 0) with stored := v }
/-- a line is sent. -/
def sendL (ws : List W) (line : Nat) : List W := ws.take (8 * line) ++ ((ws.drop (8 * line)).take 8).map W.send ++ ws.drop (8 * line + 8)

def store (s : D) (at' v : Int) : D := if err s at' s.ws.length = 0 then step s (put s.ws at'.toNat v) else s
def load (s : D) (at' : Int) : Int := if err s at' s.ws.length = 0 then (s.ws.getD at'.toNat (still 0)).stored else 0
def flush (s : D) (line : Int) : D := if err s line (s.ws.length / 8) = 0 then step s (sendL s.ws line.toNat) else s
def fence (s : D) : D := if err s 0 1 = 0 then step s (s.ws.map W.fence) else s
def arm (s : D) (n : Int) : D := if s.left = 0 then s else { s with left := if n < -1 then -1 else n }
def lay (s : D) (l : List Int) : D := { s with plan := l, since := 0 }

/-- an open word, told. -/
structure F where
  at' : Nat
  lasts : Int
  flushed : Bool
  sent : Int
  stored : Int
def fatesFrom : Nat → List W → List F
  | _, [] => []
  | k, x :: r => if x.isOpen = true then ⟨k, x.lasts, x.flushed, x.sent, x.stored⟩ :: fatesFrom (k + 1) r else fatesFrom (k + 1) r
def fates (s : D) : List F := fatesFrom 0 s.ws
/-- the words that a crash leaves. -/
def crashW : List W → List Int → List W
  | [], _ => []
  | x :: r, l => if x.isOpen = true then still (choose x (l.headD 0)) :: crashW r l.tail else still x.lasts :: crashW r l
def crash (s : D) (l : List Int) : D := ⟨crashW s.ws l, [], 0, -1, s.steps⟩

/-- an act: which one, where, what, and its list. -/
structure A where
  kind : Int
  at' : Int
  w : Int
  l : List Int
/-- the device behind an act. -/
def act (s : D) (a : A) : D :=
  if a.kind % 7 = 0 then store s a.at' a.w else if a.kind % 7 = 1 then s else if a.kind % 7 = 2 then flush s a.at' else if a.kind % 7 = 3 then fence s
  else if a.kind % 7 = 4 then arm s a.at' else if a.kind % 7 = 5 then lay s a.l else crash s a.l
/-- the number that an act answers. -/
def actV (s : D) (a : A) : Int := if a.kind % 7 = 1 then load s a.at' else 0
/-- the error that an act answers. -/
def actE (s : D) (a : A) : Int :=
  if a.kind % 7 = 0 then err s a.at' s.ws.length else if a.kind % 7 = 1 then err s a.at' s.ws.length else if a.kind % 7 = 2 then err s a.at' (s.ws.length / 8) else if a.kind % 7 = 3 then err s 0 1 else 0
def acts (s : D) (l : List A) : D := l.foldl act s

/-- what holds of every device. -/
structure W.Ok (x : W) : Prop where
  l0 : 0 ≤ x.lasts
  l1 : x.lasts ≤ 18446744073709551615
  s0 : 0 ≤ x.stored
  s1 : x.stored ≤ 18446744073709551615
  t0 : 0 ≤ x.sent
  t1 : x.sent ≤ 18446744073709551615
  un : x.flushed = false → x.sent = 0
structure D.Ok (s : D) : Prop where
  ws : ∀ x ∈ s.ws, x.Ok
  plan : ∀ p ∈ s.plan, -9223372036854775808 ≤ p ∧ p ≤ 9223372036854775807
  left : -1 ≤ s.left ∧ s.left ≤ 9223372036854775807
  since : s.since ≤ s.steps

theorem still_ok {v : Int} (h0 : 0 ≤ v) (h1 : v ≤ 18446744073709551615) : (still v).Ok := ⟨h0, h1, h0, h1, by simp [still], by simp [still], fun _ => rfl⟩
theorem W.Ok.last {x : W} (h : x.Ok) {v : Int} (h0 : 0 ≤ v) (h1 : v ≤ 18446744073709551615) : (x.last v).Ok := ⟨h0, h1, h.s0, h.s1, by simp [W.last], by simp [W.last], fun _ => rfl⟩
theorem W.Ok.send {x : W} (h : x.Ok) : x.send.Ok := ⟨h.l0, h.l1, h.s0, h.s1, h.s0, h.s1, fun e => by cases e⟩
theorem W.Ok.fence {x : W} (h : x.Ok) : x.fence.Ok := by
  unfold W.fence
  split
  · exact h.last h.t0 h.t1
  · exact h
theorem choose_ok {x : W} (h : x.Ok) (n : Int) : 0 ≤ choose x n ∧ choose x n ≤ 18446744073709551615 := by
  unfold choose
  split
  · exact ⟨h.s0, h.s1⟩
  · split
    · exact ⟨h.t0, h.t1⟩
    · exact ⟨h.l0, h.l1⟩

theorem mem_set {α : Type} {l : List α} {i : Nat} {x y : α} (h : y ∈ l.set i x) : y ∈ l ∨ y = x := List.mem_or_eq_of_mem_set h
theorem getD_ok {ws : List W} (h : ∀ x ∈ ws, x.Ok) (i : Nat) : (ws.getD i (still 0)).Ok := by
  by_cases hi : i < ws.length
  · rw [List.getD_eq_getElem?_getD, List.getElem?_eq_getElem hi, Option.getD_some]
    exact h _ (List.getElem_mem hi)
  · rw [List.getD_eq_getElem?_getD, List.getElem?_eq_none (by omega), Option.getD_none]
    exact still_ok (by decide) (by decide)

theorem evict_length (ws : List W) (plan : List Int) (since : Nat) : (evict ws plan since).length = ws.length := by
  unfold evict
  split
  · rfl
  · simp only
    split
    · rfl
    · simp
theorem evict_ok {ws : List W} (h : ∀ x ∈ ws, x.Ok) (plan : List Int) (since : Nat) : ∀ x ∈ evict ws plan since, x.Ok := by
  unfold evict
  split
  · exact h
  · simp only
    split
    · exact h
    · intro x hx
      rcases mem_set hx with hx | rfl
      · exact h x hx
      · have := getD_ok h ((plan.getD (since % plan.length) 0).toNat % ws.length)
        exact this.last this.s0 this.s1
theorem step_ok {s : D} (h : s.Ok) {ws : List W} (hw : ∀ x ∈ ws, x.Ok) : (step s ws).Ok := by
  refine ⟨evict_ok hw _ _, h.plan, ?_, ?_⟩
  · have := h.left
    show -1 ≤ (if 0 < s.left then s.left - 1 else s.left) ∧ (if 0 < s.left then s.left - 1 else s.left) ≤ _
    split <;> omega
  · have := h.since
    show s.since + 1 ≤ s.steps + 1
    omega
theorem put_ok {ws : List W} (h : ∀ x ∈ ws, x.Ok) (i : Nat) {v : Int} (h0 : 0 ≤ v) (h1 : v ≤ 18446744073709551615) : ∀ x ∈ put ws i v, x.Ok := by
  intro x hx
  rcases mem_set hx with hx | rfl
  · exact h x hx
  · have := getD_ok h i
    exact ⟨this.l0, this.l1, h0, h1, this.t0, this.t1, this.un⟩
theorem put_length (ws : List W) (i : Nat) (v : Int) : (put ws i v).length = ws.length := by simp [put]
theorem sendL_ok {ws : List W} (h : ∀ x ∈ ws, x.Ok) (k : Nat) : ∀ x ∈ sendL ws k, x.Ok := by
  intro x hx
  unfold sendL at hx
  rcases List.mem_append.1 hx with hx | hx
  · rcases List.mem_append.1 hx with hx | hx
    · exact h x (List.mem_of_mem_take hx)
    · obtain ⟨y, hy, rfl⟩ := List.mem_map.1 hx
      exact (h y (List.mem_of_mem_drop (List.mem_of_mem_take hy))).send
  · exact h x (List.mem_of_mem_drop hx)
theorem sendL_length {ws : List W} {k : Nat} (h : 8 * k + 8 ≤ ws.length) : (sendL ws k).length = ws.length := by
  simp [sendL]
  omega
theorem crashW_length (ws : List W) (l : List Int) : (crashW ws l).length = ws.length := by
  induction ws generalizing l with
  | nil => rfl
  | cons x r ih =>
    unfold crashW
    split <;> simp [ih]
theorem crashW_still (ws : List W) (l : List Int) : ∀ x ∈ crashW ws l, x = still x.lasts := by
  induction ws generalizing l with
  | nil => intro x hx; cases hx
  | cons y r ih =>
    intro x hx
    unfold crashW at hx
    split at hx
    · rcases List.mem_cons.1 hx with rfl | hx
      · rfl
      · exact ih _ x hx
    · rcases List.mem_cons.1 hx with rfl | hx
      · rfl
      · exact ih _ x hx
theorem crashW_ok {ws : List W} (h : ∀ x ∈ ws, x.Ok) (l : List Int) : ∀ x ∈ crashW ws l, x.Ok := by
  induction ws generalizing l with
  | nil => intro x hx; cases hx
  | cons y r ih =>
    have hy := h y (by simp)
    intro x hx
    unfold crashW at hx
    split at hx
    · rcases List.mem_cons.1 hx with rfl | hx
      · exact still_ok (choose_ok hy _).1 (choose_ok hy _).2
      · exact ih (fun z hz => h z (by simp [hz])) _ x hx
    · rcases List.mem_cons.1 hx with rfl | hx
      · exact still_ok hy.l0 hy.l1
      · exact ih (fun z hz => h z (by simp [hz])) _ x hx

theorem step_ws (s : D) (ws : List W) : (step s ws).ws = evict ws s.plan s.since := rfl
theorem store_length (s : D) (a v : Int) : (store s a v).ws.length = s.ws.length := by
  unfold store
  split
  · rw [step_ws, evict_length, put_length]
  · rfl
theorem err_flush {s : D} {line : Int} (h : err s line (s.ws.length / 8) = 0) : s.left ≠ 0 ∧ 0 ≤ line ∧ 8 * line.toNat + 8 ≤ s.ws.length := by
  unfold err at h
  split at h
  · cases h
  · split at h
    · cases h
    · refine ⟨by assumption, by omega, by omega⟩
theorem err_at {s : D} {a : Int} {n : Nat} (h : err s a n = 0) : s.left ≠ 0 ∧ 0 ≤ a ∧ a.toNat < n := by
  unfold err at h
  split at h
  · cases h
  · split at h
    · cases h
    · refine ⟨by assumption, by omega, by omega⟩
theorem flush_length (s : D) (k : Int) : (flush s k).ws.length = s.ws.length := by
  unfold flush
  split
  · rename_i h
    rw [step_ws, evict_length, sendL_length (err_flush h).2.2]
  · rfl
theorem fence_length (s : D) : (fence s).ws.length = s.ws.length := by
  unfold fence
  split
  · rw [step_ws, evict_length, List.length_map]
  · rfl
theorem arm_ws (s : D) (n : Int) : (arm s n).ws = s.ws := by unfold arm; split <;> rfl
theorem act_length (s : D) (a : A) : (act s a).ws.length = s.ws.length := by
  unfold act
  split
  · exact store_length _ _ _
  · split
    · rfl
    · split
      · exact flush_length _ _
      · split
        · exact fence_length _
        · split
          · rw [arm_ws]
          · split
            · rfl
            · exact crashW_length _ _
theorem acts_length (s : D) (l : List A) : (acts s l).ws.length = s.ws.length := by
  induction l generalizing s with
  | nil => rfl
  | cons a r ih => show (acts (act s a) r).ws.length = _; rw [ih, act_length]

/-- what holds of an act's numbers. -/
structure A.Ok (a : A) : Prop where
  at0 : -9223372036854775808 ≤ a.at'
  at1 : a.at' ≤ 9223372036854775807
  w0 : 0 ≤ a.w
  w1 : a.w ≤ 18446744073709551615
  l : ∀ p ∈ a.l, -9223372036854775808 ≤ p ∧ p ≤ 9223372036854775807

theorem store_ok {s : D} (h : s.Ok) (a : Int) {v : Int} (h0 : 0 ≤ v) (h1 : v ≤ 18446744073709551615) : (store s a v).Ok := by
  unfold store
  split
  · exact step_ok h (put_ok h.ws _ h0 h1)
  · exact h
theorem flush_ok {s : D} (h : s.Ok) (a : Int) : (flush s a).Ok := by
  unfold flush
  split
  · exact step_ok h (sendL_ok h.ws _)
  · exact h
theorem fence_ok {s : D} (h : s.Ok) : (fence s).Ok := by
  unfold fence
  split
  · refine step_ok h (fun x hx => ?_)
    obtain ⟨y, hy, rfl⟩ := List.mem_map.1 hx
    exact (h.ws y hy).fence
  · exact h
theorem arm_ok {s : D} (h : s.Ok) {n : Int} (hn : n ≤ 9223372036854775807) : (arm s n).Ok := by
  unfold arm
  split
  · exact h
  · refine ⟨h.ws, h.plan, ?_, h.since⟩
    show -1 ≤ (if n < -1 then -1 else n) ∧ (if n < -1 then -1 else n) ≤ _
    split <;> omega
theorem lay_ok {s : D} (h : s.Ok) {l : List Int} (hl : ∀ p ∈ l, -9223372036854775808 ≤ p ∧ p ≤ 9223372036854775807) : (lay s l).Ok := ⟨h.ws, hl, h.left, Nat.zero_le _⟩
theorem crash_ok {s : D} (h : s.Ok) (l : List Int) : (crash s l).Ok := ⟨crashW_ok h.ws l, (by intro p hp; cases hp), ⟨by simp [crash], by simp [crash]⟩, Nat.zero_le _⟩
theorem act_ok {s : D} (h : s.Ok) {a : A} (ha : a.Ok) : (act s a).Ok := by
  unfold act
  split
  · exact store_ok h _ ha.w0 ha.w1
  · split
    · exact h
    · split
      · exact flush_ok h _
      · split
        · exact fence_ok h
        · split
          · exact arm_ok h ha.at1
          · split
            · exact lay_ok h ha.l
            · exact crash_ok h _
theorem new_ok (n : Nat) : (new n).Ok := ⟨fun x hx => by rw [(List.mem_replicate.1 hx).2]; exact still_ok (by decide) (by decide), (by intro p hp; cases hp), ⟨by simp [new], by simp [new]⟩, Nat.le_refl _⟩
theorem of_ok {vs : List Int} (h : ∀ v ∈ vs, 0 ≤ v ∧ v ≤ 18446744073709551615) : (of vs).Ok := ⟨fun x hx => by
  obtain ⟨v, hv, rfl⟩ := List.mem_map.1 hx
  exact still_ok (h v hv).1 (h v hv).2, (by intro p hp; cases hp), ⟨by simp [of], by simp [of]⟩, Nat.le_refl _⟩
theorem step_steps (s : D) (ws : List W) : (step s ws).steps = s.steps + 1 := rfl
theorem act_steps (s : D) (a : A) : (act s a).steps = s.steps ∨ (act s a).steps = s.steps + 1 := by
  unfold act store flush fence arm
  repeat' split
  all_goals first | exact .inl rfl | exact .inr rfl
end Pm
end Go.Proofs.Ytjkiehfjbldkkaa
