/-
  A region that draws its order and whose operations make memory: one walk, in the order of the text, that tells of each value what stays true of it in all later worlds (where new memory lies hangs on the order; what is said of it doesn't).
-/
import Derived.Test.YtgckondfcmmklaaGround
import Derived.Orders
import Derived.BigQuiet
namespace Go.Proofs.Ytgckondfcmmklaa
set_option linter.unusedVariables false
set_option linter.unusedSimpArgs false
open Go.RowKit

/-- what an operation does in a world: it yields a value, or calls; what was there stays. -/
def Does (P : Program) (o : Oper) (a : Act) (w : World) (R : World → Value → Prop) : Prop :=
  match (execOp a.eval o).run P w with
  | .ok (.value v) w' => Below w.heap.size w w' ∧ R w' v
  | .ok (.enter f args) w' => Below w.heap.size w w' ∧ Calls P f args w' fun e w'' => ∃ v, e = .returned v ∧ Below w'.heap.size w' w'' ∧ R w'' v
  | _ => False

theorem Does.wp {P : Program} {o : Oper} {a : Act} {w : World} {R : World → Value → Prop} {Q : Exit → Act → World → Prop} (h : Does P o a w R) :
    o.wp P a w (fun a' w' => Below w.heap.size w w' ∧ ∃ v, a' = a.put o.dst v ∧ R w' v) Q := by
  unfold Does at h
  unfold Oper.wp
  generalize (execOp a.eval o).run P w = r at *
  cases r with
  | ok n w' =>
    cases n <;> simp only [Oper.upon] at h ⊢
    case value v => exact ⟨h.1, v, rfl, h.2⟩
    case enter f args =>
      refine h.2.mono fun e w'' ⟨v, he, hb, hR⟩ => ?_
      subst he
      exact ⟨h.1.trans (hb.mono h.1.size), v, rfl, hR⟩
  | halt x w' => exact h.elim

/-- a state that differs from a0 at most in what the region's operations write. -/
structure Same (ops : List Oper) (a0 a : Act) : Prop where
  size : a.tmps.size = a0.tmps.size
  defers : a.defers = a0.defers
  base : ∀ s, (ops.all fun o => o.dst != some s) = true → a.tmps.getD s undef = a0.tmps.getD s undef

def At (Ts : List (World → Value → Prop)) (j : Nat) : World → Value → Prop := (Ts[j]?).getD fun _ _ => True

/-- what an operation waits for is there, and is as it was said. -/
def Met (ops : List Oper) (Ts : List (World → Value → Prop)) (o : Oper) (a : Act) (w : World) : Prop :=
  ∀ j d, (o.after.toList.any fun e => e.on == j && Region.binds .any e) = true → ((ops[j]?).bind (·.dst)) = some d → At Ts j w (a.tmps.getD d undef)

/-- the walk in the order of the text. -/
def Lex (P : Program) (ops : List Oper) (C : World → Prop) (a0 : Act) (Fin : Act → World → Prop) : List Oper → List (World → Value → Prop) → Prop
  | [], Ts => ∀ a w, C w → Same ops a0 a → (∀ j d, ((ops[j]?).bind (·.dst)) = some d → At Ts j w (a.tmps.getD d undef)) → Fin a w
  | o :: rest, Ts => ∃ R : World → Value → Prop, (∀ w w' v, R w v → Below w.heap.size w w' → R w' v) ∧
      (∀ a w, C w → Same ops a0 a → Met ops Ts o a w → Does P o a w R) ∧ Lex P ops C a0 Fin rest (Ts ++ [R])

/-- the form that is asked of the region: no guards, each operation writes a slot of its own, and waits for earlier ones alone. -/
def relB (ops : List Oper) (n : Nat) : Bool :=
  (ops.all fun o => o.guard.isNone && o.dst.isSome && decide (o.dst.getD n < n)) && decide ((ops.map (·.dst)).Nodup) &&
  (List.range ops.length).all fun i => ((ops[i]?).map fun o => o.after.all fun e => decide (e.on < i)).getD true

theorem lex_all {P : Program} {ops : List Oper} {C : World → Prop} {a0 : Act} {Fin : Act → World → Prop} :
    ∀ (l : List Oper) (Ts : List (World → Value → Prop)), Lex P ops C a0 Fin l Ts →
    ∃ Us : List (World → Value → Prop), Us.length = Ts.length + l.length ∧ Us.take Ts.length = Ts ∧
      (∀ k o, l[k]? = some o → (∀ w w' v, At Us (Ts.length + k) w v → Below w.heap.size w w' → At Us (Ts.length + k) w' v) ∧
        ∀ a w, C w → Same ops a0 a → Met ops (Us.take (Ts.length + k)) o a w → Does P o a w (At Us (Ts.length + k))) ∧
      ∀ a w, C w → Same ops a0 a → (∀ j d, ((ops[j]?).bind (·.dst)) = some d → At Us j w (a.tmps.getD d undef)) → Fin a w
  | [], Ts, h => ⟨Ts, by simp, by simp, fun k o hk => by simp at hk, h⟩
  | o :: rest, Ts, ⟨R, hst, hdo, hl⟩ => by
    obtain ⟨Us, h1, h2, h3, h4⟩ := lex_all rest (Ts ++ [R]) hl
    have hlen : (Ts ++ [R]).length = Ts.length + 1 := by simp
    rw [hlen] at h1 h2 h3
    have hget : Us[Ts.length]? = some R := by
      have e : (Us.take (Ts.length + 1))[Ts.length]? = some R := by rw [h2]; simp
      rw [List.getElem?_take, if_pos (by omega)] at e
      exact e
    have htake : Us.take Ts.length = Ts := by
      have e : (Us.take (Ts.length + 1)).take Ts.length = Ts := by rw [h2]; simp
      rw [List.take_take, Nat.min_eq_left (by omega)] at e
      exact e
    refine ⟨Us, by simp at h1 ⊢; omega, htake, fun k o' hk => ?_, h4⟩
    cases k with
    | zero =>
      simp only [List.getElem?_cons_zero, Option.some.injEq] at hk
      subst hk
      have hA : At Us (Ts.length + 0) = R := by simp [At, hget]
      rw [hA, Nat.add_zero, htake]
      exact ⟨hst, hdo⟩
    | succ k =>
      have := h3 k o' (by simpa using hk)
      rw [show Ts.length + 1 + k = Ts.length + (k + 1) by omega] at this
      exact this

theorem getD_put {a : Act} {d s : Nat} {v : Value} (h : d < a.tmps.size) : (a.put (some d) v).tmps.getD s undef = if s = d then v else a.tmps.getD s undef := by
  simp only [Act.put]
  by_cases hs : s = d
  · subst hs
    simp [h]
  · rw [if_neg hs]
    simp [Array.getElem?_setIfInBounds, Ne.symm hs]

/-- how many have not come up yet. -/
def left (ops : List Oper) (listed : Array Bool) : Nat := (List.range ops.length).countP fun i => !listed.getD i true

theorem countP_le {p q : Nat → Bool} (h : ∀ k, q k = true → p k = true) : ∀ (L : List Nat), L.countP q ≤ L.countP p
  | [] => Nat.le_refl _
  | x :: L => by
    have ih := countP_le h L
    rw [List.countP_cons, List.countP_cons]
    cases hq : q x with
    | true => rw [h x hq]; simpa using ih
    | false => simp only [Bool.false_eq_true, if_false]; omega

theorem countP_less {p q : Nat → Bool} (h : ∀ k, q k = true → p k = true) {i : Nat} (hp : p i = true) (hq : q i = false) : ∀ (L : List Nat), i ∈ L → L.countP q + 1 ≤ L.countP p
  | x :: L, hi => by
    rw [List.countP_cons, List.countP_cons]
    by_cases hx : x = i
    · subst hx
      have := countP_le h L
      rw [hp, hq]
      simp only [Bool.false_eq_true, if_false, if_true]
      omega
    · have ih := countP_less h hp hq L (by
        rcases List.mem_cons.1 hi with e | e
        · exact absurd e.symm hx
        · exact e)
      cases hqx : q x with
      | true => rw [h x hqx]; simp only [if_true]; omega
      | false => simp only [Bool.false_eq_true, if_false]; omega

theorem left_set {ops : List Oper} {listed : Array Bool} {i : Nat} (hi : i < ops.length) (hl : listed.getD i true = false) : left ops (listed.setIfInBounds i true) + 1 ≤ left ops listed := by
  unfold left
  have hsz : i < listed.size := by
    rcases Nat.lt_or_ge i listed.size with h | h
    · exact h
    · simp [Array.getElem?_eq_none h] at hl
  refine countP_less (i := i) (fun k hk => ?_) (by rw [hl]; rfl) (by simp [hsz]) _ (List.mem_range.2 hi)
  by_cases hki : k = i
  · subst hki
    rw [hl]
    rfl
  · have e : (listed.setIfInBounds i true).getD k true = listed.getD k true := by simp [Array.getElem?_setIfInBounds, Ne.symm hki]
    rw [e] at hk
    exact hk

set_option maxHeartbeats 400000 in
theorem wpAny_rel {P : Program} {l : List Oper} {C : World → Prop} {a0 : Act} {Q : Exit → Act → World → Prop} (hB : relB l a0.tmps.size = true) (hC : ∀ w w', C w → Below w.heap.size w w' → C w')
    (Us : List (World → Value → Prop))
    (hU : ∀ k o, l[k]? = some o → (∀ w w' v, At Us k w v → Below w.heap.size w w' → At Us k w' v) ∧ ∀ a w, C w → Same l a0 a → Met l (Us.take k) o a w → Does P o a w (At Us k))
    (hF : ∀ a w, C w → Same l a0 a → (∀ j d, ((l[j]?).bind (·.dst)) = some d → At Us j w (a.tmps.getD d undef)) → Q .normal a w) :
    ∀ (fuel : Nat) (listed : Array Bool) (a : Act) (w : World), listed.size = l.length → left l listed ≤ fuel → C w → Same l a0 a →
      (∀ j d, listed.getD j false = true → ((l[j]?).bind (·.dst)) = some d → At Us j w (a.tmps.getD d undef)) → wpAny P .any l.toArray Q fuel listed a w := by
  simp only [relB, Bool.and_eq_true, List.all_eq_true, decide_eq_true_eq] at hB
  obtain ⟨⟨hB1, hB2⟩, hB3⟩ := hB
  -- nothing may come up: all have come up
  have hall : ∀ (listed : Array Bool) (a : Act) (w : World), listed.size = l.length → Region.ready .any l.toArray listed = [] → C w → Same l a0 a →
      (∀ j d, listed.getD j false = true → ((l[j]?).bind (·.dst)) = some d → At Us j w (a.tmps.getD d undef)) → Q .normal a w := by
    intro listed a w hs hr hc hsame hT
    have hl : ∀ i, i < l.length → listed.getD i false = true := by
      intro i
      induction i using Nat.strongRecOn with
      | _ i ih =>
        intro hi
        cases hq : listed.getD i true with
        | true =>
          have : i < listed.size := by omega
          simpa [this] using hq
        | false =>
          have hmem : i ∈ Region.ready .any l.toArray listed := by
            refine mem_ready.2 ⟨hq, l[i], by simp [hi], fun e he hb => ?_⟩
            have h3 := hB3 i (List.mem_range.2 hi)
            rw [List.getElem?_eq_getElem hi] at h3
            simp only [Option.map_some, Option.getD_some, Array.all_eq_true_iff_forall_mem, decide_eq_true_eq] at h3
            exact ih e.on (h3 e he) (by have := h3 e he; omega)
          rw [hr] at hmem
          cases hmem
    refine hF a w hc hsame fun j d hj => hT j d (hl j ?_) hj
    rcases Nat.lt_or_ge j l.length with h | h
    · exact h
    · rw [List.getElem?_eq_none h] at hj
      cases hj
  intro fuel
  induction fuel with
  | zero =>
    intro listed a w hs hleft hc hsame hT
    have hr : Region.ready .any l.toArray listed = [] := by
      unfold left at hleft
      have h0 := List.countP_eq_zero.1 (Nat.le_zero.1 hleft)
      apply List.eq_nil_iff_forall_not_mem.2
      intro i hi
      obtain ⟨hu, o, ho, _⟩ := mem_ready.1 hi
      have hlt : i < l.length := by
        have := (Array.getElem?_eq_some_iff.1 ho).1
        simpa using this
      exact h0 i (List.mem_range.2 hlt) (by rw [hu]; rfl)
    exact ⟨hr, hall listed a w hs hr hc hsame hT⟩
  | succ fuel ih =>
    intro listed a w hs hleft hc hsame hT
    refine ⟨fun hr => hall listed a w hs hr hc hsame hT, fun i hi => ?_⟩
    obtain ⟨hu, o, ho, hdep⟩ := mem_ready.1 hi
    have hlt : i < l.length := by
      have := (Array.getElem?_eq_some_iff.1 ho).1
      simpa using this
    have hol : l[i]? = some o := by simpa using ho
    have hmem : o ∈ l := List.mem_of_getElem? hol
    have h1 := hB1 o hmem
    obtain ⟨⟨hg, hd⟩, hdl⟩ := h1
    have hgn : o.guard = none := by simpa using hg
    obtain ⟨d, hd⟩ := Option.isSome_iff_exists.1 hd
    rw [hd, Option.getD_some] at hdl
    obtain ⟨hst, hdo⟩ := hU i o hol
    have hmet : Met l (Us.take i) o a w := by
      intro j d' haf hj
      obtain ⟨e, he', hee⟩ := List.any_eq_true.1 haf
      have he : e ∈ o.after := by simpa using he'
      simp only [Bool.and_eq_true, beq_iff_eq] at hee
      have hlt' : e.on < i := by
        have h3 := hB3 i (List.mem_range.2 hlt)
        rw [hol] at h3
        simp only [Option.map_some, Option.getD_some, Array.all_eq_true_iff_forall_mem, decide_eq_true_eq] at h3
        exact h3 e he
      have hl1 := hdep e he hee.2
      rw [hee.1] at hl1 hlt'
      have := hT j d' hl1 hj
      unfold At at this ⊢
      rw [List.getElem?_take, if_pos hlt']
      exact this
    unfold wpOp
    simp only [ho]
    rw [if_pos (by simp [Region.wanted, hgn])]
    refine .inl (Oper.wp_mono ?_ (hdo a w hc hsame hmet).wp)
    rintro a' w' ⟨hb, v, rfl, hR⟩
    have hda : d < a.tmps.size := by rw [hsame.size]; exact hdl
    rw [hd]
    refine ih _ _ _ (by simp [hs]) ?_ (hC _ _ hc hb) ?_ ?_
    · have := left_set (listed := listed) hlt hu
      omega
    · refine ⟨by simp [Act.put, hsame.size], by simp [Act.put, hsame.defers], fun s hsb => ?_⟩
      rw [getD_put hda]
      have hne : s ≠ d := by
        rintro rfl
        have h2 := List.all_eq_true.1 hsb o hmem
        simp [hd] at h2
      rw [if_neg hne]
      exact hsame.base s hsb
    · intro j d' hj hjd
      rw [getD_put hda]
      by_cases hji : j = i
      · subst hji
        rw [hol] at hjd
        simp only [Option.bind_some, hd, Option.some.injEq] at hjd
        rw [if_pos hjd.symm]
        exact hR
      · have hne : d' ≠ d := by
          rintro rfl
          apply hji
          obtain ⟨o', ho', hd'⟩ := Option.bind_eq_some_iff.1 hjd
          have hj1 : j < (l.map (·.dst)).length := by
            have := (List.getElem?_eq_some_iff.1 ho').1
            simpa using this
          have hi1 : i < (l.map (·.dst)).length := by simpa using hlt
          have e1 : (l.map (·.dst))[j]? = some (some d') := by rw [List.getElem?_map, ho', Option.map_some, hd']
          have e2 : (l.map (·.dst))[i]? = some (some d') := by rw [List.getElem?_map, hol, Option.map_some, hd]
          exact (List.getElem?_inj hj1 hB2).1 (e1.trans e2.symm)
        rw [if_neg hne]
        have hlj : listed.getD j false = true := by
          simpa [Array.getElem?_setIfInBounds, Ne.symm hji] using hj
        have hstj := (hU j ((Option.bind_eq_some_iff.1 hjd).choose) (Option.bind_eq_some_iff.1 hjd).choose_spec.1).1
        exact hstj _ _ _ (hT j d' hlj hjd) hb

/-- A region that draws its order: the walk in the order of the text serves every order. -/
theorem wp_region_rel {P : Program} {id : Nat} {l : List Oper} {C : World → Prop} {Q : Exit → Act → World → Prop} {a : Act} {w : World} (hm : P.follows .mixedOrders = true) (hB : relB l a.tmps.size = true)
    (hC : ∀ w w', C w → Below w.heap.size w w' → C w') (hw : C w) (h : Lex P l C a (fun a' w' => Q .normal a' w') l []) : (Code.region id l.toArray true).wp P Q a w := by
  obtain ⟨Us, h1, h2, h3, h4⟩ := lex_all l [] h
  refine wp_region_any hm ?_
  refine wpAny_rel hB hC Us (fun k o hk => ?_) h4 _ _ _ _ (by simp) ?_ (hC _ _ hw ((Below.refl _ _).drew)) ⟨rfl, rfl, fun s _ => rfl⟩ ?_
  · have := h3 k o hk
    simpa using this
  · unfold left
    refine Nat.le_trans List.countP_le_length (by simp)
  · intro j d hj hjd
    exfalso
    rw [Array.getD_eq_getD_getElem?, Array.getElem?_replicate] at hj
    split at hj <;> simp at hj

/-! The walk's laws: what is known of the values lies in a list, the last one first. -/
def LexR (P : Program) (ops : List Oper) (C : World → Prop) (a0 : Act) (Fin : Act → World → Prop) (l : List Oper) (rs : List (World → Value → Prop)) : Prop := Lex P ops C a0 Fin l rs.reverse
def MetR (ops : List Oper) (rs : List (World → Value → Prop)) (o : Oper) (a : Act) (w : World) : Prop := Met ops rs.reverse o a w
def AtR (rs : List (World → Value → Prop)) (j : Nat) : World → Value → Prop := (rs.drop (rs.length - 1 - j)).headD fun _ _ => True

theorem at_rev {rs : List (World → Value → Prop)} {j : Nat} (h : Nat.ble (j + 1) rs.length = true) : At rs.reverse j = AtR rs j := by
  have hj : j < rs.length := Nat.le_of_ble_eq_true h
  unfold At AtR
  rw [List.getElem?_reverse hj, List.headD_eq_head?_getD, List.head?_drop]

section
variable {P : Program} {ops : List Oper} {C : World → Prop} {a0 : Act} {Fin : Act → World → Prop} {o : Oper} {rest : List Oper} {rs : List (World → Value → Prop)}

theorem MetR.rel {a : Act} {w : World} (h : MetR ops rs o a w) (j d : Nat) {R : World → Value → Prop} (hj : Nat.ble (j + 1) rs.length = true) (haf : (o.after.toList.any fun e => e.on == j && Region.binds .any e) = true) (hd : ((ops[j]?).bind (·.dst)) = some d) (hT : AtR rs j = R) : R w (a.eval (.tmp d)) := by
  have := h j d haf hd
  rw [at_rev hj, hT] at this
  exact this
theorem MetR.val {a : Act} {w : World} (h : MetR ops rs o a w) (j d : Nat) {c : Value} (hj : Nat.ble (j + 1) rs.length = true) (haf : (o.after.toList.any fun e => e.on == j && Region.binds .any e) = true) (hd : ((ops[j]?).bind (·.dst)) = some d) (hT : AtR rs j = fun _ v => v = c) : a.eval (.tmp d) = c :=
  h.rel j d hj haf hd hT

/-- one value, in whatever world, the world left as it is. -/
theorem lex_val (c : Value) (h : ∀ a w, C w → Same ops a0 a → MetR ops rs o a w → (execOp a.eval o).run P w = .ok (.value c) w) (hn : LexR P ops C a0 Fin rest ((fun _ v => v = c) :: rs)) : LexR P ops C a0 Fin (o :: rest) rs := by
  refine ⟨fun _ v => v = c, fun _ _ _ h _ => h, fun a w hc hs hm => ?_, by simpa [LexR] using hn⟩
  unfold Does
  rw [h a w hc hs hm]
  exact ⟨Below.refl _ _, rfl⟩
theorem lex_move (s : Nat) {c : Value} (ho : o.op = .move (.tmp s)) (hs : (ops.all fun o => o.dst != some s) = true) (hv : a0.tmps.getD s undef = c) (hn : LexR P ops C a0 Fin rest ((fun _ v => v = c) :: rs)) : LexR P ops C a0 Fin (o :: rest) rs :=
  lex_val c (fun a w _ hS _ => by rw [BigFrame.run_move (.tmp s) ho]; exact congrArg (fun v => Result.ok (Next.value v) w) ((hS.base s hs).trans hv)) hn
theorem lex_assign (j d : Nat) {c : Value} (ho : o.op = .assign (.tmp d)) (hj : Nat.ble (j + 1) rs.length = true) (haf : (o.after.toList.any fun e => e.on == j && Region.binds .any e) = true) (hd : ((ops[j]?).bind (·.dst)) = some d) (hT : AtR rs j = fun _ v => v = c)
    (hn : LexR P ops C a0 Fin rest ((fun _ v => v = c) :: rs)) : LexR P ops C a0 Fin (o :: rest) rs :=
  lex_val _ (fun a w _ hS hM => by rw [BigFrame.run_assign (.tmp d) ho, hM.val j d hj haf hd hT]) hn
/-- a value of which something is known, in a later world. -/
theorem lex_make (R : World → Value → Prop) (hst : ∀ w w' v, R w v → Below w.heap.size w w' → R w' v)
    (h : ∀ a w, C w → Same ops a0 a → MetR ops rs o a w → ∃ v w', (execOp a.eval o).run P w = .ok (.value v) w' ∧ Below w.heap.size w w' ∧ R w' v) (hn : LexR P ops C a0 Fin rest (R :: rs)) : LexR P ops C a0 Fin (o :: rest) rs := by
  refine ⟨R, hst, fun a w hc hs hm => ?_, by simpa [LexR] using hn⟩
  obtain ⟨v, w', e, hb, hR⟩ := h a w hc hs hm
  unfold Does
  rw [e]
  exact ⟨hb, hR⟩
/-- a call that answers one value. -/
theorem lex_call (c : Value) (f : FuncId)
    (h : ∀ a w, C w → Same ops a0 a → MetR ops rs o a w → ∃ args, (execOp a.eval o).run P w = .ok (.enter f args) w ∧ Calls P f args w fun e w' => e = .returned c ∧ Below w.heap.size w w')
    (hn : LexR P ops C a0 Fin rest ((fun _ v => v = c) :: rs)) : LexR P ops C a0 Fin (o :: rest) rs := by
  refine ⟨fun _ v => v = c, fun _ _ _ h _ => h, fun a w hc hs hm => ?_, by simpa [LexR] using hn⟩
  obtain ⟨args, e, hcall⟩ := h a w hc hs hm
  unfold Does
  rw [e]
  exact ⟨Below.refl _ _, hcall.mono fun e w' ⟨he, hb⟩ => ⟨c, he, hb, rfl⟩⟩
/-- the end. -/
theorem lex_end (h : ∀ a w, C w → Same ops a0 a → (∀ j d, Nat.ble (j + 1) rs.length = true → ((ops[j]?).bind (·.dst)) = some d → AtR rs j w (a.eval (.tmp d))) → Fin a w) : LexR P ops C a0 Fin [] rs := by
  intro a w hc hS hall
  refine h a w hc hS fun j d hj hd => ?_
  have := hall j d hd
  rw [at_rev hj] at this
  exact this
end

theorem wp_region_lex {P : Program} {id : Nat} {l : List Oper} {C : World → Prop} {Q : Exit → Act → World → Prop} {a : Act} {w : World} (hm : P.follows .mixedOrders = true) (hB : relB l a.tmps.size = true)
    (hC : ∀ w w', C w → Below w.heap.size w w' → C w') (hw : C w) (h : LexR P l C a (fun a' w' => Q .normal a' w') l []) : (Code.region id l.toArray true).wp P Q a w := wp_region_rel hm hB hC hw h
end Go.Proofs.Ytgckondfcmmklaa
