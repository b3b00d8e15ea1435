/-
  The program's device (layer 5): Lines, Steps, Up, hasWord, hasLine, refusal, Load, spend, Arm.
-/
import Derived.Test.YtnaenokegomoeaaPmA
namespace Go.Proofs.Ytnaenokegomoeaa
set_option linter.unusedVariables false
set_option linter.unusedSimpArgs false
open Go.RowKit

theorem beq_dec (x y : Int) : (x == y) = decide (x = y) := by by_cases h : x = y <;> simp [h]

theorem plines_x {w : World} {b : Nat} {s : Pm.D} {F : Nat → Prop} {g0 g1 c1 gm n : Nat} {tl : List Value} {M : DataW Unit} {pa : Option Addr} {pc : Nat} {laid : Int} (h : PX w b s F g0 g1 c1 gm n tl M pa pc laid) (hm : s.ws.length ≤ 40000) : Calls Try.prog 35 #[.pointer (some ⟨b, 0, none⟩)] w fun e w' => e = .returned (.int .i64 (s.ws.length / 8 : Nat)) ∧ w' = w := by
  obtain ⟨f0, f1, f2, f3, f4, f5, f6, f7⟩ := h.fields
  clear h
  generalize s.ws.length = N at *
  have hq : ((N / 8 : Nat) : Int) = (N : Int) / 8 := by omega
  have HQ := hide hq
  clear hq
  go_enter Try.func35, Try.ntmps35
  go_wp2
  go_ret
  exact ⟨by rw [HQ.out]; rfl, rfl⟩

/-- is there such a word, or line? -/
def isAt (a : Int) (n : Nat) : Bool := decide (0 ≤ a ∧ a < (n : Int))

theorem phas_x {w : World} {b : Nat} {s : Pm.D} {F : Nat → Prop} {g0 g1 c1 gm n : Nat} {tl : List Value} {M : DataW Unit} {pa : Option Addr} {pc : Nat} {laid : Int} (h : PX w b s F g0 g1 c1 gm n tl M pa pc laid) (a : Int) : Calls Try.prog 44 #[.pointer (some ⟨b, 0, none⟩), .int .i64 a] w fun e w' => e = .returned (.bool (isAt a s.ws.length)) ∧ w' = w := by
  obtain ⟨f0, f1, f2, f3, f4, f5, f6, f7⟩ := h.fields
  clear h
  rcases (show (¬ 0 ≤ a ∧ isAt a s.ws.length = false) ∨ (0 ≤ a ∧ ¬ a < (s.ws.length : Int) ∧ isAt a s.ws.length = false) ∨ (0 ≤ a ∧ a < (s.ws.length : Int) ∧ isAt a s.ws.length = true) by
    unfold isAt
    by_cases h1 : 0 ≤ a
    · by_cases h2 : a < (s.ws.length : Int)
      · simp [h1, h2]
      · simp [h1, h2]
    · simp [h1]) with ⟨k1, k⟩ | ⟨k1, k2, k⟩ | ⟨k1, k2, k⟩
  all_goals
    have HK := hide k
    clear k
    go_enter Try.func44, Try.ntmps44
    go_wp2
    go_ret
    exact ⟨by rw [HK.out]; first | rfl | simp [k2], rfl⟩

theorem pline_x {w : World} {b : Nat} {s : Pm.D} {F : Nat → Prop} {g0 g1 c1 gm n : Nat} {tl : List Value} {M : DataW Unit} {pa : Option Addr} {pc : Nat} {laid : Int} (h : PX w b s F g0 g1 c1 gm n tl M pa pc laid) (hm : s.ws.length ≤ 40000) (a : Int) : Calls Try.prog 46 #[.pointer (some ⟨b, 0, none⟩), .int .i64 a] w fun e w' => e = .returned (.bool (isAt a (s.ws.length / 8))) ∧ w' = w := by
  have HL := hide (plines_x h hm)
  clear h
  rcases (show (¬ 0 ≤ a ∧ isAt a (s.ws.length / 8) = false) ∨ (0 ≤ a ∧ ¬ a < ((s.ws.length / 8 : Nat) : Int) ∧ isAt a (s.ws.length / 8) = false) ∨ (0 ≤ a ∧ a < ((s.ws.length / 8 : Nat) : Int) ∧ isAt a (s.ws.length / 8) = true) by
    unfold isAt
    generalize s.ws.length / 8 = N
    by_cases h1 : 0 ≤ a
    · by_cases h2 : a < (N : Int)
      · simp [h1, h2]
      · simp [h1, h2]
    · simp [h1]) with ⟨k1, k⟩ | ⟨k1, k2, k⟩ | ⟨k1, k2, k⟩
  all_goals
    have HK := hide k
    clear k
    generalize s.ws.length / 8 = N at *
    go_enter Try.func46, Try.ntmps46
    go_wp2_with (go_at_call 35; refine HL.out.mono ?_; rintro e w1 ⟨rfl, hw⟩; obtain rfl := hw.symm)
    go_ret
    exact ⟨by rw [HK.out]; first | rfl | simp [k2], rfl⟩

/-- why nothing is done. -/
def refuse (s : Pm.D) (t : Bool) : Int := if s.left = 0 then 3 else if t = true then 0 else 2
theorem refuse_err (s : Pm.D) (a : Int) (n : Nat) : refuse s (isAt a n) = Pm.err s a n := by
  unfold refuse Pm.err isAt
  by_cases h1 : s.left = 0
  · rw [if_pos h1, if_pos h1]
  · rw [if_neg h1, if_neg h1]
    by_cases h2 : a < 0 ∨ (n : Int) ≤ a
    · rw [if_neg (by simp; omega), if_pos h2]
    · rw [if_pos (by simp; omega), if_neg h2]

theorem prefuse_x {w : World} {b : Nat} {s : Pm.D} {F : Nat → Prop} {g0 g1 c1 gm n : Nat} {tl : List Value} {M : DataW Unit} {pa : Option Addr} {pc : Nat} {laid : Int} (h : PX w b s F g0 g1 c1 gm n tl M pa pc laid) (t : Bool) : Calls Try.prog 65 #[.pointer (some ⟨b, 0, none⟩), .bool t] w fun e w' => e = .returned (.int .i64 (refuse s t)) ∧ w' = w := by
  obtain ⟨f0, f1, f2, f3, f4, f5, f6, f7⟩ := h.fields
  clear h
  rcases (show (decide (s.left = 0) = true ∧ refuse s t = 3) ∨ (decide (s.left = 0) = false ∧ t = true ∧ refuse s t = 0) ∨ (decide (s.left = 0) = false ∧ t = false ∧ refuse s t = 2) by
    unfold refuse
    by_cases h1 : s.left = 0
    · simp [h1]
    · cases t <;> simp [h1]) with ⟨k1, k⟩ | ⟨k1, k2, k⟩ | ⟨k1, k2, k⟩
  all_goals
    have HK := hide k
    clear k
    rw [k1] at f4
    clear k1
    try subst k2
    go_enter Try.func65, Try.ntmps65
    go_wp2
    go_ret
    exact ⟨by rw [HK.out]; rfl, rfl⟩

theorem pload_x {w : World} {b : Nat} {s : Pm.D} {F : Nat → Prop} {g0 g1 c1 gm n : Nat} {tl : List Value} {M : DataW Unit} {pa : Option Addr} {pc : Nat} {laid : Int} (h : PX w b s F g0 g1 c1 gm n tl M pa pc laid) (a : Int) (hm : s.ws.length ≤ 40000) (ha : (Lit.int .i64 a).wf = true) :
    Calls Try.prog 50 #[.pointer (some ⟨b, 0, none⟩), .int .i64 a] w fun e w' => e = .returned (.tuple #[.int .u64 (Pm.load s a), .int .i64 (Pm.err s a s.ws.length)]) ∧ w' = w := by
  have H1 := hide (phas_x h a)
  have H2 := hide (prefuse_x h (isAt a s.ws.length))
  rw [refuse_err] at H2
  obtain ⟨f0, f1, f2, f3, f4, f5, f6, f7⟩ := h.fields
  by_cases he : Pm.err s a s.ws.length = 0
  · obtain ⟨e1, e2, e3⟩ := Pm.err_at he
    have hk := (cell_blkT h.k1 (i := a.toNat) (by rw [storedL_len]; exact e3)).1
    have hst : (Pm.storedL s.ws).getD a.toNat 0 = (s.ws.getD a.toNat (Pm.still 0)).stored := by simp [Pm.storedL, e3]
    have hv : Pm.load s a = (s.ws.getD a.toNat (Pm.still 0)).stored := by unfold Pm.load; rw [if_pos he]
    rw [hst, ← hv] at hk
    have hlt : a < (s.ws.length : Int) := by omega
    clear h hst hv
    rw [he] at H2 ⊢
    clear he
    generalize isAt a s.ws.length = t at *
    generalize Pm.load s a = v at *
    obtain ⟨i, rfl⟩ : ∃ i : Nat, a = i := ⟨a.toNat, by omega⟩
    rw [Int.toNat_natCast] at hk e3
    generalize s.ws.length = N at *
    go_enter Try.func50, Try.ntmps50
    go_wp2_with (first
      | (go_at_call 44; refine H1.out.mono ?_; rintro e w1 ⟨rfl, hw⟩; obtain rfl := hw.symm)
      | (go_at_call 65; refine H2.out.mono ?_; rintro e w1 ⟨rfl, hw⟩; obtain rfl := hw.symm))
    go_ret2
    exact ⟨rfl, rfl⟩
  · have hv : Pm.load s a = 0 := by unfold Pm.load; rw [if_neg he]
    rw [hv]
    clear h hv
    generalize isAt a s.ws.length = t at *
    generalize Pm.err s a s.ws.length = x at *
    go_enter Try.func50, Try.ntmps50
    go_wp2_with (first
      | (go_at_call 44; refine H1.out.mono ?_; rintro e w1 ⟨rfl, hw⟩; obtain rfl := hw.symm)
      | (go_at_call 65; refine H2.out.mono ?_; rintro e w1 ⟨rfl, hw⟩; obtain rfl := hw.symm))
    go_ret2
    exact ⟨rfl, rfl⟩

/-- the steps and the power behind a step. -/
theorem PX.count {w : World} {b : Nat} {s : Pm.D} {F : Nat → Prop} {g0 g1 c1 gm n : Nat} {tl : List Value} {M : DataW Unit} {pa : Option Addr} {pc : Nat} {laid : Int} (h : PX w b s F g0 g1 c1 gm n tl M pa pc laid) : PX (w.setCell ⟨b, 3, none⟩ (.int .i64 ((s.steps : Int) + 1))) b ⟨s.ws, s.plan, s.since + 1, s.left, s.steps + 1⟩ F g0 g1 c1 gm n tl M pa pc laid := by
  have e1 := heap_set h.dev 3 (.int .i64 ((s.steps : Int) + 1))
  refine h.turn (by simp [World.setCell]) (fun k hk _ => by rw [heap_set_other hk]) ?_ rfl rfl (Nat.le_succ _) ?_ ⟨h.ok.ws, h.ok.plan, h.ok.left, by have := h.ok.since; simp; omega⟩
  · rw [e1]; rfl
  · rcases h.lay with h0 | h0
    · exact .inl h0
    · exact .inr (by simp; omega)
theorem PX.power {w : World} {b : Nat} {s : Pm.D} {F : Nat → Prop} {g0 g1 c1 gm n : Nat} {tl : List Value} {M : DataW Unit} {pa : Option Addr} {pc : Nat} {laid : Int} (h : PX w b s F g0 g1 c1 gm n tl M pa pc laid) (hl : 0 < s.left) : PX ((w.setCell ⟨b, 5, none⟩ (.int .i64 (s.left - 1))).setCell ⟨b, 4, none⟩ (.bool (decide (s.left - 1 = 0)))) b ⟨s.ws, s.plan, s.since, s.left - 1, s.steps⟩ F g0 g1 c1 gm n tl M pa pc laid := by
  have e1 := heap_set h.dev 5 (.int .i64 (s.left - 1))
  have e2 := heap_set e1 4 (.bool (decide (s.left - 1 = 0)))
  refine h.turn (by simp [World.setCell]) (fun k hk _ => by rw [heap_set_other hk, heap_set_other hk]) ?_ rfl rfl (Nat.le_refl _) h.lay ⟨h.ok.ws, h.ok.plan, by have := h.ok.left; exact ⟨by simp; omega, by simp; omega⟩, h.ok.since⟩
  rw [e2]
  have hq : (if 0 < s.left - 1 then s.left - 1 else 0) = s.left - 1 := by split <;> omega
  show _ = some (Obj.cells #[_, _, _, _, _, .int .i64 (if 0 < s.left - 1 then s.left - 1 else 0), _, _] _ _)
  rw [hq]
  rfl

theorem pspend_x {w : World} {b : Nat} {s : Pm.D} {F : Nat → Prop} {g0 g1 c1 gm n : Nat} {tl : List Value} {M : DataW Unit} {pa : Option Addr} {pc : Nat} {laid : Int} (h : PX w b s F g0 g1 c1 gm n tl M pa pc laid) :
    Calls Try.prog 67 #[.pointer (some ⟨b, 0, none⟩)] w fun e w' => e = .returned (.tuple #[]) ∧ PX w' b ⟨s.ws, s.plan, s.since, if 0 < s.left then s.left - 1 else s.left, s.steps⟩ F g0 g1 c1 gm n tl M pa pc laid ∧ Only F w w' := by
  obtain ⟨f0, f1, f2, f3, f4, f5, f6, f7⟩ := h.fields
  have z4 := h.free 4
  have z5 := h.free 5
  have HM := hide h.mine.1
  have hb := h.ok.left
  by_cases hl : 0 < s.left
  · have HP := hide (h.power hl)
    rw [if_pos hl] at f5
    rw [if_pos hl]
    clear h
    have hd : decide (s.left - 1 = 0) = (s.left - 1 == 0) := by rw [beq_dec]
    rw [hd] at HP
    generalize hx : s.left = x at *
    go_enter Try.func67, Try.ntmps67
    go_wp2
    go_end0
    exact ⟨rfl, HP.out, ((Only.refl F w).setCell HM.out _).setCell HM.out _⟩
  · rw [if_neg hl] at f5
    rw [if_neg hl]
    have HD := hide h
    clear h
    go_enter Try.func67, Try.ntmps67
    go_wp2
    go_end0
    exact ⟨rfl, HD.out, Only.refl F w⟩

theorem parm_x {w : World} {b : Nat} {s : Pm.D} {F : Nat → Prop} {g0 g1 c1 gm n : Nat} {tl : List Value} {M : DataW Unit} {pa : Option Addr} {pc : Nat} {laid : Int} (h : PX w b s F g0 g1 c1 gm n tl M pa pc laid) (a : Int) (ha : (Lit.int .i64 a).wf = true) :
    Calls Try.prog 52 #[.pointer (some ⟨b, 0, none⟩), .int .i64 a] w fun e w' => e = .returned (.tuple #[]) ∧ PX w' b (Pm.arm s a) F g0 g1 c1 gm n tl M pa pc laid ∧ Only F w w' := by
  obtain ⟨f0, f1, f2, f3, f4, f5, f6, f7⟩ := h.fields
  have z4 := h.free 4
  have z5 := h.free 5
  have HM := hide h.mine.1
  obtain ⟨a0, a1⟩ := bd_i64 ha
  unfold Pm.arm
  by_cases hl : s.left = 0
  · rw [if_pos hl]
    have hd : decide (s.left = 0) = true := by simp [hl]
    rw [hd] at f4
    have HD := hide h
    clear h
    go_enter Try.func52, Try.ntmps52
    go_wp2
    (try simp only [Exit.inBlock, Exit.then])
    refine bodyPost_ret (results_none rfl _ _ _) rfl ?_
    exact ⟨rfl, HD.out, Only.refl F w⟩
  · rw [if_neg hl]
    have hd : decide (s.left = 0) = false := by simp [hl]
    rw [hd] at f4
    obtain ⟨x, hx⟩ : ∃ x, (if a < -1 then -1 else a) = x := ⟨_, rfl⟩
    rw [hx]
    have HP : Hid (∀ m : Int, m = (if 0 < a then a else 0) → PX ((w.setCell ⟨b, 4, none⟩ (.bool (a == 0))).setCell ⟨b, 5, none⟩ (.int .i64 m)) b ⟨s.ws, s.plan, s.since, x, s.steps⟩ F g0 g1 c1 gm n tl M pa pc laid) := by
      show ∀ m, _ → _
      intro m hm
      have e1 := heap_set h.dev 4 (.bool (a == 0))
      have e2 := heap_set e1 5 (.int .i64 m)
      refine h.turn (by simp [World.setCell]) (fun k hk _ => by rw [heap_set_other hk, heap_set_other hk]) ?_ rfl rfl (Nat.le_refl _) h.lay ⟨h.ok.ws, h.ok.plan, ?_, h.ok.since⟩
      · rw [e2]
        have q1 : decide (x = 0) = (a == 0) := by rw [beq_dec]; rw [← hx]; split <;> simp <;> omega
        have q2 : (if 0 < x then x else 0) = m := by rw [hm, ← hx]; by_cases u1 : a < -1 <;> by_cases u2 : 0 < a <;> simp [u1, u2] <;> omega
        show _ = some (Obj.cells #[_, _, _, _, .bool (decide (x = 0)), .int .i64 (if 0 < x then x else 0), _, _] _ _)
        rw [q1, q2]
        rfl
      · show -1 ≤ x ∧ x ≤ 9223372036854775807
        rw [← hx]
        split <;> omega
    clear h hx
    go_enter Try.func52, Try.ntmps52
    go_wp2
    all_goals
      go_end0
      exact ⟨rfl, HP.out _ (by split <;> omega), ((Only.refl F w).setCell HM.out _).setCell HM.out _⟩
end Go.Proofs.Ytnaenokegomoeaa
