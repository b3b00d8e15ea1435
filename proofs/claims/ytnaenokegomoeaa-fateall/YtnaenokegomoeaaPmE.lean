/-
  The program's device (layer 5): step, whatever is done in it.
-/
import Derived.Test.YtnaenokegomoeaaPmD
namespace Go.Proofs.Ytnaenokegomoeaa
set_option linter.unusedVariables false
set_option linter.unusedSimpArgs false
open Go.RowKit

set_option maxHeartbeats 1000000 in
theorem pstep_x {w : World} {b : Nat} {s : Pm.D} {F : Nat → Prop} {g0 g1 c1 gm n : Nat} {tl : List Value} {M : DataW Unit} {pa : Option Addr} {pc : Nat} {laid : Int} (h : PX w b s F g0 g1 c1 gm n tl M pa pc laid) (t : Bool) (f : FuncId) (cap : Array Value) (ws' : List Pm.W) (m : Nat) (hf : ∀ args w, (callFunc f args).run Try.prog w = .ok (.enter f args) w) (hm : ws'.length ≤ 40000) (hp : s.plan.length ≤ 40000) (hst : s.steps ≤ 1000000) (hnm : n ≤ m)
    (hc : refuse s t = 0 → Calls Try.prog f cap w fun e w1 => e = .returned (.tuple #[]) ∧ PMid w b { s with ws := ws' } F m w1) :
    Calls Try.prog 43 #[.pointer (some ⟨b, 0, none⟩), .bool t, .func (.func f) #[] cap] w fun e w' => e = .returned (.int .i64 (refuse s t)) ∧ PMid w b (if refuse s t = 0 then Pm.step s ws' else s) F m w' := by
  have HR := hide (prefuse_x h t)
  by_cases hr : refuse s t = 0
  · have HC := hide (hc hr)
    rw [if_pos hr, hr]
    rw [hr] at HR
    clear h hc hr
    go_enter Try.func43, Try.ntmps43
    go_wp2_with (go_at_call 65; refine HR.out.mono ?_; rintro e w1 ⟨rfl, hw⟩; obtain rfl := hw.symm)
    refine HC.out.mono ?_
    rintro e w1 ⟨rfl, F1, ⟨g0', g1', c1', gm', n', tl', M', pa', pc', laid', h1, hn1⟩, hG1, hS1, hO1⟩
    have HF := hide (pfollow_x h1 hm hp hst)
    have HN1 := hide hn1
    have HG1 := hide hG1
    have HS1 := hide hS1
    have HO1 := hide hO1
    have HB1 := hide h1.mine.1
    clear h1 hn1 hG1 hS1 hO1
    go_wp2_with (first
      | (go_at_call 66; refine HF.out.mono ?_; rintro e w2 ⟨rfl, ⟨M2, h2⟩, ho2⟩; have HC2 := hide h2.count; have y3 := h2.fields.2.2.2.1; have z3 := h2.free 3; have HO2 := hide ho2; simp only at y3; clear h2 ho2)
      | (go_at_call 67; refine (pspend_x HC2.out).mono ?_; rintro e w3 ⟨rfl, h3, ho3⟩; have HD3 := hide h3; have HO3 := hide ho3; clear h3 ho3))
    go_ret
    have ho := HO2.out.trans (((Only.refl F1 w2).setCell (p := ⟨b, 3, none⟩) HB1.out (.int .i64 ((s.steps : Int) + 1))).trans HO3.out)
    refine ⟨rfl, F1, ⟨g0', g1', c1', gm', n', tl', M2, pa', pc', laid', ?_, HN1.out⟩, ?_, HS1.out, HO1.out.trans' ho (fun k hk => (HG1.out k hk).imp id And.left)⟩
    · unfold Pm.step
      exact HD3.out
    · intro k hk
      rcases HG1.out k hk with h | ⟨h, h'⟩
      · exact .inl h
      · exact .inr ⟨h, Nat.lt_of_lt_of_le h' ho.size⟩
  · have HD := hide (h.mid (Only.refl F w) hnm)
    rw [if_neg hr]
    clear h hc
    generalize refuse s t = x at *
    go_enter Try.func43, Try.ntmps43
    go_wp2_with (go_at_call 65; refine HR.out.mono ?_; rintro e w1 ⟨rfl, hw⟩; obtain rfl := hw.symm)
    go_ret
    exact ⟨rfl, HD.out⟩
end Go.Proofs.Ytnaenokegomoeaa
