/-
  A crash, word by word (layer 5), as plain lists.
-/
import Derived.Test.YtjkiehfjbldkkaaPmLaws
namespace Go.Proofs.Ytjkiehfjbldkkaa
set_option linter.unusedVariables false
set_option linter.unusedSimpArgs false
namespace Pm

/-- the first m open words last as it is chosen. -/
def lastN : Nat → List W → List Int → List W
  | 0, ws, _ => ws
  | _ + 1, [], _ => []
  | m + 1, x :: r, l => if x.isOpen = true then x.last (choose x (l.headD 0)) :: lastN m r l.tail else x :: lastN (m + 1) r l
/-- what lasts is what was stored. -/
def settle (x : W) : W := ⟨x.lasts, x.lasts, x.sent, x.flushed⟩

theorem lastN_length (m : Nat) (ws : List W) (l : List Int) : (lastN m ws l).length = ws.length := by
  induction ws generalizing m l with
  | nil => cases m <;> rfl
  | cons x r ih =>
    cases m with
    | zero => rfl
    | succ m =>
      unfold lastN
      split <;> simp [ih]
theorem lastN_ok {ws : List W} (h : ∀ x ∈ ws, x.Ok) (m : Nat) (l : List Int) : ∀ x ∈ lastN m ws l, x.Ok := by
  induction ws generalizing m l with
  | nil => cases m <;> exact h
  | cons y r ih =>
    cases m with
    | zero => exact h
    | succ m =>
      have hy := h y (by simp)
      intro x hx
      unfold lastN at hx
      split at hx
      · rcases List.mem_cons.1 hx with rfl | hx
        · exact hy.last (choose_ok hy _).1 (choose_ok hy _).2
        · exact ih (fun z hz => h z (by simp [hz])) _ _ x hx
      · rcases List.mem_cons.1 hx with rfl | hx
        · exact hy
        · exact ih (fun z hz => h z (by simp [hz])) _ _ x hx
theorem lastN_step {ws : List W} {k m : Nat} {f : F} (l : List Int) (h : (fatesFrom k ws)[m]? = some f) :
    k ≤ f.at' ∧ f.at' - k < ws.length ∧ lastN (m + 1) ws l = (lastN m ws l).set (f.at' - k) (((lastN m ws l).getD (f.at' - k) (still 0)).last (f.value (l.getD m 0))) := by
  induction ws generalizing k m l with
  | nil => simp [fatesFrom] at h
  | cons x r ih =>
    unfold fatesFrom at h
    split at h
    · rename_i ho
      cases m with
      | zero =>
        simp at h
        subst h
        refine ⟨Nat.le_refl _, by simp, ?_⟩
        simp only [Nat.sub_self]
        unfold lastN
        rw [if_pos ho]
        unfold lastN
        simp only [List.set_cons_zero, List.getD_cons_zero]
        unfold F.value choose
        cases l <;> simp
      | succ m =>
        simp at h
        obtain ⟨h1, h2, h3⟩ := ih l.tail h
        refine ⟨by omega, by simp; omega, ?_⟩
        rw [show f.at' - k = (f.at' - (k + 1)) + 1 by omega]
        conv => lhs; unfold lastN
        rw [if_pos ho, h3]
        have e : lastN (m + 1) (x :: r) l = x.last (choose x (l.headD 0)) :: lastN m r l.tail := by
          conv => lhs; unfold lastN
          rw [if_pos ho]
        rw [e, List.set_cons_succ, List.getD_cons_succ]
        cases l <;> simp
    · rename_i ho
      obtain ⟨h1, h2, h3⟩ := ih l h
      refine ⟨by omega, by simp; omega, ?_⟩
      rw [show f.at' - k = (f.at' - (k + 1)) + 1 by omega]
      conv => lhs; unfold lastN
      rw [if_neg ho, h3]
      cases m with
      | zero =>
        have e0 : ∀ ys, lastN 0 ys l = ys := fun ys => by unfold lastN; rfl
        rw [e0, e0, List.set_cons_succ, List.getD_cons_succ]
      | succ m =>
        have e : lastN (m + 1) (x :: r) l = x :: lastN (m + 1) r l := by
          conv => lhs; unfold lastN
          rw [if_neg ho]
        rw [e, List.set_cons_succ, List.getD_cons_succ]
theorem lastN_all {ws : List W} (h : ∀ x ∈ ws, x.Ok) (k : Nat) (l : List Int) : (lastN (fatesFrom k ws).length ws l).map settle = crashW ws l := by
  induction ws generalizing k l with
  | nil => rfl
  | cons x r ih =>
    have hx := h x (by simp)
    have hr : ∀ z ∈ r, z.Ok := fun z hz => h z (by simp [hz])
    have e0 : ∀ ys, lastN 0 ys l = ys := fun ys => by unfold lastN; rfl
    have hst : x.isOpen = false → settle x = still x.lasts := fun ho => by
      unfold W.isOpen at ho
      simp at ho
      obtain ⟨a, b, c, d⟩ := x
      have h1 := hx.un ho.1
      simp only at ho h1 ⊢
      unfold settle still
      simp only
      rw [h1, ho.1]
    unfold fatesFrom crashW
    cases ho : x.isOpen with
    | true =>
      simp only [if_true]
      rw [List.length_cons]
      unfold lastN
      rw [if_pos ho, List.map_cons, ih hr]
      rfl
    | false =>
      simp only [Bool.false_eq_true, if_false]
      have ihr := ih hr (k + 1) l
      cases hm : (fatesFrom (k + 1) r).length with
      | zero =>
        rw [hm, e0] at ihr
        rw [e0, List.map_cons, hst ho, ihr]
      | succ m =>
        rw [hm] at ihr
        unfold lastN
        rw [if_neg (by rw [ho]; decide), List.map_cons, hst ho, ihr]
end Pm
end Go.Proofs.Ytjkiehfjbldkkaa
