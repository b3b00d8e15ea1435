/-
  CloneI, CloneU, in one text.
-/
import Derived.Test.YtmildaofmgeceaaGround
import Derived.Laws.AppendOwnNone
namespace Go.Proofs.Ytmildaofmgeceaa
set_option linter.unusedVariables false
set_option linter.unusedSimpArgs false
open Go.RowKit

theorem info_int : (Try.prog.info? 3).map (fun i => (i.zero, i.size, i.bytes)) = some (some (.int .i64 0), 1, 8) := by kernel_rfl

/-- with what the new block holds. -/
theorem wpList_clone_int {w : World} {ops : Array Oper} {rest : List Oper} {o : Oper} {a : Act} {Q : Exit → Act → World → Prop} (hgd : o.guard = none) (s x : Operand)
    (ho : o.op = .call { callee := .builtin .append, args := #[s, x], argTypes := #[26, 26] })
    (g0 : Nat) (hs : a.eval s = .slice (some ⟨g0, 0, none⟩) 0 0) (hg0 : w.heap[g0]? = some (.cells #[] 3 (0, 0))) (B : Nat) (w0 : World) (hb : Below B w0 w) (hB : B ≤ g0)
    (ad : Option Addr) (len cap : Nat) (zs : List Int) (hx : a.eval x = .slice ad len cap) (hA : Arg .i64 w ad len cap zs) (hlen : len ≤ 1000000)
    (h : ∀ g cap' tail w', Below B w0 w' → B ≤ g → w'.heap[g]? = some (.cells (zs.map (Value.int .i64) ++ tail).toArray 3 (0, 0)) → len ≤ cap' → cap' ≤ maxLen → wpList Try.prog ops Q rest (a.put o.dst (.slice (some ⟨g, 0, none⟩) len cap')) w') :
    wpList Try.prog ops Q (o :: rest) a w := by
  obtain ⟨i, hi, hz0, hz1, hz2⟩ := info_parts info_int
  have hlt : g0 < w.heap.size := (Array.getElem?_eq_some_iff.1 hg0).1
  have hown : w.ownsRow B 3 1 (.slice (some ⟨g0, 0, none⟩) 0 0) 0 [] := ⟨rfl, .inr ⟨g0, 0, #[], rfl, hB, hg0, Nat.le_refl _, Nat.zero_le _, rfl, rfl⟩⟩
  cases ad with
  | none =>
    have hc : cap = 0 := by
      rcases hA.2.2.2.2 with h' | ⟨b, off, h'⟩
      · exact h'
      · cases h'
    subst hc
    have hl0 : len = 0 := Nat.le_zero.1 hA.1
    subst hl0
    refine wpList_append_own_none hgd s x 26 ho B 3 i 1 Try.underlying26 hi _ 0 [] hs hown hx (h g0 0 [] w hb hB (by obtain rfl : zs = [] := List.eq_nil_of_length_eq_zero hA.2.2.1.1; exact hg0) (Nat.le_refl _) (Nat.zero_le _))
  | some x' =>
    have hl := hA.2.2.1.1
    refine wpList_append_own w hgd s x 26 ho B 3 i (.int .i64 0) 1 8 Try.underlying26 hi hz0 hz1 hz2 rfl (by decide) _ 0 [] hs hown x' len cap (zs.map (Value.int .i64)) hx (by simp [hl]) ?_ (oneCells _ _) (by unfold maxLen; omega) (by omega) (by omega) ?_
    · by_cases h0 : len = 0
      · intro j u hj
        obtain rfl : zs = [] := List.eq_nil_of_length_eq_zero (by omega)
        simp at hj
      · obtain ⟨ad, had, hsrc⟩ := hA.2.2.1.src (by omega)
        cases had
        exact hsrc
    · intro v' w' hown' hgrow hiff
      have hb' : Below B w0 w' := hb.grown hgrow (by omega) (fun k hk => by
        simp [Value.ownBlock] at hk
        omega)
      rcases hown'.2 with ⟨hv, _⟩ | ⟨g, cap', cur, hv, hBg, hg, hle, hmax, hcs, htake⟩
      · have := (hiff.1 hv).1
        simp at this
      · rw [Nat.zero_add] at hv hle htake
        subst hv
        refine h g cap' (cur.toList.drop len) w' hb' hBg ?_ hle hmax
        have e3 : (zs.map (Value.int .i64) ++ cur.toList.drop len).toArray = cur := by
          apply Array.toList_inj.1
          rw [Nat.mul_one] at htake
          have e2 : zs.map (Value.int .i64) = cur.toList.take len := by rw [htake]; simp
          rw [e2]
          simp
        rw [e3]
        exact hg

end Go.Proofs.Ytmildaofmgeceaa

namespace Go.Proofs.Ytmildaofmgeceaa
set_option linter.unusedVariables false
set_option linter.unusedSimpArgs false
open Go.RowKit

end Go.Proofs.Ytmildaofmgeceaa
