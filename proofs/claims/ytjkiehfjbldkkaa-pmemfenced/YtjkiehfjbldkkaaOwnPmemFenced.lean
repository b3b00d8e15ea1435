/-
  PmemFenced returns true for every line, eight words, acts and integers, and what came in reads as before; no condition.
-/
import Derived.Test.YtjkiehfjbldkkaaRows
import Derived.Test.YtjkiehfjbldkkaaPmLawL
import Derived.Test.YtjkiehfjbldkkaaOpens
import Derived.WalkKit
import Derived.ProofKit
import Derived.OpenShut
import Derived.ShutString
import Derived.ChangeOld
import Derived.Below
namespace Go.Proofs.Ytjkiehfjbldkkaa.pmemFenced
open Go.ChangeShapes Go.WideShapes Go.ChangeAt Go.RowKit
open Go.ChangeMaps (open_string shut_string)
set_option linter.unusedVariables false

theorem own : ownKnob Try.prog.godebug = none := by kernel_rfl
theorem laidOut : laidOutB Try.prog = true := by kernel_rfl

set_option maxRecDepth 100000 in
theorem lifted (os : Os) (started : os.Started) (H : Type) (enc : TypeId × Value → H) :
    ReturnsInHanded {} Try.checked os 5 .any (Rows.pmemFencedSpec.pre6 enc Try.prog Try.f5 Rows.pmemFencedRow.domain false) (Rows.pmemFencedSpec.post enc Try.prog Try.f5 false true false false) := by
  refine returnsInHanded_of_change (C := Try.checked) own started (by kernel_rfl) Try.func5
    (ChangeSpec.witness6 (enc := enc) (C := Try.checked) false ⟨#[], #[.agg #[.int .i64 0, .int .u64 0, .int .u64 0, .int .u64 0, .int .u64 0, .int .u64 0, .int .u64 0, .int .u64 0, .int .u64 0, .slice none 0 0, .slice none 0 0]], []⟩ 8 (by kernel_rfl) (by kernel_rfl) (by kernel_rfl) (by kernel_rfl)) ?_
  intro W base args ds gs before hval0 hW hcnd _
  have hval : ∀ (j : Nat) t v, Try.f5.params[j]? = some t → args[j]? = some v → Value.okWide Try.prog W .any base t v := hval0
  have hW' := hW
  obtain ⟨p, q, hA0, hV, rfl, hfz, hnd⟩ := hW
  have hA : DataW.TrodAll enc Try.prog W 0 (fun _ => true) true Try.f5.params.toList args.toList ds p := hA0
  rw [Try.params5] at hA hval
  obtain ⟨v0, vs0, d0, ds0, p0, q0, hargs, rfl, rfl, h0, r0⟩ := trodAll_cons hA
  obtain ⟨rfl, rfl, rfl⟩ := trodAll_nil r0
  obtain rfl : args = #[v0] := by cases args; simp_all
  obtain ⟨rfl, rfl⟩ := trodVars_none hV
  have k0 := h0
  have lt0 : ∀ x ∈ p0, x.block < W.heap.size := by obtain ⟨m, hm⟩ := k0; exact DataW.trod_lt m _ _ _ hm
  obtain ⟨cs0, rfl, sz0⟩ := okWide_struct Try.underlying55 (hval 0 55 v0 rfl rfl)
  obtain ⟨n, e0, e1, e2, e3, e4, e5, e6, e7, ea, elen, ecap, exs, ep, epl, epc, el, ecs, wn, wv, wA, wP⟩ : ∃ n v0 v1 v2 v3 v4 v5 v6 v7 a len cap xs p pl pc l, cs0 = #[.int .i64 n, .int .u64 v0, .int .u64 v1, .int .u64 v2, .int .u64 v3, .int .u64 v4, .int .u64 v5, .int .u64 v6, .int .u64 v7, .slice a len cap, .slice p pl pc] ∧ (Lit.int .i64 n).wf = true ∧ (∀ v ∈ [v0, v1, v2, v3, v4, v5, v6, v7], (Lit.int .u64 v).wf = true) ∧ Acts W a len cap xs ∧ Arg .i64 W p pl pc l := by
    obtain ⟨fuel, hf⟩ := h0
    obtain ⟨n, v0, v1, v2, v3, v4, v5, v6, v7, a, len, cap, xs, p, pl, pc, l, hcs, q⟩ := fenced_of hf
    exact ⟨n, v0, v1, v2, v3, v4, v5, v6, v7, a, len, cap, xs, p, pl, pc, l, Array.toList_inj.1 (by simpa [Value.cells] using hcs), q⟩
  subst ecs
  clear hA0 hval0
  refine (fenced_any n e0 e1 e2 e3 e4 e5 e6 e7 wn wv wP wA).mono fun e W' ⟨he, bel⟩ => ?_
  subst he
  exact ⟨_, rfl, _, _, _, [], _, [], hW', trodAll_mk1 (shut_bool Try.underlying4 _), (trodAll_cons_mk (Below.trod laidOut (by kernel_rfl) (of_decide_eq_true (by kernel_rfl)) k0 bel lt0) trodAll_mk0), rfl, bel.frame _, fun h => by cases h⟩

theorem over : Rows.pmemFencedRow.holds Try.pinned (OpenSpec.ofChange Rows.pmemFencedSpec) :=
  OpenClaim.holds_of_wide 5 Try.f5 rfl rfl rfl rfl rfl rfl rfl ⟨rfl, rfl, rfl, rfl, rfl⟩ rfl rfl rfl rfl rfl (by kernel_rfl) Try.func5 (by kernel_rfl)
    (of_decide_eq_true (by kernel_rfl)) (by unfold Func.isWrapper; first | (rw [if_pos (by decide +kernel)]; kernel_rfl) | (rw [if_neg (by decide +kernel)]; exact ⟨rfl, rfl⟩))
    (fun os started H enc _ => lifted os started H enc)

/-- The given statement. -/
theorem proved : Rows.PmemFencedSaid := over
end Go.Proofs.Ytjkiehfjbldkkaa.pmemFenced
