/-
  A call as a step of a region; copy.
-/
import Derived.Test.YtjkiehfjbldkkaaArgs
import Derived.Test.YtjkiehfjbldkkaaBytes
import Derived.Deep.RegionLaw
namespace Go.Proofs.Ytjkiehfjbldkkaa
set_option linter.unusedVariables false
set_option linter.unusedSimpArgs false
open Go.RowKit

/-- A call of a function of the program as one step of a region that draws its order. -/
theorem step_call {P : Program} {ops : Array Oper} {o : Oper} {a : Act} {w : World} {K : Act → World → Prop} {Q : Exit → Act → World → Prop} {E : Prop}
    (hgd : o.guard = none) (f : FuncId) (hcf : ∀ args w, (callFunc f args).run P w = .ok (.enter f args) w) (args : Array Operand) (tys : Array TypeId) (hop : o.op = .call { callee := .value (.func f), args := args, argTypes := tys })
    (vals : Array Value) (hv : args.map a.eval = vals) {R : Ending → World → Prop} (hc : Calls P f vals w R)
    (h : ∀ e w', R e w' → ∃ v, e = .returned v ∧ K (a.put o.dst v) w') :
    if Region.wanted o (yielded ops a.tmps) = true then Oper.wp P o a w K Q else E := by
  have hw : Region.wanted o (yielded ops a.tmps) = true := by simp [Region.wanted, hgd]
  rw [if_pos hw]
  unfold Oper.wp
  subst hv
  simp [execOp, hop, resolve, invoke, Result.andThen, go_sem, hcf]
  refine hc.mono fun e w' hr => ?_
  obtain ⟨v, rfl, hk⟩ := h e w' hr
  exact hk

theorem step_call2 {P : Program} {ops : Array Oper} {o : Oper} {a : Act} {w : World} {K : Act → World → Prop} {Q : Exit → Act → World → Prop} {E : Prop}
    (hgd : o.guard = none) (f : FuncId) (hcf : ∀ args w, (callFunc f args).run P w = .ok (.enter f args) w) (x y : Operand) (tys : Array TypeId) (hop : o.op = .call { callee := .value (.func f), args := #[x, y], argTypes := tys })
    (u v : Value) (hx : a.eval x = u) (hy : a.eval y = v) {R : Ending → World → Prop} (hc : Calls P f #[u, v] w R)
    (h : ∀ e w', R e w' → ∃ v, e = .returned v ∧ K (a.put o.dst v) w') :
    if Region.wanted o (yielded ops a.tmps) = true then Oper.wp P o a w K Q else E :=
  step_call hgd f hcf #[x, y] tys hop #[u, v] (by simp [hx, hy]) hc h

theorem blk_splice (k : IntKind) (zs l : List Int) (p : Nat) : (splice (zs.map (Value.int k)) p (l.map (Value.int k))).toArray = blk k (splice zs p l) := by
  simp [splice, blk]
theorem splice_all (zs l : List Int) (h : l.length = zs.length) : splice zs 0 l = l := by
  simp [splice, h]

theorem block_cell {k : IntKind} {w : World} {g : Nat} {e : TypeId} {zs : List Int} (h : w.heap[g]? = some (.cells (blk k zs) e (0, 0))) (j : Nat) (v : Value) (hj : (zs.map (Value.int k))[j]? = some v) : w.cell? ((⟨g, 0, none⟩ : Addr).add j) = some v := by
  have : (⟨g, 0, none⟩ : Addr).add j = ⟨g, j, none⟩ := by unfold Addr.add; split <;> simp_all
  rw [this]
  simp [World.cell?, h, blk] at hj ⊢
  simpa using hj

theorem setRow_alloc (w : World) (old cs : Array Value) (t : TypeId) : (w.alloc (.cells old t)).setRow w.heap.size cs = w.alloc (.cells cs t) := by
  unfold World.setRow World.alloc
  congr 1
  apply Array.ext
  · simp
  · intro k h1 h2
    simp only [Array.getElem_modify, Array.getElem_push]
    by_cases hk : k < w.heap.size
    · simp [hk]; omega
    · have : w.heap.size = k := by simp at h1; omega
      simp [this]

/-- copy(out, b), out new and as long as b. -/
theorem copy_new {w : World} {a : Option Addr} {len : Nat} {zs : List Int} (cap : Nat) (h : Row .u8 w a len zs) (ys : List Int) (hy : ys.length = len) :
    (Builtin.copy_ #[47, 47] 3 #[.slice (some ⟨w.heap.size, 0, none⟩) len len, .slice a len cap]).run Try.prog (w.alloc (.cells (blk .u8 ys) 5)) = .ok (.int .i64 len) (w.alloc (.cells (blk .u8 zs) 5)) := by
  by_cases h0 : len = 0
  · subst h0
    obtain rfl : zs = [] := List.eq_nil_of_length_eq_zero h.1
    obtain rfl : ys = [] := List.eq_nil_of_length_eq_zero hy
    exact run_copy_none (P := Try.prog) _ 47 47 3 5 _ a 0 0 0 cap Try.underlying47 (by kernel_rfl) rfl
  · have hl := h.1
    have hB : Below w.heap.size w (w.alloc (.cells (blk .u8 ys) 5)) := (Below.refl _ _).alloc (Nat.le_refl _) _
    obtain ⟨ad, rfl, hsrc⟩ := (h.below hB).src (by omega)
    have hr := run_copy_row (P := Try.prog) (w.alloc (.cells (blk .u8 ys) 5)) 47 47 3 5 w.heap.size 0 len len ad len cap (blk .u8 ys) 5 (zs.map (Value.int .u8)) Try.underlying47 (by kernel_rfl) (heap_alloc_new w _) (by simp [hl]) hsrc (by simp [size_blk, hl, hy]) (oneCells _ _)
    rw [hr, setRow_alloc]
    simp [blk, hl, goInt]
    rw [List.drop_of_length_le (by simp [hy]), List.append_nil]

/-- copy(out[p:], l), out a block that is known whole. -/
theorem copy_over {W : World} {a : Option Addr} {n : Nat} {l zs : List Int} {g : Nat} (p m c cap : Nat) (h : Row .u8 W a n l) (hg : W.heap[g]? = some (.cells (blk .u8 zs) 5 (0, 0))) (hnm : n ≤ m) (hfit : p + n ≤ zs.length) :
    (Builtin.copy_ #[47, 47] 3 #[.slice (some ⟨g, p, none⟩) m c, .slice a n cap]).run Try.prog W = .ok (.int .i64 n) (W.setRow g (blk .u8 (splice zs p l))) := by
  have hl := h.1
  by_cases h0 : n = 0
  · subst h0
    obtain rfl : l = [] := List.eq_nil_of_length_eq_zero hl
    have hs : splice zs p [] = zs := by simp [splice]
    rw [hs, setRow_self W g _ _ _ hg]
    exact run_copy_none (P := Try.prog) _ 47 47 3 5 _ a m c 0 cap Try.underlying47 (by kernel_rfl) (Nat.min_eq_left (Nat.zero_le _))
  · obtain ⟨ad, rfl, hsrc⟩ := h.src (by omega)
    have hr := run_copy_row (P := Try.prog) W 47 47 3 5 g p m c ad n cap (blk .u8 zs) 5 (l.map (Value.int .u8)) Try.underlying47 (by kernel_rfl) hg (by simp [hl]; exact (Nat.min_eq_left hnm).symm) hsrc (by simp [size_blk, hl]; exact hfit) (oneCells _ _)
    rw [hr]
    simp [blk, splice, hl, goInt]

theorem wf_nat {n : Nat} (h : n ≤ 9223372036854775807) : (Lit.int .i64 (n : Int)).wf = true := by
  simp [Lit.wf, IntKind.min, IntKind.max, IntKind.signed, IntKind.bits]; omega

end Go.Proofs.Ytjkiehfjbldkkaa
