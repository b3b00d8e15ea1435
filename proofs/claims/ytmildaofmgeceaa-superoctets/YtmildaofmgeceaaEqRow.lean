/-
  Whole structs and arrays: loaded where a guard wants it; compared, part by part.
-/
import Derived.Test.YtmildaofmgeceaaGround
import Derived.ChangeKeysEq
import Derived.Laws.StructEq
import Derived.BigFrame
import Derived.Laws.Rows
import Derived.Laws.ResultCell
import Derived.Laws.Tables
import Derived.Test.YtmildaofmgeceaaRegs
namespace Go.Proofs.Ytmildaofmgeceaa
set_option linter.unusedVariables false
set_option linter.unusedSimpArgs false
open Go.RowKit

theorem extract_list (cs : List Value) (i n : Nat) : cs.toArray.extract i (i + n) = ((cs.drop i).take n).toArray := by
  apply Array.toList_inj.1
  rw [Array.toList_extract]
  simp [List.extract]

/-- one number of a block of numbers. -/
theorem part_cell (e : TypeId) (k : IntKind) (hu : Try.prog.underlying e = some (.int k)) (l : List Int) (i : Nat) (h : i < l.length) (w : World) : (_root_.Go.part e (blk k l) i).run Try.prog w = Result.ok (.int k (l.getD i 0)) w := by
  simp [_root_.Go.part, isAgg, run_underlying hu, blk, h]
theorem eqItems_cells (e : TypeId) (k : IntKind) (hu : Try.prog.underlying e = some (.int k)) (d : Nat) (l m : List Int) (w : World) : ∀ is : List Nat, (∀ i ∈ is, i < l.length ∧ i < m.length) → (Op.eqItems (d + 1) e 1 (blk k l) (blk k m) is).run Try.prog w = .ok (is.all fun i => l.getD i 0 == m.getD i 0) w
  | [], _ => rfl
  | i :: is, h => by
    obtain ⟨h1, h2⟩ := h i (List.mem_cons_self ..)
    have ih := eqItems_cells e k hu d l m w is fun j hj => h j (List.mem_cons_of_mem _ hj)
    have p1 := part_cell e k hu l i h1 w
    have p2 := part_cell e k hu m i h2 w
    simp only [Op.eqItems, Nat.mul_one, Sem.run_bind, p1, p2, Result.andThen_ok, run_equalIn_int w d e k k _ _ hu, List.all_cons]
    cases hq : (l.getD i 0 == m.getD i 0)
    · simp
    · simp [ih]
theorem all_range {α : Type} (f g : List α) (n : Nat) (d : α) [BEq α] [LawfulBEq α] [DecidableEq α] (hf : f.length = n) (hg : g.length = n) : ((List.range n).all fun i => f.getD i d == g.getD i d) = decide (f = g) := by
  rw [Bool.eq_iff_iff, List.all_eq_true, decide_eq_true_iff]
  constructor
  · intro h
    apply List.ext_getElem (by omega)
    intro i h1 h2
    have := h i (List.mem_range.2 (by omega))
    simpa [List.getD_eq_getElem?_getD, h1, h2] using this
  · rintro rfl i _
    simp

theorem info_ok (t : TypeId) (i : TypeInfo) (h : Try.prog.info? t = some i) (n : Nat) (hn : (Try.prog.info? t).map (·.size) = some n) (w : World) : (sizeOf t).run Try.prog w = .ok n w := by
  rw [h] at hn
  simp only [Option.map_some, Option.some.injEq] at hn
  rw [run_sizeOf w h, ← hn]
  simp [Program.cellsOf, h]
theorem part_agg (t : TypeId) (d : TypeDesc) (i : TypeInfo) (hu : Try.prog.underlying t = some d) (hd : (match d with | .struct _ | .array _ _ => true | _ => false) = true) (h : Try.prog.info? t = some i) (n : Nat) (hn : (Try.prog.info? t).map (·.size) = some n) (cs : Array Value) (o : Nat) (w : World) :
    (_root_.Go.part t cs o).run Try.prog w = .ok (.agg (cs.extract o (o + n))) w := by
  have hs := info_ok t i h n hn w
  cases d <;> simp at hd <;> simp [_root_.Go.part, isAgg, run_underlying hu, hs]
/-- a whole array or struct loaded, where a guard wants it. -/
theorem wpList_load_row_on {P : Program} {ops : Array Oper} {rest : List Oper} {o : Oper} {a : Act} {w : World} {Q : Exit → Act → World → Prop} (hw : Region.wanted o (yielded ops a.tmps) = true) (ty : TypeId) (x : Operand) (ho : o.op = .load ty x)
    (g : Nat) (hx : a.eval x = .pointer (some ⟨g, 0, none⟩)) (t : TypeId) (cs : Array Value) (fr : Nat × Nat) (d : TypeDesc) (hg : w.heap[g]? = some (.cells cs t fr))
    (hu : P.underlying ty = some d) (hd : (match d with | .struct _ | .array _ _ => true | _ => false) = true) (hi : (P.info? ty).map (·.size) = some cs.size)
    (h : wpList P ops Q rest (a.put o.dst (.agg cs)) w) : wpList P ops Q (o :: rest) a w :=
  BigFrame.wpList_want hw fun _ hK => wp_load_row ty x ho g hx t cs fr d hg hu hd hi (hK _ _ h)
theorem wpQuiet_load_row_on {P : Program} {ops : Array Oper} {C : World → Prop} {Q : Act → Prop} {a : Act} {o : Oper} {rest : List Oper} (hgd : Region.wanted o (yielded ops a.tmps) = true) (ty : TypeId) (x : Operand) (ho : o.op = .load ty x)
    (g : Nat) (hx : a.eval x = .pointer (some ⟨g, 0, none⟩)) (t : TypeId) (cs : Array Value) (fr : Nat × Nat) (d : TypeDesc) (hg : ∀ w, C w → w.heap[g]? = some (.cells cs t fr))
    (hu : P.underlying ty = some d) (hd : (match d with | .struct _ | .array _ _ => true | _ => false) = true) (hi : (P.info? ty).map (·.size) = some cs.size)
    (h : wpQuiet P ops C Q rest (a.put o.dst (.agg cs))) : wpQuiet P ops C Q (o :: rest) a := by
  refine wpQuiet_step fun K hK => ?_
  rw [if_pos hgd]
  refine ⟨.agg cs, fun w hw => ?_, hK _ h⟩
  unfold Oper.quietAt execOp
  simp only [ho, hx, Instr.loadAt, Instr.sureAddr, Sem.run_bind, Sem.run_pure, Result.andThen_ok, run_loadVar_row w g t ty cs fr d (hg w hw) hu hd hi]
  exact ⟨rfl, rfl⟩
/-- a whole array or struct loaded, stored: at a step of a region that draws its order. -/
theorem step_load_row {P : Program} {ops : Array Oper} {o : Oper} {a : Act} {w : World} {K : Act → World → Prop} {Q : Exit → Act → World → Prop} {E : Prop} (hgd : o.guard = none) (ty : TypeId) (x : Operand) (ho : o.op = .load ty x)
    (g : Nat) (hx : a.eval x = .pointer (some ⟨g, 0, none⟩)) (t : TypeId) (cs : Array Value) (fr : Nat × Nat) (d : TypeDesc) (hg : w.heap[g]? = some (.cells cs t fr))
    (hu : P.underlying ty = some d) (hd : (match d with | .struct _ | .array _ _ => true | _ => false) = true) (hi : (P.info? ty).map (·.size) = some cs.size)
    (h : K (a.put o.dst (.agg cs)) w) : if Region.wanted o (yielded ops a.tmps) = true then Oper.wp P o a w K Q else E := by
  have hw : Region.wanted o (yielded ops a.tmps) = true := by simp [Region.wanted, hgd]
  rw [if_pos hw]
  exact wp_load_row ty x ho g hx t cs fr d hg hu hd hi h
theorem step_store_row {P : Program} {ops : Array Oper} {o : Oper} {a : Act} {w : World} {K : Act → World → Prop} {Q : Exit → Act → World → Prop} {E : Prop} (hgd : o.guard = none) (ty : TypeId) (x y : Operand) (ho : o.op = .store ty x y)
    (g : Nat) (cells : Array Value) (hx : a.eval x = .pointer (some ⟨g, 0, none⟩)) (hy : a.eval y = .agg cells)
    (t : TypeId) (old : Array Value) (hg : w.heap[g]? = some (.cells old t (0, 0))) (hi : (P.info? ty).map (·.size) = some cells.size)
    (hold : old.size = cells.size) (h1 : cells.all (·.oneCell') = true)
    (h : K (a.put o.dst undef) (w.setRow g cells)) : if Region.wanted o (yielded ops a.tmps) = true then Oper.wp P o a w K Q else E := by
  have hw : Region.wanted o (yielded ops a.tmps) = true := by simp [Region.wanted, hgd]
  rw [if_pos hw]
  exact wp_store_row ty x y ho g cells hx hy t old hg hi hold h1 h
/-- a struct's cell and another value, answered. -/
theorem results_row {fn : Func} {p u : Tmp} {T : TypeId} {fs : Array Field} (h : fn.results = #[.cell p T, .tmp u]) (hu : Try.prog.underlying T = some (.struct fs)) (tmps : Array Value) (W : World) (g : Nat) (cs : Array Value) (hp : tmps.getD p undef = .pointer (some ⟨g, 0, none⟩)) (hg : W.heap[g]? = some (.cells cs T (0, 0))) (hcs : (Try.prog.info? T).map (·.size) = some cs.size) :
    (results fn tmps).run Try.prog W = .ok (.tuple #[.agg cs, tmps.getD u undef]) W := by
  have hl := run_loadVar_row W g T T cs (0, 0) _ hg hu rfl hcs
  rw [results_cell_tmp h, hp]
  simp [asAddr, hl, Result.andThen]
end Go.Proofs.Ytmildaofmgeceaa
