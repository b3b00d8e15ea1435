/-
  Charts that are compared: '==' on them.
-/
import Derived.Test.YtilnimdliebfnaaRefChA
namespace Go.Proofs.Ytilnimdliebfnaa
set_option linter.unusedVariables false
set_option linter.unusedSimpArgs false
open Go.RowKit

theorem info_bits : Try.prog.info? 22 = some (Try.prog.types[22]!) := by kernel_rfl
theorem info_u8c : Try.prog.info? 5 = some (Try.prog.types[5]!) := by kernel_rfl
/-- '==' on charts. -/
theorem run_eql_chart (p q : Int) (l m : List Int) (hl : l.length = 48) (hm : m.length = 48) (w : World) : (binOp .eql 24 (.agg (chartC p l)) (.agg (chartC q m))).run Try.prog w = .ok (.bool (decide (p = q ∧ l = m))) w := by
  have hz : ∀ (p : Int) (x : List Int), x.length = 48 → (chartC p x).extract 1 (1 + 48) = blk .u8 x := fun p x hx => by
    unfold chartC
    rw [extract_list, List.drop_one, List.tail_cons, List.take_of_length_le (by simp; omega)]
    rfl
  have hp : ∀ (p : Int) (x : List Int), x.length = 48 → ∀ W, (_root_.Go.part 22 (chartC p x) 1).run Try.prog W = .ok (.agg (blk .u8 x)) W := fun p x hx W => by
    rw [part_agg 22 _ _ Try.underlying22 rfl info_bits 48 (by kernel_rfl), hz p x hx]
  have h0 : ∀ (p : Int) (x : List Int) W, (_root_.Go.part 3 (chartC p x) 0).run Try.prog W = .ok (.int .i64 p) W := fun p x W => by
    simp [_root_.Go.part, isAgg, run_underlying Try.underlying3, chartC]
  have hf : (Try.prog.fieldsOf 24).toList = [{ name := "Place", type := 3, offset := 0, byteOffset := 0, embedded := false, tag := "", pkgPath := "" }, { name := "Bits", type := 22, offset := 1, byteOffset := 8, embedded := false, tag := "", pkgPath := "" }] := by kernel_rfl
  have ha : ∀ W, (Op.equalIn 9999 22 (.agg (blk .u8 l)) (.agg (blk .u8 m))).run Try.prog W = .ok (decide (l = m)) W := fun W => by
    rw [run_equalIn_array W 9998 (t := 22) (e := 5) (n := 48) _ _ Try.underlying22 info_u8c, show Try.prog.cellsOf 5 = 1 by kernel_rfl, eqItems_cells 5 .u8 Try.underlying5 9997 l m W _ (fun i hi => by have := List.mem_range.1 hi; omega), all_range l m 48 _ hl hm]
  rw [run_eql_struct, run_equalIn_agg w 9999 24 _ _ (by kernel_rfl) (by kernel_rfl), hf]
  by_cases h1 : p = q
  · subst h1
    by_cases h2 : l = m
    · subst h2
      simp [Op.eqFields, Sem.run_bind, hp p l hl, h0, ha, run_equalIn_int _ 9998 3 .i64 .i64 _ _ Try.underlying3]
    · simp [Op.eqFields, Sem.run_bind, hp p l hl, hp p m hm, h0, ha, run_equalIn_int _ 9998 3 .i64 .i64 _ _ Try.underlying3, h2]
  · simp [Op.eqFields, Sem.run_bind, hp p l hl, hp q m hm, h0, ha, run_equalIn_int _ 9998 3 .i64 .i64 _ _ Try.underlying3, h1]
end Go.Proofs.Ytilnimdliebfnaa
