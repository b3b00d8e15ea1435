/-
  Queues and roots that are compared: '==' on one and itself.
-/
import Derived.Test.YtkmndllomheegaaRefLbA
namespace Go.Proofs.Ytkmndllomheegaa
set_option linter.unusedVariables false
set_option linter.unusedSimpArgs false
open Go.RowKit

theorem info_roots : Try.prog.info? 23 = some (Try.prog.types[23]!) := by kernel_rfl
theorem info_intr : Try.prog.info? 3 = some (Try.prog.types[3]!) := by kernel_rfl
theorem run_equalIn_roots (l : List Int) (hl : l.length = 12) (d : Nat) (w : World) : (Op.equalIn (d + 3) 23 (.agg (blk .i64 l)) (.agg (blk .i64 l))).run Try.prog w = .ok true w := by
  rw [run_equalIn_array w (d + 2) (t := 23) (e := 3) (n := 12) _ _ Try.underlying23 info_intr, show Try.prog.cellsOf 3 = 1 by kernel_rfl, eqItems_cells 3 .i64 Try.underlying3 (d + 1) l l w _ (fun i hi => by have := List.mem_range.1 hi; omega), all_range l l 12 _ hl hl]
  simp
/-- '==' on a queue and itself. -/
theorem run_eql_queue (q : Lb.Q) (hq : Lb.wfQ q) (w : World) : (binOp .eql 25 (.agg (queueC q)) (.agg (queueC q))).run Try.prog w = .ok (.bool true) w := by
  obtain ⟨nm, c, l⟩ := q
  have hl : l.length = 12 := hq.2
  have hz : (queueC ⟨nm, c, l⟩).extract 2 (2 + 12) = blk .i64 l := by
    unfold queueC
    rw [extract_list]
    simp only [List.drop_succ_cons, List.drop_zero]
    rw [List.take_of_length_le (by simp; omega)]
    rfl
  have hp : ∀ W, (_root_.Go.part 23 (queueC ⟨nm, c, l⟩) 2).run Try.prog W = .ok (.agg (blk .i64 l)) W := fun W => by
    rw [part_agg 23 _ _ Try.underlying23 rfl info_roots 12 (by kernel_rfl), hz]
  have h0 : ∀ W, (_root_.Go.part 9 (queueC ⟨nm, c, l⟩) 0).run Try.prog W = .ok (.string (strOfNums nm)) W := fun W => by
    simp [_root_.Go.part, isAgg, run_underlying Try.underlying9, queueC]
  have h1 : ∀ W, (_root_.Go.part 3 (queueC ⟨nm, c, l⟩) 1).run Try.prog W = .ok (.int .i64 c) W := fun W => by
    simp [_root_.Go.part, isAgg, run_underlying Try.underlying3, queueC]
  have hf : (Try.prog.fieldsOf 25).toList = [{ name := "Name", type := 9, offset := 0, byteOffset := 0, embedded := false, tag := "", pkgPath := "" }, { name := "Count", type := 3, offset := 1, byteOffset := 16, embedded := false, tag := "", pkgPath := "" }, { name := "Roots", type := 23, offset := 2, byteOffset := 24, embedded := false, tag := "", pkgPath := "" }] := by kernel_rfl
  have ha : ∀ W, (Op.equalIn 9999 23 (.agg (blk .i64 l)) (.agg (blk .i64 l))).run Try.prog W = .ok true W := fun W => run_equalIn_roots l hl 9996 W
  rw [run_eql_struct, run_equalIn_agg w 9999 25 _ _ (by kernel_rfl) (by kernel_rfl), hf]
  simp [Op.eqFields, Sem.run_bind, hp, h0, h1, ha, run_equalIn_int _ 9998 3 .i64 .i64 _ _ Try.underlying3, run_equalIn_string _ 9998 9 _ _ Try.underlying9]
/-- '==' on roots and themselves. -/
theorem run_eql_roots (l : List Int) (hl : l.length = 12) (w : World) : (Op.equalIn 10000 23 (.agg (blk .i64 l)) (.agg (blk .i64 l))).run Try.prog w = .ok true w := run_equalIn_roots l hl 9997 w
end Go.Proofs.Ytkmndllomheegaa
