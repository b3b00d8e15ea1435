/-
  Leaves and fans that are compared: '==' on them.
-/
import Derived.Test.YtjehcgkmapapbaaRefPgE
import Derived.Test.YtjehcgkmapapbaaEqRow
namespace Go.Proofs.Ytjehcgkmapapbaa
set_option linter.unusedVariables false
set_option linter.unusedSimpArgs false
open Go.RowKit

theorem leafC_piece : ∀ (l : List Pg.Seat) (i : Nat) (h : i < l.length), ((l.flatMap seatC).drop (i * 3)).take 3 = seatC l[i]
  | x :: r, 0, _ => by simp [seatC]
  | x :: r, i + 1, h => by
    have ih := leafC_piece r i (by simpa using h)
    rw [List.flatMap_cons, show (i + 1) * 3 = 3 + i * 3 by omega, ← List.drop_drop, List.drop_left' (by rfl), ih]
    rfl
theorem info_seat : Try.prog.info? 23 = some (Try.prog.types[23]!) := by kernel_rfl
theorem part_seat (l : List Pg.Seat) (i : Nat) (h : i < l.length) (w : World) : (_root_.Go.part 23 (leafC l) (i * 3)).run Try.prog w = .ok (.agg (seatC l[i]).toArray) w := by
  rw [part_agg 23 _ _ Try.underlying23 rfl info_seat 3 (by kernel_rfl)]
  congr 2
  unfold leafC
  rw [extract_list, leafC_piece l i h]
theorem eq_seat (d : Nat) (x : Pg.Seat) (w : World) : (Op.equalIn (d + 2) 23 (.agg (seatC x).toArray) (.agg (seatC x).toArray)).run Try.prog w = .ok true w := by
  obtain ⟨a, b, c⟩ := x
  rw [run_equalIn_agg w (d + 1) 23 _ _ (by kernel_rfl) (by kernel_rfl)]
  have hf : (Try.prog.fieldsOf 23).toList = [{ name := "Live", type := 4, offset := 0, byteOffset := 0, embedded := false, tag := "", pkgPath := "" }, { name := "Gen", type := 3, offset := 1, byteOffset := 8, embedded := false, tag := "", pkgPath := "" }, { name := "Next", type := 3, offset := 2, byteOffset := 16, embedded := false, tag := "", pkgPath := "" }] := by kernel_rfl
  rw [hf]
  have p0 : ∀ (u v z : Value) W, (_root_.Go.part 4 #[u, v, z] 0).run Try.prog W = .ok u W := fun u v z W => by simp [_root_.Go.part, isAgg, run_underlying Try.underlying4]
  have p1 : ∀ (u v z : Value) W, (_root_.Go.part 3 #[u, v, z] 1).run Try.prog W = .ok v W := fun u v z W => by simp [_root_.Go.part, isAgg, run_underlying Try.underlying3]
  have p2 : ∀ (u v z : Value) W, (_root_.Go.part 3 #[u, v, z] 2).run Try.prog W = .ok z W := fun u v z W => by simp [_root_.Go.part, isAgg, run_underlying Try.underlying3]
  simp [seatC, Op.eqFields, Sem.run_bind, p0, p1, p2, run_equalIn_int _ d 3 .i64 .i64 _ _ Try.underlying3, run_equalIn_bool' _ d 4 _ _ Try.underlying4]
theorem eqItems_seats (d : Nat) (l : List Pg.Seat) (w : World) : ∀ is : List Nat, (∀ i ∈ is, i < l.length) → (Op.eqItems (d + 2) 23 3 (leafC l) (leafC l) is).run Try.prog w = .ok true w
  | [], _ => rfl
  | i :: is, h => by
    have h1 := h i (List.mem_cons_self ..)
    have ih := eqItems_seats d l w is fun j hj => h j (List.mem_cons_of_mem _ hj)
    have p1 := part_seat l i h1 w
    simp [Op.eqItems, Sem.run_bind, p1, eq_seat d l[i] w, ih]
theorem info_seats : Try.prog.info? 24 = some (Try.prog.types[24]!) := by kernel_rfl
theorem info_kids : Try.prog.info? 38 = some (Try.prog.types[38]!) := by kernel_rfl
theorem info_int' : Try.prog.info? 3 = some (Try.prog.types[3]!) := by kernel_rfl
/-- '==' on a leaf and itself. -/
theorem run_eql_leaf (l : List Pg.Seat) (hl : l.length = 7) (w : World) : (binOp .eql 26 (.agg (leafC l)) (.agg (leafC l))).run Try.prog w = .ok (.bool true) w := by
  have hz : (leafC l).extract 0 (0 + 21) = leafC l := by
    have : (leafC l).size = 21 := by rw [leafC_size, hl]
    rw [Nat.zero_add, ← this, Array.extract_size]
  have hp : ∀ W, (_root_.Go.part 24 (leafC l) 0).run Try.prog W = .ok (.agg (leafC l)) W := fun W => by
    rw [part_agg 24 _ _ Try.underlying24 rfl info_seats 21 (by kernel_rfl), hz]
  have hf : (Try.prog.fieldsOf 26).toList = [{ name := "Seats", type := 24, offset := 0, byteOffset := 0, embedded := false, tag := "", pkgPath := "" }] := by kernel_rfl
  have ha : ∀ W, (Op.equalIn 9999 24 (.agg (leafC l)) (.agg (leafC l))).run Try.prog W = .ok true W := fun W => by
    rw [run_equalIn_array W 9998 (t := 24) (e := 23) (n := 7) _ _ Try.underlying24 info_seat, show Try.prog.cellsOf 23 = 3 by kernel_rfl, eqItems_seats 9996 l W _ (fun i hi => by have := List.mem_range.1 hi; omega)]
  rw [run_eql_struct, run_equalIn_agg w 9999 26 _ _ (by kernel_rfl) (by kernel_rfl), hf]
  simp [Op.eqFields, Sem.run_bind, hp, ha]
/-- '==' on fans. -/
theorem run_eql_fan (l m : List Int) (hl : l.length = 16) (hm : m.length = 16) (w : World) : (binOp .eql 40 (.agg (blk .i64 l)) (.agg (blk .i64 m))).run Try.prog w = .ok (.bool (decide (l = m))) w := by
  have hz : ∀ x : List Int, x.length = 16 → (blk .i64 x).extract 0 (0 + 16) = blk .i64 x := fun x hx => by
    have : (blk .i64 x).size = 16 := by rw [size_blk, hx]
    rw [Nat.zero_add, ← this, Array.extract_size]
  have hp : ∀ (x : List Int), x.length = 16 → ∀ W, (_root_.Go.part 38 (blk .i64 x) 0).run Try.prog W = .ok (.agg (blk .i64 x)) W := fun x hx W => by
    rw [part_agg 38 _ _ Try.underlying38 rfl info_kids 16 (by kernel_rfl), hz x hx]
  have hf : (Try.prog.fieldsOf 40).toList = [{ name := "Kids", type := 38, offset := 0, byteOffset := 0, embedded := false, tag := "", pkgPath := "" }] := by kernel_rfl
  have ha : ∀ W, (Op.equalIn 9999 38 (.agg (blk .i64 l)) (.agg (blk .i64 m))).run Try.prog W = .ok (decide (l = m)) W := fun W => by
    rw [run_equalIn_array W 9998 (t := 38) (e := 3) (n := 16) _ _ Try.underlying38 info_int', show Try.prog.cellsOf 3 = 1 by kernel_rfl, eqItems_cells 3 .i64 Try.underlying3 9997 l m W _ (fun i hi => by have := List.mem_range.1 hi; omega), all_range l m 16 _ hl hm]
  rw [run_eql_struct, run_equalIn_agg w 9999 40 _ _ (by kernel_rfl) (by kernel_rfl), hf]
  simp only [Op.eqFields, ne_eq, String.reduceEq, not_false_eq_true, if_true, Sem.run_bind, hp l hl, hp m hm, Result.andThen_ok, ha]
  by_cases h : l = m <;> simp [h]
end Go.Proofs.Ytjehcgkmapapbaa
