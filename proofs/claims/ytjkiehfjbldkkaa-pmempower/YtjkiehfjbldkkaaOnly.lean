/-
  What a call leaves as it was, where it may turn just the blocks of one object: frames.
-/
import Derived.Test.YtjkiehfjbldkkaaArgs
namespace Go.Proofs.Ytjkiehfjbldkkaa
set_option linter.unusedVariables false
set_option linter.unusedSimpArgs false
open Go.RowKit

/-- all blocks that were there are as they were, but those of F. -/
structure Only (F : Nat → Prop) (w w' : World) : Prop where
  os : w'.os = w.os
  tape : w'.tape = w.tape
  output : w'.output = w.output
  size : w.heap.size ≤ w'.heap.size
  block : ∀ k, k < w.heap.size → ¬ F k → w'.heap[k]? = w.heap[k]?

theorem Only.refl (F : Nat → Prop) (w : World) : Only F w w := ⟨rfl, rfl, rfl, Nat.le_refl _, fun _ _ _ => rfl⟩
theorem Only.trans {F : Nat → Prop} {a b c : World} (h : Only F a b) (k : Only F b c) : Only F a c :=
  ⟨k.os.trans h.os, k.tape.trans h.tape, k.output.trans h.output, Nat.le_trans h.size k.size, fun i hi hn => (k.block i (Nat.lt_of_lt_of_le hi h.size) hn).trans (h.block i hi hn)⟩
/-- .. where the second one's blocks are the first one's, or new. -/
theorem Only.trans' {F G : Nat → Prop} {a b c : World} (h : Only F a b) (k : Only G b c) (hG : ∀ i, G i → F i ∨ a.heap.size ≤ i) : Only F a c :=
  ⟨k.os.trans h.os, k.tape.trans h.tape, k.output.trans h.output, Nat.le_trans h.size k.size, fun i hi hn => (k.block i (Nat.lt_of_lt_of_le hi h.size) (fun g => by rcases hG i g with h | h; exact hn h; omega)).trans (h.block i hi hn)⟩
theorem Only.mono {F G : Nat → Prop} {w w' : World} (h : Only F w w') (hF : ∀ k, F k → G k) : Only G w w' := ⟨h.os, h.tape, h.output, h.size, fun k hk hn => h.block k hk (fun f => hn (hF k f))⟩
theorem Only.alloc {F : Nat → Prop} {a w : World} (h : Only F a w) (o : Obj) : Only F a (w.alloc o) :=
  h.trans ⟨rfl, rfl, rfl, by simp, fun k hk _ => Below.heap_alloc _ _ _ hk⟩
theorem Only.setCell {F : Nat → Prop} {a w : World} (h : Only F a w) {p : Addr} (hp : F p.block) (u : Value) : Only F a (w.setCell p u) :=
  h.trans ⟨rfl, rfl, rfl, by simp [World.setCell], fun k hk hn => Below.heap_setCell _ _ _ _ (fun e => hn (e ▸ hp))⟩
theorem Only.below {F : Nat → Prop} {B : Nat} {w w' : World} (h : Only F w w') (hF : ∀ k, F k → B ≤ k) (hB : B ≤ w.heap.size) : Below B w w' :=
  ⟨h.os, h.tape, h.output, h.size, fun k hk => h.block k (by omega) (fun f => by have := hF k f; omega)⟩
theorem Only.of_below {F : Nat → Prop} {w w' : World} (h : Below w.heap.size w w') : Only F w w' := ⟨h.os, h.tape, h.output, h.size, fun k hk _ => h.block k hk⟩
theorem Only.cell {F : Nat → Prop} {w w' : World} (h : Only F w w') {p : Addr} (hp : p.block < w.heap.size) (hn : ¬ F p.block) : w'.cell? p = w.cell? p := World.cell?_of_block (w := w) (h.block p.block hp hn)

/-- the blocks of an object behind a call: its own, or new. -/
def Grows (F : Nat → Prop) (w : World) (F' : Nat → Prop) (w' : World) : Prop := ∀ k, F' k → F k ∨ (w.heap.size ≤ k ∧ k < w'.heap.size)
theorem Grows.refl (F : Nat → Prop) (w w' : World) : Grows F w F w' := fun _ h => .inl h

/-- bools in memory. -/
def blkB (bs : List Bool) : Array Value := (bs.map Value.bool).toArray
theorem size_blkB (bs : List Bool) : (blkB bs).size = bs.length := by simp [blkB]
theorem blkB_get (bs : List Bool) (i : Nat) (h : i < bs.length) : (blkB bs)[i]? = some (.bool (bs.getD i false)) := by simp [blkB, h]
theorem blkB_set (bs : List Bool) (i : Nat) (z : Bool) : (blkB bs).setIfInBounds i (.bool z) = blkB (bs.set i z) := by simp [blkB]
theorem blkB_made (n : Nat) : madeCells #[Value.bool false] n = blkB (List.replicate n false) := by
  apply Array.toList_inj.1
  rw [toList_madeCells_one]
  simp [blkB]

/-- a cell of a block of numbers, and that it may be written. -/
theorem cell_blk {w : World} {g : Nat} {k : IntKind} {zs : List Int} {T : TypeId} (h : w.heap[g]? = some (.cells (blk k zs) T (0, 0))) {i : Nat} (hi : i < zs.length) : w.cell? ⟨g, i, none⟩ = some (.int k (zs.getD i 0)) ∧ w.frozen? ⟨g, i, none⟩ = false :=
  ⟨by simp [World.cell?, h, blk_get k zs i hi], by simp [World.frozen?, h]⟩
theorem cell_blkB {w : World} {g : Nat} {bs : List Bool} {T : TypeId} (h : w.heap[g]? = some (.cells (blkB bs) T (0, 0))) {i : Nat} (hi : i < bs.length) : w.cell? ⟨g, i, none⟩ = some (.bool (bs.getD i false)) ∧ w.frozen? ⟨g, i, none⟩ = false :=
  ⟨by simp [World.cell?, h, blkB_get bs i hi], by simp [World.frozen?, h]⟩
theorem heap_set {w : World} {g : Nat} {cs : Array Value} {T : TypeId} (h : w.heap[g]? = some (.cells cs T (0, 0))) (i : Nat) (u : Value) : (w.setCell ⟨g, i, none⟩ u).heap[g]? = some (.cells (cs.setIfInBounds i u) T (0, 0)) := heap_setCell_same _ _ _ _ _ _ h
theorem heap_set_other {w : World} {g h : Nat} (hne : h ≠ g) (i : Nat) (u : Value) : (w.setCell ⟨g, i, none⟩ u).heap[h]? = w.heap[h]? := Below.heap_setCell _ _ _ _ hne
end Go.Proofs.Ytjkiehfjbldkkaa
