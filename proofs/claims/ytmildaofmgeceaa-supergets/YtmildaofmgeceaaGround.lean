/-
  Nums, Base, Args, Only, Own, Strs, in one text.
-/
import Derived.WalkKit
import Derived.Test.YtmildaofmgeceaaChecked
import Derived.WalkSpells
import Derived.Laws.CopyOwn
import Derived.Deep.OwnRows
namespace Go.Proofs.Ytmildaofmgeceaa
set_option linter.unusedVariables false
set_option linter.unusedSimpArgs false
namespace Nums

/-- The number that octets are, the least first. -/
def rd : List Int → Int
  | [] => 0
  | z :: r => z + 256 * rd r

/-- The first n octets of a number, the least first. -/
def lay : Int → Nat → List Int
  | _, 0 => []
  | v, n + 1 => v % 256 :: lay (v / 256) n

def Bytes (l : List Int) : Prop := ∀ z ∈ l, 0 ≤ z ∧ z ≤ 255

theorem bytes_nil : Bytes [] := by intro z hz; cases hz
theorem bytes_cons {z : Int} {l : List Int} (h : Bytes (z :: l)) : (0 ≤ z ∧ z ≤ 255) ∧ Bytes l :=
  ⟨h z (by simp), fun y hy => h y (by simp [hy])⟩
theorem bytes_take {l : List Int} (h : Bytes l) (k : Nat) : Bytes (l.take k) := fun z hz => h z (List.mem_of_mem_take hz)
theorem bytes_drop {l : List Int} (h : Bytes l) (k : Nat) : Bytes (l.drop k) := fun z hz => h z (List.mem_of_mem_drop hz)
theorem bytes_append {l m : List Int} (h : Bytes l) (k : Bytes m) : Bytes (l ++ m) := fun z hz => by
  rcases List.mem_append.1 hz with q | q
  · exact h z q
  · exact k z q
theorem bytes_replicate (n : Nat) : Bytes (List.replicate n 0) := fun z hz => by
  have := (List.mem_replicate.1 hz).2; subst this; omega

theorem pow_pos (n : Nat) : (0 : Int) < 256 ^ n := Int.pow_pos (by decide)

theorem rd_bounds : ∀ (l : List Int), Bytes l → 0 ≤ rd l ∧ rd l < 256 ^ l.length
  | [], _ => by simp [rd]
  | z :: r, h => by
    have ih := rd_bounds r (bytes_cons h).2
    have hz := (bytes_cons h).1
    simp only [rd, List.length_cons, Int.pow_succ]
    omega

theorem rd_append : ∀ (l m : List Int), rd (l ++ m) = rd l + 256 ^ l.length * rd m
  | [], m => by simp [rd]
  | z :: r, m => by
    have ih := rd_append r m
    simp only [rd, List.cons_append, List.length_cons, Int.pow_succ, ih]
    rw [Int.mul_add, Int.add_assoc, Int.mul_comm (256 ^ r.length) 256, Int.mul_assoc]

theorem rd_snoc (l : List Int) (z : Int) : rd (l ++ [z]) = rd l + 256 ^ l.length * z := by
  rw [rd_append]; simp [rd]

theorem length_lay : ∀ (n : Nat) (v : Int), (lay v n).length = n
  | 0, _ => rfl
  | n + 1, v => by simp [lay, length_lay n]

theorem bytes_lay : ∀ (n : Nat) (v : Int), Bytes (lay v n)
  | 0, _ => bytes_nil
  | n + 1, v => fun z hz => by
    rcases List.mem_cons.1 hz with rfl | q
    · omega
    · exact bytes_lay n _ z q

theorem rd_lay : ∀ (n : Nat) (v : Int), rd (lay v n) = v % 256 ^ n
  | 0, v => by simp [lay, rd]
  | n + 1, v => by
    simp only [lay, rd, rd_lay n, Int.pow_succ]
    have hp := pow_pos n
    have e1 := Int.emod_add_mul_ediv v 256
    have e2 := Int.emod_add_mul_ediv (v / 256) (256 ^ n)
    have b1 := Int.emod_nonneg v (show (256 : Int) ≠ 0 by decide)
    have b1' := Int.emod_lt_of_pos v (show (0 : Int) < 256 by decide)
    have b2 := Int.emod_nonneg (v / 256) (show (256 ^ n : Int) ≠ 0 by omega)
    have b2' := Int.emod_lt_of_pos (v / 256) hp
    generalize v / 256 % 256 ^ n = r at *
    generalize v / 256 / 256 ^ n = q at *
    generalize v / 256 = d at *
    generalize v % 256 = m at *
    have e : v = (m + 256 * r) + (256 ^ n * 256) * q := by
      rw [← e1, ← e2, Int.mul_add, Int.mul_comm (256 ^ n) 256, Int.mul_assoc]; omega
    rw [e, Int.add_mul_emod_self_left, Int.emod_eq_of_lt (by omega) (by omega)]

theorem lay_rd : ∀ (l : List Int), Bytes l → lay (rd l) l.length = l
  | [], _ => rfl
  | z :: r, h => by
    have hz := (bytes_cons h).1
    have e1 : (z + 256 * rd r) % 256 = z := by omega
    have e2 : (z + 256 * rd r) / 256 = rd r := by omega
    simp only [rd, List.length_cons, lay, e1, e2, lay_rd r (bytes_cons h).2]

theorem lay_succ : ∀ (n : Nat) (v : Int), lay v (n + 1) = lay v n ++ [v / 256 ^ n % 256]
  | 0, v => by simp [lay]
  | n + 1, v => by
    have ih := lay_succ n (v / 256)
    have e : v / 256 / 256 ^ n = v / 256 ^ (n + 1) := by
      rw [Int.ediv_ediv_of_nonneg (by decide), Int.pow_succ, Int.mul_comm]
    rw [e] at ih
    rw [lay, ih]
    rfl

theorem rd_inj (l m : List Int) (hl : Bytes l) (hm : Bytes m) (hn : l.length = m.length) (h : rd l = rd m) : l = m := by
  rw [← lay_rd l hl, ← lay_rd m hm, h, hn]

end Nums
end Go.Proofs.Ytmildaofmgeceaa

namespace Go.Proofs.Ytmildaofmgeceaa
set_option linter.unusedVariables false
set_option linter.unusedSimpArgs false
open Go.RowKit

theorem hide {p : Prop} (h : p) : Hid p := h
theorem unhide {p : Prop} (h : Hid p) : p := h

theorem bd_i64 {x : Int} (h : (Lit.int .i64 x).wf = true) : -9223372036854775808 ≤ x ∧ x ≤ 9223372036854775807 := by
  simpa [Lit.wf, IntKind.min, IntKind.max, IntKind.signed, IntKind.bits] using h
theorem bd_u64 {x : Int} (h : (Lit.int .u64 x).wf = true) : 0 ≤ x ∧ x ≤ 18446744073709551615 := by
  simpa [Lit.wf, IntKind.min, IntKind.max, IntKind.signed, IntKind.bits] using h
theorem bd_u8 {x : Int} (h : (Lit.int .u8 x).wf = true) : 0 ≤ x ∧ x ≤ 255 := by
  simpa [Lit.wf, IntKind.min, IntKind.max, IntKind.signed, IntKind.bits] using h

theorem pow2_256 (k : Nat) : (2 : Int) ^ (8 * k) = 256 ^ k := by rw [Int.pow_mul]; rfl

theorem nat_or_step (m x y : Nat) (hy : y < 2 ^ m) : y ||| (2 ^ m * x) = y + 2 ^ m * x := by
  rw [Nat.or_comm, nat_join m (2 ^ m * x) y (by simp) hy, Nat.add_comm]

/-- one more octet at the top of a number. -/
theorem or_step (r z : Int) (k : Nat) (hk : k < 8) (h0 : 0 ≤ r) (h1 : r < 256 ^ k) (hz0 : 0 ≤ z) (hz1 : z ≤ 255) :
    bits .or .u64 r (IntKind.u64.wrap (IntKind.u64.wrap z * 2 ^ (8 * k))) = r + 256 ^ k * z := by
  have hq : (256 : Int) ^ k = ((256 ^ k : Nat) : Int) := (Int.natCast_pow 256 k).symm
  have hp : (256 : Int) ^ k ≤ 256 ^ 7 := by
    rw [hq, show (256 : Int) ^ 7 = ((256 ^ 7 : Nat) : Int) from rfl]
    exact Int.ofNat_le.2 (Nat.pow_le_pow_right (by decide) (by omega))
  have hp0 : (0 : Int) < 256 ^ k := Nums.pow_pos k
  have hzb : 256 ^ k * z ≤ 256 ^ 7 * 255 := Int.mul_le_mul hp hz1 hz0 (by decide)
  have hzn : 0 ≤ 256 ^ k * z := Int.mul_nonneg (by omega) hz0
  have e1 : IntKind.u64.wrap z = z := by rw [IntKind.wrap_u64]; exact Int.emod_eq_of_lt hz0 (by omega)
  rw [e1, pow2_256, Int.mul_comm z, IntKind.wrap_u64, Int.emod_eq_of_lt hzn (by omega)]
  rw [u64_or r (256 ^ k * z) h0 (by omega) hzn (by omega)]
  have e2 : (256 ^ k * z).toNat = 2 ^ (8 * k) * z.toNat := by
    rw [Int.toNat_mul (by omega) hz0, Nat.pow_mul, Int.toNat_pow_of_nonneg (by decide)]; rfl
  have e3 : r.toNat < 2 ^ (8 * k) := by
    rw [Nat.pow_mul, show 2 ^ 8 = 256 from rfl]
    omega
  rw [e2, nat_or_step _ _ _ e3, ← e2]
  omega

/-- The slice's first 'len' cells are the numbers zs. -/
def Row (k : IntKind) (w : World) (a : Option Addr) (len : Nat) (zs : List Int) : Prop :=
  zs.length = len ∧ (len = 0 ∨ ∃ b off, a = some ⟨b, off, none⟩ ∧ b < w.heap.size ∧ ∀ i, i < len → w.cell? ⟨b, off + i, none⟩ = some (.int k (zs.getD i 0)))

theorem Row.below {k : IntKind} {w w' : World} {a : Option Addr} {len : Nat} {zs : List Int} (h : Row k w a len zs) (hb : Below w.heap.size w w') : Row k w' a len zs := by
  obtain ⟨h1, h2⟩ := h
  refine ⟨h1, ?_⟩
  rcases h2 with h2 | ⟨b, off, e, hlt, hc⟩
  · exact .inl h2
  · exact .inr ⟨b, off, e, Nat.lt_of_lt_of_le hlt hb.size, fun i hi => (hb.cell (p := ⟨b, off + i, none⟩) hlt).trans (hc i hi)⟩

/-- the cells of a block of numbers (a definition of its own: the walk leaves it standing). -/
def blk (k : IntKind) (zs : List Int) : Array Value := (zs.map (Value.int k)).toArray
theorem size_blk (k : IntKind) (zs : List Int) : (blk k zs).size = zs.length := by simp [blk]
theorem blk_get (k : IntKind) (zs : List Int) (i : Nat) (h : i < zs.length) : (blk k zs)[i]? = some (.int k (zs.getD i 0)) := by simp [blk, h]
theorem blk_set (k : IntKind) (zs : List Int) (i : Nat) (z : Int) : (blk k zs).setIfInBounds i (.int k z) = blk k (zs.set i z) := by
  simp [blk]
theorem blk_one (k : IntKind) (zs : List Int) : (blk k zs).all (·.oneCell') = true := by
  rw [Array.all_eq_true_iff_forall_mem]
  intro v hv
  simp [blk] at hv
  obtain ⟨z, _, rfl⟩ := hv
  rfl
theorem blk_made (k : IntKind) (n : Nat) : madeCells #[Value.int k 0] n = blk k (List.replicate n 0) := by
  apply Array.toList_inj.1
  rw [toList_madeCells_one]
  simp [blk]

/-- a block that was made: its cells are the numbers zs. -/
theorem row_of_block {k : IntKind} {w : World} {g : Nat} {e : TypeId} {zs : List Int} {n : Nat} (h : w.heap[g]? = some (.cells (blk k zs) e (0, 0))) (hn : zs.length = n) : Row k w (some ⟨g, 0, none⟩) n zs := by
  subst hn
  refine ⟨rfl, .inr ⟨g, 0, rfl, ?_, fun i hi => ?_⟩⟩
  · have := Array.getElem?_eq_some_iff.1 h
    exact this.1
  · simp [World.cell?, h, blk, hi]

end Go.Proofs.Ytmildaofmgeceaa

namespace Go.Proofs.Ytmildaofmgeceaa
set_option linter.unusedVariables false
set_option linter.unusedSimpArgs false
open Go.RowKit

theorem bd_u32 {x : Int} (h : (Lit.int .u32 x).wf = true) : 0 ≤ x ∧ x ≤ 4294967295 := by
  simpa [Lit.wf, IntKind.min, IntKind.max, IntKind.signed, IntKind.bits] using h

theorem oneCells (k : IntKind) (l : List Int) : ∀ v ∈ l.map (Value.int k), v.oneCell' = true := ints_oneCell k l
theorem Row.src {k : IntKind} {w : World} {a : Option Addr} {len : Nat} {zs : List Int} (h : Row k w a len zs) (hp : 0 < len) : ∃ ad, a = some ad ∧ ∀ (j : Nat) v, (zs.map (Value.int k))[j]? = some v → w.cell? (ad.add j) = some v := by
  obtain ⟨hl, h0 | ⟨b, off, rfl, hb, hc⟩⟩ := h
  · omega
  · refine ⟨_, rfl, fun j v hj => ?_⟩
    have hjl : j < zs.length := by
      have := (List.getElem?_eq_some_iff.1 hj).1
      simpa using this
    have : (⟨b, off, none⟩ : Addr).add j = ⟨b, off + j, none⟩ := by unfold Addr.add; split <;> simp_all
    rw [this, hc j (by omega)]
    simp [hjl] at hj ⊢
    exact hj

/-- what is known of a slice of numbers that came in (its numbers zs up to its length). -/
def Arg (k : IntKind) (w : World) (a : Option Addr) (len cap : Nat) (zs : List Int) : Prop :=
  len ≤ cap ∧ cap ≤ maxLen ∧ Row k w a len zs ∧ (∀ z ∈ zs, (Lit.int k z).wf = true) ∧ (cap = 0 ∨ ∃ b off, a = some ⟨b, off, none⟩)

theorem Arg.below {k : IntKind} {w w' : World} {a : Option Addr} {len cap : Nat} {zs : List Int} (h : Arg k w a len cap zs) (hb : Below w.heap.size w w') : Arg k w' a len cap zs :=
  ⟨h.1, h.2.1, h.2.2.1.below hb, h.2.2.2⟩

theorem Arg.bytes {w : World} {a : Option Addr} {len cap : Nat} {zs : List Int} (h : Arg .u8 w a len cap zs) : Nums.Bytes zs := fun z hz => bd_u8 (h.2.2.2.1 z hz)

theorem arg_of {k : IntKind} {w : World} {a : Option Addr} {len cap : Nat} {zs : List Int}
    (h : (a = none ∧ len = 0 ∧ cap = 0 ∧ zs = []) ∨ ∃ x, a = some x ∧ len ≤ cap ∧ cap ≤ maxLen ∧ zs.length = cap ∧ (∀ i, i < zs.length → w.cell? (x.add i) = some (.int k (zs.getD i 0))) ∧ ∀ n ∈ zs, (Lit.int k n).wf = true) :
    Arg k w a len cap (zs.take len) := by
  rcases h with ⟨rfl, rfl, rfl, rfl⟩ | ⟨x, rfl, hl, hm, hz, hc, hwf⟩
  · exact ⟨Nat.le_refl _, Nat.zero_le _, ⟨rfl, .inl rfl⟩, by simp, .inl rfl⟩
  · have hx : cap = 0 ∨ ∃ b off, x = ⟨b, off, none⟩ ∧ b < w.heap.size := by
      by_cases h0 : cap = 0
      · exact .inl h0
      · obtain ⟨b, off, spot⟩ := x
        have hc0 := hc 0 (by omega)
        have hs : spot = none := by simpa [Addr.add] using World.cell?_spot hc0
        subst hs
        exact .inr ⟨b, off, rfl, by simpa [Addr.add] using World.block_lt_of_cell? w _ hc0⟩
    refine ⟨hl, hm, ⟨by simp; omega, ?_⟩, fun z hz' => hwf z (List.mem_of_mem_take hz'), ?_⟩
    · by_cases h0 : len = 0
      · exact .inl h0
      · rcases hx with hx | ⟨b, off, rfl, hb⟩
        · omega
        · refine .inr ⟨b, off, rfl, hb, fun i hi => ?_⟩
          have h1 := hc i (by omega)
          have e : (⟨b, off, none⟩ : Addr).add i = ⟨b, off + i, none⟩ := by unfold Addr.add; split <;> simp_all
          rw [e] at h1
          rw [h1]
          simp [List.getElem?_take, hi]
    · rcases hx with hx | ⟨b, off, rfl, hb⟩
      · exact .inl hx
      · exact .inr ⟨b, off, rfl⟩

theorem wf_of_bd {x : Int} (h : -9223372036854775808 ≤ x ∧ x ≤ 9223372036854775807) : (Lit.int .i64 x).wf = true := by
  simpa [Lit.wf, IntKind.min, IntKind.max, IntKind.signed, IntKind.bits] using h
end Go.Proofs.Ytmildaofmgeceaa

namespace Go.Proofs.Ytmildaofmgeceaa
set_option linter.unusedVariables false
set_option linter.unusedSimpArgs false
open Go.RowKit

/-- all blocks that were there are as they were, but those of F. -/
structure Only (F : Nat → Prop) (w w' : World) : Prop where
  os : w'.os = w.os
  tape : w'.tape = w.tape
  output : w'.output = w.output
  size : w.heap.size ≤ w'.heap.size
  block : ∀ k, k < w.heap.size → ¬ F k → w'.heap[k]? = w.heap[k]?

theorem Only.refl (F : Nat → Prop) (w : World) : Only F w w := ⟨rfl, rfl, rfl, Nat.le_refl _, fun _ _ _ => rfl⟩
theorem Only.trans {F : Nat → Prop} {a b c : World} (h : Only F a b) (k : Only F b c) : Only F a c :=
  ⟨k.os.trans h.os, k.tape.trans h.tape, k.output.trans h.output, Nat.le_trans h.size k.size, fun i hi hn => (k.block i (Nat.lt_of_lt_of_le hi h.size) hn).trans (h.block i hi hn)⟩
/-- .. where the second one's blocks are the first one's, or new. -/
theorem Only.trans' {F G : Nat → Prop} {a b c : World} (h : Only F a b) (k : Only G b c) (hG : ∀ i, G i → F i ∨ a.heap.size ≤ i) : Only F a c :=
  ⟨k.os.trans h.os, k.tape.trans h.tape, k.output.trans h.output, Nat.le_trans h.size k.size, fun i hi hn => (k.block i (Nat.lt_of_lt_of_le hi h.size) (fun g => by rcases hG i g with h | h; exact hn h; omega)).trans (h.block i hi hn)⟩
theorem Only.mono {F G : Nat → Prop} {w w' : World} (h : Only F w w') (hF : ∀ k, F k → G k) : Only G w w' := ⟨h.os, h.tape, h.output, h.size, fun k hk hn => h.block k hk (fun f => hn (hF k f))⟩
theorem Only.alloc {F : Nat → Prop} {a w : World} (h : Only F a w) (o : Obj) : Only F a (w.alloc o) :=
  h.trans ⟨rfl, rfl, rfl, by simp, fun k hk _ => Below.heap_alloc _ _ _ hk⟩
theorem Only.setCell {F : Nat → Prop} {a w : World} (h : Only F a w) {p : Addr} (hp : F p.block) (u : Value) : Only F a (w.setCell p u) :=
  h.trans ⟨rfl, rfl, rfl, by simp [World.setCell], fun k hk hn => Below.heap_setCell _ _ _ _ (fun e => hn (e ▸ hp))⟩
theorem Only.below {F : Nat → Prop} {B : Nat} {w w' : World} (h : Only F w w') (hF : ∀ k, F k → B ≤ k) (hB : B ≤ w.heap.size) : Below B w w' :=
  ⟨h.os, h.tape, h.output, h.size, fun k hk => h.block k (by omega) (fun f => by have := hF k f; omega)⟩
theorem Only.of_below {F : Nat → Prop} {w w' : World} (h : Below w.heap.size w w') : Only F w w' := ⟨h.os, h.tape, h.output, h.size, fun k hk _ => h.block k hk⟩
theorem Only.cell {F : Nat → Prop} {w w' : World} (h : Only F w w') {p : Addr} (hp : p.block < w.heap.size) (hn : ¬ F p.block) : w'.cell? p = w.cell? p := World.cell?_of_block (w := w) (h.block p.block hp hn)

/-- the blocks of an object behind a call: its own, or new. -/
def Grows (F : Nat → Prop) (w : World) (F' : Nat → Prop) (w' : World) : Prop := ∀ k, F' k → F k ∨ (w.heap.size ≤ k ∧ k < w'.heap.size)
theorem Grows.refl (F : Nat → Prop) (w w' : World) : Grows F w F w' := fun _ h => .inl h

/-- bools in memory. -/
def blkB (bs : List Bool) : Array Value := (bs.map Value.bool).toArray
theorem size_blkB (bs : List Bool) : (blkB bs).size = bs.length := by simp [blkB]
theorem blkB_get (bs : List Bool) (i : Nat) (h : i < bs.length) : (blkB bs)[i]? = some (.bool (bs.getD i false)) := by simp [blkB, h]
theorem blkB_set (bs : List Bool) (i : Nat) (z : Bool) : (blkB bs).setIfInBounds i (.bool z) = blkB (bs.set i z) := by simp [blkB]
theorem blkB_made (n : Nat) : madeCells #[Value.bool false] n = blkB (List.replicate n false) := by
  apply Array.toList_inj.1
  rw [toList_madeCells_one]
  simp [blkB]

/-- a cell of a block of numbers, and that it may be written. -/
theorem cell_blk {w : World} {g : Nat} {k : IntKind} {zs : List Int} {T : TypeId} (h : w.heap[g]? = some (.cells (blk k zs) T (0, 0))) {i : Nat} (hi : i < zs.length) : w.cell? ⟨g, i, none⟩ = some (.int k (zs.getD i 0)) ∧ w.frozen? ⟨g, i, none⟩ = false :=
  ⟨by simp [World.cell?, h, blk_get k zs i hi], by simp [World.frozen?, h]⟩
theorem cell_blkB {w : World} {g : Nat} {bs : List Bool} {T : TypeId} (h : w.heap[g]? = some (.cells (blkB bs) T (0, 0))) {i : Nat} (hi : i < bs.length) : w.cell? ⟨g, i, none⟩ = some (.bool (bs.getD i false)) ∧ w.frozen? ⟨g, i, none⟩ = false :=
  ⟨by simp [World.cell?, h, blkB_get bs i hi], by simp [World.frozen?, h]⟩
theorem heap_set {w : World} {g : Nat} {cs : Array Value} {T : TypeId} (h : w.heap[g]? = some (.cells cs T (0, 0))) (i : Nat) (u : Value) : (w.setCell ⟨g, i, none⟩ u).heap[g]? = some (.cells (cs.setIfInBounds i u) T (0, 0)) := heap_setCell_same _ _ _ _ _ _ h
theorem heap_set_other {w : World} {g h : Nat} (hne : h ≠ g) (i : Nat) (u : Value) : (w.setCell ⟨g, i, none⟩ u).heap[h]? = w.heap[h]? := Below.heap_setCell _ _ _ _ hne
end Go.Proofs.Ytmildaofmgeceaa

namespace Go.Proofs.Ytmildaofmgeceaa
set_option linter.unusedVariables false
set_option linter.unusedSimpArgs false
open Go.RowKit

/-- what is owned is read as numbers. -/
theorem row_of_own {k : IntKind} {w : World} {B : Nat} {E : TypeId} {v : Value} {n : Nat} {zs : List Int} (h : w.ownsRow B E 1 v n (zs.map (Value.int k))) :
    ∃ a cap, v = .slice a n cap ∧ n ≤ cap ∧ cap ≤ maxLen ∧ zs.length = n ∧ Row k w a n zs := by
  obtain ⟨hl, h⟩ := h
  have hl' : zs.length = n := by simpa using hl
  rcases h with ⟨rfl, rfl⟩ | ⟨g, cap, cur, rfl, hB, hg, hle, hmax, hcs, htake⟩
  · exact ⟨none, 0, rfl, Nat.le_refl _, Nat.zero_le _, hl', hl', .inl rfl⟩
  · refine ⟨_, cap, rfl, hle, hmax, hl', hl', .inr ⟨g, 0, rfl, (Array.getElem?_eq_some_iff.1 hg).1, fun i hi => ?_⟩⟩
    have e : cur[i]? = (zs.map (Value.int k))[i]? := by
      have h2 : (cur.toList.take (n * 1))[i]? = (zs.map (Value.int k))[i]? := by rw [htake]
      rw [List.getElem?_take, if_pos (by omega)] at h2
      simpa using h2
    simp [World.cell?, hg, e]
    rw [List.getElem?_eq_getElem (by omega)]
    rfl

/-- behind append(out, x): a block below the owned row stands. -/
theorem own_below {w w' : World} {B : Nat} {E : TypeId} {v : Value} {n : Nat} {xs : List Value} (hown : w.ownsRow B E 1 v n xs) (hgrow : w.grownBy w' v.ownBlock) (hB : B ≤ w.heap.size) {w0 : World} {B0 : Nat} (hb : Below B0 w0 w) (h0 : B0 ≤ B) : Below B0 w0 w' := by
  refine hb.grown hgrow (by omega) (fun k hk => ?_)
  rcases hown.2 with ⟨rfl, _⟩ | ⟨g, c, cur, rfl, hBg, _⟩
  · simp [Value.ownBlock] at hk
  · simp [Value.ownBlock] at hk
    omega

/-- what is owned is owned still, where only new memory was made. -/
theorem own_kept {w w' : World} {B : Nat} {E : TypeId} {v : Value} {n : Nat} {xs : List Value} (h : w.ownsRow B E 1 v n xs) (hb : Below w.heap.size w w') : w'.ownsRow B E 1 v n xs := by
  obtain ⟨hl, h⟩ := h
  refine ⟨hl, ?_⟩
  rcases h with h | ⟨g, cap, cur, hv, hB, hg, hrest⟩
  · exact .inl h
  · exact .inr ⟨g, cap, cur, hv, hB, (hb.block g (Array.getElem?_eq_some_iff.1 hg).1).trans hg, hrest⟩

/-- how long a text is (of a value). -/
def strLen : Value → Nat
  | .string s => s.size
  | _ => 0
end Go.Proofs.Ytmildaofmgeceaa

namespace Go.Proofs.Ytmildaofmgeceaa
set_option linter.unusedVariables false
set_option linter.unusedSimpArgs false
open Go.RowKit

theorem Row.cut {k : IntKind} {w : World} {a : Option Addr} {len : Nat} {zs : List Int} (h : Row k w a len zs) (p n : Nat) (hpn : p + n ≤ len) (hn : 0 < n) :
    ∃ b off, a = some ⟨b, off, none⟩ ∧ Row k w (some ⟨b, off + p, none⟩) n ((zs.drop p).take n) := by
  obtain ⟨hl, h0 | ⟨b, off, ha, hb, hc⟩⟩ := h
  · omega
  · refine ⟨b, off, ha, by simp; omega, .inr ⟨b, off + p, rfl, hb, fun i hi => ?_⟩⟩
    rw [Nat.add_assoc, hc (p + i) (by omega)]
    simp [List.getElem?_take, hi]

theorem str_nil : strOfNums [] = ByteArray.mk #[] := rfl
theorem str_append (x y : List Int) : strOfNums x ++ strOfNums y = strOfNums (x ++ y) := by
  unfold strOfNums
  rw [ByteArray.mk_append_mk, List.map_append]
theorem size_str (x : List Int) : (strOfNums x).size = x.length := strOfNums_size x

theorem str_at (zs : List Int) (k : Nat) (h : k < zs.length) (hz : Nums.Bytes zs) (hs : k < (strOfNums zs).size) : (((strOfNums zs)[k]'hs).toNat : Int) = zs[k] := by
  have hb := hz _ (List.getElem_mem h)
  have e : (strOfNums zs)[k]'hs = UInt8.ofNat (zs[k]).toNat := by
    show (strOfNums zs).data[k] = _
    simp [strOfNums]
  rw [e]
  simp
  omega

/-- a string's octets. -/
def numsOf (s : ByteArray) : List Int := s.data.toList.map fun b => (b.toNat : Int)
theorem numsOf_bytes (s : ByteArray) : Nums.Bytes (numsOf s) := fun z hz => by
  obtain ⟨b, _, rfl⟩ := List.mem_map.1 hz
  have := b.toNat_lt
  omega
theorem str_numsOf (s : ByteArray) : strOfNums (numsOf s) = s := by
  unfold strOfNums numsOf
  rw [List.map_map]
  have e : s.data.toList.map ((fun n : Int => UInt8.ofNat n.toNat) ∘ fun b : UInt8 => (b.toNat : Int)) = s.data.toList := by
    conv => rhs; rw [← List.map_id s.data.toList]
    refine List.map_congr_left fun b _ => ?_
    simp
  rw [e]
theorem numsOf_str (l : List Int) (h : Nums.Bytes l) : numsOf (strOfNums l) = l := by
  unfold strOfNums numsOf
  simp only [List.map_map]
  conv => rhs; rw [← List.map_id l]
  refine List.map_congr_left fun z hz => ?_
  have := h z hz
  simp
  omega
theorem numsOf_length (s : ByteArray) : (numsOf s).length = s.size := by
  unfold numsOf
  rw [List.length_map]
  rfl
theorem str_inj {l m : List Int} (hl : Nums.Bytes l) (hm : Nums.Bytes m) (h : strOfNums l = strOfNums m) : l = m := by
  rw [← numsOf_str l hl, ← numsOf_str m hm, h]
theorem str_toList (l : List Int) : (strOfNums l).toList = l.map fun n => UInt8.ofNat n.toNat := by rw [ByteArray.toList_eq]; exact strOfNums_data l
/-- how the walk holds two strings against each other. -/
theorem str_ne {s t : ByteArray} (h : ¬ s = t) : (s.toList == t.toList) = false := by
  rw [beq_eq_false_iff_ne]
  intro e
  rw [ByteArray.toList_eq, ByteArray.toList_eq] at e
  apply h
  cases s
  cases t
  congr 1
  exact Array.toList_inj.1 e
theorem str_cut (l : List Int) (i j : Nat) : (strOfNums l).extract i j = strOfNums ((l.drop i).take (j - i)) := by
  have e : ((strOfNums l).extract i j).data = (strOfNums ((l.drop i).take (j - i))).data := by
    apply Array.toList_inj.1
    rw [ByteArray.data_extract, Array.toList_extract, strOfNums_data, strOfNums_data, List.extract_eq_take_drop, List.map_take, List.map_drop]
  cases h1 : (strOfNums l).extract i j
  cases h2 : strOfNums ((l.drop i).take (j - i))
  rw [h1, h2] at e
  congr 1
end Go.Proofs.Ytmildaofmgeceaa
