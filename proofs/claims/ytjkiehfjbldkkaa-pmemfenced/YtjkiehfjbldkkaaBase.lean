/-
  What the walks are told of slices of numbers in memory.
-/
import Derived.Test.YtjkiehfjbldkkaaChecked
import Derived.Test.YtjkiehfjbldkkaaNums
import Derived.WalkKit
import Derived.WalkSpells
import Derived.Laws.CopyOwn
import Derived.Deep.OwnRows
namespace Go.Proofs.Ytjkiehfjbldkkaa
set_option linter.unusedVariables false
set_option linter.unusedSimpArgs false
open Go.RowKit

theorem hide {p : Prop} (h : p) : Hid p := h
theorem unhide {p : Prop} (h : Hid p) : p := h

theorem bd_i64 {x : Int} (h : (Lit.int .i64 x).wf = true) : -9223372036854775808 ≤ x ∧ x ≤ 9223372036854775807 := by
  simpa [Lit.wf, IntKind.min, IntKind.max, IntKind.signed, IntKind.bits] using h
theorem bd_u64 {x : Int} (h : (Lit.int .u64 x).wf = true) : 0 ≤ x ∧ x ≤ 18446744073709551615 := by
  simpa [Lit.wf, IntKind.min, IntKind.max, IntKind.signed, IntKind.bits] using h
theorem bd_u8 {x : Int} (h : (Lit.int .u8 x).wf = true) : 0 ≤ x ∧ x ≤ 255 := by
  simpa [Lit.wf, IntKind.min, IntKind.max, IntKind.signed, IntKind.bits] using h

theorem pow2_256 (k : Nat) : (2 : Int) ^ (8 * k) = 256 ^ k := by rw [Int.pow_mul]; rfl

theorem nat_or_step (m x y : Nat) (hy : y < 2 ^ m) : y ||| (2 ^ m * x) = y + 2 ^ m * x := by
  rw [Nat.or_comm, nat_join m (2 ^ m * x) y (by simp) hy, Nat.add_comm]

/-- one more octet at the top of a number. -/
theorem or_step (r z : Int) (k : Nat) (hk : k < 8) (h0 : 0 ≤ r) (h1 : r < 256 ^ k) (hz0 : 0 ≤ z) (hz1 : z ≤ 255) :
    bits .or .u64 r (IntKind.u64.wrap (IntKind.u64.wrap z * 2 ^ (8 * k))) = r + 256 ^ k * z := by
  have hq : (256 : Int) ^ k = ((256 ^ k : Nat) : Int) := (Int.natCast_pow 256 k).symm
  have hp : (256 : Int) ^ k ≤ 256 ^ 7 := by
    rw [hq, show (256 : Int) ^ 7 = ((256 ^ 7 : Nat) : Int) from rfl]
    exact Int.ofNat_le.2 (Nat.pow_le_pow_right (by decide) (by omega))
  have hp0 : (0 : Int) < 256 ^ k := Nums.pow_pos k
  have hzb : 256 ^ k * z ≤ 256 ^ 7 * 255 := Int.mul_le_mul hp hz1 hz0 (by decide)
  have hzn : 0 ≤ 256 ^ k * z := Int.mul_nonneg (by omega) hz0
  have e1 : IntKind.u64.wrap z = z := by rw [IntKind.wrap_u64]; exact Int.emod_eq_of_lt hz0 (by omega)
  rw [e1, pow2_256, Int.mul_comm z, IntKind.wrap_u64, Int.emod_eq_of_lt hzn (by omega)]
  rw [u64_or r (256 ^ k * z) h0 (by omega) hzn (by omega)]
  have e2 : (256 ^ k * z).toNat = 2 ^ (8 * k) * z.toNat := by
    rw [Int.toNat_mul (by omega) hz0, Nat.pow_mul, Int.toNat_pow_of_nonneg (by decide)]; rfl
  have e3 : r.toNat < 2 ^ (8 * k) := by
    rw [Nat.pow_mul, show 2 ^ 8 = 256 from rfl]
    omega
  rw [e2, nat_or_step _ _ _ e3, ← e2]
  omega

/-- The slice's first 'len' cells are the numbers zs. -/
def Row (k : IntKind) (w : World) (a : Option Addr) (len : Nat) (zs : List Int) : Prop :=
  zs.length = len ∧ (len = 0 ∨ ∃ b off, a = some ⟨b, off, none⟩ ∧ b < w.heap.size ∧ ∀ i, i < len → w.cell? ⟨b, off + i, none⟩ = some (.int k (zs.getD i 0)))

theorem Row.below {k : IntKind} {w w' : World} {a : Option Addr} {len : Nat} {zs : List Int} (h : Row k w a len zs) (hb : Below w.heap.size w w') : Row k w' a len zs := by
  obtain ⟨h1, h2⟩ := h
  refine ⟨h1, ?_⟩
  rcases h2 with h2 | ⟨b, off, e, hlt, hc⟩
  · exact .inl h2
  · exact .inr ⟨b, off, e, Nat.lt_of_lt_of_le hlt hb.size, fun i hi => (hb.cell (p := ⟨b, off + i, none⟩) hlt).trans (hc i hi)⟩

/-- the cells of a block of numbers (a definition of its own: the walk leaves it standing). -/
def blk (k : IntKind) (zs : List Int) : Array Value := (zs.map (Value.int k)).toArray
theorem size_blk (k : IntKind) (zs : List Int) : (blk k zs).size = zs.length := by simp [blk]
theorem blk_get (k : IntKind) (zs : List Int) (i : Nat) (h : i < zs.length) : (blk k zs)[i]? = some (.int k (zs.getD i 0)) := by simp [blk, h]
theorem blk_set (k : IntKind) (zs : List Int) (i : Nat) (z : Int) : (blk k zs).setIfInBounds i (.int k z) = blk k (zs.set i z) := by
  simp [blk]
theorem blk_one (k : IntKind) (zs : List Int) : (blk k zs).all (·.oneCell') = true := by
  rw [Array.all_eq_true_iff_forall_mem]
  intro v hv
  simp [blk] at hv
  obtain ⟨z, _, rfl⟩ := hv
  rfl
theorem blk_made (k : IntKind) (n : Nat) : madeCells #[Value.int k 0] n = blk k (List.replicate n 0) := by
  apply Array.toList_inj.1
  rw [toList_madeCells_one]
  simp [blk]

/-- a block that was made: its cells are the numbers zs. -/
theorem row_of_block {k : IntKind} {w : World} {g : Nat} {e : TypeId} {zs : List Int} {n : Nat} (h : w.heap[g]? = some (.cells (blk k zs) e (0, 0))) (hn : zs.length = n) : Row k w (some ⟨g, 0, none⟩) n zs := by
  subst hn
  refine ⟨rfl, .inr ⟨g, 0, rfl, ?_, fun i hi => ?_⟩⟩
  · have := Array.getElem?_eq_some_iff.1 h
    exact this.1
  · simp [World.cell?, h, blk, hi]

end Go.Proofs.Ytjkiehfjbldkkaa
