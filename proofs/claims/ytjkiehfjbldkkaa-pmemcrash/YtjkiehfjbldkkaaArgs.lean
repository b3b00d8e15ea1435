/-
  What is known of a slice of numbers that came in.
-/
import Derived.Test.YtjkiehfjbldkkaaBase
namespace Go.Proofs.Ytjkiehfjbldkkaa
set_option linter.unusedVariables false
set_option linter.unusedSimpArgs false
open Go.RowKit

theorem bd_u32 {x : Int} (h : (Lit.int .u32 x).wf = true) : 0 ≤ x ∧ x ≤ 4294967295 := by
  simpa [Lit.wf, IntKind.min, IntKind.max, IntKind.signed, IntKind.bits] using h

theorem oneCells (k : IntKind) (l : List Int) : ∀ v ∈ l.map (Value.int k), v.oneCell' = true := ints_oneCell k l
theorem Row.src {k : IntKind} {w : World} {a : Option Addr} {len : Nat} {zs : List Int} (h : Row k w a len zs) (hp : 0 < len) : ∃ ad, a = some ad ∧ ∀ (j : Nat) v, (zs.map (Value.int k))[j]? = some v → w.cell? (ad.add j) = some v := by
  obtain ⟨hl, h0 | ⟨b, off, rfl, hb, hc⟩⟩ := h
  · omega
  · refine ⟨_, rfl, fun j v hj => ?_⟩
    have hjl : j < zs.length := by
      have := (List.getElem?_eq_some_iff.1 hj).1
      simpa using this
    have : (⟨b, off, none⟩ : Addr).add j = ⟨b, off + j, none⟩ := by unfold Addr.add; split <;> simp_all
    rw [this, hc j (by omega)]
    simp [hjl] at hj ⊢
    exact hj

/-- what is known of a slice of numbers that came in (its numbers zs up to its length). -/
def Arg (k : IntKind) (w : World) (a : Option Addr) (len cap : Nat) (zs : List Int) : Prop :=
  len ≤ cap ∧ cap ≤ maxLen ∧ Row k w a len zs ∧ (∀ z ∈ zs, (Lit.int k z).wf = true) ∧ (cap = 0 ∨ ∃ b off, a = some ⟨b, off, none⟩)

theorem Arg.below {k : IntKind} {w w' : World} {a : Option Addr} {len cap : Nat} {zs : List Int} (h : Arg k w a len cap zs) (hb : Below w.heap.size w w') : Arg k w' a len cap zs :=
  ⟨h.1, h.2.1, h.2.2.1.below hb, h.2.2.2⟩

theorem Arg.bytes {w : World} {a : Option Addr} {len cap : Nat} {zs : List Int} (h : Arg .u8 w a len cap zs) : Nums.Bytes zs := fun z hz => bd_u8 (h.2.2.2.1 z hz)

theorem arg_of {k : IntKind} {w : World} {a : Option Addr} {len cap : Nat} {zs : List Int}
    (h : (a = none ∧ len = 0 ∧ cap = 0 ∧ zs = []) ∨ ∃ x, a = some x ∧ len ≤ cap ∧ cap ≤ maxLen ∧ zs.length = cap ∧ (∀ i, i < zs.length → w.cell? (x.add i) = some (.int k (zs.getD i 0))) ∧ ∀ n ∈ zs, (Lit.int k n).wf = true) :
    Arg k w a len cap (zs.take len) := by
  rcases h with ⟨rfl, rfl, rfl, rfl⟩ | ⟨x, rfl, hl, hm, hz, hc, hwf⟩
  · exact ⟨Nat.le_refl _, Nat.zero_le _, ⟨rfl, .inl rfl⟩, by simp, .inl rfl⟩
  · have hx : cap = 0 ∨ ∃ b off, x = ⟨b, off, none⟩ ∧ b < w.heap.size := by
      by_cases h0 : cap = 0
      · exact .inl h0
      · obtain ⟨b, off, spot⟩ := x
        have hc0 := hc 0 (by omega)
        have hs : spot = none := by simpa [Addr.add] using World.cell?_spot hc0
        subst hs
        exact .inr ⟨b, off, rfl, by simpa [Addr.add] using World.block_lt_of_cell? w _ hc0⟩
    refine ⟨hl, hm, ⟨by simp; omega, ?_⟩, fun z hz' => hwf z (List.mem_of_mem_take hz'), ?_⟩
    · by_cases h0 : len = 0
      · exact .inl h0
      · rcases hx with hx | ⟨b, off, rfl, hb⟩
        · omega
        · refine .inr ⟨b, off, rfl, hb, fun i hi => ?_⟩
          have h1 := hc i (by omega)
          have e : (⟨b, off, none⟩ : Addr).add i = ⟨b, off + i, none⟩ := by unfold Addr.add; split <;> simp_all
          rw [e] at h1
          rw [h1]
          simp [List.getElem?_take, hi]
    · rcases hx with hx | ⟨b, off, rfl, hb⟩
      · exact .inl hx
      · exact .inr ⟨b, off, rfl⟩

theorem wf_of_bd {x : Int} (h : -9223372036854775808 ≤ x ∧ x ≤ 9223372036854775807) : (Lit.int .i64 x).wf = true := by
  simpa [Lit.wf, IntKind.min, IntKind.max, IntKind.signed, IntKind.bits] using h
end Go.Proofs.Ytjkiehfjbldkkaa
