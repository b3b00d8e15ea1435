/-
  The statements' own first question ('awake'): it is answered yes.
-/
import Derived.Test.YtpphhkgkohlbbaaOctF
namespace Go.Proofs.Ytpphhkgkohlbbaa
set_option linter.unusedVariables false
set_option linter.unusedSimpArgs false
open Go.RowKit

theorem awake_get (w : World) : Calls Try.prog 13 #[.slice (some ⟨w.heap.size, 0, none⟩) 4 4, .int .i64 1, .int .i64 2] (w.alloc (.cells #[.int .u8 9, .int .u8 2, .int .u8 1, .int .u8 9] 5))
    fun e w' => e = .returned (.tuple #[.int .u64 258, .bool true]) ∧ w' = w.alloc (.cells #[.int .u8 9, .int .u8 2, .int .u8 1, .int .u8 9] 5) := by
  have hrow : Row .u8 (w.alloc (.cells #[.int .u8 9, .int .u8 2, .int .u8 1, .int .u8 9] 5)) (some ⟨w.heap.size, 0, none⟩) 4 [9, 2, 1, 9] :=
    row_of_block (e := 5) (zs := [9, 2, 1, 9]) (heap_alloc_new w _) rfl
  exact get_yes _ 4 4 1 2 [9, 2, 1, 9] _ (by decide) (by decide) hrow (by intro z hz; simp at hz; omega) (by decide) (by decide) (by decide)

theorem awake_lay (w : World) : Calls Try.prog 9 #[.int .u64 258, .int .i64 3] w
    fun e w' => e = .returned (.slice (some ⟨w.heap.size, 0, none⟩) 3 3) ∧ w' = w.alloc (.cells #[.int .u8 2, .int .u8 1, .int .u8 0] 5) :=
  lay_yes 258 3 w (by decide) (by decide)

theorem awake_conv (w : World) : (convert 23 9 (.slice (some ⟨w.heap.size, 0, none⟩) 3 3)).run Try.prog (w.alloc (.cells #[.int .u8 2, .int .u8 1, .int .u8 0] 5)) = .ok (.string ⟨#[2, 1, 0]⟩) (w.alloc (.cells #[.int .u8 2, .int .u8 1, .int .u8 0] 5)) :=
  conv_bytes 3 (row_of_block (e := 5) (zs := [2, 1, 0]) (heap_alloc_new w _) rfl)

theorem awake_octets (w : World) (n : Nat) (hn : n = w.heap.size) : Calls Try.prog 18 #[.slice (some ⟨n, 0, none⟩) 1 1] (w.alloc (.cells #[.int .u64 1] 22))
    fun e w' => e = .returned (.slice (some ⟨w.heap.size + 1, 0, none⟩) 8 8) ∧ Below w.heap.size w w' := by
  subst hn
  have hrow : Row .u64 (w.alloc (.cells #[.int .u64 1] 22)) (some ⟨w.heap.size, 0, none⟩) 1 [1] :=
    row_of_block (e := 22) (zs := [1]) (heap_alloc_new w _) rfl
  refine (octets_any _ 1 1 [1] _ (by decide) hrow (by intro v hv; simp at hv; subst hv; decide)).mono fun e w' ⟨he, hb, _⟩ => ?_
  refine ⟨by rw [he]; simp, ((Below.refl _ _).alloc (Nat.le_refl _) _).trans (hb.mono (by simp))⟩

set_option maxHeartbeats 1000000 in
theorem awake_any (w : World) : Calls Try.prog 8 #[] w fun e w' => e = .returned (.bool true) ∧ Below w.heap.size w w' := by
  have hcv := awake_conv (w.alloc (.cells #[.int .u8 9, .int .u8 2, .int .u8 1, .int .u8 9] 5))
  rw [show (w.alloc (.cells #[.int .u8 9, .int .u8 2, .int .u8 1, .int .u8 9] 5)).heap.size = w.heap.size + 1 by simp] at hcv
  go_enter Try.func8, Try.ntmps8
  go_wp2_with (first | (go_at_call 13; refine (awake_get w).mono ?_; rintro e w' ⟨rfl, hw'⟩; obtain rfl := hw'.symm) | (go_at_call 9; refine (awake_lay _).mono ?_; rintro e w' ⟨rfl, rfl⟩) | (go_at_call 18; refine (awake_octets _ _ ?_).mono ?_; simp; rintro e w' ⟨rfl, hb⟩))
  go_ret
  exact ⟨rfl, (((Below.refl _ _).alloc (Nat.le_refl _) _).alloc (by simp) _).trans (hb.mono (by simp; omega))⟩

/-- what is known of a slice of numbers that came in (its numbers zs up to its length). -/
def Arg (k : IntKind) (w : World) (a : Option Addr) (len cap : Nat) (zs : List Int) : Prop :=
  len ≤ cap ∧ cap ≤ maxLen ∧ Row k w a len zs ∧ (∀ z ∈ zs, (Lit.int k z).wf = true) ∧ (cap = 0 ∨ ∃ b off, a = some ⟨b, off, none⟩)

theorem Arg.below {k : IntKind} {w w' : World} {a : Option Addr} {len cap : Nat} {zs : List Int} (h : Arg k w a len cap zs) (hb : Below w.heap.size w w') : Arg k w' a len cap zs :=
  ⟨h.1, h.2.1, h.2.2.1.below hb, h.2.2.2⟩

theorem Arg.bytes {w : World} {a : Option Addr} {len cap : Nat} {zs : List Int} (h : Arg .u8 w a len cap zs) : Nums.Bytes zs := fun z hz => bd_u8 (h.2.2.2.1 z hz)

theorem arg_of {k : IntKind} {w : World} {a : Option Addr} {len cap : Nat} {zs : List Int}
    (h : (a = none ∧ len = 0 ∧ cap = 0 ∧ zs = []) ∨ ∃ x, a = some x ∧ len ≤ cap ∧ cap ≤ maxLen ∧ zs.length = cap ∧ (∀ i, i < zs.length → w.cell? (x.add i) = some (.int k (zs.getD i 0))) ∧ ∀ n ∈ zs, (Lit.int k n).wf = true) :
    Arg k w a len cap (zs.take len) := by
  rcases h with ⟨rfl, rfl, rfl, rfl⟩ | ⟨x, rfl, hl, hm, hz, hc, hwf⟩
  · exact ⟨Nat.le_refl _, Nat.zero_le _, ⟨rfl, .inl rfl⟩, by simp, .inl rfl⟩
  · have hx : cap = 0 ∨ ∃ b off, x = ⟨b, off, none⟩ ∧ b < w.heap.size := by
      by_cases h0 : cap = 0
      · exact .inl h0
      · obtain ⟨b, off, spot⟩ := x
        have hc0 := hc 0 (by omega)
        have hs : spot = none := by simpa [Addr.add] using World.cell?_spot hc0
        subst hs
        exact .inr ⟨b, off, rfl, by simpa [Addr.add] using World.block_lt_of_cell? w _ hc0⟩
    refine ⟨hl, hm, ⟨by simp; omega, ?_⟩, fun z hz' => hwf z (List.mem_of_mem_take hz'), ?_⟩
    · by_cases h0 : len = 0
      · exact .inl h0
      · rcases hx with hx | ⟨b, off, rfl, hb⟩
        · omega
        · refine .inr ⟨b, off, rfl, hb, fun i hi => ?_⟩
          have h1 := hc i (by omega)
          have e : (⟨b, off, none⟩ : Addr).add i = ⟨b, off + i, none⟩ := by unfold Addr.add; split <;> simp_all
          rw [e] at h1
          rw [h1]
          simp [List.getElem?_take, hi]
    · rcases hx with hx | ⟨b, off, rfl, hb⟩
      · exact .inl hx
      · exact .inr ⟨b, off, rfl⟩

theorem wf_of_bd {x : Int} (h : -9223372036854775808 ≤ x ∧ x ≤ 9223372036854775807) : (Lit.int .i64 x).wf = true := by
  simpa [Lit.wf, IntKind.min, IntKind.max, IntKind.signed, IntKind.bits] using h
end Go.Proofs.Ytpphhkgkohlbbaa
