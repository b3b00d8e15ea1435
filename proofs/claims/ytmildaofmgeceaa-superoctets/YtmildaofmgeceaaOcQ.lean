/-
  octet.within, octet.numbered, octet.Put: what they answer, where a seat bears only some of octet's functions.
-/
import Derived.Test.YtmildaofmgeceaaOcAll
namespace Go.Proofs.Ytmildaofmgeceaa
set_option linter.unusedVariables false
set_option linter.unusedSimpArgs false
open Go.RowKit

/-- are there n octets from a place on, of l? -/
def hasB (l : Nat) (p n : Int) : Bool := decide (0 ≤ p ∧ p ≤ l ∧ 0 ≤ n ∧ n ≤ l - p)
def numB (l : Nat) (p n : Int) : Bool := decide (1 ≤ n ∧ n ≤ 8) && hasB l p n

set_option maxHeartbeats 400000 in
theorem within_any (a : Option Addr) (len cap : Nat) (p n : Int) (w : World) (hl : len ≤ maxLen) (h1 : (Lit.int .i64 p).wf = true) (h2 : (Lit.int .i64 n).wf = true) :
    Calls Try.prog 46 #[.slice a len cap, .int .i64 p, .int .i64 n] w fun e w' => e = .returned (.bool (hasB len p n)) ∧ w' = w := by
  unfold maxLen at hl
  obtain ⟨hb1a, hb1b⟩ := bd_i64 h1
  obtain ⟨hb2a, hb2b⟩ := bd_i64 h2
  clear h1 h2
  by_cases c1 : 0 ≤ p
  · by_cases c2 : p ≤ len
    · by_cases c3 : 0 ≤ n
      · by_cases c4 : n ≤ len - p
        · have hv : hasB len p n = true := by simp [hasB]; omega
          rw [hv]; clear hv
          go_enter Try.func46, Try.ntmps46
          go_wp2
          go_ret
          exact ⟨rfl, rfl⟩
        · have hv : hasB len p n = false := by simp [hasB]; omega
          rw [hv]; clear hv
          go_enter Try.func46, Try.ntmps46
          go_wp2
          go_ret
          exact ⟨rfl, rfl⟩
      · have hv : hasB len p n = false := by simp [hasB]; omega
        rw [hv]; clear hv
        go_enter Try.func46, Try.ntmps46
        go_wp2
        go_ret
        exact ⟨rfl, rfl⟩
    · have hv : hasB len p n = false := by simp [hasB]; omega
      rw [hv]; clear hv
      go_enter Try.func46, Try.ntmps46
      go_wp2
      go_ret
      exact ⟨rfl, rfl⟩
  · have hv : hasB len p n = false := by simp [hasB]; omega
    rw [hv]; clear hv
    go_enter Try.func46, Try.ntmps46
    go_wp2
    go_ret
    exact ⟨rfl, rfl⟩

set_option maxHeartbeats 400000 in
theorem numbered_any (a : Option Addr) (len cap : Nat) (p n : Int) (w : World) (hl : len ≤ maxLen) (h1 : (Lit.int .i64 p).wf = true) (h2 : (Lit.int .i64 n).wf = true) :
    Calls Try.prog 51 #[.slice a len cap, .int .i64 p, .int .i64 n] w fun e w' => e = .returned (.bool (numB len p n)) ∧ w' = w := by
  by_cases c1 : 1 ≤ n
  · by_cases c2 : n ≤ 8
    · have hv : numB len p n = hasB len p n := by simp [numB, c1, c2]
      rw [hv]
      go_enter Try.func51, Try.ntmps51
      go_wp2_with (go_at_call 46; refine (within_any a len cap p n _ hl h1 h2).mono ?_; rintro e w' ⟨rfl, rfl⟩)
      go_ret
      exact ⟨rfl, rfl⟩
    · have hv : numB len p n = false := by simp [numB]; omega
      rw [hv]; clear hv
      go_enter Try.func51, Try.ntmps51
      go_wp2
      go_ret
      exact ⟨rfl, rfl⟩
  · have hv : numB len p n = false := by simp [numB]; omega
    rw [hv]; clear hv
    go_enter Try.func51, Try.ntmps51
    go_wp2
    go_ret
    exact ⟨rfl, rfl⟩

set_option maxHeartbeats 1000000 in
theorem put_yes (a : Option Addr) (len cap p n : Nat) (v : Int) (zs : List Int) (w : World) (hl : len ≤ 281474976710656) (hlc : len ≤ cap) (hr : Row .u8 w a len zs) (hv : (Lit.int .u64 v).wf = true) (hn : 1 ≤ n) (hn8 : n ≤ 8) (hpn : p + n ≤ len) :
    Calls Try.prog 37 #[.slice a len cap, .int .i64 p, .int .i64 n, .int .u64 v] w fun e w' => e = .returned (.tuple #[.slice (some ⟨w.heap.size, 0, none⟩) len len, .bool true]) ∧ Below w.heap.size w w' ∧ w'.heap[w.heap.size]? = some (.cells (blk .u8 (splice zs p (Nums.lay v n))) 5 (0, 0)) := by
  have hm : len ≤ maxLen := by unfold maxLen; omega
  have hw := numbered_any a len cap p n w hm (wf_nat (by omega)) (wf_nat (by omega))
  rw [show numB len p n = true by simp [numB, hasB]; omega] at hw
  have HW := hide hw
  have hr' := hr
  have HR := hide hr
  clear hw hr
  have hmk := make_bytes len hl
  have hcp := copy_new cap hr' (List.replicate len 0) (by simp)
  have HV := hide hv
  clear hv
  go_enter Try.func37, Try.ntmps37
  go_wp2_with (go_at_call 51; refine (unhide HW).mono ?_; rintro e w' ⟨rfl, hw'⟩; obtain rfl := hw'.symm)
  clear hcp hr' hmk
  have hp1 : (p : Int) ≤ (len : Int) := by omega
  have hne : ¬ len = p := by omega
  obtain ⟨W2, hW2⟩ : ∃ W2, W2 = ((w.alloc (.cells (blk .u8 zs) 5)).alloc (.cells (blk .u8 (Nums.lay v n)) 5)).drew := ⟨_, rfl⟩
  have hg2 : W2.heap[w.heap.size]? = some (.cells (blk .u8 zs) 5 (0, 0)) := by
    rw [hW2]
    show ((w.alloc _).alloc _).heap[w.heap.size]? = _
    rw [Below.heap_alloc _ _ _ (by simp)]
    exact heap_alloc_new w _
  have hl2 : W2.heap[w.heap.size + 1]? = some (.cells (blk .u8 (Nums.lay v n)) 5 (0, 0)) := by
    rw [hW2]
    have e : (w.alloc (.cells (blk .u8 zs) 5)).heap.size = w.heap.size + 1 := by simp
    rw [← e]
    exact heap_alloc_new (w.alloc (.cells (blk .u8 zs) 5)) (.cells (blk .u8 (Nums.lay v n)) 5)
  have hb2 : Below w.heap.size w W2 := by
    rw [hW2]
    exact (((Below.refl _ _).alloc (Nat.le_refl _) _).alloc (by simp) _).drew
  have hcp2 := copy_over (W := W2) p (len - p) (len - p) n (row_of_block hl2 (Nums.length_lay n v)) hg2 (by omega) (by have := HR.out.1; omega)
  have HEND : Hid (Below w.heap.size w (W2.setRow w.heap.size (blk .u8 (splice zs p (Nums.lay v n)))) ∧ (W2.setRow w.heap.size (blk .u8 (splice zs p (Nums.lay v n)))).heap[w.heap.size]? = some (.cells (blk .u8 (splice zs p (Nums.lay v n))) 5 (0, 0))) :=
    ⟨below_setRow hb2 (Nat.le_refl _) _, setRow_heap _ _ _ _ _ _ hg2⟩
  clear hg2 hl2 hb2
  rw [hW2] at hcp2
  subst hW2
  go_region_law (refine step_call2 rfl 20 Try.call20 _ _ _ rfl (.int .u64 v) (.int .i64 n) rfl rfl (lay_yes v n _ HV.out hn8) ?_; rintro e w2 ⟨rfl, rfl⟩; refine ⟨_, rfl, ?_⟩)
  clear hcp2
  go_wp2
  go_ret2
  exact ⟨rfl, HEND.out.1, HEND.out.2⟩
end Go.Proofs.Ytmildaofmgeceaa
