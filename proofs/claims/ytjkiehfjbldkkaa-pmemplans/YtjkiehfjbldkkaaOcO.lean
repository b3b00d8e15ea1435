/-
  octet.Octets: what it answers.
-/
import Derived.Test.YtjkiehfjbldkkaaOcR
import Derived.Test.YtjkiehfjbldkkaaOcL
import Derived.Test.YtjkiehfjbldkkaaOcP
namespace Go.Proofs.Ytjkiehfjbldkkaa
set_option linter.unusedVariables false
set_option linter.unusedSimpArgs false
open Go.RowKit

/-- the octets of the first k numbers. -/
def octTo (ws : List Int) (k : Nat) : List Int := (ws.take k).flatMap fun v => Nums.lay v 8
theorem length_octTo (ws : List Int) (k : Nat) (h : k ≤ ws.length) : (octTo ws k).length = 8 * k := by
  induction k with
  | zero => simp [octTo]
  | succ k ih =>
    have ih := ih (by omega)
    simp only [octTo] at ih ⊢
    rw [take_snoc ws k (by omega), List.flatMap_append, List.length_append, ih]
    simp [Nums.length_lay]
    omega
theorem oct_step (ws : List Int) (k m : Nat) (h : k < ws.length) : splice (octTo ws k ++ List.replicate (8 * (m + 1)) 0) (8 * k) (Nums.lay ws[k] 8) = octTo ws (k + 1) ++ List.replicate (8 * m) 0 := by
  have hl := length_octTo ws k (by omega)
  have e : octTo ws (k + 1) = octTo ws k ++ Nums.lay ws[k] 8 := by
    simp only [octTo]
    rw [take_snoc ws k h, List.flatMap_append]
    simp
  rw [e]
  unfold splice
  rw [List.take_left' hl, Nums.length_lay, List.drop_append, List.drop_of_length_le (by omega), hl]
  have e2 : 8 * k + 8 - 8 * k = 8 := by omega
  rw [e2]
  simp
  congr 1

theorem lay_eight (v : Int) (w : World) (hv : (Lit.int .u64 v).wf = true) :
    Calls Try.prog 57 #[.int .u64 v, .int .i64 8] w fun e w' => e = .returned (.slice (some ⟨w.heap.size, 0, none⟩) 8 8) ∧ w' = w.alloc (.cells (blk .u8 (Nums.lay v 8)) 5) := by
  have h := lay_yes v 8 w hv (by omega)
  rw [show ((8 : Nat) : Int) = 8 from rfl] at h
  exact h

set_option maxHeartbeats 1000000 in
theorem octets_any (a : Option Addr) (len cap : Nat) (ws : List Int) (w : World) (hl : len ≤ 17592186044416) (hr : Row .u64 w a len ws) (hz : ∀ v ∈ ws, (Lit.int .u64 v).wf = true) :
    Calls Try.prog 42 #[.slice a len cap] w fun e w' => e = .returned (.slice (some ⟨w.heap.size, 0, none⟩) (8 * len) (8 * len)) ∧ Below w.heap.size w w' ∧ w'.heap[w.heap.size]? = some (.cells (blk .u8 (octTo ws len)) 5 (0, 0)) := by
  have hmk := make_bytes (8 * len) (by omega)
  have hdiv : ((8 * len : Nat) : Int) = 8 * (len : Int) := by omega
  rw [hdiv] at hmk
  have HR := hide hr
  have hwl := hr.1
  have HWL := hide hwl
  clear hr hdiv hwl
  go_enter Try.func42, Try.ntmps42
  go_wp2
  clear hmk
  go_loopw [12] (fun i wr => ∃ k m : Nat, k + m = len ∧ i = .int .i64 k ∧ Below w.heap.size w wr ∧ wr.heap[w.heap.size]? = some (.cells (blk .u8 (octTo ws k ++ List.replicate (8 * m) 0)) 5 (0, 0))) (fun i _ => len - (intOf i).toNat)
  case atStart => exact ⟨0, len, by omega, rfl, (Below.refl _ _).alloc (Nat.le_refl _) _, heap_alloc_new w _⟩
  case round =>
    obtain ⟨k, m, hkm, rfl, hb, hg⟩ := hrel
    have HB := hide hb
    have HG := hide hg
    clear hb hg
    by_cases hlt : k < len
    · have hi : (k : Int) < (len : Int) := by omega
      have hki : (8 : Int) * (k : Int) ≤ (8 : Int) * (len : Int) := by omega
      have hkn : ¬ 8 * len = 8 * k := by omega
      obtain ⟨m, rfl⟩ : ∃ m', m = m' + 1 := ⟨m - 1, by omega⟩
      have hkw : k < ws.length := by have := HWL.out; omega
      obtain ⟨_, h0 | ⟨b, off, rfl, hbw, hc⟩⟩ := HR.out.below HB.out
      · omega
      have hck := hc k hlt
      have hgd : ws.getD k 0 = ws[k] := by rw [List.getD_eq_getElem?_getD, List.getElem?_eq_getElem hkw]; rfl
      rw [hgd] at hck
      clear hc hgd
      have hwf := hz _ (List.getElem_mem hkw)
      have HS := hide (oct_step ws k m hkw)
      generalize hV : ws[k] = v at *
      have HVV := hide hV
      have HWF := hide hwf
      clear hV hwf
      go_wp2
      clear hck
      obtain ⟨W2, hW2⟩ : ∃ W2, W2 = (wr.alloc (.cells (blk .u8 (Nums.lay v 8)) 5)).drew := ⟨_, rfl⟩
      have hgs : w.heap.size < wr.heap.size := (Array.getElem?_eq_some_iff.1 HG.out).1
      have hg2 : W2.heap[w.heap.size]? = some (.cells (blk .u8 (octTo ws k ++ List.replicate (8 * (m + 1)) 0)) 5 (0, 0)) := by
        rw [hW2]
        show (wr.alloc _).heap[w.heap.size]? = _
        rw [Below.heap_alloc _ _ _ hgs]
        exact HG.out
      have hl2 : W2.heap[wr.heap.size]? = some (.cells (blk .u8 (Nums.lay v 8)) 5 (0, 0)) := by
        rw [hW2]
        exact heap_alloc_new wr (.cells (blk .u8 (Nums.lay v 8)) 5)
      have hb2 : Below w.heap.size w W2 := by
        rw [hW2]
        exact (HB.out.alloc HB.out.size _).drew
      have hcp2 := copy_over (W := W2) (8 * k) (8 * len - 8 * k) (8 * len - 8 * k) 8 (row_of_block hl2 (Nums.length_lay 8 v)) hg2 (by omega) (by simp [length_octTo ws k (by omega)]; omega)
      rw [show ((8 : Nat) : Int) = 8 from rfl, HS.out] at hcp2
      have HEND : Hid (Below w.heap.size w (W2.setRow w.heap.size (blk .u8 (octTo ws (k + 1) ++ List.replicate (8 * m) 0))) ∧ (W2.setRow w.heap.size (blk .u8 (octTo ws (k + 1) ++ List.replicate (8 * m) 0))).heap[w.heap.size]? = some (.cells (blk .u8 (octTo ws (k + 1) ++ List.replicate (8 * m) 0)) 5 (0, 0))) :=
        ⟨below_setRow hb2 (Nat.le_refl _) _, setRow_heap _ _ _ _ _ _ hg2⟩
      clear hg2 hl2 hb2
      generalize hLL : octTo ws (k + 1) ++ List.replicate (8 * m) 0 = L at *
      have HLL := hide hLL
      clear hLL
      rw [hW2] at hcp2
      subst hW2
      have hwr : IntKind.i64.wrap (8 * (k : Int)) = 8 * (k : Int) := by rw [IntKind.wrap_i64]; omega
      have htn : (8 * (k : Int)).toNat = 8 * k := by omega
      have hk0 : (0 : Int) ≤ 8 * (k : Int) := by omega
      have hkl : k ≤ len := by omega
      go_region_law (refine step_call2 rfl 57 Try.call57 _ _ _ rfl (.int .u64 v) (.int .i64 8) rfl rfl (lay_eight v _ HWF.out) ?_; rintro e w2 ⟨rfl, rfl⟩; refine ⟨_, rfl, ?_⟩)
      clear hcp2 hwr htn hk0 hkl
      go_wp2
      go_roundw
      case rel => exact ⟨k + 1, m, by omega, by go_num, HEND.out.1, by rw [HLL.out]; exact HEND.out.2⟩
      case measure => simp [intOf]; omega
    · have hi : ¬ (k : Int) < (len : Int) := by omega
      obtain rfl : k = len := by omega
      obtain rfl : m = 0 := by omega
      have hg := HG.out
      rw [show 8 * 0 = 0 from rfl, List.replicate_zero, List.append_nil] at hg
      have HG2 := hide hg
      clear hg
      go_wp2
      go_ret
      exact ⟨rfl, HB.out, HG2.out⟩
end Go.Proofs.Ytjkiehfjbldkkaa
