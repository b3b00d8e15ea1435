/-
  Layer 5's statements: Small, and Refs (an act on the document's device).
-/
import Derived.Test.YtjkiehfjbldkkaaRefSame
import Derived.Test.YtjkiehfjbldkkaaActs
namespace Go.Proofs.Ytjkiehfjbldkkaa
set_option linter.unusedVariables false
set_option linter.unusedSimpArgs false
open Go.RowKit

/-- are acts not too great? -/
def smallB (xs : List Ac) (most : Nat) : Bool := decide (xs.length ≤ most ∧ ∀ x ∈ xs, x.len ≤ 40)

set_option maxHeartbeats 1000000 in
theorem small_any {w : World} {a : Option Addr} {len cap : Nat} {xs : List Ac} (h : Acts w a len cap xs) (most : Nat) (hm : most ≤ 1000) :
    Calls Try.prog 10 #[.slice a len cap, .int .i64 most] w fun e w' => e = .returned (.bool (smallB xs most)) ∧ Below w.heap.size w w' := by
  have HA := hide h
  have hlen := h.1
  have hmax := Nat.le_trans h.2.1 h.2.2.1
  unfold maxLen at hmax
  clear h
  by_cases hgr : most < len
  · have hg : (most : Int) < (len : Int) := by omega
    have HS : Hid (smallB xs most = false) := by
      show _ = _
      unfold smallB
      simp only [decide_eq_false_iff_not]
      omega
    go_enter Try.func10, Try.ntmps10
    go_wp2_with fail
    go_ret
    exact ⟨by rw [HS.out]; rfl, Below.refl _ _⟩
  · have hg : ¬ (most : Int) < (len : Int) := by omega
    go_enter Try.func10, Try.ntmps10
    go_wp2_with fail
    go_loopw [5] (fun i wr => ∃ k : Nat, k ≤ len ∧ i = .int .i64 k ∧ (∀ x ∈ xs.take k, x.len ≤ 40) ∧ Below w.heap.size w wr) (fun i _ => len - (intOf i).toNat)
    case atStart => exact ⟨0, Nat.zero_le _, rfl, by simp, Below.refl _ _⟩
    case round =>
      obtain ⟨k, hk, rfl, hall, hb⟩ := hrel
      have HB := hide hb
      have HALL := hide hall
      clear hall
      by_cases hlt : k < len
      · have hkn : (k : Int) < (len : Int) := by omega
        have hkx : k < xs.length := by omega
        obtain ⟨x, hx⟩ : ∃ x, xs[k]? = some x := ⟨_, List.getElem?_eq_getElem hkx⟩
        obtain ⟨_, _, _, hok, h5⟩ := HA.out.below hb
        rcases h5 with h5 | ⟨g, off, rfl, hgw, hc⟩
        · omega
        obtain ⟨q0, q1, q2, q3⟩ := hc k x hx
        have hxm := hok x (List.mem_of_getElem? hx)
        have hxl := Nat.le_trans hxm.2.2.2.1 hxm.2.2.2.2.1
        unfold maxLen at hxl
        have HX := hide hx
        clear hc hb hok hxm q0 q1 q2 hx
        obtain ⟨xk, xat, xw, xa, xlen, xcap, xl⟩ := x
        simp only at q3 hxl
        by_cases h40 : 40 < xlen
        · have h40' : (40 : Int) < (xlen : Int) := by omega
          have HS : Hid (smallB xs most = false) := by
            show _ = _
            unfold smallB
            simp only [decide_eq_false_iff_not]
            intro ⟨_, h⟩
            have := h _ (List.mem_of_getElem? HX.out)
            simp only at this
            omega
          go_wp2_with fail
          go_ret
          exact ⟨by rw [HS.out]; rfl, HB.out⟩
        · have h40' : ¬ (40 : Int) < (xlen : Int) := by omega
          go_wp2_with fail
          go_roundw
          case rel =>
            refine ⟨k + 1, by omega, by go_num, fun y hy => ?_, HB.out⟩
            rw [List.take_succ_eq_append_getElem hkx] at hy
            rcases List.mem_append.1 hy with hy | hy
            · exact HALL.out y hy
            · have e : xs[k] = ⟨xk, xat, xw, xa, xlen, xcap, xl⟩ := by
                have := HX.out
                rw [List.getElem?_eq_getElem hkx] at this
                exact Option.some.inj this
              simp at hy
              rw [hy, e]
              simp only
              omega
          case measure => simp [intOf]; omega
      · have hkn : ¬ (k : Int) < (len : Int) := by omega
        have HS : Hid (smallB xs most = true) := by
          show _ = _
          unfold smallB
          simp only [decide_eq_true_eq]
          refine ⟨by omega, fun y hy => HALL.out y ?_⟩
          rw [List.take_of_length_le (by omega)]
          exact hy
        clear hb
        go_wp2_with fail
        go_ret
        exact ⟨by rw [HS.out]; rfl, HB.out⟩
end Go.Proofs.Ytjkiehfjbldkkaa
