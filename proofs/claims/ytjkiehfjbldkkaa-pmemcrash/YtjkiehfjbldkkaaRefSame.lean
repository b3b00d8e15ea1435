/-
  The document's Same (layer 5): two lists of fates that are alike.
-/
import Derived.Test.YtjkiehfjbldkkaaRefDevH
namespace Go.Proofs.Ytjkiehfjbldkkaa
set_option linter.unusedVariables false
set_option linter.unusedSimpArgs false
open Go.RowKit

/-- a slice of fates. -/
def FRow (w : World) (a : Option Addr) (fs : List Pm.F) : Prop := fs.length = 0 ∨ ∃ g off, a = some ⟨g, off, none⟩ ∧ g < w.heap.size ∧
  ∀ i f, fs[i]? = some f → w.cell? ⟨g, off + i * 5, none⟩ = some (.int .i64 f.at') ∧ w.cell? ⟨g, off + i * 5 + 1, none⟩ = some (.int .u64 f.lasts) ∧ w.cell? ⟨g, off + i * 5 + 2, none⟩ = some (.bool f.flushed) ∧ w.cell? ⟨g, off + i * 5 + 3, none⟩ = some (.int .u64 f.sent) ∧ w.cell? ⟨g, off + i * 5 + 4, none⟩ = some (.int .u64 f.stored)
theorem FRow.below {w w' : World} {a : Option Addr} {fs : List Pm.F} (h : FRow w a fs) (hb : Below w.heap.size w w') : FRow w' a fs := by
  rcases h with h | ⟨g, off, e, hg, hc⟩
  · exact .inl h
  · refine .inr ⟨g, off, e, Nat.lt_of_lt_of_le hg hb.size, fun i f hi => ?_⟩
    obtain ⟨q0, q1, q2, q3, q4⟩ := hc i f hi
    exact ⟨(hb.cell (p := ⟨g, _, none⟩) hg).trans q0, (hb.cell (p := ⟨g, _, none⟩) hg).trans q1, (hb.cell (p := ⟨g, _, none⟩) hg).trans q2, (hb.cell (p := ⟨g, _, none⟩) hg).trans q3, (hb.cell (p := ⟨g, _, none⟩) hg).trans q4⟩
theorem frow_of_own {w : World} {B : Nat} {T : TypeId} {v : Value} {fs : List Pm.F} (h : w.ownsRow B T 5 v fs.length (fateCells fs)) : ∃ a cap, v = .slice a fs.length cap ∧ FRow w a fs := by
  by_cases hp : 0 < fs.length
  · obtain ⟨g, cap, hv, _, _, hg, hc⟩ := fates_row h hp
    refine ⟨_, cap, hv, .inr ⟨g, 0, rfl, hg, fun i f hi => ?_⟩⟩
    simp only [Nat.zero_add]
    exact hc i f hi
  · rcases h.2 with ⟨hv, _⟩ | ⟨g, cap, cur, hv, _⟩
    · exact ⟨none, 0, by rw [show fs.length = 0 by omega]; exact hv, .inl (by omega)⟩
    · exact ⟨_, cap, hv, .inl (by omega)⟩

set_option maxHeartbeats 2000000 in
/-- the document's Same, of lists that are alike. -/
theorem rsame_any {w : World} {a c : Option Addr} {cap cap' : Nat} {fs : List Pm.F} (ha : FRow w a fs) (hc : FRow w c fs) (hl : fs.length ≤ 40000) :
    Calls Try.prog 18 #[.slice a fs.length cap, .slice c fs.length cap'] w fun e w' => e = .returned (.bool true) ∧ Below w.heap.size w w' := by
  have HA := hide ha
  have HC := hide hc
  clear ha hc
  obtain ⟨n, hn⟩ : ∃ n, fs.length = n := ⟨_, rfl⟩
  rw [hn] at hl ⊢
  have HN := hide hn
  clear hn
  go_enter Try.func18, Try.ntmps18
  go_wp2_with fail
  go_loopw [5] (fun i wr => ∃ k : Nat, k ≤ n ∧ i = .int .i64 k ∧ Below w.heap.size w wr) (fun i _ => n - (intOf i).toNat)
  case atStart => exact ⟨0, Nat.zero_le _, rfl, Below.refl _ _⟩
  case round =>
    obtain ⟨k, hk, rfl, hb⟩ := hrel
    have HB := hide hb
    by_cases hlt : k < n
    · have hkn : (k : Int) < (n : Int) := by omega
      have hkf : k < fs.length := by rw [HN.out]; exact hlt
      obtain ⟨f, hf⟩ : ∃ f, fs[k]? = some f := ⟨_, List.getElem?_eq_getElem hkf⟩
      rcases HA.out.below hb with h0 | ⟨g, off, rfl, hg, hgc⟩
      · omega
      rcases HC.out.below hb with h0 | ⟨g', off', rfl, hg', hgc'⟩
      · omega
      obtain ⟨q0, q1, q2, q3, q4⟩ := hgc k f hf
      obtain ⟨p0, p1, p2, p3, p4⟩ := hgc' k f hf
      clear hgc hgc' hb hf
      go_wp2_with fail
      go_quiet (fail)
      go_wp2_with fail
      go_roundw
      case rel => exact ⟨k + 1, by omega, by go_num, HB.out.trans ⟨rfl, rfl, rfl, Nat.le_refl _, fun _ _ => rfl⟩⟩
      case measure => simp [intOf]; omega
    · have hkn : ¬ (k : Int) < (n : Int) := by omega
      go_wp2_with fail
      go_ret
      exact ⟨rfl, HB.out⟩
end Go.Proofs.Ytjkiehfjbldkkaa
