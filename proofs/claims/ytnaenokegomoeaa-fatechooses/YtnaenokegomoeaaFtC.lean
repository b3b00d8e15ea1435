/-
  fate.Count.
-/
import Derived.Test.YtnaenokegomoeaaPmLawAll
import Derived.Test.YtnaenokegomoeaaRefFtB
import Derived.Test.YtnaenokegomoeaaFtB
namespace Go.Proofs.Ytnaenokegomoeaa
set_option linter.unusedVariables false
set_option linter.unusedSimpArgs false
open Go.RowKit

theorem own_base {w : World} {B B' : Nat} {E : TypeId} {z : Nat} {v : Value} {n : Nat} {xs : List Value} (h : w.ownsRow B E z v n xs) (hB : B' ≤ B) : w.ownsRow B' E z v n xs := by
  obtain ⟨hl, h⟩ := h
  refine ⟨hl, ?_⟩
  rcases h with h | ⟨g', cap, cur, hv, hB', hrest⟩
  · exact .inl h
  · exact .inr ⟨g', cap, cur, hv, Nat.le_trans hB hB', hrest⟩

namespace Pm
theorem prod_pos (l : List Nat) (h : ∀ x ∈ l, 0 < x) : 0 < prod l := by
  induction l with
  | nil => decide
  | cons a r ih => exact Nat.mul_pos (h a (by simp)) (ih fun x hx => h x (by simp [hx]))
theorem counted_full {fs : List F} {k : Nat} (h : counted (fs.take k) = 1099511627776) : counted fs = 1099511627776 := by
  unfold counted at h ⊢
  have e : fs.map (fun f => f.vals.length) = (fs.take k).map (fun f => f.vals.length) ++ (fs.drop k).map (fun f => f.vals.length) := by
    rw [← List.map_append, List.take_append_drop]
  rw [e, prod_append]
  have hp : 0 < prod ((fs.drop k).map fun f => f.vals.length) := prod_pos _ fun x hx => by
    obtain ⟨f, _, rfl⟩ := List.mem_map.1 hx
    exact vals3_pos _ _ _
  generalize prod ((fs.take k).map fun f => f.vals.length) = a at *
  generalize prod ((fs.drop k).map fun f => f.vals.length) = c at *
  have h1 : 1099511627776 ≤ a := by omega
  have h2 : a ≤ a * c := Nat.le_mul_of_pos_right a hp
  omega
end Pm

set_option maxRecDepth 100000 in
set_option maxHeartbeats 4000000 in
theorem fcount_any {w : World} {b : Nat} {s : Pm.D} {F : Nat → Prop} (h : PDev w b s F) (hm : s.ws.length ≤ 40000) :
    Calls Try.prog 13 #[.pointer (some ⟨b, 0, none⟩)] w fun e w' => e = .returned (.int .i64 (Pm.counted (Pm.fates s))) ∧ Below w.heap.size w w' := by
  have HFS := hide (pfates_own h hm)
  have HFL := hide (fates_length s.ws 0)
  clear h
  go_enter Try.func13, Try.ntmps13
  go_wp2_with fail
  refine HFS.out.mono ?_
  rintro e w1 ⟨v, rfl, hown, hb1⟩
  have HOW := hide hown
  have HB1 := hide hb1
  clear hown hb1
  obtain ⟨xa, cp, rfl⟩ := own_len HOW.out
  have HFLb : Hid ((Pm.fates s).length ≤ 40000) := Nat.le_trans HFL.out hm
  have hflb := HFLb.out
  generalize hnf : (Pm.fates s).length = nf at hflb ⊢
  have HNF := hide hnf
  clear hnf
  go_wp2_with fail
  go_loopw [3, 11] (fun c i wr => ∃ k : Nat, k ≤ nf ∧ i = .int .i64 k ∧ c = .int .i64 (Pm.counted ((Pm.fates s).take k)) ∧ Pm.counted ((Pm.fates s).take k) < 1099511627776 ∧ Below w1.heap.size w1 wr) (fun _ i _ => nf - (intOf i).toNat)
  case atStart => exact ⟨0, Nat.zero_le _, rfl, rfl, show (1 : Nat) < 1099511627776 by decide, Below.refl _ _⟩
  case round =>
    obtain ⟨k, hk, rfl, rfl, hcb, hb⟩ := hrel
    have HB := hide hb
    clear hb
    by_cases hlt : k < nf
    · have hkn : (k : Int) < (nf : Int) := by omega
      obtain ⟨f, hf⟩ : ∃ f, (Pm.fates s)[k]? = some f := ⟨_, List.getElem?_eq_getElem (by rw [HNF.out]; exact hlt)⟩
      obtain ⟨gg, cpp, hxa, hcp, hgB, hgw, hcells⟩ := fates_row HOW.out (by rw [HNF.out]; omega)
      cases hxa
      obtain ⟨q0, q1, q2, q3, q4⟩ := hcells k f hf
      have r0 := (HB.out.cell (p := ⟨gg, k * 5, none⟩) hgw).trans q0
      have r1 := (HB.out.cell (p := ⟨gg, k * 5 + 1, none⟩) hgw).trans q1
      have r2 := (HB.out.cell (p := ⟨gg, k * 5 + 2, none⟩) hgw).trans q2
      have r3 := (HB.out.cell (p := ⟨gg, k * 5 + 3, none⟩) hgw).trans q3
      have r4 := (HB.out.cell (p := ⟨gg, k * 5 + 4, none⟩) hgw).trans q4
      have HVS := hide (fun W => values_any f W)
      have hstep := Pm.counted_step hf
      have hvl : f.vals.length ≤ 3 := Pm.vals3_le _ _ _
      have HSTEP := hide hstep
      have HFULL := hide (Pm.counted_full (fs := Pm.fates s) (k := k + 1))
      have hbA := HB.out.size
      clear q0 q1 q2 q3 q4 hcells hf hstep
      obtain ⟨fa, fl, ff, fs, ft⟩ := f
      simp only at r0 r1 r2 r3 r4
      generalize hvn : (Pm.F.vals ⟨fa, fl, ff, fs, ft⟩).length = vn at *
      generalize Pm.counted ((Pm.fates s).take k) = c at *
      have hmul : c * vn ≤ 3298534883328 := Nat.le_trans (Nat.mul_le_mul (Nat.le_of_lt hcb) hvl) (by decide)
      obtain ⟨W, hW⟩ : ∃ W, W = wr.alloc (.cells #[.int .i64 fa, .int .u64 fl, .bool ff, .int .u64 fs, .int .u64 ft] 24) := ⟨_, rfl⟩
      have HBW : Hid (Below w1.heap.size w1 W) := by
        show Below _ _ _
        rw [hW]
        exact HB.out.alloc hbA _
      go_wp2_with fail
      rw [← hW]
      refine (HVS.out _).mono ?_
      rintro e w2 ⟨v2, rfl, hown2, hb2⟩
      obtain ⟨ya, yc, rfl⟩ := own_len hown2
      have HB2 := hide (HBW.out.trans (hb2.mono HBW.out.size))
      clear hown2 hb2 r0 r1 r2 r3 r4 hW
      obtain ⟨t, hcv⟩ : ∃ t, c * vn = t := ⟨_, rfl⟩
      have hct : (c : Int) * (vn : Int) = (t : Int) := by rw [← hcv]; simp
      rw [hcv] at HSTEP hmul
      have HVN := hide hvn
      clear hcv hvn hcb
      by_cases ht : 1099511627776 ≤ t
      · have ht' : (1099511627776 : Int) ≤ (t : Int) := by omega
        have HN : Hid (Pm.counted (Pm.fates s) = 1099511627776) := HFULL.out (by
          rw [HSTEP.out]
          omega)
        go_wp2_with fail
        go_ret
        exact ⟨by rw [HN.out]; rfl, HB1.out.trans (HB2.out.mono HB1.out.size)⟩
      · have ht' : ¬ (1099511627776 : Int) ≤ (t : Int) := by omega
        have HN : Hid (Pm.counted ((Pm.fates s).take (k + 1)) = t) := by
          show _ = _
          rw [HSTEP.out]
          omega
        have HT := hide ht
        have hd : decide ((1099511627776 : Int) ≤ (t : Int)) = false := decide_eq_false ht'
        clear ht ht'
        go_wp2_with fail
        go_roundw
        case rel => exact ⟨k + 1, by omega, by go_num, by rw [HN.out], by rw [HN.out]; have := HT.out; omega, HB2.out⟩
        case measure => simp [intOf]; omega
    · have hkn : ¬ (k : Int) < (nf : Int) := by omega
      obtain rfl : k = nf := by omega
      have HE : Hid ((Pm.fates s).take k = Pm.fates s) := List.take_of_length_le (by rw [HNF.out]; exact Nat.le_refl _)
      rw [HE.out]
      go_wp2_with fail
      go_ret
      exact ⟨rfl, HB1.out.trans (HB.out.mono HB1.out.size)⟩
end Go.Proofs.Ytnaenokegomoeaa
