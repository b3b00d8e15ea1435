/-
  The document's answers (layer 6): Count.
-/
import Derived.Test.YtnaenokegomoeaaRefFtA
import Derived.Test.YtnaenokegomoeaaRefDevH
namespace Go.Proofs.Ytnaenokegomoeaa
set_option linter.unusedVariables false
set_option linter.unusedSimpArgs false
open Go.RowKit

theorem fate_ok {ws : List Pm.W} (h : ∀ x ∈ ws, x.Ok) (k : Nat) : ∀ f ∈ Pm.fatesFrom k ws, (Lit.int .u64 f.lasts).wf = true ∧ (Lit.int .u64 f.sent).wf = true ∧ (Lit.int .u64 f.stored).wf = true := by
  have wf : ∀ {x : Int}, 0 ≤ x → x ≤ 18446744073709551615 → (Lit.int .u64 x).wf = true := fun h0 h1 => by
    simpa [Lit.wf, IntKind.min, IntKind.max, IntKind.signed, IntKind.bits] using ⟨h0, h1⟩
  induction ws generalizing k with
  | nil => intro f hf; cases hf
  | cons x r ih =>
    have hx := h x (by simp)
    intro f hf
    unfold Pm.fatesFrom at hf
    split at hf
    · rcases List.mem_cons.1 hf with rfl | hf
      · exact ⟨wf hx.l0 hx.l1, wf hx.t0 hx.t1, wf hx.s0 hx.s1⟩
      · exact ih (fun y hy => h y (by simp [hy])) _ f hf
    · exact ih (fun y hy => h y (by simp [hy])) _ f hf

set_option maxRecDepth 100000 in
set_option maxHeartbeats 4000000 in
theorem rcount_any {w : World} {b : Nat} {s : Pm.D} {F : Nat → Prop} {g0 g1 g2 g3 : Nat} {pa : Option Addr} {pc : Nat} (h : RDev w b s F g0 g1 g2 g3 pa pc) (hm : s.ws.length ≤ 40000) :
    Calls Try.prog 14 #[.pointer (some ⟨b, 0, none⟩)] w fun e w' => e = .returned (.int .i64 (Pm.counted (Pm.fates s))) ∧ Below w.heap.size w w' := by
  have HFS := hide (rfates_any h hm)
  have HOK := hide (fate_ok h.ok.ws 0)
  have HFL := hide (fates_length s.ws 0)
  clear h
  go_enter Try.func14, Try.ntmps14
  go_wp2_with fail
  refine HFS.out.mono ?_
  rintro e w1 ⟨v, rfl, hown, hb1⟩
  have HOW := hide hown
  have HB1 := hide hb1
  clear hown hb1
  obtain ⟨xa, cp, rfl⟩ := own_len HOW.out
  have HFLb : Hid ((Pm.fates s).length ≤ 40000) := Nat.le_trans HFL.out hm
  have hflb := HFLb.out
  generalize hnf : (Pm.fates s).length = nf at hflb ⊢
  have HNF := hide hnf
  clear hnf
  go_wp2_with fail
  go_loopw [4, 5] (fun c i wr => ∃ k : Nat, k ≤ nf ∧ i = .int .i64 k ∧ c = .int .i64 (Pm.counted ((Pm.fates s).take k)) ∧ Below w1.heap.size w1 wr) (fun _ i _ => nf - (intOf i).toNat)
  case atStart => exact ⟨0, Nat.zero_le _, rfl, rfl, Below.refl _ _⟩
  case round =>
    obtain ⟨k, hk, rfl, rfl, hb⟩ := hrel
    have HB := hide hb
    clear hb
    by_cases hlt : k < nf
    · have hkn : (k : Int) < (nf : Int) := by omega
      obtain ⟨f, hf⟩ : ∃ f, (Pm.fates s)[k]? = some f := ⟨_, List.getElem?_eq_getElem (by rw [HNF.out]; exact hlt)⟩
      obtain ⟨gg, cpp, hxa, hcp, hgB, hgw, hcells⟩ := fates_row HOW.out (by rw [HNF.out]; omega)
      cases hxa
      obtain ⟨q0, q1, q2, q3, q4⟩ := hcells k f hf
      have r0 := (HB.out.cell (p := ⟨gg, k * 5, none⟩) hgw).trans q0
      have r1 := (HB.out.cell (p := ⟨gg, k * 5 + 1, none⟩) hgw).trans q1
      have r2 := (HB.out.cell (p := ⟨gg, k * 5 + 2, none⟩) hgw).trans q2
      have r3 := (HB.out.cell (p := ⟨gg, k * 5 + 3, none⟩) hgw).trans q3
      have r4 := (HB.out.cell (p := ⟨gg, k * 5 + 4, none⟩) hgw).trans q4
      obtain ⟨o0, o1, o2⟩ := HOK.out f (List.mem_of_getElem? hf)
      have HVS := hide (rvalues_any f wr o0 o1 o2)
      have hstep := Pm.counted_step hf
      have hvl : f.vals.length ≤ 3 := Pm.vals3_le _ _ _
      have hcb : Pm.counted ((Pm.fates s).take k) ≤ 1099511627776 := Nat.min_le_right _ _
      have HSTEP := hide hstep
      clear q0 q1 q2 q3 q4 hcells hf hstep o0 o1 o2
      obtain ⟨fa, fl, ff, fs, ft⟩ := f
      simp only at r0 r1 r2 r3 r4
      generalize hvn : (Pm.F.vals ⟨fa, fl, ff, fs, ft⟩).length = vn at *
      generalize Pm.counted ((Pm.fates s).take k) = c at *
      have hmul : c * vn ≤ 3298534883328 := Nat.le_trans (Nat.mul_le_mul hcb hvl) (by decide)
      go_wp2_with fail
      refine HVS.out.mono ?_
      rintro e w2 ⟨v2, rfl, hown2, hb2⟩
      obtain ⟨ya, yc, rfl⟩ := own_len hown2
      have HB2 := hide (HB.out.trans (hb2.mono HB.out.size))
      clear hown2 hb2 r0 r1 r2 r3 r4
      obtain ⟨t, hcv⟩ : ∃ t, c * vn = t := ⟨_, rfl⟩
      have hct : (c : Int) * (vn : Int) = (t : Int) := by rw [← hcv]; simp
      rw [hcv] at HSTEP hmul
      have HVN := hide hvn
      clear hcv hvn
      by_cases ht : 1099511627776 < t
      · have ht' : (1099511627776 : Int) < (t : Int) := by omega
        have HN : Hid (Pm.counted ((Pm.fates s).take (k + 1)) = 1099511627776) := by
          show _ = _
          rw [HSTEP.out]
          omega
        go_wp2_with fail
        go_roundw
        case rel => exact ⟨k + 1, by omega, by go_num, by rw [HN.out]; rfl, HB2.out⟩
        case measure => simp [intOf]; omega
      · have ht' : ¬ (1099511627776 : Int) < (t : Int) := by omega
        have HN : Hid (Pm.counted ((Pm.fates s).take (k + 1)) = t) := by
          show _ = _
          rw [HSTEP.out]
          omega
        go_wp2_with fail
        go_roundw
        case rel => exact ⟨k + 1, by omega, by go_num, by rw [HN.out], HB2.out⟩
        case measure => simp [intOf]; omega
    · have hkn : ¬ (k : Int) < (nf : Int) := by omega
      obtain rfl : k = nf := by omega
      have HE : Hid ((Pm.fates s).take k = Pm.fates s) := List.take_of_length_le (by rw [HNF.out]; exact Nat.le_refl _)
      rw [HE.out]
      go_wp2_with fail
      go_ret
      exact ⟨rfl, HB1.out.trans (HB.out.mono HB1.out.size)⟩
end Go.Proofs.Ytnaenokegomoeaa
