/-
  The document's Text (layer 5): numbers' octets as a string.
-/
import Derived.Test.YtnaenokegomoeaaOcAll
import Derived.Test.YtnaenokegomoeaaGround
import Derived.BigQuiet
namespace Go.Proofs.Ytnaenokegomoeaa
set_option linter.unusedVariables false
set_option linter.unusedSimpArgs false
open Go.RowKit

theorem info_byte : (Try.prog.info? 5).map (fun i => (i.zero, i.size, i.bytes)) = some (some (.int .u8 0), 1, 1) := by kernel_rfl

/-- numbers' octets. -/
def octs (ws : List Int) : List Int := ws.flatMap fun v => Nums.lay v 8
theorem octs_snoc (ws : List Int) (v : Int) : octs (ws ++ [v]) = octs ws ++ Nums.lay v 8 := by simp [octs]
theorem octs_length (ws : List Int) : (octs ws).length = 8 * ws.length := by
  induction ws with
  | nil => rfl
  | cons v r ih =>
    show (Nums.lay v 8 ++ octs r).length = _
    rw [List.length_append, ih, Nums.length_lay, List.length_cons]
    omega
theorem octs_bytes (ws : List Int) : Nums.Bytes (octs ws) := fun z hz => by
  obtain ⟨v, _, hv⟩ := List.mem_flatMap.1 hz
  exact Nums.bytes_lay 8 v z hv

set_option maxHeartbeats 2000000 in
/-- the document's Text. -/
theorem rtext_any {w : World} {a : Option Addr} {len cap : Nat} {ws : List Int} (hr : Row .u64 w a len ws) (hb : ∀ v ∈ ws, 0 ≤ v ∧ v ≤ 18446744073709551615) (hl : len ≤ 40000) :
    Calls Try.prog 11 #[.slice a len cap] w fun e w' => e = .returned (.string (strOfNums (octs ws))) ∧ Below w.heap.size w w' := by
  obtain ⟨i0, hi, hz0, hz1, hz2⟩ := info_parts info_byte
  have HR := hide hr
  have hlen := hr.1
  clear hr
  go_enter Try.func11, Try.ntmps11
  go_wp2_with fail
  go_loopw [3, 4] (fun v i wr => ∃ k : Nat, k ≤ len ∧ i = .int .i64 k ∧ wr.ownsRow w.heap.size 5 1 v (8 * k) ((octs (ws.take k)).map (Value.int .u8)) ∧ Below w.heap.size w wr) (fun _ i _ => len - (intOf i).toNat)
  case atStart => exact ⟨0, Nat.zero_le _, rfl, ⟨by simp [octs], .inl ⟨rfl, by simp⟩⟩, Below.refl _ _⟩
  case round =>
    obtain ⟨k, hk, rfl, hown, hbr⟩ := hrel
    have HO := hide hown
    have HB := hide hbr
    clear hown hbr
    by_cases hlt : k < len
    · have hkn : (k : Int) < (len : Int) := by omega
      have hkw : k < ws.length := by omega
      obtain ⟨v, hv⟩ : ∃ v, ws.getD k 0 = v := ⟨_, rfl⟩
      have hv' : ws[k] = v := by rw [← hv]; simp [hkw]
      obtain ⟨hv0, hv1⟩ := hb v (by rw [← hv']; exact List.getElem_mem hkw)
      have HNX : Hid (octs (ws.take (k + 1)) = octs (ws.take k) ++ Nums.lay v 8) := by
        show _ = _
        rw [List.take_succ_eq_append_getElem hkw, octs_snoc, hv']
      obtain ⟨wq, hwq⟩ : ∃ x, x = wr := ⟨_, rfl⟩
      subst hwq
      go_wp2_with fail
      go_loopw [3, 5] (fun v' i wr => ∃ j : Nat, j ≤ 8 ∧ i = .int .i64 j ∧ wr.ownsRow w.heap.size 5 1 v' (8 * k + j) ((octs (ws.take k) ++ Nums.lay v j).map (Value.int .u8)) ∧ Below w.heap.size w wr) (fun _ i _ => 8 - (intOf i).toNat)
      case atStart => exact ⟨0, Nat.zero_le _, rfl, by simpa [Nums.lay] using HO.out, HB.out⟩
      case round =>
        obtain ⟨j, hj, rfl, hown2, hbr2⟩ := hrel
        have HO2 := hide hown2
        have HB2 := hide hbr2
        by_cases hj8 : j < 8
        · have hji : (j : Int) < 8 := by omega
          obtain ⟨_, h0 | ⟨g, off, rfl, hgw, hgc⟩⟩ := HR.out
          · omega
          have hck := (hbr2.cell (p := ⟨g, off + k, none⟩) hgw).trans (hgc k hlt)
          rw [hv] at hck
          have HSZ := hide hbr2.size
          clear hown2 hbr2 hgc
          obtain ⟨z, hz⟩ : ∃ z, z = v / 2 ^ (8 * j) % 256 := ⟨_, rfl⟩
          have HZ : Hid (Nums.lay v (j + 1) = Nums.lay v j ++ [z]) := by
            show _ = _
            rw [Nums.lay_succ, hz, pow2_256]
          go_wp2_with (at_builtin; refine wpList_append_own _ rfl _ _ 38 rfl w.heap.size 5 i0 (.int .u8 0) 1 1 Try.underlying38 hi hz0 hz1 hz2 rfl (by decide) _ _ _ rfl (HO2.out.alloc _) ⟨wr.heap.size, 0, none⟩ 1 1 [.int .u8 z] rfl rfl ?c1 ?c2 ?c3 ?c4 ?c5 ?_)
          case c1 =>
            intro i u hj'
            match i, hj' with
            | 0, hj' => simp at hj'; subst hj'; rw [hz]; simp [Addr.add]
          case c2 => intro u hu; simp at hu; subst hu; rfl
          case c3 => unfold maxLen; omega
          case c4 => omega
          case c5 => have := HSZ.out; simp; omega
          intro v' w2 hown' hgrow _
          have HBQ : Hid (Below w.heap.size w w2) := own_below (HO2.out.alloc _) hgrow (by have := HSZ.out; simp; omega) (HB2.out.alloc HSZ.out _) (Nat.le_refl _)
          have HON := hide hown'
          have HZZ := hide hz
          clear hown' hgrow hz
          go_wp2_with fail
          go_roundw
          case rel =>
            refine ⟨j + 1, by omega, by go_num, ?_, HBQ.out⟩
            have := HON.out
            rw [HZ.out, HZZ.out, List.map_append, List.map_append]
            exact this
          case measure => simp [intOf]; omega
        · obtain rfl : j = 8 := by omega
          clear hown2 hbr2
          go_wp2_with fail
          go_roundw
          case rel =>
            refine ⟨k + 1, by omega, by go_num, ?_, HB2.out⟩
            rw [HNX.out]
            exact HO2.out
          case measure => simp [intOf]; omega
    · obtain rfl : k = len := by omega
      have hkn : ¬ (k : Int) < (k : Int) := by omega
      have hown := HO.out
      rw [List.take_of_length_le (by omega)] at hown
      obtain ⟨a', cap', rfl, hle, hmax, _, hrow⟩ := row_of_own hown
      have hcv := conv_bytes cap' hrow
      clear hown hrow
      generalize hT : strOfNums (octs ws) = T at hcv
      have HT := hide hT
      clear hT
      go_wp2_with fail
      go_ret
      exact ⟨by rw [HT.out]; rfl, HB.out⟩
end Go.Proofs.Ytnaenokegomoeaa
