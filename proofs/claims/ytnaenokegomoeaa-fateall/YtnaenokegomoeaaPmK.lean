/-
  The program's device (layer 5): Fates.
-/
import Derived.Test.YtnaenokegomoeaaPmJ
import Derived.Test.YtnaenokegomoeaaRefSame
namespace Go.Proofs.Ytnaenokegomoeaa
set_option linter.unusedVariables false
set_option linter.unusedSimpArgs false
open Go.RowKit

/-- what was sent of a word, out of the map. -/
theorem PX.look {w : World} {b : Nat} {s : Pm.D} {F : Nat → Prop} {g0 g1 c1 gm n : Nat} {tl : List Value} {M : DataW Unit} {pa : Option Addr} {pc : Nat} {laid : Int} (h : PX w b s F g0 g1 c1 gm n tl M pa pc laid) {i : Nat} (hi : i < s.ws.length) (hm : s.ws.length ≤ 40000) :
    (Instr.lookup 78 (.map (some gm)) (.int .i64 (i : Int)) true).run Try.prog w = .ok (.tuple #[.int .u64 (s.ws.getD i (Pm.still 0)).sent, .bool (s.ws.getD i (Pm.still 0)).flushed]) w := by
  obtain ⟨v, ps, hrun, hv⟩ := h.mp.look_ok lawI Try.underlying78 (zeroU w) (plainElem_int (H := Unit) Try.underlying22 (a := 0) (by decide)) (keyI (i := i) (by omega))
  obtain ⟨c, rfl, hc, hwc⟩ := plainElem_int_inv Try.underlying22 hv
  rw [hrun, h.sent.has i hi]
  have h1 := congrArg Prod.fst hc
  simp only at h1
  rw [h.sent.val i hi] at h1
  cases h1
  rfl

set_option maxRecDepth 100000 in
set_option maxHeartbeats 4000000 in
theorem pfates_x {w : World} {b : Nat} {s : Pm.D} {F : Nat → Prop} {g0 g1 c1 gm n : Nat} {tl : List Value} {M : DataW Unit} {pa : Option Addr} {pc : Nat} {laid : Int} (h : PX w b s F g0 g1 c1 gm n tl M pa pc laid) (hm : s.ws.length ≤ 40000) :
    Calls Try.prog 21 #[.pointer (some ⟨b, 0, none⟩)] w fun e w' => ∃ v, e = .returned v ∧ w'.ownsRow w.heap.size 24 5 v (Pm.fates s).length (fateCells (Pm.fates s)) ∧ Below w.heap.size w w' := by
  obtain ⟨i0, hi, hz0, hz1, hz2⟩ := info_parts info_fate
  have HD := hide h
  have HFL := hide (fates_length s.ws 0)
  obtain ⟨f0, f1, f2, f3, f4, f5, f6, f7⟩ := h.fields
  clear h f3 f4 f5 f6 f7
  obtain ⟨N, hN⟩ : ∃ N, s.ws.length = N := ⟨_, rfl⟩
  rw [hN] at f0 f1 hm
  have HN := hide hN
  clear hN
  go_enter Try.func21, Try.ntmps21
  go_wp2_with fail
  clear f0 f1 f2
  go_loopw [3, 14] (fun v i wr => ∃ (k : Nat) (acc : List Pm.F), k ≤ N ∧ i = .int .i64 k ∧ wr.ownsRow w.heap.size 24 5 v acc.length (fateCells acc) ∧ Below w.heap.size w wr ∧ acc ++ Pm.fatesFrom k (s.ws.drop k) = Pm.fates s) (fun _ i _ => N - (intOf i).toNat)
  case atStart => exact ⟨0, [], Nat.zero_le _, rfl, ⟨rfl, .inl ⟨rfl, rfl⟩⟩, Below.refl _ _, rfl⟩
  case round =>
    obtain ⟨k, acc, hk, rfl, hown, hb, hacc⟩ := hrel
    have HO := hide hown
    have HB := hide hb
    have HA := hide hacc
    have HDn := hide (HD.out.below hb)
    clear hown hb hacc
    by_cases hlt : k < N
    · have hkn : (k : Int) < (N : Int) := by omega
      have hlw : k < s.ws.length := by rw [HN.out]; exact hlt
      obtain ⟨f0, f1, f2, _, _, _, _, _⟩ := HDn.out.fields
      rw [HN.out] at f0 f1
      obtain ⟨k0, _⟩ := cell_blk HDn.out.k0 (i := k) (by rw [lastL_len]; exact hlw)
      obtain ⟨k1, _⟩ := cell_blkT HDn.out.k1 (i := k) (by rw [storedL_len]; exact hlw)
      have e0 : (Pm.lastL s.ws).getD k 0 = (s.ws.getD k (Pm.still 0)).lasts := by simp [Pm.lastL, hlw]
      have e1 : (Pm.storedL s.ws).getD k 0 = (s.ws.getD k (Pm.still 0)).stored := by simp [Pm.storedL, hlw]
      rw [e0] at k0
      rw [e1] at k1
      have hlook := HDn.out.look hlw (by rw [HN.out]; exact hm)
      have HST := hide (fates_step hlw)
      clear e0 e1
      generalize hx : s.ws.getD k (Pm.still 0) = x at *
      clear hx
      obtain ⟨xl, xs, xt, xf⟩ := x
      simp only at k0 k1 hlook
      have hcase : (xf = true ∧ Pm.W.isOpen ⟨xl, xs, xt, xf⟩ = true) ∨ (xf = false ∧ (¬ xs = xl) ∧ Pm.W.isOpen ⟨xl, xs, xt, xf⟩ = true) ∨ (xf = false ∧ xs = xl ∧ Pm.W.isOpen ⟨xl, xs, xt, xf⟩ = false) := by
        unfold Pm.W.isOpen
        cases xf
        · by_cases e : xs = xl
          · simp [e]
          · simp [e]
        · simp
      have HAL : Hid (acc.length ≤ 40000) := by
        show _ ≤ _
        have e := congrArg List.length HA.out
        have := HFL.out
        have := HN.out
        rw [List.length_append] at e
        unfold Pm.fates at e
        omega
      have hal := HAL.out
      have hsz := HB.out.size
      rcases hcase with ⟨rfl, ho⟩ | ⟨rfl, he, ho⟩ | ⟨rfl, rfl, ho⟩
      · rw [if_pos ho] at HST
        clear ho
        go_wp2_with (at_builtin; refine wpList_append_own _ rfl _ _ 48 rfl w.heap.size 24 i0 _ 5 40 Try.underlying48 hi hz0 hz1 hz2 rfl (by decide) u3 acc.length (fateCells acc) rfl (HO.out.alloc _) ⟨wr.heap.size, 0, none⟩ 1 1 [.int .i64 k, .int .u64 xl, .bool true, .int .u64 xt, .int .u64 xs] rfl rfl (World.news_of_block (cs := #[.int .i64 k, .int .u64 xl, .bool true, .int .u64 xt, .int .u64 xs]) (t := 24) (fr := (0, 0)) (heap_alloc_new wr _)) (by simp [Value.oneCell']) (by unfold maxLen; omega) (by omega) (by simp; omega) ?_; intro v' w1 hown1 hgrow hiff)
        have HBN : Hid (Below w.heap.size w w1) := by
          refine ((HB.out.alloc hsz _).grown hgrow (by simp; omega) (fun k hk => ?_))
          rcases HO.out.2 with ⟨rfl, _⟩ | ⟨g, c, cur, rfl, hBg, _⟩
          · simp [Value.ownBlock] at hk
          · simp [Value.ownBlock] at hk
            omega
        have HON := hide hown1
        clear hown1 hgrow hiff
        go_wp2_with fail
        go_roundw
        case rel =>
          refine ⟨k + 1, acc ++ [fateOf k ⟨xl, xs, xt, true⟩], by omega, by go_num, ?_, HBN.out, by rw [← HA.out, HST.out, List.append_assoc]; rfl⟩
          rw [fateCells_snoc, List.length_append]
          exact HON.out
        case measure => simp [intOf]; omega
      · rw [if_pos ho] at HST
        clear ho
        go_wp2_with (at_builtin; refine wpList_append_own _ rfl _ _ 48 rfl w.heap.size 24 i0 _ 5 40 Try.underlying48 hi hz0 hz1 hz2 rfl (by decide) u3 acc.length (fateCells acc) rfl (HO.out.alloc _) ⟨wr.heap.size, 0, none⟩ 1 1 [.int .i64 k, .int .u64 xl, .bool false, .int .u64 xt, .int .u64 xs] rfl rfl (World.news_of_block (cs := #[.int .i64 k, .int .u64 xl, .bool false, .int .u64 xt, .int .u64 xs]) (t := 24) (fr := (0, 0)) (heap_alloc_new wr _)) (by simp [Value.oneCell']) (by unfold maxLen; omega) (by omega) (by simp; omega) ?_; intro v' w1 hown1 hgrow hiff)
        have HBN : Hid (Below w.heap.size w w1) := by
          refine ((HB.out.alloc hsz _).grown hgrow (by simp; omega) (fun k hk => ?_))
          rcases HO.out.2 with ⟨rfl, _⟩ | ⟨g, c, cur, rfl, hBg, _⟩
          · simp [Value.ownBlock] at hk
          · simp [Value.ownBlock] at hk
            omega
        have HON := hide hown1
        clear hown1 hgrow hiff
        go_wp2_with fail
        go_roundw
        case rel =>
          refine ⟨k + 1, acc ++ [fateOf k ⟨xl, xs, xt, false⟩], by omega, by go_num, ?_, HBN.out, by rw [← HA.out, HST.out, List.append_assoc]; rfl⟩
          rw [fateCells_snoc, List.length_append]
          exact HON.out
        case measure => simp [intOf]; omega
      · rw [if_neg (by rw [ho]; decide)] at HST
        clear ho
        go_wp2_with fail
        go_roundw
        case rel => exact ⟨k + 1, acc, by omega, by go_num, HO.out, HB.out, by rw [← HA.out, HST.out]⟩
        case measure => simp [intOf]; omega
    · obtain rfl : k = N := by omega
      have hkn : ¬ (k : Int) < (k : Int) := by omega
      have HE : Hid (acc = Pm.fates s) := by
        show _ = _
        have := HA.out
        rw [← HN.out, List.drop_length] at this
        simpa [Pm.fatesFrom] using this
      go_wp2_with fail
      go_ret
      exact ⟨_, rfl, by rw [← HE.out]; exact HO.out, HB.out⟩
end Go.Proofs.Ytnaenokegomoeaa
