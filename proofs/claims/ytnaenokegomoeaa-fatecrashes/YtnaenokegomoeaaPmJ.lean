/-
  The program's device (layer 5): From, New.
-/
import Derived.Test.YtnaenokegomoeaaPmI
import Derived.Test.YtnaenokegomoeaaOcAll
import Derived.Test.YtnaenokegomoeaaRefText
namespace Go.Proofs.Ytnaenokegomoeaa
set_option linter.unusedVariables false
set_option linter.unusedSimpArgs false
open Go.RowKit

theorem lastL_of (vs : List Int) : Pm.lastL (vs.map Pm.still) = vs := by
  unfold Pm.lastL
  rw [List.map_map]
  exact List.map_id' vs
theorem storedL_of (vs : List Int) : Pm.storedL (vs.map Pm.still) = vs := by
  unfold Pm.storedL
  rw [List.map_map]
  exact List.map_id' vs

/-- a device that was just made. -/
theorem PX.made {w : World} {b g0 g1 c1 gm : Nat} {tl : List Value} {vs : List Int} (F : Nat → Prop) (hv : ∀ v ∈ vs, (Lit.int .u64 v).wf = true)
    (hd : w.heap[b]? = some (.cells #[.slice (some ⟨g0, 0, none⟩) vs.length vs.length, .slice (some ⟨g1, 0, none⟩) vs.length c1, .map (some gm), .int .i64 0, .bool false, .int .i64 0, .slice none 0 0, .int .i64 0] 80 (0, 0)))
    (h0 : w.heap[g0]? = some (.cells (blk .u64 vs) 22 (0, 0))) (h1 : w.heap[g1]? = some (.cells (vs.map (Value.int .u64) ++ tl).toArray 22 (0, 0))) (hm : w.ownsMap (H := Unit) Try.prog 3 (plainElem Try.prog 22) gm 0 (.map []))
    (hc : vs.length ≤ c1 ∧ c1 ≤ maxLen) (hF : F b ∧ F g0 ∧ F g1 ∧ F gm) (hne : b ≠ g0 ∧ b ≠ g1 ∧ b ≠ gm ∧ g0 ≠ g1 ∧ g0 ≠ gm ∧ g1 ≠ gm) : PX w b (Pm.of vs) F g0 g1 c1 gm 0 tl (.map []) none 0 0 := by
  have hl : (Pm.of vs).ws.length = vs.length := by unfold Pm.of; simp
  refine ⟨?_, ?_, ?_, hm, ?_, by rw [hl]; exact hc, ⟨rfl, .inl rfl⟩, .inl rfl, hF, hne, .inl rfl, ⟨Int.le_refl _, by unfold Pm.of; simp⟩, ⟨?_, (by intro p hp; cases hp), ⟨Int.le_refl _, by unfold Pm.of; simp⟩, Nat.le_refl _⟩⟩
  · rw [hl]; exact hd
  · unfold Pm.of; simp only [lastL_of]; exact h0
  · unfold Pm.of blkT; simp only [storedL_of]; exact h1
  · refine Sent.none (fun x hx => ?_)
    obtain ⟨v, _, rfl⟩ := List.mem_map.1 hx
    exact ⟨rfl, rfl⟩
  · intro x hx
    obtain ⟨v, hvm, rfl⟩ := List.mem_map.1 hx
    have := bd_u64 (hv v hvm)
    exact Pm.still_ok this.1 this.2

theorem row_none (k : IntKind) (w : World) : Row k w none 0 [] := ⟨rfl, .inl rfl⟩

set_option maxRecDepth 100000 in
set_option maxHeartbeats 2000000 in
theorem pfrom_x {w : World} {a : Option Addr} {len cap : Nat} {zs : List Int} (h : Arg .u8 w a len cap zs) (hl : len ≤ 300000) : Calls Try.prog 42 #[.slice a len cap] w fun e w' => ∃ b F vs, e = .returned (.pointer (some ⟨b, 0, none⟩)) ∧ octs vs = zs.take (64 * min (len / 64) 4096) ∧ vs.length = 8 * min (len / 64) 4096 ∧ (∀ v ∈ vs, 0 ≤ v ∧ v ≤ 18446744073709551615) ∧ PDev w' b (Pm.of vs) F ∧ (∀ k, F k → w.heap.size ≤ k ∧ k < w'.heap.size) ∧ Below w.heap.size w w' := by
  obtain ⟨L, hL⟩ : ∃ L, min (len / 64) 4096 = L := ⟨_, rfl⟩
  rw [hL]
  have hLl : 64 * L ≤ len := by omega
  have hL4 : L ≤ 4096 := by omega
  have hlen := h.2.2.1.1
  have hby : Nums.Bytes (zs.take (64 * L)) := Nums.bytes_take h.bytes _
  have hrow := h.2.2.1.headRow (64 * L) hLl
  obtain ⟨vs, hvs⟩ : ∃ vs, vs = wordsTo (zs.take (64 * L)) (64 * L / 8) := ⟨_, rfl⟩
  have hvl : vs.length = 8 * L := by rw [hvs, length_wordsTo]; omega
  have hvw : ∀ v ∈ vs, (Lit.int .u64 v).wf = true := by rw [hvs]; exact wf_words _ hby _
  have hoc : octs vs = zs.take (64 * L) := by
    unfold octs
    rw [hvs, oct_words _ hby _ (by simp; omega), List.take_of_length_le (by simp; omega)]
  have HW := hide (words_any a (64 * L) cap (zs.take (64 * L)) w (by omega) (by have := h.1; omega) hrow hby)
  rw [← hvs, show 64 * L / 8 = 8 * L by omega] at HW
  have hcap : 64 * L ≤ cap := by have := h.1; omega
  have hcm := h.2.1
  have HX : Hid (∀ w2 : World, Below (w.heap.size + 1) (w.alloc (.cells (blk .u64 vs) 22)) w2 → ∀ g c tail, w.heap.size + 1 ≤ g → w2.heap[g]? = some (.cells (vs.map (Value.int .u64) ++ tail).toArray 22 (0, 0)) → 8 * L ≤ c → c ≤ maxLen →
      ∀ w', w' = (w2.alloc (.map #[] 0)).alloc (.cells #[.slice (some ⟨w.heap.size, 0, none⟩) (8 * L) (8 * L), .slice (some ⟨g, 0, none⟩) (8 * L) c, .map (some w2.heap.size), .int .i64 0, .bool false, .int .i64 0, .slice none 0 0, .int .i64 0] 80) →
      PDev w' (w2.heap.size + 1) (Pm.of vs) (fun k => w.heap.size ≤ k ∧ k < w'.heap.size) ∧ Below w.heap.size w w') := by
    show ∀ w2, _ → _
    intro w2 hb2 g c tail hg hgt hc1 hc2 w' hw'
    have hgw := heap_lt hgt
    have hs2 := hb2.size
    rw [show (w.alloc (.cells (blk .u64 vs) 22)).heap.size = w.heap.size + 1 by simp] at hs2
    have e1 : (w2.alloc (.map #[] 0)).heap.size = w2.heap.size + 1 := by simp
    have hsz : w'.heap.size = w2.heap.size + 2 := by rw [hw']; simp
    have old : ∀ k, k < w2.heap.size → w'.heap[k]? = w2.heap[k]? := fun k hk => by
      rw [hw', Below.heap_alloc _ _ _ (by omega), Below.heap_alloc _ _ _ hk]
    have hmk : w'.heap[w2.heap.size]? = (w2.alloc (.map #[] 0)).heap[w2.heap.size]? := by rw [hw', Below.heap_alloc _ _ _ (by omega)]
    refine ⟨⟨w.heap.size, g, c, w2.heap.size, 0, tail, .map [], none, 0, 0, PX.made _ hvw ?_ ?_ ?_ (ownsMap_block (World.ownsMap_made w2 Try.prog 3 (plainElem Try.prog 22)) hmk) (by rw [hvl]; exact ⟨hc1, hc2⟩) ⟨⟨by omega, by omega⟩, ⟨by omega, by omega⟩, ⟨by omega, by omega⟩, ⟨by omega, by omega⟩⟩ ⟨by omega, by omega, by omega, by omega, by omega, by omega⟩, Nat.zero_le _⟩, ?_⟩
    · rw [hvl, hw', ← e1]
      exact heap_alloc_new _ _
    · rw [old _ (by omega), hb2.block _ (by omega)]
      exact heap_alloc_new _ _
    · rw [old _ hgw]
      exact hgt
    · have hb0 : Below w.heap.size w (w.alloc (.cells (blk .u64 vs) 22)) := (Below.refl _ _).alloc (Nat.le_refl _) _
      have hb1 : Below w.heap.size (w.alloc (.cells (blk .u64 vs) 22)) w2 := ⟨hb2.os, hb2.tape, hb2.output, hb2.size, fun k hk => hb2.block k (by omega)⟩
      rw [hw']
      exact ((hb0.trans hb1).alloc (by omega) _).alloc (by rw [e1]; omega) _
  have HC : Hid (Calls Try.prog 64 #[.slice (some ⟨w.heap.size, 0, none⟩) (8 * L) (8 * L)] (w.alloc (.cells (blk .u64 vs) 22)) fun e w' => ∃ g cap' tail, e = .returned (.slice (some ⟨g, 0, none⟩) (8 * L) cap') ∧ Below (w.heap.size + 1) (w.alloc (.cells (blk .u64 vs) 22)) w' ∧ w.heap.size + 1 ≤ g ∧ w'.heap[g]? = some (.cells (vs.map (Value.int .u64) ++ tail).toArray 22 (0, 0)) ∧ 8 * L ≤ cap' ∧ cap' ≤ maxLen) := by
    have hx : Arg .u64 (w.alloc (.cells (blk .u64 vs) 22)) (some ⟨w.heap.size, 0, none⟩) (8 * L) (8 * L) vs := ⟨Nat.le_refl _, by unfold maxLen; omega, row_of_block (heap_alloc_new _ _) hvl, hvw, .inr ⟨_, _, rfl⟩⟩
    have := cloneu_some hx (by omega)
    rw [show (w.alloc (.cells (blk .u64 vs) 22)).heap.size = w.heap.size + 1 by simp] at this
    exact this
  have hmm := @run_makeMap Try.prog
  have hmin : (if (len : Int) / 64 ≤ 4096 then (len : Int) / 64 else 4096) = (L : Int) := by split <;> omega
  have HFIN : Hid (octs vs = zs.take (64 * L) ∧ vs.length = 8 * L ∧ ∀ v ∈ vs, 0 ≤ v ∧ v ≤ 18446744073709551615) := ⟨hoc, hvl, fun v hv => bd_u64 (hvw v hv)⟩
  clear h hoc hvw hvl hvs hrow hby hlen
  go_enter Try.func42, Try.ntmps42
  go_wp2_with fail
  all_goals
    first
      | rw [show (262144 : Nat) = 64 * L by omega]
      | rw [show ((len : Int) / 64 * 64).toNat = 64 * L by omega]
    refine HW.out.mono ?_
    rintro e w1 ⟨rfl, hw1⟩
    subst hw1
    go_wp2_with (go_at_call 64; refine HC.out.mono ?_; rintro e w2 ⟨g, c, tail, rfl, hb2, hg, hgt, hc1, hc2⟩; have HB2 := hide hb2; have HGT := hide hgt; clear hb2 hgt)
    go_ret
    obtain ⟨q1, q2⟩ := HX.out w2 HB2.out g c tail hg HGT.out hc1 hc2 _ rfl
    exact ⟨w2.heap.size + 1, _, vs, rfl, HFIN.out.1, HFIN.out.2.1, HFIN.out.2.2, q1, fun k hk => hk, q2⟩

theorem of_noughts (n : Nat) {vs : List Int} (hl : vs.length = n) (ho : octs vs = List.replicate (8 * n) 0) (hv : ∀ v ∈ vs, 0 ≤ v ∧ v ≤ 18446744073709551615) : Pm.of vs = Pm.new n := by
  have hz : vs = List.replicate n 0 := by
    apply List.ext_getElem
    · simp [hl]
    · intro i h1 h2
      have hlay : Nums.lay vs[i] 8 = List.replicate 8 0 := by
        have e : Nums.lay vs[i] 8 = ((octs vs).drop (8 * i)).take 8 := by
          have := oct_at vs vs.length i h1 (Nat.le_refl _)
          rw [octTo_all] at this
          unfold octs
          rw [this]
          simp [h1]
        rw [e, ho, List.drop_replicate, List.take_replicate]
        congr 1
        omega
      have hb := hv _ (List.getElem_mem h1)
      have h3 := rd_lay8 hb.1 hb.2
      rw [hlay] at h3
      rw [← h3, List.getElem_replicate]
      rfl
  subst hz
  unfold Pm.of Pm.new
  rw [List.map_replicate]

set_option maxRecDepth 100000 in
set_option maxHeartbeats 1000000 in
theorem pnew_yes (w : World) (n : Nat) (hn : n ≤ 4096) : Calls Try.prog 25 #[.int .i64 n] w fun e w' => ∃ b F, e = .returned (.tuple #[.pointer (some ⟨b, 0, none⟩), .int .i64 0]) ∧ PDev w' b (Pm.new (8 * n)) F ∧ (∀ k, F k → w.heap.size ≤ k ∧ k < w'.heap.size) ∧ Below w.heap.size w w' := by
  have hmk := make_bytes (n * 64) (by omega)
  have hmul : ((n * 64 : Nat) : Int) = (n : Int) * 64 := by omega
  rw [hmul] at hmk
  have hx : Arg .u8 (w.alloc (.cells (blk .u8 (List.replicate (n * 64) 0)) 5)) (some ⟨w.heap.size, 0, none⟩) (n * 64) (n * 64) (List.replicate (n * 64) 0) :=
    ⟨Nat.le_refl _, by unfold maxLen; omega, row_of_block (heap_alloc_new _ _) (by simp), fun z hz => by rw [List.eq_of_mem_replicate hz]; rfl, .inr ⟨_, _, rfl⟩⟩
  have HF := hide (pfrom_x hx (by omega))
  rw [show min (n * 64 / 64) 4096 = n by omega, List.take_of_length_le (by simp; omega)] at HF
  have n1 : (n : Int) ≤ 4096 := by omega
  have HB : Hid (Below w.heap.size w (w.alloc (.cells (blk .u8 (List.replicate (n * 64) 0)) 5))) := (Below.refl _ _).alloc (Nat.le_refl _) _
  clear hx hmul
  go_enter Try.func25, Try.ntmps25
  go_wp2_with (go_at_call 42; refine HF.out.mono ?_; rintro e w2 ⟨b, F, vs, rfl, ho, hvl, hv, hd, hF, hb⟩; have HD := hide hd; have HO := hide ho; have HFF := hide hF; have HB2 := hide hb; clear hd ho hF hb)
  go_ret2
  have hb2 : Below w.heap.size w w2 := HB.out.trans ⟨HB2.out.os, HB2.out.tape, HB2.out.output, HB2.out.size, fun k hk => HB2.out.block k (by simp; omega)⟩
  refine ⟨b, F, rfl, ?_, fun k hk => ?_, hb2⟩
  · rw [← of_noughts (8 * n) hvl (by rw [HO.out]; congr 1; omega) hv]
    exact HD.out
  · have := HFF.out k hk
    rw [show (w.alloc (.cells (blk .u8 (List.replicate (n * 64) 0)) 5)).heap.size = w.heap.size + 1 by simp] at this
    omega

theorem pnew_no (w : World) (n : Int) (hn : n < 0 ∨ 4096 < n) : Calls Try.prog 25 #[.int .i64 n] w fun e w' => e = .returned (.tuple #[.pointer none, .int .i64 2]) ∧ Below w.heap.size w w' := by
  rcases (show n < 0 ∨ (¬ n < 0 ∧ 4096 < n) by omega) with h | ⟨h, h2⟩
  all_goals
    go_enter Try.func25, Try.ntmps25
    go_wp2
    go_ret2
    exact ⟨rfl, Below.refl _ _⟩
end Go.Proofs.Ytnaenokegomoeaa
