/-
  The document's device (layer 5): Fates.
-/
import Derived.Test.YtnaenokegomoeaaRefDevF
import Derived.Test.YtnaenokegomoeaaGround
import Derived.Deep.RegionHeld3
import Derived.Deep.AppendLies
namespace Go.Proofs.Ytnaenokegomoeaa
set_option linter.unusedVariables false
set_option linter.unusedSimpArgs false
open Go.RowKit

theorem info_fate : (Try.prog.info? 24).map (fun i => (i.zero, i.size, i.bytes)) = some (some (.agg #[.int .i64 0, .int .u64 0, .bool false, .int .u64 0, .int .u64 0]), 5, 40) := by kernel_rfl

/-- fates in memory. -/
def fateCells (fs : List Pm.F) : List Value := fs.flatMap fateV
theorem fateCells_snoc (fs : List Pm.F) (f : Pm.F) : fateCells (fs ++ [f]) = fateCells fs ++ fateV f := by simp [fateCells]
theorem fateCells_length (fs : List Pm.F) : (fateCells fs).length = 5 * fs.length := by
  induction fs with
  | nil => rfl
  | cons f r ih =>
    show (fateV f ++ fateCells r).length = _
    rw [List.length_append, ih, List.length_cons]
    simp [fateV]
    omega

/-- the fate of a word. -/
def fateOf (k : Nat) (x : Pm.W) : Pm.F := ⟨k, x.lasts, x.flushed, x.sent, x.stored⟩
theorem fates_step {ws : List Pm.W} {k : Nat} (h : k < ws.length) : Pm.fatesFrom k (ws.drop k) = if (ws.getD k (Pm.still 0)).isOpen = true then fateOf k (ws.getD k (Pm.still 0)) :: Pm.fatesFrom (k + 1) (ws.drop (k + 1)) else Pm.fatesFrom (k + 1) (ws.drop (k + 1)) := by
  rw [List.drop_eq_getElem_cons h, List.getD_eq_getElem?_getD, List.getElem?_eq_getElem h]
  rfl
theorem fates_length (ws : List Pm.W) (k : Nat) : (Pm.fatesFrom k ws).length ≤ ws.length := by
  induction ws generalizing k with
  | nil => simp [Pm.fatesFrom]
  | cons x r ih =>
    unfold Pm.fatesFrom
    have := ih (k + 1)
    split
    · simp; omega
    · simp; omega

theorem own_block_ne {w : World} {B : Nat} {e : TypeId} {z n : Nat} {v : Value} {xs : List Value} (h : w.ownsRow B e z v n xs) {g : Nat} (hg : g < B) : v.ownBlock ≠ some g := by
  rcases h.2 with ⟨rfl, _⟩ | ⟨k, c, cur, rfl, hk, _⟩
  · simp [Value.ownBlock]
  · simp [Value.ownBlock]
    omega

set_option maxRecDepth 100000 in
set_option maxHeartbeats 4000000 in
/-- the document's Fates. -/
theorem rfates_any {w : World} {b : Nat} {s : Pm.D} {F : Nat → Prop} {g0 g1 g2 g3 : Nat} {pa : Option Addr} {pc : Nat} (h : RDev w b s F g0 g1 g2 g3 pa pc) (hm : s.ws.length ≤ 40000) :
    Calls Try.prog 34 #[.pointer (some ⟨b, 0, none⟩)] w fun e w' => ∃ v, e = .returned v ∧ w'.ownsRow w.heap.size 24 5 v (Pm.fates s).length (fateCells (Pm.fates s)) ∧ Below w.heap.size w w' := by
  obtain ⟨i0, hi, hz0, hz1, hz2⟩ := info_parts info_fate
  have HD := hide h
  have HFL := hide (fates_length s.ws 0)
  clear h
  go_enter Try.func34, Try.ntmps34
  go_wp2_with fail
  go_loopw [3, 4] (fun v i wr => ∃ (k : Nat) (acc : List Pm.F), k ≤ s.ws.length ∧ i = .int .i64 k ∧ wr.ownsRow w.heap.size 24 5 v acc.length (fateCells acc) ∧ Below w.heap.size w wr ∧ acc ++ Pm.fatesFrom k (s.ws.drop k) = Pm.fates s) (fun _ i _ => s.ws.length - (intOf i).toNat)
  case atStart => exact ⟨0, [], Nat.zero_le _, rfl, ⟨rfl, .inl ⟨rfl, rfl⟩⟩, Below.refl _ _, rfl⟩
  case round =>
    obtain ⟨k, acc, hk, rfl, hown, hb, hacc⟩ := hrel
    have HO := hide hown
    have HB := hide hb
    have HA := hide hacc
    have HDn := hide (HD.out.kept hb.size (fun k _ hk => hb.block k hk))
    clear hown hb hacc
    obtain ⟨f0, f1, f2, f3, f4, f5, f6, f7⟩ := HDn.out.fields
    clear f2 f4 f5 f6 f7
    by_cases hlt : k < s.ws.length
    · have hkn : (k : Int) < (s.ws.length : Int) := by omega
      obtain ⟨k0, _⟩ := cell_blk HDn.out.c0 (i := k) (by rw [lastL_len]; exact hlt)
      obtain ⟨k1, _⟩ := cell_blk HDn.out.c1 (i := k) (by rw [storedL_len]; exact hlt)
      obtain ⟨k2, _⟩ := cell_blk HDn.out.c2 (i := k) (by rw [sentL_len]; exact hlt)
      obtain ⟨k3, _⟩ := cell_blkB HDn.out.c3 (i := k) (by rw [flushL_len]; exact hlt)
      have e0 : (Pm.lastL s.ws).getD k 0 = (s.ws.getD k (Pm.still 0)).lasts := by simp [Pm.lastL, hlt]
      have e1 : (Pm.storedL s.ws).getD k 0 = (s.ws.getD k (Pm.still 0)).stored := by simp [Pm.storedL, hlt]
      have e2 : (sentL s.ws).getD k 0 = (s.ws.getD k (Pm.still 0)).sent := by simp [sentL, hlt]
      have e3 : (flushL s.ws).getD k false = (s.ws.getD k (Pm.still 0)).flushed := by simp [flushL, hlt]
      rw [e0] at k0
      rw [e1] at k1
      rw [e2] at k2
      rw [e3] at k3
      have HST := hide (fates_step hlt)
      clear e0 e1 e2 e3
      generalize hx : s.ws.getD k (Pm.still 0) = x at *
      clear hx
      obtain ⟨xl, xs, xt, xf⟩ := x
      simp only at k0 k1 k2 k3
      have hcase : (xf = true ∧ Pm.W.isOpen ⟨xl, xs, xt, xf⟩ = true) ∨ (xf = false ∧ (¬ xs = xl) ∧ Pm.W.isOpen ⟨xl, xs, xt, xf⟩ = true) ∨ (xf = false ∧ xs = xl ∧ Pm.W.isOpen ⟨xl, xs, xt, xf⟩ = false) := by
        unfold Pm.W.isOpen
        cases xf
        · by_cases e : xs = xl
          · simp [e]
          · simp [e]
        · simp
      have lt : ∀ {k : Nat} {o : Obj}, w.heap[k]? = some o → k < w.heap.size := fun h => (Array.getElem?_eq_some_iff.1 h).1
      have l0 := lt HD.out.dev
      have l1 := lt HD.out.c0
      have l2 := lt HD.out.c1
      have l3 := lt HD.out.c2
      have l4 := lt HD.out.c3
      have HSZ := hide HB.out.size
      have hf2 : wr.cell? ⟨b, 2, none⟩ = some (.slice (some ⟨g2, 0, none⟩) s.ws.length s.ws.length) := HDn.out.fields.2.2.1
      have HAL : Hid (acc.length ≤ 40000) := by
        show _ ≤ _
        have e := congrArg List.length HA.out
        have := HFL.out
        rw [List.length_append] at e
        unfold Pm.fates at e
        omega
      have hal := HAL.out
      generalize hn : s.ws.length = n at f0 f1 f3 hf2 hkn hlt hm hk
      have HN := hide hn
      clear hn
      have hk0 : (0 : Int) ≤ (k : Int) := by omega
      rcases hcase with ⟨rfl, ho⟩ | ⟨rfl, he, ho⟩ | ⟨rfl, rfl, ho⟩
      · rw [if_pos ho] at HST
        clear ho
        go_wp2_with fail
        go_quiet (fail)
        go_wp2_with fail
        obtain ⟨W, hW⟩ : ∃ W, W = wr.drewN nq := ⟨_, rfl⟩
        rw [← hW]
        have r0 : W.cell? ⟨b, 0, none⟩ = some (.slice (some ⟨g0, 0, none⟩) n n) := by rw [hW]; exact f0
        have r1 : W.cell? ⟨b, 1, none⟩ = some (.slice (some ⟨g1, 0, none⟩) n n) := by rw [hW]; exact f1
        have r2 : W.cell? ⟨b, 2, none⟩ = some (.slice (some ⟨g2, 0, none⟩) n n) := by rw [hW]; exact hf2
        have r3 : W.cell? ⟨b, 3, none⟩ = some (.slice (some ⟨g3, 0, none⟩) n n) := by rw [hW]; exact f3
        have t0 : W.cell? ⟨g0, k, none⟩ = some (.int .u64 xl) := by rw [hW]; exact k0
        have t1 : W.cell? ⟨g1, k, none⟩ = some (.int .u64 xs) := by rw [hW]; exact k1
        have t2 : W.cell? ⟨g2, k, none⟩ = some (.int .u64 xt) := by rw [hW]; exact k2
        have t3 : W.cell? ⟨g3, k, none⟩ = some (.bool true) := by rw [hW]; exact k3
        have hown : W.ownsRow w.heap.size 24 5 u3 acc.length (fateCells acc) := by rw [hW]; exact HO.out
        have hbw : Below w.heap.size w W := by rw [hW]; exact HB.out.trans ⟨rfl, rfl, rfl, Nat.le_refl _, fun _ _ => rfl⟩
        have hsz := hbw.size
        have HOW := hide hown
        have HBW := hide hbw
        clear hown hbw hW f0 f1 f3 hf2 k0 k1 k2 k3
        have ag := own_block_ne HOW.out l0
        have a0 := own_block_ne HOW.out l1
        have a1 := own_block_ne HOW.out l2
        have a2 := own_block_ne HOW.out l3
        have a3 := own_block_ne HOW.out l4
        have lb := World.block_lt_of_cell? W _ r0
        have lg0 := World.block_lt_of_cell? W _ t0
        have lg1 := World.block_lt_of_cell? W _ t1
        have lg2 := World.block_lt_of_cell? W _ t2
        have lg3 := World.block_lt_of_cell? W _ t3
        go_region_held3 (fun w' => w'.cell? ⟨b, 0, none⟩ = some (.slice (some ⟨g0, 0, none⟩) n n) ∧ w'.cell? ⟨b, 1, none⟩ = some (.slice (some ⟨g1, 0, none⟩) n n) ∧ w'.cell? ⟨b, 2, none⟩ = some (.slice (some ⟨g2, 0, none⟩) n n) ∧ w'.cell? ⟨b, 3, none⟩ = some (.slice (some ⟨g3, 0, none⟩) n n) ∧
            w'.cell? ⟨g0, k, none⟩ = some (.int .u64 xl) ∧ w'.cell? ⟨g1, k, none⟩ = some (.int .u64 xs) ∧ w'.cell? ⟨g2, k, none⟩ = some (.int .u64 xt) ∧ w'.cell? ⟨g3, k, none⟩ = some (.bool true))
          (first
            | go_keep
            | (go_split_ands
               refine ⟨?_, ?_, ?_, ?_, ?_, ?_, ?_, ?_⟩
               · (rw [hgrow.cell_far _ (by simp; omega) (Ne.symm ag)]; assumption)
               · (rw [hgrow.cell_far _ (by simp; omega) (Ne.symm ag)]; assumption)
               · (rw [hgrow.cell_far _ (by simp; omega) (Ne.symm ag)]; assumption)
               · (rw [hgrow.cell_far _ (by simp; omega) (Ne.symm ag)]; assumption)
               · (rw [hgrow.cell_far _ (by simp; omega) (Ne.symm a0)]; assumption)
               · (rw [hgrow.cell_far _ (by simp; omega) (Ne.symm a1)]; assumption)
               · (rw [hgrow.cell_far _ (by simp; omega) (Ne.symm a2)]; assumption)
               · (rw [hgrow.cell_far _ (by simp; omega) (Ne.symm a3)]; assumption)))
          ((refine step_append_lies _ (by rfl) _ _ _ (by rfl) w.heap.size 24 i0 _ 5 40 Try.underlying48 hi hz0 hz1 hz2 rfl (by omega) u3 acc.length (fateCells acc) (by rfl) ((HOW.out.alloc _).drew)
              ⟨W.heap.size, 0, none⟩ 1 1 [.int .i64 k, .int .u64 xl, .bool true, .int .u64 xt, .int .u64 xs] (by rfl) (by rfl) (World.news_of_block (cs := #[.int .i64 k, .int .u64 xl, .bool true, .int .u64 xt, .int .u64 xs]) (t := 24) (fr := (0, 0)) (heap_alloc_new W _)) (by simp [Value.oneCell'])
              (by omega) (by unfold maxLen; omega) (by omega) (by simp; omega) (W.heap.size + 1) (by simp) ?_; intro gg cap w1 hown1 hgrow hat hlt1))
        have HBN : Hid (Below w.heap.size w w1) := by
          refine (((HBW.out.alloc hsz _).drew).grown hgrow (by simp; omega) (fun k hk => ?_))
          rcases HOW.out.2 with ⟨rfl, _⟩ | ⟨g, c, cur, rfl, hBg, _⟩
          · simp [Value.ownBlock] at hk
          · simp [Value.ownBlock] at hk
            omega
        have HON := hide hown1
        clear hown1 hgrow hat hlt1
        go_wp2_with fail
        go_roundw
        case rel =>
          refine ⟨k + 1, acc ++ [fateOf k ⟨xl, xs, xt, true⟩], by have := HN.out; omega, by go_num, ?_, HBN.out, by rw [← HA.out, HST.out, List.append_assoc]; rfl⟩
          rw [fateCells_snoc, List.length_append]
          exact HON.out
        case measure => have := HN.out; simp [intOf]; omega
      · rw [if_pos ho] at HST
        clear ho
        go_wp2_with fail
        go_quiet (fail)
        go_wp2_with fail
        obtain ⟨W, hW⟩ : ∃ W, W = wr.drewN nq := ⟨_, rfl⟩
        rw [← hW]
        have r0 : W.cell? ⟨b, 0, none⟩ = some (.slice (some ⟨g0, 0, none⟩) n n) := by rw [hW]; exact f0
        have r1 : W.cell? ⟨b, 1, none⟩ = some (.slice (some ⟨g1, 0, none⟩) n n) := by rw [hW]; exact f1
        have r2 : W.cell? ⟨b, 2, none⟩ = some (.slice (some ⟨g2, 0, none⟩) n n) := by rw [hW]; exact hf2
        have r3 : W.cell? ⟨b, 3, none⟩ = some (.slice (some ⟨g3, 0, none⟩) n n) := by rw [hW]; exact f3
        have t0 : W.cell? ⟨g0, k, none⟩ = some (.int .u64 xl) := by rw [hW]; exact k0
        have t1 : W.cell? ⟨g1, k, none⟩ = some (.int .u64 xs) := by rw [hW]; exact k1
        have t2 : W.cell? ⟨g2, k, none⟩ = some (.int .u64 xt) := by rw [hW]; exact k2
        have t3 : W.cell? ⟨g3, k, none⟩ = some (.bool false) := by rw [hW]; exact k3
        have hown : W.ownsRow w.heap.size 24 5 u3 acc.length (fateCells acc) := by rw [hW]; exact HO.out
        have hbw : Below w.heap.size w W := by rw [hW]; exact HB.out.trans ⟨rfl, rfl, rfl, Nat.le_refl _, fun _ _ => rfl⟩
        have hsz := hbw.size
        have HOW := hide hown
        have HBW := hide hbw
        clear hown hbw hW f0 f1 f3 hf2 k0 k1 k2 k3
        have ag := own_block_ne HOW.out l0
        have a0 := own_block_ne HOW.out l1
        have a1 := own_block_ne HOW.out l2
        have a2 := own_block_ne HOW.out l3
        have a3 := own_block_ne HOW.out l4
        have lb := World.block_lt_of_cell? W _ r0
        have lg0 := World.block_lt_of_cell? W _ t0
        have lg1 := World.block_lt_of_cell? W _ t1
        have lg2 := World.block_lt_of_cell? W _ t2
        have lg3 := World.block_lt_of_cell? W _ t3
        go_region_held3 (fun w' => w'.cell? ⟨b, 0, none⟩ = some (.slice (some ⟨g0, 0, none⟩) n n) ∧ w'.cell? ⟨b, 1, none⟩ = some (.slice (some ⟨g1, 0, none⟩) n n) ∧ w'.cell? ⟨b, 2, none⟩ = some (.slice (some ⟨g2, 0, none⟩) n n) ∧ w'.cell? ⟨b, 3, none⟩ = some (.slice (some ⟨g3, 0, none⟩) n n) ∧
            w'.cell? ⟨g0, k, none⟩ = some (.int .u64 xl) ∧ w'.cell? ⟨g1, k, none⟩ = some (.int .u64 xs) ∧ w'.cell? ⟨g2, k, none⟩ = some (.int .u64 xt) ∧ w'.cell? ⟨g3, k, none⟩ = some (.bool false))
          (first
            | go_keep
            | (go_split_ands
               refine ⟨?_, ?_, ?_, ?_, ?_, ?_, ?_, ?_⟩
               · (rw [hgrow.cell_far _ (by simp; omega) (Ne.symm ag)]; assumption)
               · (rw [hgrow.cell_far _ (by simp; omega) (Ne.symm ag)]; assumption)
               · (rw [hgrow.cell_far _ (by simp; omega) (Ne.symm ag)]; assumption)
               · (rw [hgrow.cell_far _ (by simp; omega) (Ne.symm ag)]; assumption)
               · (rw [hgrow.cell_far _ (by simp; omega) (Ne.symm a0)]; assumption)
               · (rw [hgrow.cell_far _ (by simp; omega) (Ne.symm a1)]; assumption)
               · (rw [hgrow.cell_far _ (by simp; omega) (Ne.symm a2)]; assumption)
               · (rw [hgrow.cell_far _ (by simp; omega) (Ne.symm a3)]; assumption)))
          ((refine step_append_lies _ (by rfl) _ _ _ (by rfl) w.heap.size 24 i0 _ 5 40 Try.underlying48 hi hz0 hz1 hz2 rfl (by omega) u3 acc.length (fateCells acc) (by rfl) ((HOW.out.alloc _).drew)
              ⟨W.heap.size, 0, none⟩ 1 1 [.int .i64 k, .int .u64 xl, .bool false, .int .u64 xt, .int .u64 xs] (by rfl) (by rfl) (World.news_of_block (cs := #[.int .i64 k, .int .u64 xl, .bool false, .int .u64 xt, .int .u64 xs]) (t := 24) (fr := (0, 0)) (heap_alloc_new W _)) (by simp [Value.oneCell'])
              (by omega) (by unfold maxLen; omega) (by omega) (by simp; omega) (W.heap.size + 1) (by simp) ?_; intro gg cap w1 hown1 hgrow hat hlt1))
        have HBN : Hid (Below w.heap.size w w1) := by
          refine (((HBW.out.alloc hsz _).drew).grown hgrow (by simp; omega) (fun k hk => ?_))
          rcases HOW.out.2 with ⟨rfl, _⟩ | ⟨g, c, cur, rfl, hBg, _⟩
          · simp [Value.ownBlock] at hk
          · simp [Value.ownBlock] at hk
            omega
        have HON := hide hown1
        clear hown1 hgrow hat hlt1
        go_wp2_with fail
        go_roundw
        case rel =>
          refine ⟨k + 1, acc ++ [fateOf k ⟨xl, xs, xt, false⟩], by have := HN.out; omega, by go_num, ?_, HBN.out, by rw [← HA.out, HST.out, List.append_assoc]; rfl⟩
          rw [fateCells_snoc, List.length_append]
          exact HON.out
        case measure => have := HN.out; simp [intOf]; omega
      · rw [if_neg (by rw [ho]; decide)] at HST
        clear ho
        go_wp2_with fail
        go_quiet (fail)
        go_wp2_with fail
        go_roundw
        case rel => exact ⟨k + 1, acc, by have := HN.out; omega, by go_num, HO.out, HB.out.trans ⟨rfl, rfl, rfl, Nat.le_refl _, fun _ _ => rfl⟩, by rw [← HA.out, HST.out]⟩
        case measure => have := HN.out; simp [intOf]; omega
    · obtain rfl : k = s.ws.length := by omega
      have hkn : ¬ (s.ws.length : Int) < (s.ws.length : Int) := by omega
      have HE : Hid (acc = Pm.fates s) := by
        show _ = _
        have := HA.out
        rw [List.drop_length] at this
        simpa [Pm.fatesFrom] using this
      generalize hn : s.ws.length = n at f0 f1 f3 hkn hlt hm
      clear hn
      go_wp2_with fail
      go_ret
      exact ⟨_, rfl, by rw [← HE.out]; exact HO.out, HB.out⟩
end Go.Proofs.Ytnaenokegomoeaa
