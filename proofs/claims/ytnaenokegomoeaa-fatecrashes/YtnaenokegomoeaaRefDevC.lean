/-
  The document's device (layer 5): Store, Load, Arm.
-/
import Derived.Test.YtnaenokegomoeaaRefDevB
namespace Go.Proofs.Ytnaenokegomoeaa
set_option linter.unusedVariables false
set_option linter.unusedSimpArgs false
open Go.RowKit

/-- where just the words were turned. -/
theorem RDev.words {w w' : World} {b : Nat} {s : Pm.D} {F : Nat → Prop} {g0 g1 g2 g3 : Nat} {pa : Option Addr} {pc : Nat} {ws : List Pm.W} (h : RDev w b s F g0 g1 g2 g3 pa pc) (hs : w.heap.size ≤ w'.heap.size) (hk : ∀ k, k ≠ g0 → k ≠ g1 → k ≠ g2 → k ≠ g3 → k < w.heap.size → w'.heap[k]? = w.heap[k]?)
    (c0 : w'.heap[g0]? = some (.cells (blk .u64 (Pm.lastL ws)) 22 (0, 0))) (c1 : w'.heap[g1]? = some (.cells (blk .u64 (Pm.storedL ws)) 22 (0, 0))) (c2 : w'.heap[g2]? = some (.cells (blk .u64 (sentL ws)) 22 (0, 0))) (c3 : w'.heap[g3]? = some (.cells (blkB (flushL ws)) 4 (0, 0)))
    (hl : ws.length = s.ws.length) (hok : ∀ x ∈ ws, x.Ok) : RDev w' b { s with ws := ws } F g0 g1 g2 g3 pa pc := by
  obtain ⟨n1, n2, n3, n4, n5, n6, n7, n8, n9, n10⟩ := h.ne
  have lt : ∀ {k : Nat} {o : Obj}, w.heap[k]? = some o → k < w.heap.size := fun h => (Array.getElem?_eq_some_iff.1 h).1
  refine ⟨?_, c0, c1, c2, c3, ?_, h.apart, h.mine, h.ne, ⟨hok, h.ok.plan, h.ok.left, h.ok.since⟩⟩
  · rw [hk b n1 n2 n3 n4 (lt h.dev)]
    simp only [hl]
    exact h.dev
  · obtain ⟨r1, r2⟩ := h.row
    refine ⟨r1, ?_⟩
    rcases h.apart with h0 | ⟨g, off, rfl, hF, q0, q1, q2, q3, q4⟩
    · exact .inl h0
    · rcases r2 with r2 | ⟨g', off', e, hlt, hc⟩
      · exact .inl r2
      · cases e
        refine .inr ⟨g, off, rfl, Nat.lt_of_lt_of_le hlt hs, fun j hj => ?_⟩
        rw [World.cell?_of_block (w := w) (hk g q1 q2 q3 q4 hlt)]
        exact hc j hj

theorem put_lists (ws : List Pm.W) (i : Nat) (v : Int) (h : i < ws.length) : Pm.lastL (Pm.put ws i v) = Pm.lastL ws ∧ sentL (Pm.put ws i v) = sentL ws ∧ flushL (Pm.put ws i v) = flushL ws := by
  have key : ∀ {β : Type} (f : Pm.W → β), (f { ws.getD i (Pm.still 0) with stored := v } = f (ws.getD i (Pm.still 0))) → (Pm.put ws i v).map f = ws.map f := fun f hf => by
    unfold Pm.put
    rw [List.map_set]
    apply List.ext_getElem?
    intro j
    rw [List.getElem?_set]
    split
    · rename_i e
      subst e
      rw [hf]
      simp [h]
    · rfl
  exact ⟨key _ rfl, key _ rfl, key _ rfl⟩

theorem RDev.put {w : World} {b : Nat} {s : Pm.D} {F : Nat → Prop} {g0 g1 g2 g3 : Nat} {pa : Option Addr} {pc : Nat} (h : RDev w b s F g0 g1 g2 g3 pa pc) (i : Nat) (v : Int) (hi : i < s.ws.length) (hv0 : 0 ≤ v) (hv1 : v ≤ 18446744073709551615) :
    RDev (w.setCell ⟨g1, i, none⟩ (.int .u64 v)) b { s with ws := Pm.put s.ws i v } F g0 g1 g2 g3 pa pc := by
  obtain ⟨n1, n2, n3, n4, n5, n6, n7, n8, n9, n10⟩ := h.ne
  obtain ⟨e1, e2, e3⟩ := put_lists s.ws i v hi
  refine h.words (by simp [World.setCell]) (fun k _ k1 _ _ _ => heap_set_other k1 _ _) ?_ ?_ ?_ ?_ (Pm.put_length _ _ _) (Pm.put_ok h.ok.ws i hv0 hv1)
  · rw [heap_set_other n5, e1]; exact h.c0
  · rw [heap_set h.c1, blk_set, Pm.put_stored]
  · rw [heap_set_other (Ne.symm n8), e2]; exact h.c2
  · rw [heap_set_other (Ne.symm n9), e3]; exact h.c3

set_option maxHeartbeats 1000000 in
/-- the document's Store. -/
theorem rstore_any {w : World} {b : Nat} {s : Pm.D} {F : Nat → Prop} {g0 g1 g2 g3 : Nat} {pa : Option Addr} {pc : Nat} (h : RDev w b s F g0 g1 g2 g3 pa pc) (a v : Int) (hm : s.ws.length ≤ 40000) (hp : s.plan.length ≤ 40000) (hst : s.steps ≤ 1000000) (hv0 : 0 ≤ v) (hv1 : v ≤ 18446744073709551615) :
    Calls Try.prog 54 #[.pointer (some ⟨b, 0, none⟩), .int .i64 a, .int .u64 v] w fun e w' => e = .returned (.int .i64 (Pm.err s a s.ws.length)) ∧ RDev w' b (Pm.store s a v) F g0 g1 g2 g3 pa pc ∧ Only F w w' := by
  have HE := hide (rerr_any h a s.ws.length)
  by_cases he : Pm.err s a s.ws.length = 0
  · obtain ⟨_, ha0, hal⟩ := Pm.err_at he
    obtain ⟨i, rfl⟩ : ∃ i : Nat, a = i := ⟨a.toNat, by omega⟩
    simp only [Int.toNat_natCast] at hal
    have HS : Hid (Pm.store s i v = Pm.step s (Pm.put s.ws i v)) := by
      show _ = _
      unfold Pm.store
      rw [if_pos he, Int.toNat_natCast]
    have HP := hide (h.put i v hal hv0 hv1)
    have HST := hide (rstep_any HP.out (by simp only [Pm.put_length]; exact hm) hp hst)
    have HO : Hid (Only F w (w.setCell ⟨g1, i, none⟩ (.int .u64 v))) := (Only.refl F w).setCell h.mine.2.2.1 _
    obtain ⟨f0, f1, f2, f3, f4, f5, f6, f7⟩ := h.fields
    obtain ⟨k1, z1⟩ := cell_blk h.c1 (i := i) (by rw [storedL_len]; exact hal)
    rw [he] at HE
    have HZ := hide he
    have hin : (i : Int) < (s.ws.length : Int) := by omega
    clear h he ha0
    generalize hn : s.ws.length = n at f0 f1 f2 f3 hin HE hm hal HZ
    generalize (Pm.storedL s.ws).getD i 0 = y at k1
    have HN := hide hn
    clear hn
    go_enter Try.func54, Try.ntmps54
    go_wp2_with fail
    refine HE.out.mono ?_
    rintro e w1 ⟨rfl, hw⟩
    obtain rfl := hw.symm
    go_wp2_with fail
    refine HST.out.mono ?_
    rintro e w2 ⟨rfl, hd, ho⟩
    have HD2 := hide hd
    have HO2 := hide ho
    clear hd ho
    go_wp2_with fail
    go_ret
    exact ⟨by rw [HZ.out]; rfl, by rw [HS.out]; exact HD2.out, HO.out.trans HO2.out⟩
  · have HS : Hid (Pm.store s a v = s) := by
      show _ = _
      unfold Pm.store
      rw [if_neg he]
    have HD := hide h
    obtain ⟨f0, f1, f2, f3, f4, f5, f6, f7⟩ := h.fields
    have he' : (Pm.err s a s.ws.length == 0) = false := beq_eq_false_iff_ne.2 he
    clear h
    generalize hE : Pm.err s a s.ws.length = E at *
    clear hE
    generalize hn : s.ws.length = n at f0 f1 f2 f3 HE hm
    clear hn
    go_enter Try.func54, Try.ntmps54
    go_wp2_with fail
    refine HE.out.mono ?_
    rintro e w1 ⟨rfl, hw⟩
    obtain rfl := hw.symm
    go_wp2_with fail
    go_ret
    exact ⟨rfl, by rw [HS.out]; exact HD.out, Only.refl F _⟩

/-- the document's Load. -/
theorem rload_any {w : World} {b : Nat} {s : Pm.D} {F : Nat → Prop} {g0 g1 g2 g3 : Nat} {pa : Option Addr} {pc : Nat} (h : RDev w b s F g0 g1 g2 g3 pa pc) (a : Int) (hm : s.ws.length ≤ 40000) :
    Calls Try.prog 55 #[.pointer (some ⟨b, 0, none⟩), .int .i64 a] w fun e w' => e = .returned (.tuple #[.int .u64 (Pm.load s a), .int .i64 (Pm.err s a s.ws.length)]) ∧ ∃ n, w' = w.drewN n := by
  have HE := hide (rerr_any h a s.ws.length)
  by_cases he : Pm.err s a s.ws.length = 0
  · obtain ⟨_, ha0, hal⟩ := Pm.err_at he
    obtain ⟨i, rfl⟩ : ∃ i : Nat, a = i := ⟨a.toNat, by omega⟩
    simp only [Int.toNat_natCast] at hal
    have HS : Hid (Pm.load s i = (s.ws.getD i (Pm.still 0)).stored) := by
      show _ = _
      unfold Pm.load
      rw [if_pos he, Int.toNat_natCast]
    obtain ⟨f0, f1, f2, f3, f4, f5, f6, f7⟩ := h.fields
    obtain ⟨k1, z1⟩ := cell_blk h.c1 (i := i) (by rw [storedL_len]; exact hal)
    have hst1 : (Pm.storedL s.ws).getD i 0 = (s.ws.getD i (Pm.still 0)).stored := by simp [Pm.storedL, hal]
    rw [hst1] at k1
    rw [he] at HE
    have HZ := hide he
    have hin : (i : Int) < (s.ws.length : Int) := by omega
    clear h he ha0 hst1
    generalize hn : s.ws.length = n at f0 f1 f2 f3 hin HE hm hal HZ
    generalize hy : (s.ws.getD i (Pm.still 0)).stored = y at k1 HS
    clear hn hy
    go_enter Try.func55, Try.ntmps55
    go_wp2_with fail
    refine HE.out.mono ?_
    rintro e w1 ⟨rfl, hw⟩
    obtain rfl := hw.symm
    go_wp2_with fail
    go_ret2
    exact ⟨by rw [HZ.out, HS.out]; rfl, ⟨0, rfl⟩⟩
  · have HS : Hid (Pm.load s a = 0) := by
      show _ = _
      unfold Pm.load
      rw [if_neg he]
    obtain ⟨f0, f1, f2, f3, f4, f5, f6, f7⟩ := h.fields
    have he' : (Pm.err s a s.ws.length == 0) = false := beq_eq_false_iff_ne.2 he
    clear h
    generalize hE : Pm.err s a s.ws.length = E at *
    clear hE
    generalize hn : s.ws.length = n at f0 f1 f2 f3 HE hm
    clear hn
    go_enter Try.func55, Try.ntmps55
    go_wp2_with fail
    refine HE.out.mono ?_
    rintro e w1 ⟨rfl, hw⟩
    obtain rfl := hw.symm
    go_wp2_with fail
    go_ret2
    exact ⟨by rw [HS.out]; rfl, ⟨0, rfl⟩⟩

/-- the document's Arm. -/
theorem rarm_any {w : World} {b : Nat} {s : Pm.D} {F : Nat → Prop} {g0 g1 g2 g3 : Nat} {pa : Option Addr} {pc : Nat} (h : RDev w b s F g0 g1 g2 g3 pa pc) (n : Int) (hn : n ≤ 9223372036854775807) :
    Calls Try.prog 58 #[.pointer (some ⟨b, 0, none⟩), .int .i64 n] w fun e w' => e = .returned (.tuple #[]) ∧ RDev w' b (Pm.arm s n) F g0 g1 g2 g3 pa pc ∧ Only F w w' := by
  obtain ⟨f0, f1, f2, f3, f4, f5, f6, f7⟩ := h.fields
  have z6 := h.free 6
  have HM := hide h.mine.1
  by_cases hl : s.left = 0
  · have HS : Hid (Pm.arm s n = s) := by
      show _ = _
      unfold Pm.arm
      rw [if_pos hl]
    have HD := hide h
    clear h
    go_enter Try.func58, Try.ntmps58
    go_wp2
    go_end0
    exact ⟨rfl, by rw [HS.out]; exact HD.out, Only.refl F _⟩
  · have HS : Hid (Pm.arm s n = { s with left := if n < -1 then -1 else n }) := by
      show _ = _
      unfold Pm.arm
      rw [if_neg hl]
    have HD : Hid (RDev (w.setCell ⟨b, 6, none⟩ (.int .i64 (if n < -1 then -1 else n))) b { s with left := if n < -1 then -1 else n } F g0 g1 g2 g3 pa pc) := by
      have hok := Pm.arm_ok h.ok hn
      rw [HS.out] at hok
      refine h.turn (by simp [World.setCell]) (fun k hk _ => heap_set_other hk _ _) ?_ rfl rfl hok
      rw [heap_set h.dev]
      rfl
    clear h
    by_cases hn1 : n < -1
    · rw [if_pos hn1] at HS HD
      go_enter Try.func58, Try.ntmps58
      go_wp2
      go_end0
      exact ⟨rfl, by rw [HS.out]; exact HD.out, (Only.refl F w).setCell HM.out _⟩
    · rw [if_neg hn1] at HS HD
      go_enter Try.func58, Try.ntmps58
      go_wp2
      go_end0
      exact ⟨rfl, by rw [HS.out]; exact HD.out, (Only.refl F w).setCell HM.out _⟩
end Go.Proofs.Ytnaenokegomoeaa
