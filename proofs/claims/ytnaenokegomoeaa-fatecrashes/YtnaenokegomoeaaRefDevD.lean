/-
  The document's device (layer 5): Flush, Fence.
-/
import Derived.Test.YtnaenokegomoeaaRefDevC
namespace Go.Proofs.Ytnaenokegomoeaa
set_option linter.unusedVariables false
set_option linter.unusedSimpArgs false
open Go.RowKit

/-- some words, turned. -/
def turned (f : Pm.W → Pm.W) (a k : Nat) (ws : List Pm.W) : List Pm.W := ws.mapIdx fun i x => if a ≤ i ∧ i < a + k then f x else x
theorem turned_at (f : Pm.W → Pm.W) (a k : Nat) (ws : List Pm.W) (j : Nat) : (turned f a k ws)[j]? = ws[j]?.map fun x => if a ≤ j ∧ j < a + k then f x else x := by
  unfold turned
  rw [List.getElem?_mapIdx]
theorem turned_length (f : Pm.W → Pm.W) (a k : Nat) (ws : List Pm.W) : (turned f a k ws).length = ws.length := by simp [turned]
theorem turned_none (f : Pm.W → Pm.W) (a : Nat) (ws : List Pm.W) : turned f a 0 ws = ws := by
  apply List.ext_getElem?
  intro j
  rw [turned_at]
  cases ws[j]? with
  | none => rfl
  | some x => simp; omega
theorem turned_here (f : Pm.W → Pm.W) (a k : Nat) (ws : List Pm.W) (h : a + k < ws.length) : (turned f a k ws).getD (a + k) (Pm.still 0) = ws.getD (a + k) (Pm.still 0) := by
  rw [List.getD_eq_getElem?_getD, turned_at, List.getD_eq_getElem?_getD, List.getElem?_eq_getElem h]
  simp
theorem turned_step (f : Pm.W → Pm.W) (a k : Nat) (ws : List Pm.W) (h : a + k < ws.length) : turned f a (k + 1) ws = (turned f a k ws).set (a + k) (f (ws.getD (a + k) (Pm.still 0))) := by
  apply List.ext_getElem?
  intro j
  rw [List.getElem?_set, turned_at, turned_at]
  by_cases e : a + k = j
  · subst e
    rw [if_pos rfl, turned_length, if_pos h, List.getD_eq_getElem?_getD, List.getElem?_eq_getElem h]
    simp
  · rw [if_neg e]
    cases ws[j]? with
    | none => rfl
    | some x =>
      simp only [Option.map_some, Option.some.injEq]
      by_cases hj : a ≤ j ∧ j < a + k
      · rw [if_pos hj, if_pos (by omega)]
      · rw [if_neg hj, if_neg (by omega)]
theorem turned_ok {f : Pm.W → Pm.W} (hf : ∀ x, x.Ok → (f x).Ok) (a k : Nat) {ws : List Pm.W} (h : ∀ x ∈ ws, x.Ok) : ∀ x ∈ turned f a k ws, x.Ok := by
  intro x hx
  obtain ⟨j, hj⟩ := List.mem_iff_getElem?.1 hx
  rw [turned_at] at hj
  obtain ⟨y, hy, rfl⟩ := Option.map_eq_some_iff.1 hj
  have hm : y ∈ ws := List.mem_of_getElem? hy
  split
  · exact hf y (h y hm)
  · exact h y hm
theorem send_turned {ws : List Pm.W} {k : Nat} (h : 8 * k + 8 ≤ ws.length) : turned Pm.W.send (8 * k) 8 ws = Pm.sendL ws k := by
  apply List.ext_getElem?
  intro j
  rw [turned_at]
  by_cases hj : j < ws.length
  · rw [Pm.sendL_at h (List.getElem?_eq_getElem hj), List.getElem?_eq_getElem hj]
    rfl
  · rw [List.getElem?_eq_none (by omega), List.getElem?_eq_none (by rw [Pm.sendL_length h]; omega)]
    rfl
theorem fence_turned (ws : List Pm.W) : turned Pm.W.fence 0 ws.length ws = ws.map Pm.W.fence := by
  apply List.ext_getElem?
  intro j
  rw [turned_at, List.getElem?_map]
  by_cases hj : j < ws.length
  · rw [List.getElem?_eq_getElem hj]
    simp [hj]
  · rw [List.getElem?_eq_none (by omega)]
    rfl

theorem set_same {β : Type} (ws : List Pm.W) (i : Nat) (y : Pm.W) (f : Pm.W → β) (h : i < ws.length) (hf : f y = f (ws.getD i (Pm.still 0))) : (ws.set i y).map f = ws.map f := by
  rw [List.map_set]
  apply List.ext_getElem?
  intro j
  rw [List.getElem?_set]
  split
  · rename_i e
    subst e
    rw [hf]
    simp [h]
  · rfl

/-- a word is sent. -/
theorem RDev.send {w : World} {b : Nat} {s : Pm.D} {F : Nat → Prop} {g0 g1 g2 g3 : Nat} {pa : Option Addr} {pc : Nat} (h : RDev w b s F g0 g1 g2 g3 pa pc) (i : Nat) (hi : i < s.ws.length) :
    RDev ((w.setCell ⟨g2, i, none⟩ (.int .u64 (s.ws.getD i (Pm.still 0)).stored)).setCell ⟨g3, i, none⟩ (.bool true)) b { s with ws := s.ws.set i (s.ws.getD i (Pm.still 0)).send } F g0 g1 g2 g3 pa pc := by
  obtain ⟨n1, n2, n3, n4, n5, n6, n7, n8, n9, n10⟩ := h.ne
  refine h.words (by simp [World.setCell]) (fun k _ _ k2 k3 _ => by rw [heap_set_other k3, heap_set_other k2]) ?_ ?_ ?_ ?_ (by simp) (fun x hx => ?_)
  · rw [heap_set_other n7, heap_set_other n6, Pm.lastL, set_same s.ws i (s.ws.getD i (Pm.still 0)).send Pm.W.lasts hi rfl]; exact h.c0
  · rw [heap_set_other n9, heap_set_other n8, Pm.storedL, set_same s.ws i (s.ws.getD i (Pm.still 0)).send Pm.W.stored hi rfl]; exact h.c1
  · rw [heap_set_other n10, heap_set h.c2, blk_set]; unfold sentL; rw [List.map_set]; rfl
  · rw [heap_set (by rw [heap_set_other (Ne.symm n10)]; exact h.c3), blkB_set]; unfold flushL; rw [List.map_set]; rfl
  · rcases Pm.mem_set hx with hx | rfl
    · exact h.ok.ws x hx
    · exact (Pm.getD_ok h.ok.ws i).send

set_option maxHeartbeats 1000000 in
/-- the document's Flush. -/
theorem rflush_any {w : World} {b : Nat} {s : Pm.D} {F : Nat → Prop} {g0 g1 g2 g3 : Nat} {pa : Option Addr} {pc : Nat} (h : RDev w b s F g0 g1 g2 g3 pa pc) (a : Int) (hm : s.ws.length ≤ 40000) (hp : s.plan.length ≤ 40000) (hst : s.steps ≤ 1000000) :
    Calls Try.prog 56 #[.pointer (some ⟨b, 0, none⟩), .int .i64 a] w fun e w' => e = .returned (.int .i64 (Pm.err s a (s.ws.length / 8))) ∧ RDev w' b (Pm.flush s a) F g0 g1 g2 g3 pa pc ∧ Only F w w' := by
  have HE := hide (rerr_any h a (s.ws.length / 8))
  have hdiv : (s.ws.length : Int).tdiv 8 = ((s.ws.length / 8 : Nat) : Int) := by rw [Int.tdiv_eq_ediv_of_nonneg (by omega)]; omega
  by_cases he : Pm.err s a (s.ws.length / 8) = 0
  · obtain ⟨_, ha0, hal⟩ := Pm.err_flush he
    obtain ⟨k, rfl⟩ : ∃ k : Nat, a = k := ⟨a.toNat, by omega⟩
    simp only [Int.toNat_natCast] at hal
    have HS : Hid (Pm.flush s k = Pm.step s (Pm.sendL s.ws k)) := by
      show _ = _
      unfold Pm.flush
      rw [if_pos he, Int.toNat_natCast]
    have HM := hide h.mine
    have HD0 := hide h
    obtain ⟨f0, f1, f2, f3, f4, f5, f6, f7⟩ := h.fields
    obtain ⟨n1, n2, n3, n4, n5, n6, n7, n8, n9, n10⟩ := h.ne
    rw [he] at HE
    have HZ := hide he
    clear h he ha0
    generalize hq : s.ws.length / 8 = q at hdiv HE HZ
    have hq8 : q ≤ 5000 := by omega
    clear hq
    go_enter Try.func56, Try.ntmps56
    go_wp2_with fail
    refine HE.out.mono ?_
    rintro e w1 ⟨rfl, hw⟩
    obtain rfl := hw.symm
    clear f0 f1 f2 f3 f4 f5 f6 f7
    go_wp2_with fail
    go_loopw [6] (fun i wr => ∃ j : Nat, j ≤ 8 ∧ i = .int .i64 ((8 * k + j : Nat) : Int) ∧ RDev wr b { s with ws := turned Pm.W.send (8 * k) j s.ws } F g0 g1 g2 g3 pa pc ∧ Only F w wr) (fun i _ => 8 * k + 8 - (intOf i).toNat)
    case atStart => exact ⟨0, by omega, by go_num, by rw [turned_none]; exact HD0.out, Only.refl _ _⟩
    case round =>
      obtain ⟨j, hj, rfl, hd, ho⟩ := hrel
      have HD := hide hd
      have HO := hide ho
      by_cases hlt : j < 8
      · have hil : 8 * k + j < s.ws.length := by omega
        have HN := hide (hd.send (8 * k + j) (by simp only [turned_length]; exact hil))
        obtain ⟨f0, f1, f2, f3, f4, f5, f6, f7⟩ := hd.fields
        obtain ⟨k1, z1⟩ := cell_blk hd.c1 (i := 8 * k + j) (by rw [storedL_len, turned_length]; exact hil)
        obtain ⟨k2, z2⟩ := cell_blk hd.c2 (i := 8 * k + j) (by rw [sentL_len, turned_length]; exact hil)
        obtain ⟨k3, z3⟩ := cell_blkB hd.c3 (i := 8 * k + j) (by rw [flushL_len, turned_length]; exact hil)
        have hst1 : (Pm.storedL (turned Pm.W.send (8 * k) j s.ws)).getD (8 * k + j) 0 = (s.ws.getD (8 * k + j) (Pm.still 0)).stored := by
          rw [← turned_here Pm.W.send (8 * k) j s.ws hil]
          simp [Pm.storedL, turned_length, hil]
        simp only [turned_here Pm.W.send (8 * k) j s.ws hil] at HN
        rw [← turned_step _ _ _ _ hil] at HN
        simp only [turned_length] at f0 f1 f2 f3
        simp only at k1 k2 k3 z1 z2 z3
        rw [hst1] at k1
        clear hd ho hst1
        generalize (sentL (turned Pm.W.send (8 * k) j s.ws)).getD (8 * k + j) 0 = y2 at k2
        generalize (flushL (turned Pm.W.send (8 * k) j s.ws)).getD (8 * k + j) false = y3 at k3
        generalize (s.ws.getD (8 * k + j) (Pm.still 0)).stored = y1 at k1 HN
        generalize hn : s.ws.length = n at f0 f1 f2 f3 hil hm hal
        clear hn
        obtain ⟨i, hi⟩ : ∃ i, 8 * k + j = i := ⟨_, rfl⟩
        have hi1 : (i : Int) < 8 * (k : Int) + 8 := by omega
        have hin : (i : Int) < (n : Int) := by omega
        have HI := hide hi
        rw [hi] at k1 k2 k3 z1 z2 z3 HN hil ⊢
        clear hi
        go_wp2_with fail
        go_region_with (fail)
        all_goals
          go_wp2_with fail
          go_roundw
          case rel => exact ⟨j + 1, by omega, by have := HI.out; go_num, HN.out.kept (Nat.le_refl _) (fun _ _ _ => rfl), ((HO.out.setCell HM.out.2.2.2.1 _).setCell HM.out.2.2.2.2 _).trans ⟨rfl, rfl, rfl, Nat.le_refl _, fun _ _ _ => rfl⟩⟩
          case measure => simp [intOf]; omega
      · obtain rfl : j = 8 := by omega
        rw [send_turned hal] at hd
        have HST := hide (rstep_any hd (by simp only [Pm.sendL_length hal]; exact hm) hp hst)
        clear hd ho HD
        go_wp2_with fail
        refine HST.out.mono ?_
        rintro e w2 ⟨rfl, hd, ho⟩
        have HD2 := hide hd
        have HO2 := hide ho
        clear hd ho
        go_wp2_with fail
        go_ret
        exact ⟨by rw [HZ.out]; rfl, by rw [HS.out]; exact HD2.out, HO.out.trans HO2.out⟩
  · have HS : Hid (Pm.flush s a = s) := by
      show _ = _
      unfold Pm.flush
      rw [if_neg he]
    have HD := hide h
    obtain ⟨f0, f1, f2, f3, f4, f5, f6, f7⟩ := h.fields
    have he' : (Pm.err s a (s.ws.length / 8) == 0) = false := beq_eq_false_iff_ne.2 he
    clear h
    generalize hE : Pm.err s a (s.ws.length / 8) = E at *
    clear hE
    generalize hq : s.ws.length / 8 = q at hdiv HE
    have hq8 : q ≤ 5000 := by omega
    clear hq
    go_enter Try.func56, Try.ntmps56
    go_wp2_with fail
    refine HE.out.mono ?_
    rintro e w1 ⟨rfl, hw⟩
    obtain rfl := hw.symm
    go_wp2_with fail
    go_ret
    exact ⟨rfl, by rw [HS.out]; exact HD.out, Only.refl F _⟩

set_option maxHeartbeats 1000000 in
/-- the document's Fence. -/
theorem rfence_any {w : World} {b : Nat} {s : Pm.D} {F : Nat → Prop} {g0 g1 g2 g3 : Nat} {pa : Option Addr} {pc : Nat} (h : RDev w b s F g0 g1 g2 g3 pa pc) (hm : s.ws.length ≤ 40000) (hp : s.plan.length ≤ 40000) (hst : s.steps ≤ 1000000) :
    Calls Try.prog 57 #[.pointer (some ⟨b, 0, none⟩)] w fun e w' => e = .returned (.int .i64 (Pm.err s 0 1)) ∧ RDev w' b (Pm.fence s) F g0 g1 g2 g3 pa pc ∧ Only F w w' := by
  have HE := hide (rerr_any h 0 1)
  by_cases he : Pm.err s 0 1 = 0
  · have HS : Hid (Pm.fence s = Pm.step s (s.ws.map Pm.W.fence)) := by
      show _ = _
      unfold Pm.fence
      rw [if_pos he]
    have HD0 := hide h
    rw [he] at HE
    have HZ := hide he
    have HL := hide (fun W s' (hW : RDev W b s' F g0 g1 g2 g3 pa pc) i v hi h0 h1 hm => rlast_any hW i v hi h0 h1 hm)
    clear h he
    go_enter Try.func57, Try.ntmps57
    go_wp2_with fail
    refine HE.out.mono ?_
    rintro e w1 ⟨rfl, hw⟩
    obtain rfl := hw.symm
    go_wp2_with fail
    go_loopw [4] (fun i wr => ∃ j : Nat, j ≤ s.ws.length ∧ i = .int .i64 j ∧ RDev wr b { s with ws := turned Pm.W.fence 0 j s.ws } F g0 g1 g2 g3 pa pc ∧ Only F w wr) (fun i _ => s.ws.length - (intOf i).toNat)
    case atStart => exact ⟨0, by omega, by go_num, by rw [turned_none]; exact HD0.out, Only.refl _ _⟩
    case round =>
      obtain ⟨j, hj, rfl, hd, ho⟩ := hrel
      have HD := hide hd
      have HO := hide ho
      obtain ⟨f0, f1, f2, f3, f4, f5, f6, f7⟩ := hd.fields
      simp only [turned_length] at f0 f1 f2 f3
      by_cases hlt : j < s.ws.length
      · have hil : 0 + j < s.ws.length := by omega
        have hjn : (j : Int) < (s.ws.length : Int) := by omega
        have hst0 := turned_here Pm.W.fence 0 j s.ws hil
        rw [Nat.zero_add] at hst0
        obtain ⟨k2, z2⟩ := cell_blk hd.c2 (i := j) (by rw [sentL_len, turned_length]; exact hlt)
        obtain ⟨k3, z3⟩ := cell_blkB hd.c3 (i := j) (by rw [flushL_len, turned_length]; exact hlt)
        simp only at k2 k3
        have e2 : (sentL (turned Pm.W.fence 0 j s.ws)).getD j 0 = (s.ws.getD j (Pm.still 0)).sent := by
          rw [← hst0]
          simp [sentL, turned_length, hlt]
        have e3 : (flushL (turned Pm.W.fence 0 j s.ws)).getD j false = (s.ws.getD j (Pm.still 0)).flushed := by
          rw [← hst0]
          simp [flushL, turned_length, hlt]
        rw [e2] at k2
        rw [e3] at k3
        have hts := turned_step Pm.W.fence 0 j s.ws hil
        rw [Nat.zero_add] at hts
        have hok := Pm.getD_ok HD0.out.ok.ws j
        cases hf : (s.ws.getD j (Pm.still 0)).flushed with
        | true =>
          rw [hf] at k3
          have HN : Hid (turned Pm.W.fence 0 (j + 1) s.ws = (turned Pm.W.fence 0 j s.ws).set j (((turned Pm.W.fence 0 j s.ws).getD j (Pm.still 0)).last (s.ws.getD j (Pm.still 0)).sent)) := by
            show _ = _
            rw [hts, hst0]
            unfold Pm.W.fence
            rw [if_pos hf]
          have HLL := hide (HL.out wr _ hd j (s.ws.getD j (Pm.still 0)).sent (by simp only [turned_length]; exact hlt) hok.t0 hok.t1 (by simp only [turned_length]; exact hm))
          clear hd ho hst0 e2 e3 hts hok hf
          generalize hy : (s.ws.getD j (Pm.still 0)).sent = y at k2 HLL HN
          generalize hn : s.ws.length = n at f0 f1 f2 f3 hjn hlt hil hm hj
          have HNN := hide hn
          clear hy hn
          go_wp2_with fail
          refine HLL.out.mono ?_
          rintro e w2 ⟨rfl, hd2, ho2⟩
          rw [← HN.out] at hd2
          have HD2 := hide hd2
          have HO2 := hide ho2
          clear hd2 ho2
          go_wp2_with fail
          go_roundw
          case rel => exact ⟨j + 1, by have := HNN.out; omega, by go_num, HD2.out, HO.out.trans HO2.out⟩
          case measure => have := HNN.out; simp [intOf]; omega
        | false =>
          rw [hf] at k3
          have HN : Hid (turned Pm.W.fence 0 (j + 1) s.ws = turned Pm.W.fence 0 j s.ws) := by
            show _ = _
            rw [hts]
            have : Pm.W.fence (s.ws.getD j (Pm.still 0)) = (turned Pm.W.fence 0 j s.ws).getD j (Pm.still 0) := by
              rw [hst0]
              unfold Pm.W.fence
              rw [if_neg (by rw [hf]; decide)]
            rw [this, List.getD_eq_getElem?_getD]
            apply List.ext_getElem?
            intro i
            rw [List.getElem?_set]
            split
            · rename_i e
              subst e
              rw [turned_length, if_pos hlt, List.getElem?_eq_getElem (by rw [turned_length]; exact hlt)]
              rfl
            · rfl
          clear hd ho hst0 e2 e3 hts hok hf
          generalize hn : s.ws.length = n at f0 f1 f2 f3 hjn hlt hil hm hj
          have HNN := hide hn
          clear hn
          go_wp2_with fail
          go_roundw
          case rel => exact ⟨j + 1, by have := HNN.out; omega, by go_num, by rw [HN.out]; exact HD.out, HO.out⟩
          case measure => have := HNN.out; simp [intOf]; omega
      · obtain rfl : j = s.ws.length := by omega
        have hjn : ¬ (s.ws.length : Int) < (s.ws.length : Int) := by omega
        rw [fence_turned] at hd
        have HST := hide (rstep_any hd (by simp only [List.length_map]; exact hm) hp hst)
        clear hd ho HD
        generalize hn : s.ws.length = n at f0 f1 f2 f3 hjn hlt hm
        clear hn
        go_wp2_with fail
        refine HST.out.mono ?_
        rintro e w2 ⟨rfl, hd, ho⟩
        have HD2 := hide hd
        have HO2 := hide ho
        clear hd ho
        go_wp2_with fail
        go_ret
        exact ⟨by rw [HZ.out]; rfl, by rw [HS.out]; exact HD2.out, HO.out.trans HO2.out⟩
  · have HS : Hid (Pm.fence s = s) := by
      show _ = _
      unfold Pm.fence
      rw [if_neg he]
    have HD := hide h
    have he' : (Pm.err s 0 1 == 0) = false := beq_eq_false_iff_ne.2 he
    clear h
    generalize hE : Pm.err s 0 1 = E at *
    clear hE
    go_enter Try.func57, Try.ntmps57
    go_wp2_with fail
    refine HE.out.mono ?_
    rintro e w1 ⟨rfl, hw⟩
    obtain rfl := hw.symm
    go_wp2_with fail
    go_ret
    exact ⟨rfl, by rw [HS.out]; exact HD.out, Only.refl F _⟩
end Go.Proofs.Ytnaenokegomoeaa
