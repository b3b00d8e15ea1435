/-
  The program's device (layer 5): Flush.
-/
import Derived.Test.YtnaenokegomoeaaPmF
namespace Go.Proofs.Ytnaenokegomoeaa
set_option linter.unusedVariables false
set_option linter.unusedSimpArgs false
open Go.RowKit

theorem wf_u64 {x : Int} (h0 : 0 ≤ x) (h1 : x ≤ 18446744073709551615) : (Lit.int .u64 x).wf = true := by
  simpa [Lit.wf, IntKind.min, IntKind.max, IntKind.signed, IntKind.bits] using ⟨h0, h1⟩

theorem grown_cell {w w' : World} {g : Nat} (h : w.grownBy w' (some g)) {p : Addr} (hlt : p.block < w.heap.size) (hne : p.block ≠ g) : w'.cell? p = w.cell? p := World.cell?_of_block (h.block p.block hlt (fun e => hne (by cases e; rfl)))

theorem send_lists (ws : List Pm.W) (i : Nat) (hi : i < ws.length) : Pm.lastL (ws.set i (ws.getD i (Pm.still 0)).send) = Pm.lastL ws ∧ Pm.storedL (ws.set i (ws.getD i (Pm.still 0)).send) = Pm.storedL ws := by
  have key : ∀ (f : Pm.W → Int), f (ws.getD i (Pm.still 0)).send = f (ws.getD i (Pm.still 0)) → (ws.set i (ws.getD i (Pm.still 0)).send).map f = ws.map f := fun f hf => by
    rw [List.map_set, hf]
    apply List.ext_getElem?
    intro j
    rw [List.getElem?_set]
    split
    · rename_i e
      subst e
      simp [hi]
    · rfl
  exact ⟨key _ rfl, key _ rfl⟩

/-- a word that was sent. -/
theorem PX.sendAt {w : World} {b : Nat} {s : Pm.D} {F : Nat → Prop} {g0 g1 c1 gm n : Nat} {tl : List Value} {M : DataW Unit} {pa : Option Addr} {pc : Nat} {laid : Int} (h : PX w b s F g0 g1 c1 gm n tl M pa pc laid) {i : Nat} (hi : i < s.ws.length) {W : World} (hs : w.heap.size ≤ W.heap.size) (hk : ∀ k, k ≠ gm → k < w.heap.size → W.heap[k]? = w.heap[k]?)
    (hown : W.ownsMap Try.prog 3 (plainElem Try.prog 22) gm (n + 1) (M.put (.int .i64 i) (.lit (.int .u64 (s.ws.getD i (Pm.still 0)).stored)))) :
    PX W b { s with ws := s.ws.set i (s.ws.getD i (Pm.still 0)).send } F g0 g1 c1 gm (n + 1) tl (M.put (.int .i64 i) (.lit (.int .u64 (s.ws.getD i (Pm.still 0)).stored))) pa pc laid := by
  obtain ⟨n1, n2, n3, n4, n5, n6⟩ := h.ne
  obtain ⟨e1, e2⟩ := send_lists s.ws i hi
  have hx := Pm.getD_ok h.ok.ws i
  refine ⟨?_, ?_, ?_, hown, h.sent.put h.mp.isMap hi (x := (s.ws.getD i (Pm.still 0)).send) rfl, by simp only [List.length_set]; exact h.cap, ?_, h.apart, h.mine, h.ne, h.lay, h.laid0, ⟨?_, h.ok.plan, h.ok.left, h.ok.since⟩⟩
  · rw [hk b n3 (heap_lt h.dev)]
    simp only [List.length_set]
    exact h.dev
  · rw [hk g0 n5 (heap_lt h.k0)]
    simp only [e1]
    exact h.k0
  · rw [hk g1 n6 (heap_lt h.k1)]
    simp only [e2]
    exact h.k1
  · exact h.row' hs (fun k _ _ _ q2 hlt => hk k q2 hlt)
  · intro x hx'
    rcases Pm.mem_set hx' with hx' | rfl
    · exact h.ok.ws x hx'
    · exact hx.send

set_option maxRecDepth 100000 in
set_option maxHeartbeats 2000000 in
theorem pflush1_x {w : World} {b : Nat} {s : Pm.D} {F : Nat → Prop} {g0 g1 c1 gm n : Nat} {tl : List Value} {M : DataW Unit} {pa : Option Addr} {pc : Nat} {laid : Int} (h : PX w b s F g0 g1 c1 gm n tl M pa pc laid) {bl bd : Nat} (k : Nat) (hal : 8 * k + 8 ≤ s.ws.length) (hm : s.ws.length ≤ 40000) (hn : n ≤ 100000000)
    (k0 : w.cell? ⟨bl, 0, none⟩ = some (.int .i64 k)) (k1 : w.cell? ⟨bd, 0, none⟩ = some (.pointer (some ⟨b, 0, none⟩))) (m0 : ¬ F bl) (m1 : ¬ F bd) :
    Calls Try.prog 47 #[.pointer (some ⟨bl, 0, none⟩), .pointer (some ⟨bd, 0, none⟩)] w fun e w' => e = .returned (.tuple #[]) ∧ (∃ M', PX w' b { s with ws := Pm.sendL s.ws k } F g0 g1 c1 gm (n + 8) tl M' pa pc laid) ∧ Only F w w' := by
  have HD0 := hide h
  have HM := hide h.mine
  obtain ⟨n1, n2, n3, n4, n5, n6⟩ := h.ne
  have hbd := World.block_lt_of_cell? w _ k1
  have K1 := hide k1
  clear h k1
  go_enter Try.func47, Try.ntmps47
  go_wp2_with fail
  clear k0
  go_loopw [3] (fun i wr => ∃ j : Nat, j ≤ 8 ∧ i = .int .i64 ((8 * k + j : Nat) : Int) ∧ (∃ M', PX wr b { s with ws := turned Pm.W.send (8 * k) j s.ws } F g0 g1 c1 gm (n + j) tl M' pa pc laid) ∧ Only F w wr) (fun i _ => 8 * k + 8 - (intOf i).toNat)
  case atStart => exact ⟨0, by omega, by go_num, ⟨M, by rw [turned_none]; exact HD0.out⟩, Only.refl _ _⟩
  case round =>
    obtain ⟨j, hj, rfl, ⟨M1, hd⟩, ho⟩ := hrel
    have HO := hide ho
    by_cases hlt : j < 8
    · have hil : 8 * k + j < s.ws.length := by omega
      have HN := hide (fun W : World => hd.sendAt (i := 8 * k + j) (by simp only [turned_length]; exact hil) (W := W))
      obtain ⟨f0, f1, f2, f3, f4, f5, f6, f7⟩ := hd.fields
      obtain ⟨q1, z1⟩ := cell_blkT hd.k1 (i := 8 * k + j) (by rw [storedL_len, turned_length]; exact hil)
      have hst1 : (Pm.storedL (turned Pm.W.send (8 * k) j s.ws)).getD (8 * k + j) 0 = (s.ws.getD (8 * k + j) (Pm.still 0)).stored := by
        rw [← turned_here Pm.W.send (8 * k) j s.ws hil]
        simp [Pm.storedL, turned_length, hil]
      simp only [turned_here Pm.W.send (8 * k) j s.ws hil] at HN
      rw [← turned_step _ _ _ _ hil] at HN
      simp only [turned_length] at f0 f1
      simp only at q1 z1
      rw [hst1] at q1
      have hok := Pm.getD_ok HD0.out.ok.ws (8 * k + j)
      have hwv : (Lit.int .u64 (s.ws.getD (8 * k + j) (Pm.still 0)).stored).wf = true := wf_u64 hok.s0 hok.s1
      have c1' := (HO.out.cell (p := ⟨bd, 0, none⟩) hbd m1).trans K1.out
      have HMP : Hid (wr.drew.ownsMap Try.prog 3 (plainElem Try.prog 22) gm (n + j) M1) := hd.mp
      have hkey := keyI (i := 8 * k + j) (by omega)
      clear hd ho hst1 hok
      generalize (s.ws.getD (8 * k + j) (Pm.still 0)).stored = y1 at q1 HN hwv
      generalize hn' : s.ws.length = N at f0 f1 hil hm hal
      clear hn'
      have hi1 : ((8 * k + j : Nat) : Int) < 8 * (k : Int) + 8 := by omega
      have hin : ((8 * k + j : Nat) : Int) < (N : Int) := by omega
      obtain ⟨i, hi⟩ : ∃ i, 8 * k + j = i := ⟨_, rfl⟩
      have HI := hide hi
      rw [hi] at q1 HN hil hkey hi1 hin ⊢
      clear hi z1
      have pd := HO.out.size
      have lb := World.block_lt_of_cell? wr _ f1
      have l1 := World.block_lt_of_cell? wr _ q1
      have ld := World.block_lt_of_cell? wr _ c1'
      have pgm : bd ≠ gm := fun e => m1 (e ▸ HM.out.2.2.2)
      obtain ⟨w6, hrun, hown6, hturn⟩ := HMP.out.store lawI Try.underlying78 (by unfold maxLen; omega) hkey (plainElem_int Try.underlying22 hwv)
      have HOW6 := hide hown6
      have HT := hide hturn
      clear hown6 hturn hkey
      go_wp2_with fail
      go_region_held3 (fun w' => w'.cell? ⟨b, 1, none⟩ = some (.slice (some ⟨g1, 0, none⟩) N c1) ∧ w'.cell? ⟨b, 2, none⟩ = some (.map (some gm)) ∧ w'.cell? ⟨bd, 0, none⟩ = some (.pointer (some ⟨b, 0, none⟩)) ∧ w'.cell? ⟨g1, i, none⟩ = some (.int .u64 y1))
        (first
          | go_keep
          | exact ⟨(grown_cell HT.out.grown lb n3).trans f1, (grown_cell HT.out.grown lb n3).trans f2, (grown_cell HT.out.grown ld pgm).trans c1', (grown_cell HT.out.grown l1 n6).trans q1⟩)
        (fail)
      go_wp2_with fail
      go_roundw
      case rel => 
        refine ⟨j + 1, by omega, by have := HI.out; go_num, ⟨_, HN.out w6 HT.out.grown.size (fun q hq hlt => HT.out.grown.block q hlt (fun e => hq (by cases e; rfl))) HOW6.out⟩, (HO.out.trans (Only.drewN F wr 1)).grown HT.out.grown HM.out.2.2.2⟩
      case measure => have := HI.out; simp [intOf]; omega
    · obtain rfl : j = 8 := by omega
      rw [send_turned hal] at hd
      have HD := hide hd
      clear hd ho
      go_wp2_with fail
      go_end0
      exact ⟨rfl, ⟨M1, HD.out⟩, HO.out⟩

set_option maxRecDepth 100000 in
set_option maxHeartbeats 2000000 in
theorem pflush_x {w : World} {b : Nat} {s : Pm.D} {F : Nat → Prop} {g0 g1 c1 gm n : Nat} {tl : List Value} {M : DataW Unit} {pa : Option Addr} {pc : Nat} {laid : Int} (h : PX w b s F g0 g1 c1 gm n tl M pa pc laid) (hF : ∀ k, F k → k < w.heap.size) (a : Int) (hm : s.ws.length ≤ 40000) (hp : s.plan.length ≤ 40000) (hst : s.steps ≤ 1000000) (hn : n ≤ 100000000) :
    Calls Try.prog 27 #[.pointer (some ⟨b, 0, none⟩), .int .i64 a] w fun e w' => e = .returned (.int .i64 (Pm.err s a (s.ws.length / 8))) ∧ PMid w b (Pm.flush s a) F (if Pm.err s a (s.ws.length / 8) = 0 then n + 8 else n) w' := by
  obtain ⟨W, hW⟩ : ∃ W, W = (w.alloc (.cells #[.pointer (some ⟨b, 0, none⟩)] 31)).alloc (.cells #[.int .i64 a] 3) := ⟨_, rfl⟩
  have hbW : Below w.heap.size w W := by
    rw [hW]
    exact ((Below.refl _ _).alloc (Nat.le_refl _) _).alloc (by simp) _
  have e1 : (w.alloc (.cells #[.pointer (some ⟨b, 0, none⟩)] 31)).heap.size = w.heap.size + 1 := by simp
  have kd : W.cell? ⟨w.heap.size, 0, none⟩ = some (.pointer (some ⟨b, 0, none⟩)) := by
    rw [hW, cell_alloc_old _ _ (by simp), cell_alloc_new]
  have ka : W.cell? ⟨w.heap.size + 1, 0, none⟩ = some (.int .i64 a) := by
    rw [hW, ← e1, cell_alloc_new]
  have x0 : ¬ F w.heap.size := fun q => by have := hF _ q; omega
  have x1 : ¬ F (w.heap.size + 1) := fun q => by have := hF _ q; omega
  have HH := hide (fun (X : World) (hX : Like X W) => pline_x (h.over hX.1 hbW) hm a)
  have HS : Hid (∀ X : World, Like X W → Calls Try.prog 43 #[.pointer (some ⟨b, 0, none⟩), .bool (isAt a (s.ws.length / 8)), .func (.func 47) #[] #[.pointer (some ⟨w.heap.size + 1, 0, none⟩), .pointer (some ⟨w.heap.size, 0, none⟩)]] X fun e w' => e = .returned (.int .i64 (Pm.err s a (s.ws.length / 8))) ∧ PMid w b (Pm.flush s a) F (if Pm.err s a (s.ws.length / 8) = 0 then n + 8 else n) w' ∧ Only F W w') := by
    show ∀ X, _ → _
    intro X hX
    have hx := h.over hX.1 hbW
    have hoX : Only F w X := (Only.of_below hbW).trans (hX.only F)
    by_cases hr : Pm.err s a (s.ws.length / 8) = 0
    · rw [if_pos hr]
      obtain ⟨_, a0, a1⟩ := Pm.err_flush hr
      have ka' : X.cell? ⟨w.heap.size + 1, 0, none⟩ = some (.int .i64 (a.toNat : Int)) := by
        rw [hX.cell, ka, Int.toNat_of_nonneg a0]
      refine (pstep_x hx (isAt a (s.ws.length / 8)) 47 _ (Pm.sendL s.ws a.toNat) (n + 8) Try.call47 (by rw [Pm.sendL_length a1]; exact hm) hp hst (Nat.le_add_right _ _) ?_).mono ?_
      · intro _
        refine (pflush1_x hx a.toNat a1 hm hn ka' ((hX.cell _).trans kd) x1 x0).mono ?_
        rintro e w1 ⟨he, ⟨M', h1⟩, ho1⟩
        exact ⟨he, h1.mid ho1 (Nat.le_refl _)⟩
      · rintro e w' ⟨he, hmid⟩
        rw [refuse_err] at he hmid
        exact ⟨he, hmid.since hoX, (hX.only F).trans hmid.only⟩
    · rw [if_neg hr]
      refine (pstep_x hx (isAt a (s.ws.length / 8)) 47 _ s.ws n Try.call47 hm hp hst (Nat.le_refl _) (fun h0 => absurd (by rw [refuse_err] at h0; exact h0) hr)).mono ?_
      rintro e w' ⟨he, hmid⟩
      rw [refuse_err] at he hmid
      rw [if_neg hr] at hmid
      have hfl : Pm.flush s a = s := by unfold Pm.flush; rw [if_neg hr]
      exact ⟨he, by rw [hfl]; exact hmid.since hoX, (hX.only F).trans hmid.only⟩
  have hmf := run_func
  clear h hbW e1
  generalize (if Pm.err s a (s.ws.length / 8) = 0 then n + 8 else n) = mm at *
  generalize Pm.err s a (s.ws.length / 8) = x at *
  generalize isAt a (s.ws.length / 8) = t at *
  generalize Pm.flush s a = s' at *
  go_enter Try.func27, Try.ntmps27
  go_wp2_with fail
  rw [← hW]
  clear hW
  generalize w.heap.size + 1 = B1 at *
  generalize hB0 : w.heap.size = B0 at *
  have KD := hide kd
  have KA := hide ka
  go_region_held3 (fun w' => w'.cell? ⟨B0, 0, none⟩ = some (.pointer (some ⟨b, 0, none⟩)) ∧ w'.cell? ⟨B1, 0, none⟩ = some (.int .i64 a))
    (first
      | go_keep
      | exact ⟨(ho6.cell (World.block_lt_of_cell? W _ KD.out) x0).trans KD.out, (ho6.cell (World.block_lt_of_cell? W _ KA.out) x1).trans KA.out⟩)
    (first
      | (go_at_call 46; refine (HH.out _ (like_drew W)).mono ?_; rintro e w5 ⟨rfl, hw5⟩; obtain rfl := hw5.symm)
      | (go_at_call 43; refine (HS.out _ (like_drew W)).mono ?_; rintro e w6 ⟨rfl, hd6, ho6⟩))
  all_goals
    go_wp2
    go_ret
    exact ⟨rfl, hd6⟩
end Go.Proofs.Ytnaenokegomoeaa
