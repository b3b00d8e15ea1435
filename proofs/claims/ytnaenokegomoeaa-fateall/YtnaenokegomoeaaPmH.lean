/-
  The program's device (layer 5): Fence.
-/
import Derived.Test.YtnaenokegomoeaaPmG
namespace Go.Proofs.Ytnaenokegomoeaa
set_option linter.unusedVariables false
set_option linter.unusedSimpArgs false
open Go.RowKit

theorem grown_set (w : World) (p : Addr) (u : Value) : w.grownBy (w.setCell p u) (some p.block) :=
  ⟨rfl, rfl, rfl, by simp [World.setCell], fun k _ hn => Below.heap_setCell _ _ _ _ (fun e => hn (by rw [e]))⟩

/-- what lasts while a fence is under way: of words that are no longer to come, what was sent. -/
def fencing (left : Lit → Bool) (ws : List Pm.W) : List Int := ws.mapIdx fun i x => if x.flushed = true ∧ left (.int .i64 i) = false then x.sent else x.lasts
theorem fencing_len (left : Lit → Bool) (ws : List Pm.W) : (fencing left ws).length = ws.length := by simp [fencing]
theorem fencing_at (left : Lit → Bool) (ws : List Pm.W) (j : Nat) : (fencing left ws)[j]? = ws[j]?.map fun x => if x.flushed = true ∧ left (.int .i64 j) = false then x.sent else x.lasts := by
  simp [fencing, List.getElem?_mapIdx]
theorem getD_of {ws : List Pm.W} {j : Nat} {x : Pm.W} (h : ws[j]? = some x) : ws.getD j (Pm.still 0) = x := by rw [List.getD_eq_getElem?_getD, h]; rfl
theorem fencing_start {M : DataW Unit} {ws : List Pm.W} (h : Sent M ws) : fencing (Maps.has M) ws = Pm.lastL ws := by
  apply List.ext_getElem?
  intro j
  rw [fencing_at]
  unfold Pm.lastL
  rw [List.getElem?_map]
  cases hj : ws[j]? with
  | none => rfl
  | some x =>
    have hlt := (List.getElem?_eq_some_iff.1 hj).1
    have := h.has j hlt
    rw [getD_of hj] at this
    simp only [Option.map_some]
    rw [this, if_neg (by intro ⟨h1, h2⟩; rw [h1] at h2; cases h2)]
theorem fencing_step {M : DataW Unit} {ws : List Pm.W} (h : Sent M ws) (left : Lit → Bool) {i : Nat} (hi : i < ws.length) (hh : Maps.has M (.int .i64 i) = true) : fencing (fun z => left z && !z.sameKey (.int .i64 i)) ws = (fencing left ws).set i (ws.getD i (Pm.still 0)).sent := by
  apply List.ext_getElem?
  intro j
  rw [fencing_at, List.getElem?_set, fencing_at, fencing_len]
  by_cases e : i = j
  · subst e
    rw [if_pos rfl, if_pos hi, List.getElem?_eq_getElem hi]
    have hx := getD_of (List.getElem?_eq_getElem hi)
    have hf := h.has i hi
    rw [hh, hx] at hf
    simp only [Option.map_some]
    rw [if_pos ⟨hf.symm, by simp [Lit.sameKey]⟩, hx]
  · rw [if_neg e]
    have hs : (Lit.int .i64 (j : Int)).sameKey (Lit.int .i64 (i : Int)) = false := Maps.sameKey_ne (key_ne (by omega))
    rw [hs]
    simp
theorem fencing_end (left : Lit → Bool) (ws : List Pm.W) (h : ∀ k, left k = false) : fencing left ws = Pm.lastL (ws.map Pm.W.fence) := by
  apply List.ext_getElem?
  intro j
  rw [fencing_at]
  unfold Pm.lastL
  rw [List.getElem?_map, List.getElem?_map, Option.map_map]
  cases ws[j]? with
  | none => rfl
  | some x =>
    simp only [Option.map_some, Function.comp]
    rw [h]
    unfold Pm.W.fence
    by_cases hf : x.flushed = true
    · rw [if_pos ⟨hf, rfl⟩, if_pos hf]; rfl
    · rw [if_neg (fun q => hf q.1), if_neg hf]
theorem fence_stored (ws : List Pm.W) : Pm.storedL (ws.map Pm.W.fence) = Pm.storedL ws := by
  unfold Pm.storedL
  rw [List.map_map]
  apply List.map_congr_left
  intro x _
  simp only [Function.comp]
  unfold Pm.W.fence
  split <;> rfl
theorem fence_sent {ws : List Pm.W} (h : ∀ x ∈ ws, x.Ok) : ∀ x ∈ ws.map Pm.W.fence, x.flushed = false ∧ x.sent = 0 := by
  intro x hx
  obtain ⟨y, hy, rfl⟩ := List.mem_map.1 hx
  unfold Pm.W.fence
  split
  · exact ⟨rfl, rfl⟩
  · rename_i hf
    have hf : y.flushed = false := by simpa using hf
    exact ⟨hf, (h y hy).un hf⟩

/-- behind a fence: what lasts, and a new map. -/
theorem PX.fenced {w : World} {b : Nat} {s : Pm.D} {F : Nat → Prop} {g0 g1 c1 gm n : Nat} {tl : List Value} {M : DataW Unit} {pa : Option Addr} {pc : Nat} {laid : Int} (h : PX w b s F g0 g1 c1 gm n tl M pa pc laid) {wr : World} (ho : Only (fun k => k = g0) w wr) (hg : wr.heap[g0]? = some (.cells (blk .u64 (Pm.lastL (s.ws.map Pm.W.fence))) 22 (0, 0))) :
    PX ((wr.alloc (.map #[] 0)).setCell ⟨b, 2, none⟩ (.map (some wr.heap.size))) b { s with ws := s.ws.map Pm.W.fence } (fun k => F k ∨ k = wr.heap.size) g0 g1 c1 wr.heap.size 0 tl (.map []) pa pc laid := by
  obtain ⟨n1, n2, n3, n4, n5, n6⟩ := h.ne
  have l0 := heap_lt h.dev
  have l1 := heap_lt h.k0
  have l2 := heap_lt h.k1
  have hsz := ho.size
  have hb : (wr.alloc (.map #[] 0)).heap[b]? = w.heap[b]? := by
    rw [Below.heap_alloc _ _ _ (by omega)]; exact ho.block b l0 n1
  have e1 := heap_set (hb.trans h.dev) 2 (.map (some wr.heap.size))
  have fr : ∀ k, k ≠ b → k ≠ g0 → k < w.heap.size → ((wr.alloc (.map #[] 0)).setCell ⟨b, 2, none⟩ (.map (some wr.heap.size))).heap[k]? = w.heap[k]? := fun k q0 q1 hlt => by
    rw [heap_set_other q0, Below.heap_alloc _ _ _ (by omega)]
    exact ho.block k hlt q1
  refine ⟨?_, ?_, ?_, ?_, Sent.none (fence_sent h.ok.ws), ?_, ?_, ?_, ⟨.inl h.mine.1, .inl h.mine.2.1, .inl h.mine.2.2.1, .inr rfl⟩, ⟨n1, n2, by omega, n4, by omega, by omega⟩, h.lay, h.laid0, ⟨?_, h.ok.plan, h.ok.left, h.ok.since⟩⟩
  · rw [e1]
    simp only [List.length_map]
    rfl
  · rw [heap_set_other (Ne.symm n1), Below.heap_alloc _ _ _ (by omega)]
    exact hg
  · rw [fr g1 (Ne.symm n2) (Ne.symm n4) l2]
    simp only [fence_stored]
    exact h.k1
  · exact ownsMap_block (World.ownsMap_made wr Try.prog 3 (plainElem Try.prog 22)) (heap_set_other (by omega) _ _)
  · simp only [List.length_map]
    exact h.cap
  · exact h.row' (by simp [World.setCell]; omega) (fun k q0 q1 _ _ hlt => fr k q0 q1 hlt)
  · rcases h.apart with h0 | ⟨g, off, h1, h2, q0, q1, q2, q3⟩
    · exact .inl h0
    · by_cases hp : s.plan.length = 0
      · exact .inl hp
      · refine .inr ⟨g, off, h1, .inl h2, q0, q1, q2, ?_⟩
        rcases h.row.2 with hr | ⟨g', off', e, hlt, _⟩
        · exact absurd hr hp
        · rw [h1] at e
          cases e
          omega
  · intro x hx
    obtain ⟨y, hy, rfl⟩ := List.mem_map.1 hx
    exact (h.ok.ws y hy).fence

set_option maxRecDepth 100000 in
set_option maxHeartbeats 2000000 in
theorem pfence1_x {w : World} {b : Nat} {s : Pm.D} {F : Nat → Prop} {g0 g1 c1 gm n : Nat} {tl : List Value} {M : DataW Unit} {pa : Option Addr} {pc : Nat} {laid : Int} (h : PX w b s F g0 g1 c1 gm n tl M pa pc laid) {bd : Nat} (hm : s.ws.length ≤ 40000) (k1 : w.cell? ⟨bd, 0, none⟩ = some (.pointer (some ⟨b, 0, none⟩))) (m1 : ¬ F bd) :
    Calls Try.prog 69 #[.pointer (some ⟨bd, 0, none⟩)] w fun e w' => e = .returned (.tuple #[]) ∧ PMid w b { s with ws := s.ws.map Pm.W.fence } F 0 w' := by
  have HD0 := hide h
  have HM := hide h.mine
  obtain ⟨n1, n2, n3, n4, n5, n6⟩ := h.ne
  obtain ⟨f0, f1, f2, f3, f4, f5, f6, f7⟩ := h.fields
  have z2 := h.free 2
  have hmp := h.mp
  have lb := heap_lt h.dev
  have l0 := heap_lt h.k0
  have lm := h.mp.lt
  have hbd := World.block_lt_of_cell? w _ k1
  have hSent := h.sent
  have HS := hide hSent
  have hmm := @run_makeMap Try.prog
  have HMP := hide hmp
  have pgd : bd ≠ g0 := fun e => m1 (e ▸ h.mine.2.1)
  clear h hmp hSent
  go_enter Try.func69, Try.ntmps69
  go_wp2_with (first
    | (at_range; refine wpList_range_own _ rfl _ 78 rfl 3 22 lawI Try.underlying78 _ gm n M rfl HMP.out ?_; intro w0 hrg0 hg0 hs0)
    | go_in)
  (try go_frame)
  have HG0 := hide hg0
  have HRG0 := hide hrg0
  have HS0 := hide hs0
  clear hg0 hrg0 hs0
  have K1 := hide k1
  have F0 := hide f0
  clear f0 f1 f2 f3 f4 f5 f6 f7 z2 k1
  go_loopw [1] (fun _ wr => ∃ (left : Lit → Bool) (cnt : Nat), wr.ranges Try.prog 3 (plainElem Try.prog 22) gm w.heap.size n M left cnt ∧ Only (fun k => k = g0) w wr ∧ wr.heap[g0]? = some (.cells (blk .u64 (fencing left s.ws)) 22 (0, 0)))
    (fun _ wr => wr.rangeLeft gm w.heap.size)
  case atStart =>
    refine ⟨_, _, HRG0.out, ?_, ?_⟩
    · have := HG0.out
      exact ⟨this.os, this.tape, this.output, this.size, fun k hk _ => this.block k hk (by simp)⟩
    · rw [HG0.out.block g0 l0 (by simp), fencing_start HS.out]
      exact HD0.out.k0
  case round =>
    obtain ⟨left, cnt, hrg, hgw, hg⟩ := hrel
    have HGW := hide hgw
    have HG := hide hg
    have HRG := hide hrg
    clear hgw hg hrg
    go_wp2_with (first
      | (at_next; refine wpList_next_ranges_ii _ rfl _ rfl 3 22 .i64 .u64 lawI Try.underlying3 Try.underlying22 gm w.heap.size n _ _ _ rfl HRG.out ?_ ?_)
      | go_in)
    · intro _ hl0
      have hgf := HG.out
      rw [fencing_end left _ hl0] at hgf
      have hp := HD0.out.fenced HGW.out hgf
      rw [World.setCell_alloc_past _ _ _ _ (Nat.lt_of_lt_of_le lb HGW.out.size)] at hp
      have HP := hide hp
      clear hp
      have kd := (HGW.out.cell (p := ⟨bd, 0, none⟩) hbd pgd).trans K1.out
      have hlb : b < wr.heap.size := Nat.lt_of_lt_of_le lb HGW.out.size
      have c2 : (wr.alloc (.map #[] 0)).cell? ⟨b, 2, none⟩ = some (.map (some gm)) := by
        rw [cell_alloc_old _ _ hlb, HGW.out.cell (p := ⟨b, 2, none⟩) lb n1]
        exact HD0.out.fields.2.2.1
      have c2z : (wr.alloc (.map #[] 0)).frozen? ⟨b, 2, none⟩ = false := by
        rw [World.frozen?_of_block (w := w) (by rw [Below.heap_alloc _ _ _ hlb]; exact HGW.out.block b lb n1)]
        exact HD0.out.free 2
      clear hgf
      go_wp2
      go_end0
      refine ⟨rfl, (fun k => F k ∨ k = wr.heap.size), ⟨_, _, _, _, _, _, _, _, _, _, HP.out, Nat.le_refl _⟩, ?_, fun k hk => .inl hk, ?_⟩
      · intro k hk
        rcases hk with hk | rfl
        · exact .inl hk
        · exact .inr ⟨HGW.out.size, by simp [World.setCell]⟩
      · exact ((HGW.out.mono (fun k hk => hk ▸ HM.out.2.1)).setCell HM.out.1 _).alloc _
    · intro x c w1 cnt1 hwx hwc hlx hat hrg1 hlt hg1 hs1 hen
      have hh := Maps.has_true_of_atKey hat
      obtain ⟨x0, x1⟩ := HS.out.dom x hh
      obtain ⟨i, rfl⟩ : ∃ i : Nat, x = i := ⟨x.toNat, by omega⟩
      have hil : i < s.ws.length := by omega
      obtain rfl : c = (s.ws.getD i (Pm.still 0)).sent := by
        have := (hat (.lit (.int .u64 0))).symm.trans (HS.out.val i hil)
        simpa using this
      have HF := hide (fencing_step HS.out left hil hh)
      have lr := HRG.out.lt
      have e0 : w1.heap[g0]? = wr.heap[g0]? := hg1.block g0 (Nat.lt_of_lt_of_le l0 HGW.out.size) (fun e => by cases e; omega)
      have q0 := cell_blk (e0.trans HG.out) (i := i) (by rw [fencing_len]; exact hil)
      have kd : w1.cell? ⟨bd, 0, none⟩ = some (.pointer (some ⟨b, 0, none⟩)) := by
        rw [grown_cell hg1 (p := ⟨bd, 0, none⟩) (Nat.lt_of_lt_of_le hbd HGW.out.size) (Nat.ne_of_lt hbd)]
        exact (HGW.out.cell (p := ⟨bd, 0, none⟩) hbd pgd).trans K1.out
      have c0 : w1.cell? ⟨b, 0, none⟩ = some (.slice (some ⟨g0, 0, none⟩) s.ws.length s.ws.length) := by
        rw [grown_cell hg1 (p := ⟨b, 0, none⟩) (Nat.lt_of_lt_of_le lb HGW.out.size) (Nat.ne_of_lt lb)]
        exact (HGW.out.cell (p := ⟨b, 0, none⟩) lb n1).trans F0.out
      obtain ⟨q0, z0⟩ := q0
      have HRG1 : Hid ((w1.setCell ⟨g0, i, none⟩ (.int .u64 (s.ws.getD i (Pm.still 0)).sent)).ranges Try.prog 3 (plainElem Try.prog 22) gm w.heap.size n M (fun z => left z && !z.sameKey (.int .i64 i)) cnt1) := hrg1.kept (grown_set _ _ _) (fun e => n5 (Option.some.inj e).symm) (fun e => Nat.ne_of_gt l0 (Option.some.inj e))
      have HG1 : Hid ((w1.setCell ⟨g0, i, none⟩ (.int .u64 (s.ws.getD i (Pm.still 0)).sent)).heap[g0]? = some (.cells (blk .u64 (fencing (fun z => left z && !z.sameKey (.int .i64 i)) s.ws)) 22 (0, 0))) := by
        show _ = _
        rw [heap_set (e0.trans HG.out), blk_set, HF.out]
      have HO1 : Hid (Only (fun k => k = g0) w (w1.setCell ⟨g0, i, none⟩ (.int .u64 (s.ws.getD i (Pm.still 0)).sent))) := by
        refine Only.setCell (HGW.out.trans' (G := fun k => k = w.heap.size) ⟨hg1.os, hg1.tape, hg1.output, hg1.size, fun k hk hn => hg1.block k hk (fun e => hn (by cases e; rfl))⟩ (fun k hk => .inr (Nat.le_of_eq (Eq.symm hk)))) (p := ⟨g0, i, none⟩) rfl _
      have HLT := hide hlt
      clear hat hh hrg1 hg1 e0 HF hlt hs1
      have hin : (i : Int) < (s.ws.length : Int) := by omega
      generalize (s.ws.getD i (Pm.still 0)).sent = c at *
      generalize (fencing left s.ws).getD i 0 = y0 at *
      generalize s.ws.length = N at *
      go_wp2
      go_roundw
      case rel => exact ⟨_, cnt1, HRG1.out, HO1.out, HG1.out⟩
      case measure => rw [HRG1.out.left_eq, HRG.out.left_eq]; exact HLT.out

theorem PMid.mono {w w' : World} {b : Nat} {s : Pm.D} {F : Nat → Prop} {m m' : Nat} (h : PMid w b s F m w') (hm : m ≤ m') : PMid w b s F m' w' := by
  obtain ⟨F', ⟨g0, g1, c1, gm, n, tl, M, pa, pc, laid, h, hn⟩, h2⟩ := h
  exact ⟨F', ⟨g0, g1, c1, gm, n, tl, M, pa, pc, laid, h, by omega⟩, h2⟩

set_option maxRecDepth 100000 in
set_option maxHeartbeats 2000000 in
theorem pfence_x {w : World} {b : Nat} {s : Pm.D} {F : Nat → Prop} {g0 g1 c1 gm n : Nat} {tl : List Value} {M : DataW Unit} {pa : Option Addr} {pc : Nat} {laid : Int} (h : PX w b s F g0 g1 c1 gm n tl M pa pc laid) (hF : ∀ k, F k → k < w.heap.size) (hm : s.ws.length ≤ 40000) (hp : s.plan.length ≤ 40000) (hst : s.steps ≤ 1000000) :
    Calls Try.prog 51 #[.pointer (some ⟨b, 0, none⟩)] w fun e w' => e = .returned (.int .i64 (Pm.err s 0 1)) ∧ PMid w b (Pm.fence s) F n w' := by
  obtain ⟨W, hW⟩ : ∃ W, W = w.alloc (.cells #[.pointer (some ⟨b, 0, none⟩)] 31) := ⟨_, rfl⟩
  have hbW : Below w.heap.size w W := by
    rw [hW]
    exact (Below.refl _ _).alloc (Nat.le_refl _) _
  have kd : W.cell? ⟨w.heap.size, 0, none⟩ = some (.pointer (some ⟨b, 0, none⟩)) := by
    rw [hW, cell_alloc_new]
  have x0 : ¬ F w.heap.size := fun q => by have := hF _ q; omega
  have HS : Hid (Calls Try.prog 43 #[.pointer (some ⟨b, 0, none⟩), .bool true, .func (.func 69) #[] #[.pointer (some ⟨w.heap.size, 0, none⟩)]] W fun e w' => e = .returned (.int .i64 (Pm.err s 0 1)) ∧ PMid w b (Pm.fence s) F n w') := by
    show Calls _ _ _ _ _
    have hx := h.below hbW
    have hoX : Only F w W := Only.of_below hbW
    refine (pstep_x hx true 69 _ (s.ws.map Pm.W.fence) n Try.call69 (by rw [List.length_map]; exact hm) hp hst (Nat.le_refl _) ?_).mono ?_
    · intro _
      refine (pfence1_x hx hm kd x0).mono ?_
      rintro e w1 ⟨he, h1⟩
      exact ⟨he, h1.mono (Nat.zero_le _)⟩
    · rintro e w' ⟨he, hmid⟩
      have hr := refuse_err s 0 1
      rw [show isAt 0 1 = true from rfl] at hr
      rw [hr] at he hmid
      exact ⟨he, hmid.since hoX⟩
  have hmf := run_func
  clear h hbW
  generalize Pm.err s 0 1 = x at *
  generalize Pm.fence s = s' at *
  rw [hW] at HS
  clear kd hW
  go_enter Try.func51, Try.ntmps51
  go_wp2_with (go_at_call 43; refine HS.out.mono ?_; rintro e w6 ⟨rfl, hd6⟩)
  go_ret
  exact ⟨rfl, hd6⟩
end Go.Proofs.Ytnaenokegomoeaa
