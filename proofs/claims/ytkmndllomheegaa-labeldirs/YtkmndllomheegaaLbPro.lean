/-
  LbPA, LbPB, LbPC, LbPD, LbPE, LbPF, LbPG, LbPH, in one text.
-/
import Derived.Test.YtkmndllomheegaaRefLbA
import Derived.Test.YtkmndllomheegaaBkProg
import Derived.Test.YtkmndllomheegaaOwnMore
import Derived.Test.YtkmndllomheegaaNameF
import Derived.Test.YtkmndllomheegaaOcG
import Derived.Test.YtkmndllomheegaaEqRow
import Derived.Deep.MidRow
import Derived.Deep.AppendLies
import Derived.Laws.BitsAllLaws
import Derived.Test.YtkmndllomheegaaRegs
import Derived.Lib.AppendStr
import Derived.Deep.RegionLaw
import Derived.Test.YtkmndllomheegaaRefLbC
import Derived.Deep.RegionHeldLaw
import Derived.Deep.RegionHeld3
import Derived.Test.YtkmndllomheegaaRefLbE
namespace Go.Proofs.Ytkmndllomheegaa
set_option linter.unusedVariables false
set_option linter.unusedSimpArgs false
open Go.RowKit

set_option maxHeartbeats 1000000 in
theorem lbnum_any (r : Int) (w : World) : Calls Try.prog 34 #[.int .i64 r] w fun e w' => e = .returned (.bool (Nd.kidB r)) ∧ w' = w := by
  by_cases c1 : 2 ≤ r
  · have hv : Nd.kidB r = decide (r < 3072) := decide_eq_decide.2 ⟨fun h => by omega, fun h => by omega⟩
    rw [hv]; clear hv
    go_enter Try.func34, Try.ntmps34
    go_wp2_with fail
    go_ret
    exact ⟨rfl, rfl⟩
  · have hv : Nd.kidB r = false := decide_eq_false fun h => c1 h.1
    rw [hv]; clear hv
    go_enter Try.func34, Try.ntmps34
    go_wp2_with fail
    go_ret
    exact ⟨rfl, rfl⟩

set_option maxHeartbeats 1000000 in
theorem lbroot_any (b : Bool) (r : Int) (w : World) : Calls Try.prog 27 #[.bool b, .int .i64 r] w fun e w' => e = .returned (.bool (if b = true then Nd.kidB r else r == 0)) ∧ w' = w := by
  have HN := hide (lbnum_any r w)
  cases b with
  | true =>
    rw [if_pos rfl]
    generalize Nd.kidB r = q at *
    go_enter Try.func27, Try.ntmps27
    go_wp2_with fail
    refine HN.out.mono ?_
    rintro e w1 ⟨rfl, hw⟩
    obtain rfl := hw.symm
    go_wp2_with fail
    go_ret
    exact ⟨rfl, rfl⟩
  | false =>
    rw [if_neg (by decide)]
    clear HN
    go_enter Try.func27, Try.ntmps27
    go_wp2_with fail
    go_ret
    exact ⟨rfl, rfl⟩

theorem run_index_roots (l : List Int) (hl : l.length = 12) (j : Nat) (hj : j < 12) (w : World) : (Instr.index 23 (.agg (blk .i64 l)) (.int .i64 (j : Int))).run Try.prog w = .ok (.int .i64 (l.getD j 0)) w := by
  have hs : (sizeOf 3).run Try.prog w = .ok 1 w := by
    cases hq : Try.prog.info? 3 with
    | none => have := info_int64; rw [hq] at this; exact absurd this (by simp)
    | some i =>
      have h1 := info_int64
      rw [hq] at h1
      simp at h1
      simp [sizeOf, typeInfo, hq, h1]
  have hp := part_cell 3 .i64 Try.underlying3 l j (by omega) w
  have hi : (0 : Int) ≤ (j : Int) ∧ (j : Int) < ((12 : Nat) : Int) := by omega
  simp [Instr.index, asIntOf, Sem.run_bind, run_underlying Try.underlying23, hi, hs, hp, hj]
theorem and_bit_i64 (t j : Nat) (ht : t ≤ 4095) : (bits .and .i64 ((t : Int) / (2 : Int) ^ j) 1 == 1) = decide (t / 2 ^ j % 2 = 1) := by
  have hq : t / 2 ^ j ≤ t := Nat.div_le_self _ _
  rw [show ((t : Int) / (2 : Int) ^ j) = ((t / 2 ^ j : Nat) : Int) by rw [show ((2 : Int) ^ j) = ((2 ^ j : Nat) : Int) from (Int.natCast_pow 2 j).symm]; rfl]
  generalize t / 2 ^ j = q at *
  have h1 : bits .and .i64 (q : Int) 1 = ((q % 2 : Nat) : Int) := by
    show IntKind.i64.wrap ((BitVec.ofInt 64 (q : Int) &&& BitVec.ofInt 64 1).toNat : Int) = _
    rw [BitVec.toNat_and, ofInt_u64 q (by omega), show (BitVec.ofInt 64 1).toNat = 1 by decide, Nat.and_one_is_mod, IntKind.wrap_i64]
    omega
  rw [h1, Bool.eq_iff_iff]
  simp
  omega
/-- the roots of a queue, in memory. -/
theorem range_roots {W : World} {g : Nat} {q : Lb.Q} {T : TypeId} (h : W.heap[g]? = some (.cells (queueC q) T (0, 0))) : W.rangeAt g 2 (q.roots.map (Value.int .i64)) := fun j v hv => by
  have hj : j < q.roots.length := by
    have := (List.getElem?_eq_some_iff.1 hv).1
    simpa using this
  rw [(boxed_queue h).2.2 j hj, ← hv]
  simp [List.getD_eq_getElem?_getD, List.getElem?_eq_getElem hj]
theorem roots_size {q : Lb.Q} (h : Lb.wfQ q) : (Try.prog.info? 23).map (·.size) = some (q.roots.map (Value.int .i64)).length := by
  rw [List.length_map, h.2]
  kernel_rfl

set_option maxRecDepth 100000 in
set_option maxHeartbeats 2000000 in
theorem lbright_any (q : Lb.Q) (w : World) (hq : Lb.wfQ q) (hn : q.name.length ≤ 1000000) (hc : (Lit.int .i64 q.count).wf = true) :
    Calls Try.prog 10 #[.agg (queueC q)] w fun e w' => e = .returned (.bool (Lb.rightQ q)) ∧ Below w.heap.size w w' := by
  obtain ⟨W, hW⟩ : ∃ W, W = w.alloc (.cells (queueC q) 25) := ⟨_, rfl⟩
  have hB0 : Below w.heap.size w W := by rw [hW]; exact (Below.refl _ _).alloc (Nat.le_refl _) _
  have hg0 : W.heap[w.heap.size]? = some (.cells (queueC q) 25 (0, 0)) := by rw [hW]; exact heap_alloc_new w _
  have HB0 := hide hB0
  have HG0 := hide hg0
  have hlt0 : w.heap.size < W.heap.size := (Array.getElem?_eq_some_iff.1 hg0).1
  have HR := hide (nright_any q.name W hq.1 hn)
  obtain ⟨c0, c1, _⟩ := boxed_queue hg0
  rw [hW] at c0
  have HQ : Hid (Lb.rightQ q = ((rightR (runes q.name) && decide (0 ≤ q.count ∧ q.count ≤ 4095)) && Lb.rootsTo q.count.toNat q.roots 12)) := rfl
  obtain ⟨V, hV⟩ : ∃ V : Bool, V = Lb.rightQ q := ⟨_, rfl⟩
  rw [← hV]
  rw [HQ.out] at hV
  have HV := hide hV
  have HSR := hide (roots_size hq)
  clear hB0 hg0 hV HQ
  go_enter Try.func10, Try.ntmps10
  go_wp2_with fail
  rw [← hW]
  refine HR.out.mono ?_
  rintro e w1 ⟨rfl, hb1⟩
  have hg1 := (hb1.block _ hlt0).trans HG0.out
  have HG1 := hide hg1
  have HBE := hide (HB0.out.trans (hb1.mono HB0.out.size))
  obtain ⟨_, k1, _⟩ := boxed_queue hg1
  have HRG := hide (range_roots hg1)
  have hc' := bd_i64 hc
  clear hb1 hg1 c0 c1 hW
  generalize hqc : q.count = c at *
  cases hr : rightR (runes q.name) with
  | false =>
    rw [hr] at HV
    clear hr
    go_wp2_with fail
    go_ret
    exact ⟨by rw [HV.out]; rfl, HBE.out⟩
  | true =>
    rw [hr, Bool.true_and] at HV
    clear hr
    by_cases h1 : c < 0
    · rw [decide_eq_false (by omega), Bool.false_and] at HV
      go_wp2_with fail
      go_ret
      exact ⟨by rw [HV.out]; rfl, HBE.out⟩
    by_cases h2 : 4095 < c
    · rw [decide_eq_false (by omega), Bool.false_and] at HV
      go_wp2_with fail
      go_ret
      exact ⟨by rw [HV.out]; rfl, HBE.out⟩
    rw [decide_eq_true (by omega), Bool.true_and] at HV
    obtain ⟨m, hm⟩ : ∃ m : Nat, c = m := ⟨c.toNat, by omega⟩
    subst hm
    rw [Int.toNat_natCast] at HV
    have hQL := hq.2
    have HQL := hide hQL
    clear hq hc hc' hqc hn hQL
    have hm4 : m ≤ 4095 := by omega
    go_wp2_with (refine wpList_load_mid rfl 23 _ rfl w.heap.size 2 rfl _ _ HRG.out Try.underlying23 rfl HSR.out ?_)
    go_loopw [21] (fun i wr => ∃ j : Nat, j ≤ 12 ∧ i = .int .i64 j ∧ wr = w1 ∧ Lb.rootsTo m q.roots j = true) (fun i _ => 12 - (intOf i).toNat)
    case atStart => exact ⟨0, Nat.zero_le _, rfl, rfl, rfl⟩
    case round =>
      obtain ⟨j, hj, rfl, rfl, hok⟩ := hrel
      by_cases hlt : j < 12
      · have hjI : (j : Int) < 12 := by omega
        have hix : ∀ W, (Instr.index 23 (.agg (List.map (Value.int IntKind.i64) q.roots).toArray) (.int .i64 (j : Int))).run Try.prog W = .ok (.int .i64 (q.roots.getD j 0)) W := fun W => run_index_roots q.roots HQL.out j hlt W
        have hab := and_bit_i64 m j hm4
        have HSC : Hid (Lb.rootsTo m q.roots (j + 1) = Lb.rootB m j (q.roots.getD j 0)) := by show _ = _; rw [Lb.rootsTo_succ, hok, Bool.true_and]
        have HFL : Hid (Lb.rootB m j (q.roots.getD j 0) = false → V = false) := fun e => by
          rw [HV.out]
          cases hq : Lb.rootsTo m q.roots 12 with
          | false => rfl
          | true =>
            have := Lb.rootsTo_le hq (show j + 1 ≤ 12 by omega)
            rw [HSC.out, e] at this
            exact absurd this (by decide)
        have HRB : Hid (Lb.rootB m j (q.roots.getD j 0) = if decide (m / 2 ^ j % 2 = 1) = true then Nd.kidB (q.roots.getD j 0) else q.roots.getD j 0 == 0) := by
          show _ = _
          unfold Lb.rootB
          simp
        have HRT := hide (lbroot_any (decide (m / 2 ^ j % 2 = 1)) (q.roots.getD j 0) wr)
        rw [← HRB.out] at HRT
        generalize Lb.rootB m j (q.roots.getD j 0) = rb at *
        generalize q.roots.getD j 0 = r at *
        generalize decide (m / 2 ^ j % 2 = 1) = db at *
        clear hok HRB
        go_wp2_with fail
        refine HRT.out.mono ?_
        rintro e w5 ⟨rfl, hw5⟩
        obtain rfl := hw5.symm
        cases rb with
        | true =>
          clear HFL HRT
          go_wp2_with fail
          go_roundw
          case rel => exact ⟨j + 1, by omega, by go_num, trivial, HSC.out⟩
          case measure => simp [intOf]; omega
        | false =>
          have HF := hide (HFL.out rfl)
          clear HFL HRT
          go_wp2_with fail
          go_ret
          exact ⟨by rw [HF.out]; rfl, HBE.out⟩
      · have hjI : ¬ (j : Int) < 12 := by omega
        obtain rfl : j = 12 := by omega
        rw [hok] at HV
        clear hok
        go_wp2_with fail
        go_ret
        exact ⟨by rw [HV.out]; rfl, HBE.out⟩

/-- the roots that are there, in order. -/
def treesL (l : List Int) : List Int := l.filter (· != 0)
theorem treesL_snoc (l : List Int) (j : Nat) (hj : j < l.length) : treesL (l.take (j + 1)) = treesL (l.take j) ++ (if (l.getD j 0 != 0) = true then [l.getD j 0] else []) := by
  unfold treesL
  rw [List.take_succ_eq_append_getElem hj, List.filter_append, List.getD_eq_getElem?_getD, List.getElem?_eq_getElem hj]
  simp only [Option.getD_some, List.filter_cons, List.filter_nil]

set_option maxRecDepth 100000 in
set_option maxHeartbeats 2000000 in
theorem lbtrees_any (l : List Int) (w : World) (hl : l.length = 12) (hw : ∀ x ∈ l, (Lit.int .i64 x).wf = true) :
    Calls Try.prog 20 #[.agg (blk .i64 l)] w fun e w' => ∃ a n cap, e = .returned (.slice a n cap) ∧ Arg .i64 w' a n cap (treesL l) ∧ Below w.heap.size w w' := by
  obtain ⟨X, hX⟩ : ∃ X, X = w.alloc (.cells (blk .i64 l) 23) := ⟨_, rfl⟩
  have hb0 : Below w.heap.size w X := by rw [hX]; exact (Below.refl _ _).alloc (Nat.le_refl _) _
  have HB0 := hide hb0
  have HSZ : Hid ((Try.prog.info? 23).map (·.size) = some (blk .i64 l).size) := by show _ = _; rw [size_blk, hl]; kernel_rfl
  have HHN := hide (heap_alloc_new w (.cells (blk .i64 l) 23))
  clear hb0
  go_enter Try.func20, Try.ntmps20
  go_wp2_with (refine wpList_load_row rfl 23 _ rfl w.heap.size rfl 23 (blk .i64 l) (0, 0) _ HHN.out Try.underlying23 rfl HSZ.out ?_)
  rw [← hX]
  clear hX HHN
  go_loopw [3, 7] (fun out i wr => ∃ j : Nat, j ≤ 12 ∧ i = .int .i64 j ∧ wr.ownsRow X.heap.size 3 1 out (treesL (l.take j)).length ((treesL (l.take j)).map (Value.int .i64)) ∧ Below X.heap.size X wr) (fun _ i _ => 12 - (intOf i).toNat)
  case atStart => exact ⟨0, Nat.zero_le _, rfl, ⟨rfl, .inl ⟨rfl, rfl⟩⟩, Below.refl _ _⟩
  case round =>
    obtain ⟨j, hj, rfl, hown, hb⟩ := hrel
    have HOW := hide hown
    have HB := hide hb
    have hsz := hb.size
    clear hb hown
    by_cases hlt : j < 12
    · have hjI : (j : Int) < 12 := by omega
      have hix := fun W => run_index_roots l hl j hlt W
      have HSU := hide (treesL_snoc l j (by omega))
      have hLl : (treesL (l.take j)).length ≤ 12 := by
        unfold treesL
        exact Nat.le_trans (List.length_filter_le _ _) (by simp; omega)
      generalize treesL (l.take j) = L at *
      generalize l.getD j 0 = r at *
      by_cases hz : r = 0
      · subst hz
        have hSU := HSU.out
        rw [if_neg (by decide), List.append_nil] at hSU
        have HSV := hide hSU
        clear HSU hSU
        go_wp2_with fail
        go_roundw
        case rel => exact ⟨j + 1, by omega, by go_num, by rw [HSV.out]; exact HOW.out, HB.out⟩
        case measure => simp [intOf]; omega
      · have hzn : (r != 0) = true := by simpa using hz
        have hSU := HSU.out
        rw [if_pos hzn] at hSU
        have HSV := hide hSU
        obtain ⟨i0, hi0, hz0, hz1, hz2⟩ := info_parts info_int64
        clear HSU hSU hz
        go_wp2_with (at_builtin; refine wpList_append_own _ rfl _ _ 34 rfl X.heap.size 3 i0 _ 1 8 Try.underlying34 hi0 hz0 hz1 hz2 rfl (by decide) u3 L.length (L.map (Value.int .i64)) rfl (HOW.out.alloc _) ⟨wr.heap.size, 0, none⟩ 1 1 [.int .i64 r] rfl rfl (cell_one_new _ _ _) (by simp [Value.oneCell']) (by unfold maxLen; omega) (by omega) (by simp; omega) ?_; intro v' w5 hown2 hgrow hiff)
        have HON := hide hown2
        have HBN := hide (own_below (HOW.out.alloc _) hgrow (by simp; omega) (HB.out.alloc hsz _) (Nat.le_refl _))
        clear hown2 hgrow hiff
        go_wp2_with fail
        go_roundw
        case rel => exact ⟨j + 1, by omega, by go_num, by rw [HSV.out, List.length_append, List.map_append]; exact HON.out, HBN.out⟩
        case measure => simp [intOf]; omega
    · have hjI : ¬ (j : Int) < 12 := by omega
      obtain rfl : j = 12 := by omega
      have hta : l.take 12 = l := List.take_of_length_le (by omega)
      rw [hta] at HOW
      have hwT : ∀ x ∈ treesL l, (Lit.int .i64 x).wf = true := fun x hx => hw x (List.mem_filter.1 hx).1
      obtain ⟨a, cap, rfl, hA, _⟩ := arg_of_own HOW.out hwT
      have HA := hide hA
      clear hA hwT HOW
      go_wp2_with fail
      go_returns
      exact ⟨_, _, _, rfl, HA.out, HB0.out.trans (HB.out.mono HB0.out.size)⟩
end Go.Proofs.Ytkmndllomheegaa

namespace Go.Proofs.Ytkmndllomheegaa
set_option linter.unusedVariables false
set_option linter.unusedSimpArgs false
open Go.RowKit

theorem info_octet : (Try.prog.info? 5).map (fun i => (i.zero, i.size, i.bytes)) = some (some (.int .u8 0), 1, 1) := by kernel_rfl
theorem lb_mem_succ {L : List Int} {k : Nat} {v : Int} (h : k < L.length) : v ∈ L.take (k + 1) ↔ v ∈ L.take k ∨ v = L.getD k 0 := by
  rw [List.take_succ_eq_append_getElem h, List.mem_append, List.mem_singleton, List.getD_eq_getElem?_getD, List.getElem?_eq_getElem h]
  rfl

set_option maxHeartbeats 1000000 in
theorem lbindex_any (a : Option Addr) (len cap : Nat) (L : List Int) (v : Int) (w : World) (hl : len ≤ 1000000) (hr : Row .i64 w a len L) :
    Calls Try.prog 49 #[.slice a len cap, .int .i64 v] w fun e w' => (∃ k : Int, e = .returned (.int .i64 k) ∧ (0 ≤ k ↔ v ∈ L) ∧ -1 ≤ k ∧ k ≤ 1000000) ∧ w' = w := by
  have HR := hide hr
  clear hr
  go_enter Try.func49, Try.ntmps49
  go_wp2_with fail
  go_loopw [8] (fun i wr => ∃ k : Nat, k ≤ len ∧ i = .int .i64 k ∧ wr = w ∧ ¬ v ∈ L.take k) (fun i _ => len - (intOf i).toNat)
  case atStart => exact ⟨0, Nat.zero_le _, rfl, rfl, by simp⟩
  case round =>
    obtain ⟨k, hk, rfl, rfl, hno⟩ := hrel
    have HNO := hide hno
    clear hno
    by_cases hlt : k < len
    · have hkn : (k : Int) < (len : Int) := by omega
      obtain ⟨hL, h0 | ⟨b, off, rfl, hbw, hc⟩⟩ := HR.out
      · omega
      have hck := hc k hlt
      have HM := hide (lb_mem_succ (v := v) (show k < L.length by omega))
      have HT : Hid (L.getD k 0 = v → v ∈ L) := fun e => by
        rw [← e, List.getD_eq_getElem?_getD, List.getElem?_eq_getElem (by omega)]
        exact List.getElem_mem _
      clear hc hL
      generalize L.getD k 0 = z at *
      by_cases hz : v = z
      · have hT := hide (HT.out hz.symm)
        subst hz
        go_wp2_with fail
        go_ret
        exact ⟨⟨k, rfl, ⟨fun _ => hT.out, fun _ => by omega⟩, by omega, by omega⟩, rfl⟩
      · go_wp2_with fail
        go_roundw
        case rel => exact ⟨k + 1, by omega, by go_num, trivial, fun h => by rcases HM.out.1 h with q | q; exact HNO.out q; exact hz q⟩
        case measure => simp [intOf]; omega
    · have hkn : ¬ (k : Int) < (len : Int) := by omega
      obtain rfl : k = len := by omega
      have HN : Hid (¬ v ∈ L) := by
        have e : L.take k = L := List.take_of_length_le (by rw [HR.out.1]; exact Nat.le_refl _)
        have := HNO.out
        rw [e] at this
        exact this
      go_wp2_with fail
      go_ret
      exact ⟨⟨-1, rfl, ⟨fun h => absurd h (by decide), fun h => absurd h HN.out⟩, by decide, by decide⟩, rfl⟩

theorem lbcontains_any (a : Option Addr) (len cap : Nat) (L : List Int) (v : Int) (w : World) (hl : len ≤ 1000000) (hr : Row .i64 w a len L) :
    Calls Try.prog 35 #[.slice a len cap, .int .i64 v] w fun e w' => e = .returned (.bool (decide (v ∈ L))) ∧ w' = w := by
  have HI := hide (lbindex_any a len cap L v w hl hr)
  clear hr
  go_enter Try.func35, Try.ntmps35
  go_wp2_with fail
  refine HI.out.mono ?_
  rintro e w1 ⟨⟨k, rfl, hk, hk0, hk1⟩, hw⟩
  obtain rfl := hw.symm
  have HD : Hid (decide (v ∈ L) = decide (0 ≤ k)) := by
    show _ = _
    exact decide_eq_decide.2 hk.symm
  clear hk
  go_wp2_with fail
  go_ret
  exact ⟨by rw [HD.out]; rfl, rfl⟩

theorem lb_all_ne (l : List Int) (j : Nat) (hj : j ≤ l.length) (x : Int) : ((List.range j).all fun k => l.getD k 0 != x) = !decide (x ∈ l.take j) := by
  rw [Bool.eq_iff_iff, List.all_eq_true]
  simp only [Bool.not_eq_true', decide_eq_false_iff_not, List.mem_range, bne_iff_ne, ne_eq]
  constructor
  · intro h hm
    obtain ⟨i, hi, e⟩ := List.getElem_of_mem hm
    rw [List.length_take] at hi
    refine h i (by omega) ?_
    rw [List.getD_eq_getElem?_getD, List.getElem?_eq_getElem (by omega), ← e, List.getElem_take]
    rfl
  · intro h k hk e
    refine h ?_
    rw [← e, List.getD_eq_getElem?_getD, List.getElem?_eq_getElem (by omega)]
    exact List.mem_take_iff_getElem.2 ⟨k, by omega, rfl⟩

set_option maxRecDepth 100000 in
set_option maxHeartbeats 1000000 in
theorem lbrightd_any {w : World} {a : Option Addr} {len cap : Nat} {L : List Int} (hA : Arg .i64 w a len cap L) (hl : len ≤ 1000000) :
    Calls Try.prog 16 #[.agg #[.slice a len cap]] w fun e w' => e = .returned (.bool (Lb.rightD L)) ∧ Below w.heap.size w w' := by
  have hLl : L.length = len := hA.2.2.1.1
  have HA := hide hA
  obtain ⟨X, hX⟩ : ∃ X, X = w.alloc (.cells #[.slice a len cap] 36) := ⟨_, rfl⟩
  have hb0 : Below w.heap.size w X := by rw [hX]; exact (Below.refl _ _).alloc (Nat.le_refl _) _
  have hg0 : X.heap[w.heap.size]? = some (.cells #[.slice a len cap] 36 (0, 0)) := by rw [hX]; exact heap_alloc_new w _
  have c0 : X.cell? ⟨w.heap.size, 0, none⟩ = some (.slice a len cap) := by simp [World.cell?, hg0]
  have HRX := hide (hA.2.2.1.below hb0)
  have HB0 := hide hb0
  have hcap := hA.1
  obtain ⟨V, hV⟩ : ∃ V : Bool, V = Lb.rightD L := ⟨_, rfl⟩
  rw [← hV]
  unfold Lb.rightD at hV
  rw [hLl] at hV
  have HV := hide hV
  clear hb0 hg0 hV hA
  by_cases h1 : len < 1
  · have hI : (len : Int) < 1 := by omega
    have HVF : Hid (V = false) := by show _ = _; rw [HV.out, decide_eq_false (by omega), Bool.false_and]
    go_enter Try.func16, Try.ntmps16
    go_wp2_with fail
    rw [← hX]
    go_wp2_with fail
    go_ret
    exact ⟨by rw [HVF.out]; rfl, HB0.out⟩
  by_cases h2 : 16 < len
  · have hI : ¬ (len : Int) < 1 := by omega
    have hI2 : (16 : Int) < (len : Int) := by omega
    have HVF : Hid (V = false) := by show _ = _; rw [HV.out, decide_eq_false (by omega), Bool.false_and]
    go_enter Try.func16, Try.ntmps16
    go_wp2_with fail
    rw [← hX]
    go_wp2_with fail
    go_ret
    exact ⟨by rw [HVF.out]; rfl, HB0.out⟩
  have hI : ¬ (len : Int) < 1 := by omega
  have hI2 : ¬ (16 : Int) < (len : Int) := by omega
  have HVT : Hid (V = Lb.dirTo L len) := by show _ = _; rw [HV.out, decide_eq_true (by omega), Bool.true_and]
  go_enter Try.func16, Try.ntmps16
  go_wp2_with fail
  rw [← hX]
  obtain ⟨_, h0 | ⟨b, off, rfl, hbw, hcc⟩⟩ := HRX.out
  · omega
  have HCC := hide hcc
  clear hbw hcc HV hX
  go_loopw [18] (fun i wr => ∃ j : Nat, j ≤ len ∧ i = .int .i64 j ∧ wr = X ∧ Lb.dirTo L j = true) (fun i _ => len - (intOf i).toNat)
  case atStart => exact ⟨0, Nat.zero_le _, rfl, rfl, rfl⟩
  case round =>
    obtain ⟨j, hj, rfl, rfl, hok⟩ := hrel
    by_cases hlt : j < len
    · have hjI : (j : Int) < (len : Int) := by omega
      have hjc : (j : Int) ≤ (cap : Int) := by omega
      have hck := HCC.out j hlt
      have HNU := hide (lbnum_any (L.getD j 0) wr)
      have HCO := hide (lbcontains_any (some ⟨b, off, none⟩) j cap (L.take j) (L.getD j 0) wr (by omega) (HRX.out.headRow j (by omega)))
      have HSC : Hid (Lb.dirTo L (j + 1) = (Nd.kidB (L.getD j 0) && !decide (L.getD j 0 ∈ L.take j))) := by
        show _ = _
        rw [Lb.dirTo_succ, hok, Bool.true_and, lb_all_ne L j (by omega)]
      have HFL : Hid ((Nd.kidB (L.getD j 0) && !decide (L.getD j 0 ∈ L.take j)) = false → V = false) := fun e => by
        rw [HVT.out]
        cases hq : Lb.dirTo L len with
        | false => rfl
        | true =>
          have := Lb.dirTo_le hq (show j + 1 ≤ len by omega)
          rw [HSC.out, e] at this
          exact absurd this (by decide)
      generalize decide (L.getD j 0 ∈ L.take j) = cn at *
      generalize Nd.kidB (L.getD j 0) = kb at *
      generalize L.getD j 0 = z at *
      clear hok
      cases kb with
      | false =>
        have HF := hide (HFL.out rfl)
        clear HFL HSC HCO
        go_wp2_with fail
        refine HNU.out.mono ?_
        rintro e w5 ⟨rfl, hw5⟩
        obtain rfl := hw5.symm
        go_wp2_with fail
        go_ret
        exact ⟨by rw [HF.out]; rfl, HB0.out⟩
      | true =>
        rw [Bool.true_and] at HFL HSC
        go_wp2_with fail
        refine HNU.out.mono ?_
        rintro e w5 ⟨rfl, hw5⟩
        obtain rfl := hw5.symm
        go_wp2_with fail
        refine HCO.out.mono ?_
        rintro e w5 ⟨rfl, hw5⟩
        obtain rfl := hw5.symm
        cases cn with
        | true =>
          have HF := hide (HFL.out rfl)
          clear HFL HSC
          go_wp2_with fail
          go_ret
          exact ⟨by rw [HF.out]; rfl, HB0.out⟩
        | false =>
          clear HFL
          go_wp2_with fail
          go_roundw
          case rel => exact ⟨j + 1, by omega, by go_num, trivial, HSC.out⟩
          case measure => simp [intOf]; omega
    · have hjI : ¬ (j : Int) < (len : Int) := by omega
      obtain rfl : j = len := by omega
      have HVX : Hid (V = true) := by show _ = _; rw [HVT.out, hok]
      clear hok
      go_wp2_with fail
      go_ret
      exact ⟨by rw [HVX.out]; rfl, HB0.out⟩

set_option maxRecDepth 100000 in
set_option maxHeartbeats 1000000 in
/-- numbers of blocks, laid behind octets of the call's own. -/
theorem lblay_any {w : World} {B : Nat} (hB : B ≤ w.heap.size) (cv : Value) (ys : List Int) (hown : w.ownsRow B 5 1 cv ys.length (ys.map (Value.int .u8))) {a : Option Addr} {len cap : Nat} {L : List Int} (hA : Arg .i64 w a len cap L) (hst : ∀ W, Below B w W → Row .i64 W a len L) (hl : len ≤ 1000) (hm : ys.length ≤ 1000) (hk : ∀ x ∈ L, 0 ≤ x ∧ x ≤ 3071) :
    Calls Try.prog 21 #[cv, .slice a len cap] w fun e w' => ∃ cv', e = .returned cv' ∧ w'.ownsRow B 5 1 cv' (ys ++ Nd.kidsB L).length ((ys ++ Nd.kidsB L).map (Value.int .u8)) ∧ Below B w w' := by
  obtain ⟨i0, hi, hz0, hz1, hz2⟩ := info_parts info_octet
  have HST := hide hst
  have HKK := hide hk
  have HOW0 := hide hown
  have hLl : L.length = len := hA.2.2.1.1
  clear hst hk hown hA
  go_enter Try.func21, Try.ntmps21
  go_wp2_with fail
  go_loopw [0, 9] (fun v i wr => ∃ j : Nat, j ≤ len ∧ i = .int .i64 j ∧ wr.ownsRow B 5 1 v (ys ++ Nd.kidsB (L.take j)).length ((ys ++ Nd.kidsB (L.take j)).map (Value.int .u8)) ∧ Below B w wr) (fun _ i _ => len - (intOf i).toNat)
  case atStart => exact ⟨0, Nat.zero_le _, rfl, by simpa [Nd.kidsB] using HOW0.out, Below.refl _ _⟩
  case round =>
    obtain ⟨j, hj, rfl, hown, hb⟩ := hrel
    have HOW := hide hown
    have HB := hide hb
    have hBr : B ≤ wr.heap.size := Nat.le_trans hB hb.size
    by_cases hlt : j < len
    · have hjI : (j : Int) < (len : Int) := by omega
      obtain ⟨_, h0 | ⟨b, off, rfl, hbw, hcc⟩⟩ := HST.out wr hb
      · omega
      have hck := hcc j hlt
      have hzk := HKK.out (L.getD j 0) (by rw [List.getD_eq_getElem?_getD, List.getElem?_eq_getElem (by omega)]; exact List.getElem_mem _)
      have HSN : Hid (ys ++ Nd.kidsB (L.take (j + 1)) = ys ++ Nd.kidsB (L.take j) ++ Nums.lay (L.getD j 0) 2) := by
        show _ = _
        rw [List.take_succ_eq_append_getElem (by omega), Nd.kidsB_snoc, List.getD_eq_getElem?_getD, List.getElem?_eq_getElem (by omega), List.append_assoc]
        rfl
      have hPl : (ys ++ Nd.kidsB (L.take j)).length ≤ 3000 := by
        rw [List.length_append, Nd.kidsB_length, List.length_take]
        omega
      clear hcc hbw hb hown
      generalize ys ++ Nd.kidsB (L.take j) = P at *
      generalize L.getD j 0 = z at *
      have hzw : IntKind.u64.wrap z = z := by rw [IntKind.wrap_u64]; omega
      have HL := hide (fun W => lay_yes z 2 W (by simp [Lit.wf, IntKind.min, IntKind.max, IntKind.signed, IntKind.bits]; omega) (by decide))
      rw [show ((2 : Nat) : Int) = 2 from rfl] at HL
      have hzl : (Nums.lay z 2).length = 2 := Nums.length_lay 2 z
      generalize Nums.lay z 2 = Z at *
      clear hzk
      go_wp2_with fail
      refine (HL.out _).mono ?_
      rintro e w2 ⟨rfl, rfl⟩
      have HOA : Hid ((wr.alloc (.cells (blk .u8 Z) 5)).ownsRow B 5 1 u0 P.length (P.map (Value.int .u8))) := HOW.out.alloc _
      have HBA : Hid (Below B w (wr.alloc (.cells (blk .u8 Z) 5))) := HB.out.alloc hBr _
      go_wp2_with (refine wpList_append_lies _ rfl _ _ _ rfl B 5 i0 _ 1 1 Try.underlying27 hi hz0 hz1 hz2 rfl (by omega) u0 P.length (P.map (Value.int .u8)) rfl HOA.out ⟨wr.heap.size, 0, none⟩ 2 2 (Z.map (Value.int .u8)) rfl (by simp [hzl]) (fun j u hu => World.news_of_block (cs := blk .u8 Z) (t := 5) (fr := (0, 0)) (heap_alloc_new wr _) j u (by simpa [blk] using hu)) (oneCells _ _) (by omega) (by unfold maxLen; omega) (by omega) (by simp; omega) (wr.heap.size + 1) (by simp) ?_; intro gg cp w5 hown1 hgrow hat hlt1; have HB5 := hide (own_below HOA.out hgrow (by simp; omega) HBA.out (Nat.le_refl _)); have HO5 := hide hown1; clear hgrow hat hlt1 hown1)
      go_roundw
      case rel =>
        refine ⟨j + 1, by omega, by go_num, ?_, HB5.out⟩
        rw [HSN.out, List.length_append, hzl, List.map_append]
        exact HO5.out
      case measure => simp [intOf]; omega
    · have hjI : ¬ (j : Int) < (len : Int) := by omega
      obtain rfl : j = len := by omega
      have hta : L.take j = L := List.take_of_length_le (by omega)
      rw [hta] at HOW
      clear hown hb
      go_wp2_with fail
      go_ret
      exact ⟨u0, rfl, by simpa using HOW.out, HB.out⟩
end Go.Proofs.Ytkmndllomheegaa

namespace Go.Proofs.Ytkmndllomheegaa
set_option linter.unusedVariables false
set_option linter.unusedSimpArgs false
open Go.RowKit

theorem lb_strCells (l : List Int) (hz : Nums.Bytes l) : Lib.strCells (strOfNums l) = l.map (Value.int .u8) := by
  unfold Lib.strCells
  rw [strOfNums_data]
  rw [List.map_map]
  refine List.map_congr_left fun z hm => ?_
  have := hz z hm
  simp
  omega
/-- octets of one's own as an argument. -/
theorem lb_arg_own {w : World} {B : Nat} {v : Value} {n : Nat} {L : List Int} (h : w.ownsRow B 5 1 v n (L.map (Value.int .u8))) (hw : Nums.Bytes L) : ∃ a cap, v = .slice a n cap ∧ Arg .u8 w a n cap L := by
  obtain ⟨a, cap, hv, hle, hmax, hl, hrow⟩ := row_of_own h
  refine ⟨a, cap, hv, hle, hmax, hrow, fun z hz => ?_, ?_⟩
  · have := hw z hz
    simpa [Lit.wf, IntKind.min, IntKind.max, IntKind.signed, IntKind.bits] using this
  · rcases h.2 with ⟨e, _⟩ | ⟨g, c, cur, e, _⟩
    · rw [hv] at e
      injection e with _ _ e3
      exact .inl e3
    · rw [hv] at e
      injection e with e1
      exact .inr ⟨g, 0, e1⟩

set_option maxRecDepth 100000 in
set_option maxHeartbeats 1000000 in
theorem lbput_no (q : Lb.Q) (w : World) (hq : Lb.wfQ q) (hn : q.name.length ≤ 1000000) (hc : (Lit.int .i64 q.count).wf = true) (hr : Lb.rightQ q = false) :
    Calls Try.prog 8 #[.agg (queueC q)] w fun e w' => e = .returned (.tuple #[.slice none 0 0, .bool false]) ∧ Below w.heap.size w w' := by
  obtain ⟨X, hX⟩ : ∃ X, X = w.alloc (.cells (queueC q) 25) := ⟨_, rfl⟩
  have hb0 : Below w.heap.size w X := by rw [hX]; exact (Below.refl _ _).alloc (Nat.le_refl _) _
  have HB0 := hide hb0
  have HSF := hide (queue_size hq)
  have HR := hide (lbright_any q X hq hn hc)
  rw [hr] at HR
  clear hb0 hr hq hc hn
  go_enter Try.func8, Try.ntmps8
  go_wp2_with (refine wpList_load_row_on (by rfl) 25 _ rfl w.heap.size rfl 25 _ (0, 0) _ (heap_alloc_new w _) Try.underlying25 rfl HSF.out ?_)
  rw [← hX]
  clear hX
  refine HR.out.mono ?_
  rintro e w2 ⟨rfl, hb2⟩
  have HB2 := hide (HB0.out.trans (hb2.mono HB0.out.size))
  clear hb2
  go_wp2_with fail
  go_returns
  exact ⟨rfl, HB2.out⟩

set_option maxRecDepth 100000 in
set_option maxHeartbeats 2000000 in
theorem lbput_yes (q : Lb.Q) (w : World) (hq : Lb.wfQ q) (hr : Lb.rightQ q = true) :
    Calls Try.prog 8 #[.agg (queueC q)] w fun e w' => ∃ h c tail, e = .returned (.tuple #[.slice (some ⟨h, 0, none⟩) 64 c, .bool true]) ∧ 64 ≤ c ∧ c ≤ maxLen ∧ w.heap.size ≤ h ∧ w'.heap[h]? = some (.cells ((Lb.blockQ q).map (Value.int .u8) ++ tail).toArray 5 (0, 0)) ∧ Below w.heap.size w w' := by
  obtain ⟨X, hX⟩ : ∃ X, X = w.alloc (.cells (queueC q) 25) := ⟨_, rfl⟩
  have hb0 : Below w.heap.size w X := by rw [hX]; exact (Below.refl _ _).alloc (Nat.le_refl _) _
  have hg0 : X.heap[w.heap.size]? = some (.cells (queueC q) 25 (0, 0)) := by rw [hX]; exact heap_alloc_new w _
  have hlt0 : w.heap.size < X.heap.size := (Array.getElem?_eq_some_iff.1 hg0).1
  have hns := Lb.name_short hq.1 (Lb.right_parts hr).1
  have hcb := (Lb.right_parts hr).2.1
  have hrt := Lb.right_roots hr hq.2
  have HB0 := hide hb0
  have HG0 := hide hg0
  have HSF := hide (queue_size hq)
  have hcw : (Lit.int .i64 q.count).wf = true := wf_of_bd (by omega)
  have HR := hide (lbright_any q X hq (by omega) hcw)
  rw [hr] at HR
  clear hb0 hg0
  go_enter Try.func8, Try.ntmps8
  go_wp2_with (refine wpList_load_row_on (by rfl) 25 _ rfl w.heap.size rfl 25 _ (0, 0) _ (heap_alloc_new w _) Try.underlying25 rfl HSF.out ?_)
  rw [← hX]
  clear hX
  refine HR.out.mono ?_
  rintro e w2 ⟨rfl, hb2⟩
  have hg2 := (hb2.block _ hlt0).trans HG0.out
  have HG2 := hide hg2
  have HB2 := hide (HB0.out.trans (hb2.mono HB0.out.size))
  obtain ⟨c0, c1, c2⟩ := boxed_queue hg2
  have hlt2 : w.heap.size < w2.heap.size := (Array.getElem?_eq_some_iff.1 hg2).1
  have huw : IntKind.u64.wrap q.count = q.count := by rw [IntKind.wrap_u64]; omega
  have HL := hide (fun W => lay_yes q.count 4 W (by simp [Lit.wf, IntKind.min, IntKind.max, IntKind.signed, IntKind.bits]; omega) (by decide))
  rw [show ((4 : Nat) : Int) = 4 from rfl] at HL
  have hZl : (Nums.lay q.count 4).length = 4 := Nums.length_lay 4 _
  obtain ⟨Z, hZ⟩ : ∃ Z, Nums.lay q.count 4 = Z := ⟨_, rfl⟩
  have HBY : Hid (Lb.bodyQ q = Z ++ Nd.kidsB q.roots ++ q.name) := by show _ = _; rw [← hZ]; rfl
  rw [hZ] at HL hZl
  have hOZ : (w2.drew.alloc (.cells (blk .u8 Z) 5)).ownsRow w2.heap.size 5 1 (.slice (some ⟨w2.heap.size, 0, none⟩) 4 4) Z.length (Z.map (Value.int .u8)) := by
    refine ⟨by simp, .inr ⟨w2.heap.size, 4, _, by rw [hZl], Nat.le_refl _, heap_alloc_new w2.drew _, by omega, by unfold maxLen; decide, by rw [size_blk]; omega, ?_⟩⟩
    rw [Nat.mul_one]
    exact List.take_of_length_le (by simp [blk])
  have hBZ : Below w2.heap.size w2 (w2.drew.alloc (.cells (blk .u8 Z) 5)) := (Below.refl w2.heap.size w2).drew.alloc (Nat.le_refl _) _
  have hRW : ∀ W, Below w2.heap.size (w2.drew.alloc (.cells (blk .u8 Z) 5)) W → Row .i64 W (some ⟨w.heap.size, 2, none⟩) 12 q.roots := fun W hb => by
    have hgW := ((hBZ.trans hb).block _ hlt2).trans HG2.out
    exact ⟨hq.2, .inr ⟨_, 2, rfl, (Array.getElem?_eq_some_iff.1 hgW).1, fun i hi => (boxed_queue hgW).2.2 i (by rw [hq.2]; exact hi)⟩⟩
  have hAR : Arg .i64 (w2.drew.alloc (.cells (blk .u8 Z) 5)) (some ⟨w.heap.size, 2, none⟩) 12 12 q.roots := ⟨Nat.le_refl _, by unfold maxLen; decide, hRW _ (Below.refl _ _), fun z hz => wf_of_bd (by have := hrt z hz; omega), .inr ⟨_, _, rfl⟩⟩
  have HY := hide (lblay_any (by simp) _ Z hOZ hAR hRW (by decide) (by omega) hrt)
  have HBZ := hide hBZ
  clear hb2 hg2 c2 hOZ hAR hRW hBZ hrt hcw hr hZ
  go_wp2_with fail
  go_region_law (first
    | (refine step_call2 rfl 22 Try.call22 _ _ _ rfl (.int .u64 q.count) (.int .i64 4) (by go_simp) (by go_simp) (HL.out _) ?_; rintro e w' ⟨rfl, rfl⟩; refine ⟨_, rfl, ?_⟩)
    | (refine step_call2 rfl 21 Try.call21 _ _ _ rfl (.slice (some ⟨w2.heap.size, 0, none⟩) 4 4) (.slice (some ⟨w.heap.size, 2, none⟩) 12 12) (by go_simp) (by go_simp) HY.out ?_; rintro e w3 ⟨cv, rfl, hown3, hb3⟩; refine ⟨_, rfl, ?_⟩))
  all_goals
    have hb3' := HBZ.out.trans hb3
    have hg3 := (hb3'.block _ hlt2).trans HG2.out
    have HG3 := hide hg3
    have HB3 := hide (HB2.out.trans (hb3'.mono HB2.out.size))
    have HO3 := hide hown3
    have hs3 := hb3'.size
    obtain ⟨d0, _, _⟩ := boxed_queue hg3
    have hsz := size_str q.name
    have hsc := lb_strCells q.name hq.1
    have hPl : (Z ++ Nd.kidsB q.roots).length = 28 := by rw [List.length_append, Nd.kidsB_length, hZl, hq.2]
    have HBB := hide (Lb.body_bytes hq)
    have HBL := hide (Lb.body_length hq)
    have HBQ : Hid (Bk.shut 5 (q.name.length : Nat) (Lb.bodyQ q) = Lb.blockQ q) := rfl
    rw [HBY.out] at HBB HBL HBQ
    obtain ⟨i0, hi, hz0, hz1, hz2⟩ := info_parts info_octet
    clear hb3 hb3' hg3 hown3 c0 c1 HY HL HR huw
    obtain ⟨S, hS⟩ : ∃ S, strOfNums q.name = S := ⟨_, rfl⟩
    rw [hS] at d0 hsz hsc
    go_wp2_with (refine Lib.wpList_append_own_string _ rfl _ _ _ _ rfl w2.heap.size 5 i0 Try.underlying27 Try.underlying9 hi hz0 hz1 hz2 cv (Z ++ Nd.kidsB q.roots).length ((Z ++ Nd.kidsB q.roots).map (Value.int .u8)) rfl HO3.out S rfl (by unfold maxLen; omega) (by omega) hs3 ?_; intro cv5 w5 hown5 hgrow hiff; have hne5 := own_block_ne HO3.out hlt2; have hg5 := (hgrow.block w.heap.size (by omega) (Ne.symm hne5)).trans HG3.out; have e0 := (boxed_queue hg5).1; rw [hS] at e0; have HB5 := hide (own_below HO3.out hgrow hs3 HB3.out (Nat.le_of_lt hlt2)); have HO5 := hide hown5; clear hown5 hgrow hiff hne5 hg5 d0)
    have hown5 := HO5.out
    rw [hsc, hsz, ← List.map_append] at hown5
    obtain ⟨ba, bc, rfl, hbA⟩ := lb_arg_own hown5 HBB.out
    have HS := hide (bseal_yes 5 (q.name.length : Nat) (by decide) (by omega) hbA (by omega))
    rw [HBQ.out] at HS
    clear hown5 hbA HG3 HB3 HO3
    refine HS.out.mono ?_
    rintro e w6 ⟨g6, c6, t6, rfl, h64, hcm, hg6, hh6, hb6⟩
    have HH6 := hide hh6
    have HB6 := hide (HB5.out.trans (hb6.mono HB5.out.size))
    have HZ6 : Hid (w.heap.size ≤ g6) := Nat.le_trans HB5.out.size hg6
    clear hh6 hb6 hg6
    go_wp2_with fail
    go_returns
    exact ⟨_, _, _, rfl, h64, hcm, HZ6.out, HH6.out, HB6.out⟩
end Go.Proofs.Ytkmndllomheegaa

namespace Go.Proofs.Ytkmndllomheegaa
set_option linter.unusedVariables false
set_option linter.unusedSimpArgs false
open Go.RowKit

theorem lb_call3 {P : Program} {ops : Array Oper} {o : Oper} {a : Act} {w : World} {K : Act → World → Prop} {Q : Exit → Act → World → Prop} {E : Prop}
    (hgd : o.guard = none) (f : FuncId) (hcf : ∀ args w, (callFunc f args).run P w = .ok (.enter f args) w) (x y z : Operand) (tys : Array TypeId) (hop : o.op = .call { callee := .value (.func f), args := #[x, y, z], argTypes := tys })
    (t u v : Value) (hx : a.eval x = t) (hy : a.eval y = u) (hz : a.eval z = v) {R : Ending → World → Prop} (hc : Calls P f #[t, u, v] w R)
    (h : ∀ e w', R e w' → ∃ v, e = .returned v ∧ K (a.put o.dst v) w') :
    if Region.wanted o (yielded ops a.tmps) = true then Oper.wp P o a w K Q else E :=
  step_call hgd f hcf #[x, y, z] tys hop #[t, u, v] (by simp [hx, hy, hz]) hc h
theorem info_dir : (Try.prog.info? 36).map (·.size) = some 1 := by kernel_rfl
set_option maxRecDepth 100000 in
set_option maxHeartbeats 1000000 in
theorem lbputd_no {w : World} {a : Option Addr} {len cap : Nat} {L : List Int} (hA : Arg .i64 w a len cap L) (hl : len ≤ 1000000) (hr : Lb.rightD L = false) :
    Calls Try.prog 13 #[.agg #[.slice a len cap]] w fun e w' => e = .returned (.tuple #[.slice none 0 0, .bool false]) ∧ Below w.heap.size w w' := by
  obtain ⟨X, hX⟩ : ∃ X, X = w.alloc (.cells #[.slice a len cap] 36) := ⟨_, rfl⟩
  have hb0 : Below w.heap.size w X := by rw [hX]; exact (Below.refl _ _).alloc (Nat.le_refl _) _
  have HB0 := hide hb0
  have HR := hide (lbrightd_any (hA.below hb0) hl)
  rw [hr] at HR
  clear hb0 hr hA
  go_enter Try.func13, Try.ntmps13
  go_wp2_with fail
  rw [← hX]
  clear hX
  refine HR.out.mono ?_
  rintro e w2 ⟨rfl, hb2⟩
  have HB2 := hide (HB0.out.trans (hb2.mono HB0.out.size))
  clear hb2
  go_wp2_with fail
  go_returns
  exact ⟨rfl, HB2.out⟩

set_option maxRecDepth 100000 in
set_option maxHeartbeats 2000000 in
theorem lbputd_yes {w : World} {a : Option Addr} {len cap : Nat} {L : List Int} (hA : Arg .i64 w a len cap L) (hr : Lb.rightD L = true) :
    Calls Try.prog 13 #[.agg #[.slice a len cap]] w fun e w' => ∃ h c tail, e = .returned (.tuple #[.slice (some ⟨h, 0, none⟩) 64 c, .bool true]) ∧ 64 ≤ c ∧ c ≤ maxLen ∧ w.heap.size ≤ h ∧ w'.heap[h]? = some (.cells ((Lb.blockD L).map (Value.int .u8) ++ tail).toArray 5 (0, 0)) ∧ Below w.heap.size w w' := by
  have hLl : L.length = len := hA.2.2.1.1
  obtain ⟨hlb, hkk⟩ := Lb.rightD_parts hr
  rw [hLl] at hlb
  obtain ⟨X, hX⟩ : ∃ X, X = w.alloc (.cells #[.slice a len cap] 36) := ⟨_, rfl⟩
  have hb0 : Below w.heap.size w X := by rw [hX]; exact (Below.refl _ _).alloc (Nat.le_refl _) _
  have hg0 : X.heap[w.heap.size]? = some (.cells #[.slice a len cap] 36 (0, 0)) := by rw [hX]; exact heap_alloc_new w _
  have hlt0 : w.heap.size < X.heap.size := (Array.getElem?_eq_some_iff.1 hg0).1
  have hAX := hA.below hb0
  have HB0 := hide hb0
  have HG0 := hide hg0
  have HR := hide (lbrightd_any hAX (by omega))
  rw [hr] at HR
  have HAX := hide hAX
  clear hb0 hg0 hA hAX hr
  go_enter Try.func13, Try.ntmps13
  go_wp2_with fail
  rw [← hX]
  clear hX
  refine HR.out.mono ?_
  rintro e w2 ⟨rfl, hb2⟩
  have hg2 := (hb2.block _ hlt0).trans HG0.out
  have HG2 := hide hg2
  have HB2 := hide (HB0.out.trans (hb2.mono HB0.out.size))
  have hA2 := HAX.out.below hb2
  have c0 : w2.cell? ⟨w.heap.size, 0, none⟩ = some (.slice a len cap) := by simp [World.cell?, hg2]
  have hlt2 : w.heap.size < w2.heap.size := (Array.getElem?_eq_some_iff.1 hg2).1
  have c0d : w2.drew.cell? ⟨w.heap.size, 0, none⟩ = some (.slice a len cap) := c0
  have hbd : Below w2.heap.size w2 w2.drew := (Below.refl _ _).drew
  have hY := lblay_any (w := w2.drew) (B := w2.heap.size) (Nat.le_refl _) (.slice none 0 0) [] ⟨rfl, .inl ⟨rfl, rfl⟩⟩ (hA2.below hbd) (fun W hb => (hA2.below (hbd.trans hb)).2.2.1) (by omega) (by decide) (fun x hx => by have := hkk x hx; omega)
  rw [List.nil_append, Nd.kidsB_length] at hY
  have HY := hide hY
  have HKL : Hid ((Nd.kidsB L).length ≤ 56) := by show _ ≤ _; rw [Nd.kidsB_length]; omega
  have HBB := hide (Nd.kidsB_bytes L)
  have HKE := hide (Nd.kidsB_length L)
  have HBQ : Hid (Bk.shut 6 (len : Nat) (Nd.kidsB L) = Lb.blockD L) := by show _ = _; rw [← hLl]; rfl
  have HC3 : Hid (∀ w3, Below w2.heap.size w2.drew w3 → w3.cell? ⟨w.heap.size, 0, none⟩ = some (.slice a len cap)) := fun w3 hb => by
    have hg3 := (hb.block w.heap.size hlt2).trans hg2
    simp [World.cell?, hg3]
  have HBD := hide hbd
  have HT1 : Hid (0 ≤ (len : Int) ∧ (len : Int) ≤ 255) := by show _ ∧ _; omega
  have HSE : Hid (∀ w3 cv, Below w2.heap.size w2.drew w3 → w3.ownsRow w2.heap.size 5 1 cv (2 * L.length) ((Nd.kidsB L).map (Value.int .u8)) → Calls Try.prog 23 #[.int .i64 6, .int .i64 len, cv] w3 fun e w' => ∃ g c tail, e = .returned (.tuple #[.slice (some ⟨g, 0, none⟩) 64 c, .bool true]) ∧ 64 ≤ c ∧ c ≤ maxLen ∧ w3.heap.size ≤ g ∧ w'.heap[g]? = some (.cells ((Lb.blockD L).map (Value.int .u8) ++ tail).toArray 5 (0, 0)) ∧ Below w3.heap.size w3 w') := fun w3 cv hb3 ho => by
    obtain ⟨ba, bc, rfl, hbA⟩ := lb_arg_own ho HBB.out
    rw [← HBQ.out]
    exact bseal_yes 6 (len : Nat) (by decide) HT1.out hbA (by rw [← HKE.out]; exact HKL.out)
  clear hb2 hg2 hbd hY hA2 hkk
  go_wp2_with fail
  go_region_law (first
    | (refine step_call2 rfl 21 Try.call21 _ _ _ rfl (.slice none 0 0) (.slice a len cap) (by go_simp) (by go_simp) HY.out ?_; rintro e w3 ⟨cv, rfl, hown3, hb3⟩; refine ⟨_, rfl, ?_⟩; have c3 := HC3.out w3 hb3; have HO3 := hide hown3; have HB3 := hide hb3; clear hown3 hb3)
    | (refine lb_call3 rfl 23 Try.call23 _ _ _ _ rfl (.int .i64 6) (.int .i64 len) cv (by go_simp) (by go_simp) (by go_simp) (HSE.out _ _ HB3.out HO3.out) ?_; rintro e w6 ⟨g6, c6, t6, rfl, h64, hcm, hg6, hh6, hb6⟩; refine ⟨_, rfl, ?_⟩; have HH6 := hide hh6; have HB6 := hide hb6; have HZ6 := hide hg6; clear hh6 hb6 hg6))
  all_goals
    have hb3' := HBD.out.trans (HB3.out.trans (HB6.out.mono (by have := HB3.out.size; exact this)))
    go_wp2_with fail
    go_returns
    exact ⟨_, _, _, rfl, h64, hcm, Nat.le_trans (Nat.le_trans HB2.out.size HB3.out.size) HZ6.out, HH6.out, HB2.out.trans (hb3'.mono HB2.out.size)⟩
end Go.Proofs.Ytkmndllomheegaa

namespace Go.Proofs.Ytkmndllomheegaa
set_option linter.unusedVariables false
set_option linter.unusedSimpArgs false
open Go.RowKit

set_option maxHeartbeats 1000000 in
theorem lbnfrom_any {w : World} {a : Option Addr} {len cap : Nat} {zs : List Int} (hA : Arg .u8 w a len cap zs) (p : Nat) (hl : len ≤ 1000) (hp : p ≤ 1000) :
    Calls Try.prog 29 #[.slice a len cap, .int .i64 p] w fun e w' => e = .returned (.bool (decide (p ≤ len) && zeroB (zs.drop p))) ∧ w' = w := by
  have hz := hA.bytes
  have hzl : zs.length = len := hA.2.2.1.1
  by_cases h : p ≤ len
  · have HN := hide (noughts_yes a len cap p (len - p) zs w (by unfold maxLen; omega) hA.1 hA.2.2.1 hz (by omega))
    rw [List.take_of_length_le (by simp; omega)] at HN
    have hd : decide (p ≤ len) = true := decide_eq_true h
    have hw : IntKind.i64.wrap ((len : Int) - (p : Int)) = ((len - p : Nat) : Int) := by rw [IntKind.wrap_i64]; omega
    clear hA hz
    generalize zeroB (zs.drop p) = q at *
    rw [hd, Bool.true_and]
    generalize len - p = n at *
    go_enter Try.func29, Try.ntmps29
    go_wp2_with fail
    refine HN.out.mono ?_
    rintro e w2 ⟨rfl, hw2⟩
    obtain rfl := hw2.symm
    go_wp2_with fail
    go_ret
    exact ⟨rfl, rfl⟩
  · have HN := hide (noughts_no a len cap p ((len : Int) - p) w (by unfold maxLen; omega) (wf_nat (by omega)) (wf_of_bd (by omega)) (by simp [hasB]; omega))
    have hd : decide (p ≤ len) = false := decide_eq_false h
    have hw : IntKind.i64.wrap ((len : Int) - (p : Int)) = ((len : Int) - (p : Int)) := by rw [IntKind.wrap_i64]; omega
    clear hA hz
    rw [hd, Bool.false_and]
    go_enter Try.func29, Try.ntmps29
    go_wp2_with fail
    refine HN.out.mono ?_
    rintro e w2 ⟨rfl, hw2⟩
    obtain rfl := hw2.symm
    go_wp2_with fail
    go_ret
    exact ⟨rfl, rfl⟩

set_option maxRecDepth 100000 in
set_option maxHeartbeats 1000000 in
theorem lbtaker_any (w : World) (a : Option Addr) (len cap : Nat) :
    Calls Try.prog 45 #[.slice a len cap] w fun e w' => e = .returned (.func (.func 58) #[] #[.pointer (some ⟨w.heap.size, 0, none⟩), .pointer (some ⟨w.heap.size + 1, 0, none⟩)]) ∧ w'.heap[w.heap.size]? = some (.cells #[.slice a len cap] 27 (0, 0)) ∧ w'.heap[w.heap.size + 1]? = some (.cells #[.int .i64 0] 3 (0, 0)) ∧ w'.heap.size = w.heap.size + 2 ∧ Below w.heap.size w w' := by
  go_enter Try.func45, Try.ntmps45
  go_wp2_with fail
  go_ret
  have h1 : ((w.alloc (.cells #[.slice a len cap] 27)).alloc (.cells #[.int .i64 0] 3)).heap[w.heap.size]? = some (.cells #[.slice a len cap] 27 (0, 0)) := (Below.heap_alloc _ _ _ (by simp)).trans (heap_alloc_new w _)
  have h2 : ((w.alloc (.cells #[.slice a len cap] 27)).alloc (.cells #[.int .i64 0] 3)).heap[w.heap.size + 1]? = some (.cells #[.int .i64 0] 3 (0, 0)) := by
    have := heap_alloc_new (w.alloc (.cells #[.slice a len cap] 27)) (.cells #[.int .i64 0] 3)
    simpa using this
  exact ⟨rfl, h1, h2, by simp, ((Below.refl _ _).alloc (Nat.le_refl _) _).alloc (by simp) _⟩

/-- what a taker leans on, in memory: the body, and how far it was read. -/
structure Tk (W : World) (gb : Nat) (a : Option Addr) (len cap p : Nat) : Prop where
  body : W.heap[gb]? = some (.cells #[.slice a len cap] 27 (0, 0))
  at_ : W.heap[gb + 1]? = some (.cells #[.int .i64 p] 3 (0, 0))
theorem Tk.lt {W : World} {gb : Nat} {a : Option Addr} {len cap p : Nat} (h : Tk W gb a len cap p) : gb + 1 < W.heap.size := (Array.getElem?_eq_some_iff.1 h.at_).1
theorem Tk.other {W W' : World} {gb : Nat} {a : Option Addr} {len cap p : Nat} (h : Tk W gb a len cap p) (h' : ∀ k, k < gb + 2 → W'.heap[k]? = W.heap[k]?) : Tk W' gb a len cap p := ⟨(h' _ (by omega)).trans h.body, (h' _ (by omega)).trans h.at_⟩

theorem lb_rd4 {zs : List Int} (hz : Nums.Bytes zs) (p n : Nat) (hn : n ≤ 4) : 0 ≤ Nums.rd ((zs.drop p).take n) ∧ Nums.rd ((zs.drop p).take n) < 4294967296 := by
  have h := Nums.rd_bounds _ (Nums.bytes_take (Nums.bytes_drop hz p) n)
  have hq : (256 : Int) ^ ((zs.drop p).take n).length ≤ 256 ^ 4 := by
    rw [show (256 : Int) ^ ((zs.drop p).take n).length = ((256 ^ ((zs.drop p).take n).length : Nat) : Int) from (Int.natCast_pow 256 _).symm, show (256 : Int) ^ 4 = ((256 ^ 4 : Nat) : Int) from rfl]
    exact Int.ofNat_le.2 (Nat.pow_le_pow_right (by decide) (by simp; omega))
  have e : (256 : Int) ^ 4 = 4294967296 := by decide
  omega

set_option maxRecDepth 100000 in
set_option maxHeartbeats 1000000 in
theorem lbtake_any (n p : Nat) (w : World) (gb : Nat) (a : Option Addr) (len cap : Nat) (zs : List Int) (hA : Arg .u8 w a len cap zs) (hT : Tk w gb a len cap p) (hl : len ≤ 1000) (hn : 1 ≤ n) (hn4 : n ≤ 4) (hpn : p + n ≤ len) :
    Calls Try.prog 58 #[.int .i64 n, .pointer (some ⟨gb, 0, none⟩), .pointer (some ⟨gb + 1, 0, none⟩)] w fun e w' => e = .returned (.int .i64 (Nums.rd ((zs.drop p).take n))) ∧ w' = w.setCell ⟨gb + 1, 0, none⟩ (.int .i64 (p + n : Nat)) := by
  have hz := hA.bytes
  obtain ⟨hb, ha⟩ := hT
  have c0 : w.cell? ⟨gb, 0, none⟩ = some (.slice a len cap) := by simp [World.cell?, hb]
  have c1 : w.cell? ⟨gb + 1, 0, none⟩ = some (.int .i64 p) := by simp [World.cell?, ha]
  have f1 : w.frozen? ⟨gb + 1, 0, none⟩ = false := by simp [World.frozen?, ha]
  have HG := hide (get_yes a len cap p n zs w (by unfold maxLen; omega) hA.1 hA.2.2.1 hz hn (by omega) hpn)
  have hy := lb_rd4 hz p n hn4
  have HA := hide ha
  have HB := hide hb
  clear hA hb ha hz
  generalize Nums.rd ((zs.drop p).take n) = y at *
  have hw : IntKind.i64.wrap y = y := by rw [IntKind.wrap_i64]; omega
  have hpI : (p : Int) + (n : Int) ≤ 1000 := by omega
  go_enter Try.func58, Try.ntmps58
  go_wp2_with fail
  refine HG.out.mono ?_
  rintro e w1 ⟨rfl, hw1⟩
  obtain rfl := hw1.symm
  go_wp2_with fail
  go_ret
  exact ⟨rfl, rfl⟩
theorem Tk.more {W : World} {gb : Nat} {a : Option Addr} {len cap p : Nat} (h : Tk W gb a len cap p) (q : Nat) : Tk (W.setCell ⟨gb + 1, 0, none⟩ (.int .i64 (q : Nat))) gb a len cap q := by
  refine ⟨?_, ?_⟩
  · rw [heap_set_other (by omega)]; exact h.body
  · rw [heap_set h.at_]; simp
/-- a cell set, memory made: in either order. -/
theorem setCell_alloc (w : World) (p : Addr) (u : Value) (o : Obj) (h : p.block < w.heap.size) : (w.alloc o).setCell p u = (w.setCell p u).alloc o := by
  unfold World.setCell World.alloc
  congr 1
  apply Array.ext
  · simp
  · intro k h1 h2
    simp only [Array.getElem_modify, Array.getElem_push]
    by_cases hk : k < w.heap.size
    · simp [hk]
    · have : w.heap.size = k := by simp at h1; omega
      simp [this]
      intro e
      omega
end Go.Proofs.Ytkmndllomheegaa

namespace Go.Proofs.Ytkmndllomheegaa
set_option linter.unusedVariables false
set_option linter.unusedSimpArgs false
open Go.RowKit

set_option maxRecDepth 100000 in
set_option maxHeartbeats 2000000 in
theorem lbreadq_any {w : World} {a : Option Addr} {len cap : Nat} {zs : List Int} (hA : Arg .u8 w a len cap zs) (t : Nat) (hlen : len = 28 + t) (ht : t ≤ 28) (hcap : 29 ≤ cap) :
    Calls Try.prog 30 #[.slice a len cap] w fun e w' => e = .returned (.agg (queueC (Lb.parseQ zs t))) ∧ Below w.heap.size w w' := by
  have hz := hA.bytes
  have hne28 : ¬ cap = 28 := by omega
  obtain ⟨X, hX⟩ : ∃ X, X = w.alloc (.cells #[Value.string ⟨#[]⟩, Value.int .i64 0, Value.int .i64 0, Value.int .i64 0, Value.int .i64 0, Value.int .i64 0, Value.int .i64 0, Value.int .i64 0, Value.int .i64 0, Value.int .i64 0, Value.int .i64 0, Value.int .i64 0, Value.int .i64 0, Value.int .i64 0] 25) := ⟨_, rfl⟩
  have hb0 : Below w.heap.size w X := by rw [hX]; exact (Below.refl _ _).alloc (Nat.le_refl _) _
  have hg0 : X.heap[w.heap.size]? = some (.cells (queueC Lb.nilQ) 25 (0, 0)) := by rw [hX]; exact heap_alloc_new w _
  have HB0 := hide hb0
  have HG0 := hide hg0
  have HTK := hide (lbtaker_any X a len cap)
  have hsub : len - 28 = t := by omega
  have h28 : (28 : Int) ≤ (len : Int) := by omega
  have hlc : (len : Int) ≤ (cap : Int) := by have := hA.1; omega
  have HLEN := hide hlen
  clear hlen
  clear hb0 hg0
  go_enter Try.func30, Try.ntmps30
  go_wp2_with fail
  rw [← hX]
  clear hX
  refine HTK.out.mono ?_
  rintro e w1 ⟨rfl, hb1, hb2, hs1, hbl⟩
  have HBL := hide hbl
  have hwX : w.heap.size ≤ X.heap.size := HB0.out.size
  have hT0 : Tk w1.drew X.heap.size a len cap 0 := ⟨hb1, hb2⟩
  have hT1 : Tk (w1.drew.alloc (.cells #[Value.string ⟨#[]⟩, Value.int .i64 0, Value.int .i64 0, Value.int .i64 0, Value.int .i64 0, Value.int .i64 0, Value.int .i64 0, Value.int .i64 0, Value.int .i64 0, Value.int .i64 0, Value.int .i64 0, Value.int .i64 0, Value.int .i64 0, Value.int .i64 0] 25)) X.heap.size a len cap 0 := hT0.other (fun k hk => Below.heap_alloc _ _ _ (by show k < w1.heap.size; omega))
  have HT0 := hide hT0
  have HT1 := hide hT1
  have HBw : Hid (Below w.heap.size w w1) := HB0.out.trans (hbl.mono hwX)
  obtain ⟨_, h0 | ⟨b, off, rfl, hbw, hcc⟩⟩ := hA.2.2.1
  · omega
  have hrow : Row .u8 w (some ⟨b, off + 28, none⟩) t ((zs.drop 28).take t) := ⟨by have := hA.2.2.1.1; simp; omega, .inr ⟨b, off + 28, rfl, hbw, fun i hi => by
    have := hcc (28 + i) (by omega)
    rw [← Nat.add_assoc] at this
    rw [this]
    simp [List.getD_eq_getElem?_getD, List.getElem?_take, hi]⟩⟩
  have HKC : Hid (∀ W, Below w.heap.size w W → (convert 27 9 (.slice (some ⟨b, off + 28, none⟩) t (cap - 28))).run Try.prog W = .ok (.string (strOfNums ((zs.drop 28).take t))) W) := fun W hb => conv_bytes _ (hrow.below hb)
  have HY := hide (fun W (hT : Tk W X.heap.size (some ⟨b, off, none⟩) len cap 0) (hb : Below w.heap.size w W) => lbtake_any 4 0 W X.heap.size _ len cap zs (hA.below hb) hT (by omega) (by decide) (by decide) (by omega))
  rw [show ((4 : Nat) : Int) = 4 from rfl] at HY
  have HS1 := hide hs1
  have HAA := hide hA
  clear hb1 hb2 hbl hT0 hT1 hrow hcc hbw hA hs1
  obtain ⟨N, hN⟩ : ∃ N, strOfNums ((zs.drop 28).take t) = N := ⟨_, rfl⟩
  rw [hN] at HKC
  have HN := hide hN
  clear hN
  obtain ⟨x0, hx0⟩ : ∃ x, Nums.rd ((zs.drop 0).take 4) = x := ⟨_, rfl⟩
  rw [hx0] at HY
  have HX0 := hide hx0
  clear hx0
  obtain ⟨V, hV⟩ : ∃ V, V = w1.drew.setCell ⟨X.heap.size + 1, 0, none⟩ (.int .i64 ((0 + 4 : Nat) : Int)) := ⟨_, rfl⟩
  have hT4 : Tk V X.heap.size (some ⟨b, off, none⟩) len cap (0 + 4) := by rw [hV]; exact HT0.out.more 4
  have HT4 := hide hT4
  have hVs : V.heap.size = w1.heap.size := by rw [hV]; simp [World.setCell]
  have hVs' : w1.heap.size = V.heap.size := hVs.symm
  have hbV : Below w.heap.size w V := by rw [hV]; exact HBw.out.drew.setCell (p := ⟨X.heap.size + 1, 0, none⟩) (by show w.heap.size ≤ X.heap.size + 1; omega) _
  have hcm : (w1.drew.alloc (.cells #[Value.string ⟨#[]⟩, Value.int .i64 0, Value.int .i64 0, Value.int .i64 0, Value.int .i64 0, Value.int .i64 0, Value.int .i64 0, Value.int .i64 0, Value.int .i64 0, Value.int .i64 0, Value.int .i64 0, Value.int .i64 0, Value.int .i64 0, Value.int .i64 0] 25)).setCell ⟨X.heap.size + 1, 0, none⟩ (.int .i64 ((0 + 4 : Nat) : Int)) = V.alloc (.cells #[Value.string ⟨#[]⟩, Value.int .i64 0, Value.int .i64 0, Value.int .i64 0, Value.int .i64 0, Value.int .i64 0, Value.int .i64 0, Value.int .i64 0, Value.int .i64 0, Value.int .i64 0, Value.int .i64 0, Value.int .i64 0, Value.int .i64 0, Value.int .i64 0] 25) := by
    rw [hV]
    exact setCell_alloc w1.drew _ _ _ (by show X.heap.size + 1 < w1.heap.size; have := HS1.out; omega)
  have HXV : Hid (Below X.heap.size X V) := by show Below _ _ _; rw [hV]; exact HBL.out.drew.setCell (p := ⟨X.heap.size + 1, 0, none⟩) (Nat.le_succ _) _
  have HV := hide hV
  have HCM := hide hcm
  have HBV := hide hbV
  clear hV hcm hbV hVs hT4
  go_wp2_with fail
  go_region_held_law (fun w' => (convert 27 9 (.slice (some ⟨b, off + 28, none⟩) t (cap - 28))).run Try.prog w' = .ok (.string N) w')
    (first | exact HKC.out _ HBw.out.drew | exact HKC.out _ HBw.out | exact HKC.out _ (HBw.out.drew.alloc HBw.out.size _) | exact HKC.out _ HBV.out | exact HKC.out _ (HBV.out.alloc HBV.out.size _))
    (first
      | (go_at_call 58; refine (HY.out _ HT0.out HBw.out.drew).mono ?_; rintro e w5 ⟨rfl, hw5⟩; obtain rfl : V = w5 := (hw5.trans HV.out.symm).symm; clear hw5)
      | (go_at_call 58; refine (HY.out _ HT1.out (HBw.out.drew.alloc HBw.out.size _)).mono ?_; rintro e w5 ⟨rfl, hw5⟩; obtain rfl : V.alloc (.cells #[Value.string ⟨#[]⟩, Value.int .i64 0, Value.int .i64 0, Value.int .i64 0, Value.int .i64 0, Value.int .i64 0, Value.int .i64 0, Value.int .i64 0, Value.int .i64 0, Value.int .i64 0, Value.int .i64 0, Value.int .i64 0, Value.int .i64 0, Value.int .i64 0] 25) = w5 := (hw5.trans HCM.out).symm; clear hw5))
  all_goals
    have HQ0 : Hid (#[Value.string N, Value.int .i64 x0, Value.int .i64 0, Value.int .i64 0, Value.int .i64 0, Value.int .i64 0, Value.int .i64 0, Value.int .i64 0, Value.int .i64 0, Value.int .i64 0, Value.int .i64 0, Value.int .i64 0, Value.int .i64 0, Value.int .i64 0] = queueC ⟨(zs.drop 28).take t, x0, List.replicate 12 0⟩) := by
      show _ = _
      rw [← HN.out]
      rfl
    obtain ⟨Y, hY⟩ : ∃ Y, Y = V.alloc (.cells #[Value.string N, Value.int .i64 x0, Value.int .i64 0, Value.int .i64 0, Value.int .i64 0, Value.int .i64 0, Value.int .i64 0, Value.int .i64 0, Value.int .i64 0, Value.int .i64 0, Value.int .i64 0, Value.int .i64 0, Value.int .i64 0, Value.int .i64 0] 25) := ⟨_, rfl⟩
    have hgY : Y.heap[V.heap.size]? = some (.cells (queueC ⟨(zs.drop 28).take t, x0, Lb.rootsOf zs 0 ++ List.replicate 12 0⟩) 25 (0, 0)) := by
      rw [hY, heap_alloc_new, HQ0.out]
      rfl
    have hVX : X.heap.size + 1 < V.heap.size := HT4.out.lt
    have hTY : Tk Y X.heap.size (some ⟨b, off, none⟩) len cap (4 + 2 * 0) := HT4.out.other (fun k hk => by rw [hY]; exact Below.heap_alloc _ _ _ (by omega))
    have hbY : Below X.heap.size X Y := by rw [hY]; exact HXV.out.alloc HXV.out.size _
    have HGY := hide hgY
    have HTY := hide hTY
    have HBY := hide hbY
    have HVX := hide hVX
    clear hgY hTY hbY hVX hVs'
    go_wp2_with fail
    rw [← hY]
    clear hY
    obtain ⟨G, hG⟩ : ∃ G, V.heap.size = G := ⟨_, rfl⟩
    rw [hG] at HGY HVX ⊢
    clear hG
    go_loopw [14] (fun i wr => ∃ j : Nat, j ≤ 12 ∧ i = .int .i64 j ∧ wr.heap[G]? = some (.cells (queueC ⟨(zs.drop 28).take t, x0, Lb.rootsOf zs j ++ List.replicate (12 - j) 0⟩) 25 (0, 0)) ∧ Tk wr X.heap.size (some ⟨b, off, none⟩) len cap (4 + 2 * j) ∧ Below X.heap.size X wr) (fun i _ => 12 - (intOf i).toNat)
    case atStart => exact ⟨0, Nat.zero_le _, rfl, HGY.out, HTY.out, HBY.out⟩
    case round =>
      obtain ⟨j, hj, rfl, hgr, hTr, hbr⟩ := hrel
      have HGR := hide hgr
      have HTR := hide hTr
      have HBR := hide hbr
      have hbw : Below w.heap.size w wr := HB0.out.trans (hbr.mono hwX)
      by_cases hlt : j < 12
      · have hjI : (j : Int) < 12 := by omega
        have HYJ := hide (lbtake_any 2 (4 + 2 * j) wr X.heap.size _ len cap zs (HAA.out.below hbw) hTr (by have := HLEN.out; omega) (by decide) (by decide) (by have := HLEN.out; omega))
        rw [show ((2 : Nat) : Int) = 2 from rfl] at HYJ
        have HFS := hide (Lb.rootsOf_succ zs j)
        obtain ⟨xj, hxj⟩ : ∃ x, Nums.rd ((zs.drop (4 + 2 * j)).take 2) = x := ⟨_, rfl⟩
        rw [hxj] at HYJ HFS
        obtain ⟨V2, hV2⟩ : ∃ V2, V2 = wr.setCell ⟨X.heap.size + 1, 0, none⟩ (.int .i64 ((4 + 2 * j + 2 : Nat) : Int)) := ⟨_, rfl⟩
        have hg2 : V2.heap[G]? = some (.cells (queueC ⟨(zs.drop 28).take t, x0, Lb.rootsOf zs j ++ List.replicate (12 - j) 0⟩) 25 (0, 0)) := by
          rw [hV2, heap_set_other (by have := HVX.out; omega)]
          exact hgr
        have hT2 : Tk V2 X.heap.size (some ⟨b, off, none⟩) len cap (4 + 2 * j + 2) := by rw [hV2]; exact hTr.more _
        have hb2 : Below X.heap.size X V2 := by rw [hV2]; exact hbr.setCell (p := ⟨X.heap.size + 1, 0, none⟩) (Nat.le_succ _) _
        have cj := (boxed_queue hg2).2.2 j (by simp [Lb.rootsOf]; omega)
        have fj : V2.frozen? ⟨G, 2 + j, none⟩ = false := by simp [World.frozen?, hg2]
        have HG2 := hide hg2
        have HT2 := hide hT2
        have HB2 := hide hb2
        have HV2 := hide hV2
        have HST : Hid ((Lb.rootsOf zs j ++ List.replicate (12 - j) 0).set j xj = Lb.rootsOf zs (j + 1) ++ List.replicate (12 - (j + 1)) 0) := by
          show _ = _
          rw [HFS.out]
          obtain ⟨m, hm⟩ : ∃ m, 12 - j = m + 1 := ⟨12 - j - 1, by omega⟩
          rw [hm, show 12 - (j + 1) = m by omega, List.replicate_succ]
          have hlj : (Lb.rootsOf zs j).length = j := by simp [Lb.rootsOf]
          rw [List.set_append_right _ _ (by omega), hlj]
          simp
        generalize (Lb.rootsOf zs j ++ List.replicate (12 - j) 0).getD j 0 = old at cj
        clear hgr hTr hbr hbw hxj hV2 hg2 hT2 hb2
        go_wp2_with fail
        refine HYJ.out.mono ?_
        rintro e w6 ⟨rfl, hw6⟩
        obtain rfl : V2 = w6 := (hw6.trans HV2.out.symm).symm
        clear hw6
        go_wp2_with fail
        go_roundw
        case rel =>
          refine ⟨j + 1, by omega, by go_num, by rw [heap_set HG2.out, queueC_set, HST.out], ?_, HB2.out.setCell (p := ⟨G, 2 + j, none⟩) (by show X.heap.size ≤ G; have := HVX.out; omega) _⟩
          have := HT2.out.other (W' := V2.setCell ⟨G, 2 + j, none⟩ (.int .i64 xj)) (fun k hk => heap_set_other (by have := HVX.out; omega) _ _)
          exact this
        case measure => simp [intOf]; omega
      · have hjI : ¬ (j : Int) < 12 := by omega
        obtain rfl : j = 12 := by omega
        have hwf := Lb.parse_wf hz t
        have hPQ : (⟨(zs.drop 28).take t, x0, Lb.rootsOf zs 12⟩ : Lb.Q) = Lb.parseQ zs t := by
          rw [← HX0.out, List.drop_zero]
          rfl
        have hgF : wr.heap[G]? = some (.cells (queueC (Lb.parseQ zs t)) 25 (0, 0)) := by
          have := hgr
          rw [Nat.sub_self, List.replicate_zero, List.append_nil, hPQ] at this
          exact this
        have HGx := hide hgF
        have HG9 : Hid (wr.heap[w.heap.size]? = some (.cells (queueC Lb.nilQ) 25 (0, 0))) := (hbr.block _ (Array.getElem?_eq_some_iff.1 HG0.out).1).trans HG0.out
        have HB9 := hide hbw
        have HSF := hide (queue_size hwf)
        have HSQ : Hid ((queueC Lb.nilQ).size = (queueC (Lb.parseQ zs t)).size) := by show _ = _; rw [queueC_size, queueC_size, hwf.2]; rfl
        clear hgr hTr hbr hbw hgF hwf hPQ
        obtain ⟨F, hF⟩ : ∃ F, Lb.parseQ zs t = F := ⟨_, rfl⟩
        rw [hF] at HGx HSF HSQ
        have HF := hide hF
        clear hF
        go_wp2_with (first | (refine wpList_load_row rfl 25 _ rfl G rfl 25 (queueC F) (0, 0) _ HGx.out Try.underlying25 rfl HSF.out ?_) | (refine wpList_store_row rfl 25 _ _ rfl w.heap.size (queueC F) rfl rfl 25 (queueC Lb.nilQ) HG9.out HSF.out HSQ.out (queueC_one F) ?_))
        (try simp only [Exit.inBlock, Exit.then]); refine bodyPost_ret (results_cell_row rfl _ _ w.heap.size 25 (queueC F) (0, 0) _ rfl (setRow_heap _ _ _ _ _ _ HG9.out) Try.underlying25 rfl HSF.out) rfl ?_
        exact ⟨by rw [HF.out], below_setRow HB9.out (Nat.le_refl _) _⟩
end Go.Proofs.Ytkmndllomheegaa

namespace Go.Proofs.Ytkmndllomheegaa
set_option linter.unusedVariables false
set_option linter.unusedSimpArgs false
open Go.RowKit

theorem lb_piece_take (s : List Int) (n p m : Nat) (h : p + m ≤ n) : ((s.take n).drop p).take m = (s.drop p).take m := by
  rw [List.drop_take, List.take_take, Nat.min_eq_left (by omega)]
theorem lb_parse_take (s : List Int) (t : Nat) : Lb.parseQ (s.take (28 + t)) t = Lb.parseQ s t := by
  unfold Lb.parseQ Lb.rootsOf
  rw [lb_piece_take s (28 + t) 28 t (Nat.le_refl _), List.take_take, Nat.min_eq_left (by omega)]
  congr 1
  refine List.map_congr_left fun i hi => ?_
  rw [lb_piece_take s (28 + t) (4 + 2 * i) 2 (by have := List.mem_range.1 hi; omega)]
/-- the head of an argument. -/
theorem lb_arg_head {k : IntKind} {w : World} {a : Option Addr} {len cap : Nat} {zs : List Int} (h : Arg k w a len cap zs) (n : Nat) (hn : n ≤ len) : Arg k w a n cap (zs.take n) :=
  ⟨Nat.le_trans hn h.1, h.2.1, h.2.2.1.headRow n hn, fun z hz => h.2.2.2.1 z (List.mem_of_mem_take hz), h.2.2.2.2⟩

set_option maxRecDepth 100000 in
set_option maxHeartbeats 2000000 in
theorem lbget_shut {w : World} {a : Option Addr} {len cap : Nat} {zs : List Int} (hA : Arg .u8 w a len cap zs) (hl : len ≤ 1000) (h : Bk.isB zs = false) :
    Calls Try.prog 11 #[.slice a len cap] w fun e w' => e = .returned (.tuple #[.agg (queueC Lb.nilQ), .bool false]) ∧ Below w.heap.size w w' := by
  obtain ⟨X, hX⟩ : ∃ X, X = w.alloc (.cells #[Value.string ⟨#[]⟩, Value.int .i64 0, Value.int .i64 0, Value.int .i64 0, Value.int .i64 0, Value.int .i64 0, Value.int .i64 0, Value.int .i64 0, Value.int .i64 0, Value.int .i64 0, Value.int .i64 0, Value.int .i64 0, Value.int .i64 0, Value.int .i64 0] 25) := ⟨_, rfl⟩
  have hb0 : Below w.heap.size w X := by rw [hX]; exact (Below.refl _ _).alloc (Nat.le_refl _) _
  have hg0 : X.heap[w.heap.size]? = some (.cells (queueC Lb.nilQ) 25 (0, 0)) := by rw [hX]; exact heap_alloc_new w _
  have HB0 := hide hb0
  have HG0 := hide hg0
  have hlt0 : w.heap.size < X.heap.size := (Array.getElem?_eq_some_iff.1 hg0).1
  have HO := hide (bopen_no (hA.below hb0) hl h)
  clear hb0 hg0 hA
  go_enter Try.func11, Try.ntmps11
  go_wp2_with fail
  rw [← hX]
  clear hX
  refine HO.out.mono ?_
  rintro e w1 ⟨rfl, hb1⟩
  have HG9 := hide ((hb1.block _ hlt0).trans HG0.out)
  have HB9 := hide (HB0.out.trans (hb1.mono HB0.out.size))
  clear hb1
  go_wp2_with (refine wpList_store_row rfl 25 _ _ rfl w.heap.size #[Value.string ⟨#[]⟩, Value.int .i64 0, Value.int .i64 0, Value.int .i64 0, Value.int .i64 0, Value.int .i64 0, Value.int .i64 0, Value.int .i64 0, Value.int .i64 0, Value.int .i64 0, Value.int .i64 0, Value.int .i64 0, Value.int .i64 0, Value.int .i64 0] rfl rfl 25 (queueC Lb.nilQ) HG9.out info_queue rfl (queueC_one Lb.nilQ) ?_)
  (try simp only [Exit.inBlock, Exit.then]); refine bodyPost_ret (results_row rfl Try.underlying25 _ _ w.heap.size #[Value.string ⟨#[]⟩, Value.int .i64 0, Value.int .i64 0, Value.int .i64 0, Value.int .i64 0, Value.int .i64 0, Value.int .i64 0, Value.int .i64 0, Value.int .i64 0, Value.int .i64 0, Value.int .i64 0, Value.int .i64 0, Value.int .i64 0, Value.int .i64 0] rfl (setRow_heap _ _ _ _ _ _ HG9.out) info_queue) rfl ?_
  exact ⟨rfl, below_setRow HB9.out (Nat.le_refl _) _⟩

set_option maxRecDepth 100000 in
set_option maxHeartbeats 2000000 in
theorem lbget_kind {w : World} {a : Option Addr} {len cap : Nat} {zs : List Int} (hA : Arg .u8 w a len cap zs) (hl : len ≤ 1000) (h : Bk.isB zs = true) (h4 : ¬ zs.getD 4 0 = 5) :
    Calls Try.prog 11 #[.slice a len cap] w fun e w' => e = .returned (.tuple #[.agg (queueC Lb.nilQ), .bool false]) ∧ Below w.heap.size w w' := by
  obtain ⟨X, hX⟩ : ∃ X, X = w.alloc (.cells #[Value.string ⟨#[]⟩, Value.int .i64 0, Value.int .i64 0, Value.int .i64 0, Value.int .i64 0, Value.int .i64 0, Value.int .i64 0, Value.int .i64 0, Value.int .i64 0, Value.int .i64 0, Value.int .i64 0, Value.int .i64 0, Value.int .i64 0, Value.int .i64 0] 25) := ⟨_, rfl⟩
  have hb0 : Below w.heap.size w X := by rw [hX]; exact (Below.refl _ _).alloc (Nat.le_refl _) _
  have hg0 : X.heap[w.heap.size]? = some (.cells (queueC Lb.nilQ) 25 (0, 0)) := by rw [hX]; exact heap_alloc_new w _
  have HB0 := hide hb0
  have HG0 := hide hg0
  have hlt0 : w.heap.size < X.heap.size := (Array.getElem?_eq_some_iff.1 hg0).1
  have HO := hide (bopen_yes (hA.below hb0) hl h)
  have hn4 : (zs.getD 4 0 != 5) = true := by simpa using h4
  have h5 := lb_byte hA.bytes 5
  clear hb0 hg0 hA h4
  generalize zs.getD 4 0 = k at *
  generalize zs.getD 5 0 = t at *
  have hw : IntKind.i64.wrap (28 + t) = 28 + t := by rw [IntKind.wrap_i64]; omega
  go_enter Try.func11, Try.ntmps11
  go_wp2_with fail
  rw [← hX]
  clear hX
  refine HO.out.mono ?_
  rintro e w1 ⟨a', c, rfl, hA1, hb1⟩
  have HG9 := hide ((hb1.block _ hlt0).trans HG0.out)
  have HB9 := hide (HB0.out.trans (hb1.mono HB0.out.size))
  clear hb1 hA1
  go_wp2_with (refine wpList_store_row rfl 25 _ _ rfl w.heap.size #[Value.string ⟨#[]⟩, Value.int .i64 0, Value.int .i64 0, Value.int .i64 0, Value.int .i64 0, Value.int .i64 0, Value.int .i64 0, Value.int .i64 0, Value.int .i64 0, Value.int .i64 0, Value.int .i64 0, Value.int .i64 0, Value.int .i64 0, Value.int .i64 0] rfl rfl 25 (queueC Lb.nilQ) HG9.out info_queue rfl (queueC_one Lb.nilQ) ?_)
  (try simp only [Exit.inBlock, Exit.then]); refine bodyPost_ret (results_row rfl Try.underlying25 _ _ w.heap.size #[Value.string ⟨#[]⟩, Value.int .i64 0, Value.int .i64 0, Value.int .i64 0, Value.int .i64 0, Value.int .i64 0, Value.int .i64 0, Value.int .i64 0, Value.int .i64 0, Value.int .i64 0, Value.int .i64 0, Value.int .i64 0, Value.int .i64 0, Value.int .i64 0] rfl (setRow_heap _ _ _ _ _ _ HG9.out) info_queue) rfl ?_
  exact ⟨rfl, below_setRow HB9.out (Nat.le_refl _) _⟩

set_option maxRecDepth 100000 in
set_option maxHeartbeats 2000000 in
theorem lbget_tail {w : World} {a : Option Addr} {len cap : Nat} {zs : List Int} (hA : Arg .u8 w a len cap zs) (hl : len ≤ 1000) (h : Bk.isB zs = true) (h4 : zs.getD 4 0 = 5) {t : Nat} (h5 : zs.getD 5 0 = (t : Int)) (hn : (decide (28 + t ≤ 56) && zeroB ((zs.drop 8).drop (28 + t))) = false) :
    Calls Try.prog 11 #[.slice a len cap] w fun e w' => e = .returned (.tuple #[.agg (queueC Lb.nilQ), .bool false]) ∧ Below w.heap.size w w' := by
  obtain ⟨X, hX⟩ : ∃ X, X = w.alloc (.cells #[Value.string ⟨#[]⟩, Value.int .i64 0, Value.int .i64 0, Value.int .i64 0, Value.int .i64 0, Value.int .i64 0, Value.int .i64 0, Value.int .i64 0, Value.int .i64 0, Value.int .i64 0, Value.int .i64 0, Value.int .i64 0, Value.int .i64 0, Value.int .i64 0] 25) := ⟨_, rfl⟩
  have hb0 : Below w.heap.size w X := by rw [hX]; exact (Below.refl _ _).alloc (Nat.le_refl _) _
  have hg0 : X.heap[w.heap.size]? = some (.cells (queueC Lb.nilQ) 25 (0, 0)) := by rw [hX]; exact heap_alloc_new w _
  have HB0 := hide hb0
  have HG0 := hide hg0
  have hlt0 : w.heap.size < X.heap.size := (Array.getElem?_eq_some_iff.1 hg0).1
  have HO := hide (bopen_yes (hA.below hb0) hl h)
  have h5b := lb_byte hA.bytes 5
  rw [h4, h5] at HO
  rw [h5] at h5b
  have hw : IntKind.i64.wrap (28 + (t : Int)) = ((28 + t : Nat) : Int) := by rw [IntKind.wrap_i64]; omega
  have HN := hide (fun W a' c (hA : Arg .u8 W a' 56 c (zs.drop 8)) => lbnfrom_any hA (28 + t) (by decide) (by omega))
  rw [hn] at HN
  clear hb0 hg0 hA h4 h5 hn
  go_enter Try.func11, Try.ntmps11
  go_wp2_with fail
  rw [← hX]
  clear hX
  refine HO.out.mono ?_
  rintro e w1 ⟨a', c, rfl, hA1, hb1⟩
  have HG9 := hide ((hb1.block _ hlt0).trans HG0.out)
  have HB9 := hide (HB0.out.trans (hb1.mono HB0.out.size))
  have HN1 := hide (HN.out w1 a' c hA1)
  clear hb1 hA1
  go_wp2_with fail
  refine HN1.out.mono ?_
  rintro e w2 ⟨rfl, hw2⟩
  obtain rfl := hw2.symm
  go_wp2_with (refine wpList_store_row rfl 25 _ _ rfl w.heap.size #[Value.string ⟨#[]⟩, Value.int .i64 0, Value.int .i64 0, Value.int .i64 0, Value.int .i64 0, Value.int .i64 0, Value.int .i64 0, Value.int .i64 0, Value.int .i64 0, Value.int .i64 0, Value.int .i64 0, Value.int .i64 0, Value.int .i64 0, Value.int .i64 0] rfl rfl 25 (queueC Lb.nilQ) HG9.out info_queue rfl (queueC_one Lb.nilQ) ?_)
  (try simp only [Exit.inBlock, Exit.then]); refine bodyPost_ret (results_row rfl Try.underlying25 _ _ w.heap.size #[Value.string ⟨#[]⟩, Value.int .i64 0, Value.int .i64 0, Value.int .i64 0, Value.int .i64 0, Value.int .i64 0, Value.int .i64 0, Value.int .i64 0, Value.int .i64 0, Value.int .i64 0, Value.int .i64 0, Value.int .i64 0, Value.int .i64 0, Value.int .i64 0] rfl (setRow_heap _ _ _ _ _ _ HG9.out) info_queue) rfl ?_
  exact ⟨rfl, below_setRow HB9.out (Nat.le_refl _) _⟩

set_option maxRecDepth 100000 in
set_option maxHeartbeats 2000000 in
theorem lbget_read {w : World} {a : Option Addr} {len cap : Nat} {zs : List Int} (hA : Arg .u8 w a len cap zs) (hl : len ≤ 1000) (h : Bk.isB zs = true) (h4 : zs.getD 4 0 = 5) {t : Nat} (h5 : zs.getD 5 0 = (t : Int)) (ht : t ≤ 28) (hn : zeroB ((zs.drop 8).drop (28 + t)) = true) (r : Bool) (V : Lb.Q) (hr : Lb.rightQ (Lb.parseQ (zs.drop 8) t) = r) (hV : V = if r = true then Lb.parseQ (zs.drop 8) t else Lb.nilQ) :
    Calls Try.prog 11 #[.slice a len cap] w fun e w' => e = .returned (.tuple #[.agg (queueC V), .bool r]) ∧ Below w.heap.size w w' := by
  have hz := hA.bytes
  obtain ⟨X, hX⟩ : ∃ X, X = w.alloc (.cells #[Value.string ⟨#[]⟩, Value.int .i64 0, Value.int .i64 0, Value.int .i64 0, Value.int .i64 0, Value.int .i64 0, Value.int .i64 0, Value.int .i64 0, Value.int .i64 0, Value.int .i64 0, Value.int .i64 0, Value.int .i64 0, Value.int .i64 0, Value.int .i64 0] 25) := ⟨_, rfl⟩
  have hb0 : Below w.heap.size w X := by rw [hX]; exact (Below.refl _ _).alloc (Nat.le_refl _) _
  have hg0 : X.heap[w.heap.size]? = some (.cells (queueC Lb.nilQ) 25 (0, 0)) := by rw [hX]; exact heap_alloc_new w _
  have HB0 := hide hb0
  have HG0 := hide hg0
  have hlt0 : w.heap.size < X.heap.size := (Array.getElem?_eq_some_iff.1 hg0).1
  have HO := hide (bopen_yes (hA.below hb0) hl h)
  rw [h4, h5] at HO
  have hw : IntKind.i64.wrap (28 + (t : Int)) = ((28 + t : Nat) : Int) := by rw [IntKind.wrap_i64]; omega
  have HN := hide (fun W a' c (hA : Arg .u8 W a' 56 c (zs.drop 8)) => lbnfrom_any hA (28 + t) (by decide) (by omega))
  rw [hn, decide_eq_true (by omega), Bool.true_and] at HN
  have HRQ := hide (fun W a' c (hA : Arg .u8 W a' 56 c (zs.drop 8)) => lbreadq_any (lb_arg_head hA (28 + t) (by omega)) t rfl ht (by have := hA.1; omega))
  rw [lb_parse_take] at HRQ
  have hs := Nums.bytes_drop hz 8
  have hwf := Lb.parse_wf hs t
  have hct : (Lit.int .i64 (Lb.parseQ (zs.drop 8) t).count).wf = true := by
    have := lb_rd4 hs 0 4 (by decide)
    rw [List.drop_zero] at this
    exact wf_of_bd ⟨by show -9223372036854775808 ≤ Nums.rd ((zs.drop 8).take 4); omega, by show Nums.rd ((zs.drop 8).take 4) ≤ 9223372036854775807; omega⟩
  have hnl : (Lb.parseQ (zs.drop 8) t).name.length ≤ 1000000 := by
    show (((zs.drop 8).drop 28).take t).length ≤ 1000000
    rw [List.length_take]
    omega
  have HRT := hide (fun W => lbright_any (Lb.parseQ (zs.drop 8) t) W hwf hnl hct)
  rw [hr] at HRT
  have HVV := hide hV
  have HSF := hide (queue_size hwf)
  have HSQ : Hid ((queueC Lb.nilQ).size = (queueC (Lb.parseQ (zs.drop 8) t)).size) := by show _ = _; rw [queueC_size, queueC_size, hwf.2]; rfl
  clear hb0 hg0 hA h4 h5 hn hs hwf hct hnl hz hr hV
  generalize Lb.parseQ (zs.drop 8) t = F at *
  have hle : (28 + t : Nat) ≤ 56 := by omega
  go_enter Try.func11, Try.ntmps11
  go_wp2_with fail
  rw [← hX]
  clear hX
  refine HO.out.mono ?_
  rintro e w1 ⟨a', c, rfl, hA1, hb1⟩
  have HG1 := hide ((hb1.block _ hlt0).trans HG0.out)
  have HB1 := hide (HB0.out.trans (hb1.mono HB0.out.size))
  have HN1 := hide (HN.out w1 a' c hA1)
  have HRQ1 := hide (HRQ.out w1 a' c hA1)
  have hc56 : (28 + t : Nat) ≤ c := by have := hA1.1; omega
  have hlt1 : w.heap.size < w1.heap.size := Nat.lt_of_lt_of_le hlt0 hb1.size
  obtain ⟨_, h0 | ⟨b, off, rfl, _, _⟩⟩ := hA1.2.2.1
  · exact absurd h0 (by decide)
  clear hb1 hA1 HN HRQ
  go_wp2_with fail
  refine HN1.out.mono ?_
  rintro e w2 ⟨rfl, hw2⟩
  obtain rfl := hw2.symm
  go_wp2_with fail
  refine HRQ1.out.mono ?_
  rintro e w2 ⟨rfl, hb2⟩
  obtain ⟨X5, hX5⟩ : ∃ X5, X5 = (w2.alloc (.cells #[Value.string ⟨#[]⟩, Value.int .i64 0, Value.int .i64 0, Value.int .i64 0, Value.int .i64 0, Value.int .i64 0, Value.int .i64 0, Value.int .i64 0, Value.int .i64 0, Value.int .i64 0, Value.int .i64 0, Value.int .i64 0, Value.int .i64 0, Value.int .i64 0] 25)).setRow w2.heap.size (queueC F) := ⟨_, rfl⟩
  have hbX : Below w2.heap.size w2 X5 := by rw [hX5]; exact below_setRow ((Below.refl _ _).alloc (Nat.le_refl _) _) (Nat.le_refl _) _
  have hg5 : X5.heap[w2.heap.size]? = some (.cells (queueC F) 25 (0, 0)) := by rw [hX5]; exact setRow_heap _ _ _ _ _ _ (heap_alloc_new w2 _)
  have hw2 : w.heap.size < w2.heap.size := Nat.lt_of_lt_of_le hlt1 hb2.size
  have HG5 := hide hg5
  have HR5 := hide (HRT.out X5)
  have HN5 := hide ((hbX.block _ hw2).trans ((hb2.block _ hlt1).trans HG1.out))
  have HB5 := hide (HB1.out.trans ((hb2.mono (Nat.le_of_lt hlt1)).trans (hbX.mono (Nat.le_of_lt hw2))))
  have h5s : w2.heap.size < X5.heap.size := (Array.getElem?_eq_some_iff.1 hg5).1
  have HXX := hide hX5
  clear hb2 hbX hg5 hX5 HRT
  go_wp2_with (first | (refine wpList_store_row rfl 25 _ _ rfl w2.heap.size (queueC F) rfl rfl 25 #[Value.string ⟨#[]⟩, Value.int .i64 0, Value.int .i64 0, Value.int .i64 0, Value.int .i64 0, Value.int .i64 0, Value.int .i64 0, Value.int .i64 0, Value.int .i64 0, Value.int .i64 0, Value.int .i64 0, Value.int .i64 0, Value.int .i64 0, Value.int .i64 0] (heap_alloc_new w2 _) HSF.out HSQ.out (queueC_one F) ?_; rw [← HXX.out]) | (refine wpList_load_row_on (by rfl) 25 _ rfl w2.heap.size rfl 25 (queueC F) (0, 0) _ HG5.out Try.underlying25 rfl HSF.out ?_))
  refine HR5.out.mono ?_
  rintro e w6 ⟨rfl, hb6⟩
  have HG6 := hide ((hb6.block _ h5s).trans HG5.out)
  have HG9 := hide ((hb6.block _ (Nat.lt_trans hw2 h5s)).trans HN5.out)
  have HB9 := hide (HB5.out.trans (hb6.mono HB5.out.size))
  clear hb6
  cases r with
  | false =>
    go_wp2_with (refine wpList_store_row rfl 25 _ _ rfl w.heap.size #[Value.string ⟨#[]⟩, Value.int .i64 0, Value.int .i64 0, Value.int .i64 0, Value.int .i64 0, Value.int .i64 0, Value.int .i64 0, Value.int .i64 0, Value.int .i64 0, Value.int .i64 0, Value.int .i64 0, Value.int .i64 0, Value.int .i64 0, Value.int .i64 0] rfl rfl 25 (queueC Lb.nilQ) HG9.out info_queue rfl (queueC_one Lb.nilQ) ?_)
    (try simp only [Exit.inBlock, Exit.then]); refine bodyPost_ret (results_row rfl Try.underlying25 _ _ w.heap.size #[Value.string ⟨#[]⟩, Value.int .i64 0, Value.int .i64 0, Value.int .i64 0, Value.int .i64 0, Value.int .i64 0, Value.int .i64 0, Value.int .i64 0, Value.int .i64 0, Value.int .i64 0, Value.int .i64 0, Value.int .i64 0, Value.int .i64 0, Value.int .i64 0] rfl (setRow_heap _ _ _ _ _ _ HG9.out) info_queue) rfl ?_
    exact ⟨by rw [HVV.out]; rfl, below_setRow HB9.out (Nat.le_refl _) _⟩
  | true =>
    go_wp2_with (first | (refine wpList_load_row_on (by rfl) 25 _ rfl w2.heap.size rfl 25 (queueC F) (0, 0) _ HG6.out Try.underlying25 rfl HSF.out ?_) | (refine wpList_store_row rfl 25 _ _ rfl w.heap.size (queueC F) rfl rfl 25 (queueC Lb.nilQ) HG9.out HSF.out HSQ.out (queueC_one F) ?_))
    (try simp only [Exit.inBlock, Exit.then]); refine bodyPost_ret (results_row rfl Try.underlying25 _ _ w.heap.size (queueC F) rfl (setRow_heap _ _ _ _ _ _ HG9.out) HSF.out) rfl ?_
    exact ⟨by rw [HVV.out]; rfl, below_setRow HB9.out (Nat.le_refl _) _⟩

theorem lbget_any {w : World} {a : Option Addr} {len cap : Nat} {zs : List Int} (hA : Arg .u8 w a len cap zs) (hl : len ≤ 1000) :
    Calls Try.prog 11 #[.slice a len cap] w fun e w' => e = .returned (.tuple #[.agg (queueC (Lb.tellsQ zs)), .bool (Lb.gotQ zs)]) ∧ Below w.heap.size w w' := by
  have hz := hA.bytes
  have hno : Lb.gotQ zs = false → Lb.tellsQ zs = Lb.nilQ := fun h => by unfold Lb.tellsQ; rw [h]; rfl
  by_cases hB : Bk.isB zs = true
  · by_cases h4 : zs.getD 4 0 = 5
    · have h5b := lb_byte hz 5
      obtain ⟨t, ht⟩ : ∃ t : Nat, zs.getD 5 0 = t := ⟨(zs.getD 5 0).toNat, by omega⟩
      by_cases h28 : t ≤ 28
      · have hga := Lb.gotQ_asked hz hB h4 ht h28
        cases hn : zeroB ((zs.drop 8).drop (28 + t)) with
        | true =>
          rw [hn, Bool.and_true] at hga
          have hT : Lb.toldQ zs = Lb.parseQ (zs.drop 8) t := by unfold Lb.toldQ; rw [ht, Int.toNat_natCast]
          have hq : Lb.tellsQ zs = (if Lb.rightQ (Lb.parseQ (zs.drop 8) t) = true then Lb.parseQ (zs.drop 8) t else Lb.nilQ) := by unfold Lb.tellsQ; rw [hga, hT]
          rw [hq, hga]
          exact lbget_read hA hl hB h4 ht h28 hn _ _ rfl rfl
        | false =>
          rw [hn, Bool.and_false] at hga
          rw [hno hga, hga]
          exact lbget_tail hA hl hB h4 ht (by rw [hn, Bool.and_false])
      · have hga : Lb.gotQ zs = false := decide_eq_false fun e => by have := e.2.2.1; omega
        rw [hno hga, hga]
        exact lbget_tail hA hl hB h4 ht (by rw [decide_eq_false (by omega), Bool.false_and])
    · have hga : Lb.gotQ zs = false := decide_eq_false fun e => h4 e.2.1
      rw [hno hga, hga]
      exact lbget_kind hA hl hB h4
  · have hga : Lb.gotQ zs = false := decide_eq_false fun e => hB e.1
    rw [hno hga, hga]
    exact lbget_shut hA hl (by simpa using hB)
end Go.Proofs.Ytkmndllomheegaa

namespace Go.Proofs.Ytkmndllomheegaa
set_option linter.unusedVariables false
set_option linter.unusedSimpArgs false
open Go.RowKit

theorem lb_make_ints (n : Nat) (h : n ≤ 35184372088832) (w : World) :
    (Instr.makeSlice 34 (.int .i64 (n : Int)) (.int .i64 (n : Int))).run Try.prog w = .ok (.slice (some ⟨w.heap.size, 0, none⟩) n n) (w.alloc (.cells (blk .i64 (List.replicate n 0)) 3)) := by
  have h := run_make_row' (P := Try.prog) 34 3 (.int .i64 0) 8 Try.underlying34 (by kernel_rfl) rfl .i64 .i64 n (by omega) (by omega) w
  rw [h, blk_made]

set_option maxRecDepth 100000 in
set_option maxHeartbeats 2000000 in
theorem lbreadd_any {w : World} {a : Option Addr} {len cap : Nat} {zs : List Int} (hA : Arg .u8 w a len cap zs) (t : Nat) (hlen : 2 * t ≤ len) (hl : len ≤ 1000) :
    Calls Try.prog 33 #[.slice a len cap, .int .i64 t] w fun e w' => ∃ g, e = .returned (.agg #[.slice (some ⟨g, 0, none⟩) t t]) ∧ w.heap.size ≤ g ∧ Arg .i64 w' (some ⟨g, 0, none⟩) t t (Lb.dirOf zs t) ∧ Below w.heap.size w w' := by
  have hz := hA.bytes
  obtain ⟨X, hX⟩ : ∃ X, X = w.alloc (.cells #[.slice none 0 0] 36) := ⟨_, rfl⟩
  have hb0 : Below w.heap.size w X := by rw [hX]; exact (Below.refl _ _).alloc (Nat.le_refl _) _
  have hg0 : X.heap[w.heap.size]? = some (.cells #[.slice none 0 0] 36 (0, 0)) := by rw [hX]; exact heap_alloc_new w _
  have HB0 := hide hb0
  have HG0 := hide hg0
  have HTK := hide (lbtaker_any X a len cap)
  have hmk := lb_make_ints t (by omega)
  have HAA := hide hA
  have HLEN := hide hlen
  have htb : t ≤ 500 := by omega
  clear hb0 hg0 hA hlen
  go_enter Try.func33, Try.ntmps33
  go_wp2_with fail
  rw [← hX]
  clear hX
  refine HTK.out.mono ?_
  rintro e w1 ⟨rfl, hb1, hb2, hs1, hbl⟩
  go_wp2_with fail
  obtain ⟨Y, hY⟩ : ∃ Y, Y = (w1.alloc (.cells (blk .i64 (List.replicate t 0)) 3)).alloc (.cells #[.slice (some ⟨X.heap.size + 2, 0, none⟩) t t] 36) := ⟨_, rfl⟩
  rw [← hY]
  obtain ⟨B, hB⟩ : ∃ B, X.heap.size = B := ⟨_, rfl⟩
  rw [hB] at hY hb1 hb2 hs1 hbl ⊢
  have hlt0 : w.heap.size < B := by rw [← hB]; exact (Array.getElem?_eq_some_iff.1 HG0.out).1
  have hgY : Y.heap[B + 2]? = some (.cells (blk .i64 (Lb.dirOf zs 0 ++ List.replicate (t - 0) 0)) 3 (0, 0)) := by
    rw [hY, Below.heap_alloc _ _ _ (by simp; omega)]
    have := heap_alloc_new w1 (.cells (blk .i64 (List.replicate t 0)) 3)
    rw [hs1] at this
    rw [this]
    rfl
  have hdY : Y.heap[B + 3]? = some (.cells #[.slice (some ⟨B + 2, 0, none⟩) t t] 36 (0, 0)) := by
    have := heap_alloc_new (w1.alloc (.cells (blk .i64 (List.replicate t 0)) 3)) (.cells #[.slice (some ⟨B + 2, 0, none⟩) t t] 36)
    rw [hY]
    rw [show (w1.alloc (.cells (blk .i64 (List.replicate t 0)) 3)).heap.size = B + 3 by simp; omega] at this
    exact this
  have hTY : Tk Y B a len cap (2 * 0) := by
    refine (Tk.other (W := w1) ⟨hb1, hb2⟩ (fun k hk => ?_))
    rw [hY, Below.heap_alloc _ _ _ (by simp; omega), Below.heap_alloc _ _ _ (by omega)]
  have hbY : Below B X Y := by rw [hY]; exact (hbl.alloc (by omega) _).alloc (by simp; omega) _
  have HGY := hide hgY
  have HDY := hide hdY
  have HTY := hide hTY
  have HBY := hide hbY
  have HLT0 := hide hlt0
  have HBB := hide hB
  clear hgY hdY hTY hbY hY hb1 hb2 hs1 hbl hmk hlt0 hB
  go_loopw [16] (fun i wr => ∃ j : Nat, j ≤ t ∧ i = .int .i64 j ∧ wr.heap[B + 2]? = some (.cells (blk .i64 (Lb.dirOf zs j ++ List.replicate (t - j) 0)) 3 (0, 0)) ∧ wr.heap[B + 3]? = some (.cells #[.slice (some ⟨B + 2, 0, none⟩) t t] 36 (0, 0)) ∧ Tk wr B a len cap (2 * j) ∧ Below B X wr) (fun i _ => t - (intOf i).toNat)
  case atStart => exact ⟨0, Nat.zero_le _, rfl, HGY.out, HDY.out, HTY.out, HBY.out⟩
  case round =>
    obtain ⟨j, hj, rfl, hgr, hdr, hTr, hbr⟩ := hrel
    have HBR := hide hbr
    have hbw : Below w.heap.size w wr := HB0.out.trans (hbr.mono (Nat.le_of_lt HLT0.out))
    by_cases hlt : j < t
    · have hjI : (j : Int) < (t : Int) := by omega
      have HYJ := hide (lbtake_any 2 (2 * j) wr.drew B _ len cap zs (HAA.out.below hbw.drew) ⟨hTr.body, hTr.at_⟩ hl (by decide) (by decide) (by have := HLEN.out; omega))
      rw [show ((2 : Nat) : Int) = 2 from rfl] at HYJ
      have HFS := hide (Lb.dirOf_succ zs j)
      obtain ⟨xj, hxj⟩ : ∃ x, Nums.rd ((zs.drop (2 * j)).take 2) = x := ⟨_, rfl⟩
      rw [hxj] at HYJ HFS
      have c4 : wr.cell? ⟨B + 3, 0, none⟩ = some (.slice (some ⟨B + 2, 0, none⟩) t t) := by simp [World.cell?, hdr]
      have hL : (Lb.dirOf zs j ++ List.replicate (t - j) 0).length = t := by simp [Lb.dirOf_length]; omega
      obtain ⟨V2, hV2⟩ : ∃ V2, V2 = wr.drew.setCell ⟨B + 1, 0, none⟩ (.int .i64 ((2 * j + 2 : Nat) : Int)) := ⟨_, rfl⟩
      have hg2 : V2.heap[B + 2]? = some (.cells (blk .i64 (Lb.dirOf zs j ++ List.replicate (t - j) 0)) 3 (0, 0)) := by
        rw [hV2, heap_set_other (by omega)]
        exact hgr
      have hd2 : V2.heap[B + 3]? = some (.cells #[.slice (some ⟨B + 2, 0, none⟩) t t] 36 (0, 0)) := by
        rw [hV2, heap_set_other (by omega)]
        exact hdr
      have hT2 : Tk V2 B a len cap (2 * j + 2) := by rw [hV2]; exact Tk.more (W := wr.drew) (p := 2 * j) ⟨hTr.body, hTr.at_⟩ _
      have hb2 : Below B X V2 := by rw [hV2]; exact hbr.drew.setCell (p := ⟨B + 1, 0, none⟩) (Nat.le_succ _) _
      have cv4 : V2.cell? ⟨B + 3, 0, none⟩ = some (.slice (some ⟨B + 2, 0, none⟩) t t) := by simp [World.cell?, hd2]
      have kv := (cell_blk hg2 (i := j) (by rw [hL]; exact hlt)).1
      have fv := (cell_blk hg2 (i := j) (by rw [hL]; exact hlt)).2
      have HC4 := hide cv4
      have HKV := hide kv
      have HFV := hide fv
      have HG2 := hide hg2
      have HD2 := hide hd2
      have HT2 := hide hT2
      have HB2 := hide hb2
      have HV2 := hide hV2
      have HST : Hid ((Lb.dirOf zs j ++ List.replicate (t - j) 0).set j xj = Lb.dirOf zs (j + 1) ++ List.replicate (t - (j + 1)) 0) := by
        show _ = _
        rw [HFS.out]
        obtain ⟨m, hm⟩ : ∃ m, t - j = m + 1 := ⟨t - j - 1, by omega⟩
        rw [hm, show t - (j + 1) = m by omega, List.replicate_succ]
        have hlj : (Lb.dirOf zs j).length = j := Lb.dirOf_length _ _
        rw [List.set_append_right _ _ (by omega), hlj]
        simp
      clear hgr hdr hTr hbr hbw hxj hV2 hg2 hd2 hT2 hb2 cv4 kv fv hL
      have hne32 : B + 3 ≠ B + 2 := by omega
      go_wp2_with fail
      go_region_held3 (fun w' => w'.cell? ⟨B + 3, 0, none⟩ = some (.slice (some ⟨B + 2, 0, none⟩) t t)) (first | exact HC4.out | exact (World.cell?_of_block (heap_set_other hne32 _ _)).trans HC4.out | go_keep) ((go_at_call 58; refine HYJ.out.mono ?_; rintro e w6 ⟨rfl, hw6⟩; obtain rfl : V2 = w6 := (hw6.trans HV2.out.symm).symm; clear hw6; have kv := HKV.out; have fv := HFV.out))
      all_goals
        go_wp2_with fail
        go_roundw
        case rel =>
          refine ⟨j + 1, by omega, by go_num, by rw [heap_set HG2.out, blk_set, HST.out], (heap_set_other (by omega) _ _).trans HD2.out, HT2.out.other (fun k hk => heap_set_other (by omega) _ _), HB2.out.setCell (p := ⟨B + 2, j, none⟩) (by show B ≤ B + 2; omega) _⟩
        case measure => simp [intOf]; omega
    · have hjI : ¬ (j : Int) < (t : Int) := by omega
      obtain rfl : j = t := by omega
      rw [Nat.sub_self, List.replicate_zero, List.append_nil] at hgr
      have HGR := hide hgr
      have cd : wr.cell? ⟨B + 3, 0, none⟩ = some (.slice (some ⟨B + 2, 0, none⟩) j j) := by simp [World.cell?, hdr]
      have hg9 : wr.heap[w.heap.size]? = some (.cells #[.slice none 0 0] 36 (0, 0)) := (hbr.block _ HLT0.out).trans HG0.out
      have c9 : wr.cell? ⟨w.heap.size, 0, none⟩ = some (.slice none 0 0) := by simp [World.cell?, hg9]
      have f9 : wr.frozen? ⟨w.heap.size, 0, none⟩ = false := by simp [World.frozen?, hg9]
      have HG9 := hide hg9
      have HB9 := hide hbw
      have hLT := Lb.dirOf_length zs j
      have hgk : B + 2 < wr.heap.size := (Array.getElem?_eq_some_iff.1 hgr).1
      have HWF := hide (dirOf_wf hz j)
      have hne9 : B + 2 ≠ w.heap.size := by have := HLT0.out; omega
      obtain ⟨Z, hZ⟩ : ∃ Z, Z = wr.setCell ⟨w.heap.size, 0, none⟩ (.slice (some ⟨B + 2, 0, none⟩) j j) := ⟨_, rfl⟩
      have hgZ : Z.heap[B + 2]? = some (.cells (blk .i64 (Lb.dirOf zs j)) 3 (0, 0)) := by rw [hZ, heap_set_other hne9]; exact hgr
      have hAZ : Arg .i64 Z (some ⟨B + 2, 0, none⟩) j j (Lb.dirOf zs j) := ⟨Nat.le_refl _, by unfold maxLen; omega, row_of_block hgZ hLT, HWF.out, .inr ⟨_, _, rfl⟩⟩
      have hbZ : Below w.heap.size w Z := by rw [hZ]; exact HB9.out.setCell (p := ⟨w.heap.size, 0, none⟩) (Nat.le_refl _) _
      have hrZ : Z.heap[w.heap.size]? = some (.cells #[.slice (some ⟨B + 2, 0, none⟩) j j] 36 (0, 0)) := by rw [hZ, heap_set HG9.out]; rfl
      have HAZ := hide hAZ
      have HBZ := hide hbZ
      have HRZ := hide hrZ
      clear hgr hdr hTr hbr hbw hg9 hgZ hAZ hbZ hrZ
      go_wp2_with fail
      rw [← hZ]
      refine bodyPost_ret (results_cell_row rfl _ _ w.heap.size 36 #[.slice (some ⟨B + 2, 0, none⟩) j j] (0, 0) _ rfl HRZ.out Try.underlying36 rfl info_dir) rfl ?_
      exact ⟨_, rfl, by have := HLT0.out; omega, HAZ.out, HBZ.out⟩

/-- an argument that a cell of another block leaves alone. -/
theorem lb_arg_set {k : IntKind} {W : World} {g h n c : Nat} {zs : List Int} (hA : Arg k W (some ⟨g, 0, none⟩) n c zs) (hne : g ≠ h) (i : Nat) (u : Value) : Arg k (W.setCell ⟨h, i, none⟩ u) (some ⟨g, 0, none⟩) n c zs := by
  obtain ⟨h1, h2, ⟨hl, hr⟩, h4, h5⟩ := hA
  refine ⟨h1, h2, ⟨hl, ?_⟩, h4, h5⟩
  rcases hr with h0 | ⟨b, off, e, hb, hc⟩
  · exact .inl h0
  · cases e
    refine .inr ⟨g, 0, rfl, by simpa [World.setCell] using hb, fun j hj => ?_⟩
    rw [World.cell?_of_block (w := W) (heap_set_other hne i u)]
    exact hc j hj

set_option maxRecDepth 100000 in
set_option maxHeartbeats 2000000 in
theorem lbgetd_shut {w : World} {a : Option Addr} {len cap : Nat} {zs : List Int} (hA : Arg .u8 w a len cap zs) (hl : len ≤ 1000) (h : Bk.isB zs = false) :
    Calls Try.prog 15 #[.slice a len cap] w fun e w' => ∃ a' n c', e = .returned (.tuple #[.agg #[.slice a' n c'], .bool false]) ∧ Arg .i64 w' a' n c' [] ∧ Below w.heap.size w w' := by
  obtain ⟨X, hX⟩ : ∃ X, X = w.alloc (.cells #[.slice none 0 0] 36) := ⟨_, rfl⟩
  have hb0 : Below w.heap.size w X := by rw [hX]; exact (Below.refl _ _).alloc (Nat.le_refl _) _
  have hg0 : X.heap[w.heap.size]? = some (.cells #[.slice none 0 0] 36 (0, 0)) := by rw [hX]; exact heap_alloc_new w _
  have HB0 := hide hb0
  have HG0 := hide hg0
  have hlt0 : w.heap.size < X.heap.size := (Array.getElem?_eq_some_iff.1 hg0).1
  have HO := hide (bopen_no (hA.below hb0) hl h)
  clear hb0 hg0 hA h
  go_enter Try.func15, Try.ntmps15
  go_wp2_with fail
  rw [← hX]
  clear hX
  refine HO.out.mono ?_
  rintro e w1 ⟨rfl, hb1⟩
  have HG9 := hide ((hb1.block _ hlt0).trans HG0.out)
  have HB9 := hide (HB0.out.trans (hb1.mono HB0.out.size))
  clear hb1
  have c9 : w1.cell? ⟨w.heap.size, 0, none⟩ = some (.slice none 0 0) := by simp [World.cell?, HG9.out]
  have f9 : w1.frozen? ⟨w.heap.size, 0, none⟩ = false := by simp [World.frozen?, HG9.out]
  go_wp2_with fail
  (try simp only [Exit.inBlock, Exit.then]); refine bodyPost_ret (results_row rfl Try.underlying36 _ _ w.heap.size #[.slice none 0 0] rfl (by rw [heap_set HG9.out]; rfl) info_dir) rfl ?_
  exact ⟨none, 0, 0, rfl, arg_none _, HB9.out.setCell (p := ⟨w.heap.size, 0, none⟩) (Nat.le_refl _) _⟩

set_option maxRecDepth 100000 in
set_option maxHeartbeats 2000000 in
theorem lbgetd_kind {w : World} {a : Option Addr} {len cap : Nat} {zs : List Int} (hA : Arg .u8 w a len cap zs) (hl : len ≤ 1000) (h : Bk.isB zs = true) (h4 : ¬ zs.getD 4 0 = 6) :
    Calls Try.prog 15 #[.slice a len cap] w fun e w' => ∃ a' n c', e = .returned (.tuple #[.agg #[.slice a' n c'], .bool false]) ∧ Arg .i64 w' a' n c' [] ∧ Below w.heap.size w w' := by
  obtain ⟨X, hX⟩ : ∃ X, X = w.alloc (.cells #[.slice none 0 0] 36) := ⟨_, rfl⟩
  have hb0 : Below w.heap.size w X := by rw [hX]; exact (Below.refl _ _).alloc (Nat.le_refl _) _
  have hg0 : X.heap[w.heap.size]? = some (.cells #[.slice none 0 0] 36 (0, 0)) := by rw [hX]; exact heap_alloc_new w _
  have HB0 := hide hb0
  have HG0 := hide hg0
  have hlt0 : w.heap.size < X.heap.size := (Array.getElem?_eq_some_iff.1 hg0).1
  have HO := hide (bopen_yes (hA.below hb0) hl h)
  have hn4 : (zs.getD 4 0 != 6) = true := by simpa using h4
  clear hb0 hg0 hA h4 h
  generalize zs.getD 4 0 = k at *
  generalize zs.getD 5 0 = t at *
  go_enter Try.func15, Try.ntmps15
  go_wp2_with fail
  rw [← hX]
  clear hX
  refine HO.out.mono ?_
  rintro e w1 ⟨a', c, rfl, hA1, hb1⟩
  have HG9 := hide ((hb1.block _ hlt0).trans HG0.out)
  have HB9 := hide (HB0.out.trans (hb1.mono HB0.out.size))
  clear hb1 hA1
  have c9 : w1.cell? ⟨w.heap.size, 0, none⟩ = some (.slice none 0 0) := by simp [World.cell?, HG9.out]
  have f9 : w1.frozen? ⟨w.heap.size, 0, none⟩ = false := by simp [World.frozen?, HG9.out]
  go_wp2_with fail
  (try simp only [Exit.inBlock, Exit.then]); refine bodyPost_ret (results_row rfl Try.underlying36 _ _ w.heap.size #[.slice none 0 0] rfl (by rw [heap_set HG9.out]; rfl) info_dir) rfl ?_
  exact ⟨none, 0, 0, rfl, arg_none _, HB9.out.setCell (p := ⟨w.heap.size, 0, none⟩) (Nat.le_refl _) _⟩

set_option maxRecDepth 100000 in
set_option maxHeartbeats 2000000 in
theorem lbgetd_tail {w : World} {a : Option Addr} {len cap : Nat} {zs : List Int} (hA : Arg .u8 w a len cap zs) (hl : len ≤ 1000) (h : Bk.isB zs = true) (h4 : zs.getD 4 0 = 6) {t : Nat} (h5 : zs.getD 5 0 = (t : Int)) (hn : (decide (2 * t ≤ 56) && zeroB ((zs.drop 8).drop (2 * t))) = false) :
    Calls Try.prog 15 #[.slice a len cap] w fun e w' => ∃ a' n c', e = .returned (.tuple #[.agg #[.slice a' n c'], .bool false]) ∧ Arg .i64 w' a' n c' [] ∧ Below w.heap.size w w' := by
  obtain ⟨X, hX⟩ : ∃ X, X = w.alloc (.cells #[.slice none 0 0] 36) := ⟨_, rfl⟩
  have hb0 : Below w.heap.size w X := by rw [hX]; exact (Below.refl _ _).alloc (Nat.le_refl _) _
  have hg0 : X.heap[w.heap.size]? = some (.cells #[.slice none 0 0] 36 (0, 0)) := by rw [hX]; exact heap_alloc_new w _
  have HB0 := hide hb0
  have HG0 := hide hg0
  have hlt0 : w.heap.size < X.heap.size := (Array.getElem?_eq_some_iff.1 hg0).1
  have HO := hide (bopen_yes (hA.below hb0) hl h)
  have h5b := lbd_byte hA.bytes 5
  rw [h4, h5] at HO
  rw [h5] at h5b
  have hw : IntKind.i64.wrap ((t : Int) * 2) = ((2 * t : Nat) : Int) := by rw [IntKind.wrap_i64]; omega
  have HN := hide (fun W a' c (hA : Arg .u8 W a' 56 c (zs.drop 8)) => lbnfrom_any hA (2 * t) (by decide) (by omega))
  rw [hn] at HN
  clear hb0 hg0 hA h4 h5 hn h
  go_enter Try.func15, Try.ntmps15
  go_wp2_with fail
  rw [← hX]
  clear hX
  refine HO.out.mono ?_
  rintro e w1 ⟨a', c, rfl, hA1, hb1⟩
  have HG9 := hide ((hb1.block _ hlt0).trans HG0.out)
  have HB9 := hide (HB0.out.trans (hb1.mono HB0.out.size))
  have HN1 := hide (HN.out w1 a' c hA1)
  clear hb1 hA1
  go_wp2_with fail
  refine HN1.out.mono ?_
  rintro e w2 ⟨rfl, hw2⟩
  obtain rfl := hw2.symm
  have c9 : w1.cell? ⟨w.heap.size, 0, none⟩ = some (.slice none 0 0) := by simp [World.cell?, HG9.out]
  have f9 : w1.frozen? ⟨w.heap.size, 0, none⟩ = false := by simp [World.frozen?, HG9.out]
  go_wp2_with fail
  (try simp only [Exit.inBlock, Exit.then]); refine bodyPost_ret (results_row rfl Try.underlying36 _ _ w.heap.size #[.slice none 0 0] rfl (by rw [heap_set HG9.out]; rfl) info_dir) rfl ?_
  exact ⟨none, 0, 0, rfl, arg_none _, HB9.out.setCell (p := ⟨w.heap.size, 0, none⟩) (Nat.le_refl _) _⟩

set_option maxRecDepth 100000 in
set_option maxHeartbeats 2000000 in
theorem lbgetd_read {w : World} {a : Option Addr} {len cap : Nat} {zs : List Int} (hA : Arg .u8 w a len cap zs) (hl : len ≤ 1000) (h : Bk.isB zs = true) (h4 : zs.getD 4 0 = 6) {t : Nat} (h5 : zs.getD 5 0 = (t : Int)) (ht : 2 * t ≤ 56) (hn : zeroB ((zs.drop 8).drop (2 * t)) = true) (r : Bool) (V : List Int) (hr : Lb.rightD (Lb.dirOf (zs.drop 8) t) = r) (hV : V = if r = true then Lb.dirOf (zs.drop 8) t else []) :
    Calls Try.prog 15 #[.slice a len cap] w fun e w' => ∃ a' n c', e = .returned (.tuple #[.agg #[.slice a' n c'], .bool r]) ∧ Arg .i64 w' a' n c' V ∧ Below w.heap.size w w' := by
  obtain ⟨X, hX⟩ : ∃ X, X = w.alloc (.cells #[.slice none 0 0] 36) := ⟨_, rfl⟩
  have hb0 : Below w.heap.size w X := by rw [hX]; exact (Below.refl _ _).alloc (Nat.le_refl _) _
  have hg0 : X.heap[w.heap.size]? = some (.cells #[.slice none 0 0] 36 (0, 0)) := by rw [hX]; exact heap_alloc_new w _
  have HB0 := hide hb0
  have HG0 := hide hg0
  have hlt0 : w.heap.size < X.heap.size := (Array.getElem?_eq_some_iff.1 hg0).1
  have HO := hide (bopen_yes (hA.below hb0) hl h)
  rw [h4, h5] at HO
  have hw : IntKind.i64.wrap ((t : Int) * 2) = ((2 * t : Nat) : Int) := by rw [IntKind.wrap_i64]; omega
  have HN := hide (fun W a' c (hA : Arg .u8 W a' 56 c (zs.drop 8)) => lbnfrom_any hA (2 * t) (by decide) (by omega))
  rw [hn, decide_eq_true (by omega), Bool.true_and] at HN
  have HRQ := hide (fun W a' c (hA : Arg .u8 W a' 56 c (zs.drop 8)) => lbreadd_any hA t ht (by decide))
  have HVV := hide hV
  have HRD := hide hr
  clear hb0 hg0 hA h4 h5 hn hr hV h
  generalize Lb.dirOf (zs.drop 8) t = F at *
  have HRT := hide (fun W g (hA : Arg .i64 W (some ⟨g, 0, none⟩) t t F) => lbrightd_any hA (by omega))
  rw [HRD.out] at HRT
  go_enter Try.func15, Try.ntmps15
  go_wp2_with fail
  rw [← hX]
  clear hX
  refine HO.out.mono ?_
  rintro e w1 ⟨a', c, rfl, hA1, hb1⟩
  have HG1 := hide ((hb1.block _ hlt0).trans HG0.out)
  have HB1 := hide (HB0.out.trans (hb1.mono HB0.out.size))
  have HN1 := hide (HN.out w1 a' c hA1)
  have HRQ1 := hide (HRQ.out w1 a' c hA1)
  have hlt1 : w.heap.size < w1.heap.size := Nat.lt_of_lt_of_le hlt0 hb1.size
  clear hb1 hA1 HN HRQ
  go_wp2_with fail
  refine HN1.out.mono ?_
  rintro e w2 ⟨rfl, hw2⟩
  obtain rfl := hw2.symm
  go_wp2_with fail
  refine HRQ1.out.mono ?_
  rintro e w2 ⟨g, rfl, hg2, hA2, hb2⟩
  obtain ⟨X5, hX5⟩ : ∃ X5, X5 = w2.alloc (.cells #[.slice (some ⟨g, 0, none⟩) t t] 36) := ⟨_, rfl⟩
  have hbX : Below w2.heap.size w2 X5 := by rw [hX5]; exact (Below.refl _ _).alloc (Nat.le_refl _) _
  have hg5 : X5.heap[w2.heap.size]? = some (.cells #[.slice (some ⟨g, 0, none⟩) t t] 36 (0, 0)) := by rw [hX5]; exact heap_alloc_new w2 _
  have hw2 : w.heap.size < w2.heap.size := Nat.lt_of_lt_of_le hlt1 hb2.size
  have hA5 := hA2.below hbX
  have HG5 := hide hg5
  have HR5 := hide (HRT.out X5 g hA5)
  have HA5 := hide hA5
  have HN5 := hide ((hbX.block _ hw2).trans ((hb2.block _ hlt1).trans HG1.out))
  have HB5 := hide (HB1.out.trans ((hb2.mono (Nat.le_of_lt hlt1)).trans (hbX.mono (Nat.le_of_lt hw2))))
  have h5s : w2.heap.size < X5.heap.size := (Array.getElem?_eq_some_iff.1 hg5).1
  have HXX := hide hX5
  have hgz : g ≠ w.heap.size := by omega
  clear hb2 hbX hg5 hX5 HRT hA2 hA5
  go_wp2_with fail
  rw [← HXX.out]
  refine HR5.out.mono ?_
  rintro e w6 ⟨rfl, hb6⟩
  have hg6 := (hb6.block _ h5s).trans HG5.out
  have HG9 := hide ((hb6.block _ (Nat.lt_trans hw2 h5s)).trans HN5.out)
  have HB9 := hide (HB5.out.trans (hb6.mono HB5.out.size))
  have HA9 := hide (HA5.out.below hb6)
  have c6 : w6.cell? ⟨w2.heap.size, 0, none⟩ = some (.slice (some ⟨g, 0, none⟩) t t) := by simp [World.cell?, hg6]
  have c9 : w6.cell? ⟨w.heap.size, 0, none⟩ = some (.slice none 0 0) := by simp [World.cell?, HG9.out]
  have f9 : w6.frozen? ⟨w.heap.size, 0, none⟩ = false := by simp [World.frozen?, HG9.out]
  clear hb6 hg6
  cases r with
  | false =>
    go_wp2_with fail
    (try simp only [Exit.inBlock, Exit.then]); refine bodyPost_ret (results_row rfl Try.underlying36 _ _ w.heap.size #[.slice none 0 0] rfl (by rw [heap_set HG9.out]; rfl) info_dir) rfl ?_
    exact ⟨none, 0, 0, rfl, by rw [HVV.out]; exact arg_none _, HB9.out.setCell (p := ⟨w.heap.size, 0, none⟩) (Nat.le_refl _) _⟩
  | true =>
    go_wp2_with fail
    (try simp only [Exit.inBlock, Exit.then]); refine bodyPost_ret (results_row rfl Try.underlying36 _ _ w.heap.size #[.slice (some ⟨g, 0, none⟩) t t] rfl (by rw [heap_set HG9.out]; rfl) info_dir) rfl ?_
    refine ⟨some ⟨g, 0, none⟩, t, t, rfl, ?_, HB9.out.setCell (p := ⟨w.heap.size, 0, none⟩) (Nat.le_refl _) _⟩
    rw [HVV.out]
    exact lb_arg_set HA9.out hgz _ _

theorem lbgetd_any {w : World} {a : Option Addr} {len cap : Nat} {zs : List Int} (hA : Arg .u8 w a len cap zs) (hl : len ≤ 1000) :
    Calls Try.prog 15 #[.slice a len cap] w fun e w' => ∃ a' n c', e = .returned (.tuple #[.agg #[.slice a' n c'], .bool (Lb.gotD zs)]) ∧ Arg .i64 w' a' n c' (Lb.tellsD zs) ∧ Below w.heap.size w w' := by
  have hz := hA.bytes
  have hno : Lb.gotD zs = false → Lb.tellsD zs = [] := fun h => by unfold Lb.tellsD; rw [h]; rfl
  by_cases hB : Bk.isB zs = true
  · by_cases h4 : zs.getD 4 0 = 6
    · have h5b := lbd_byte hz 5
      obtain ⟨t, ht⟩ : ∃ t : Nat, zs.getD 5 0 = t := ⟨(zs.getD 5 0).toNat, by omega⟩
      have hT : Lb.toldD zs = Lb.dirOf (zs.drop 8) t := by unfold Lb.toldD; rw [ht, Int.toNat_natCast]
      by_cases h16 : t ≤ 16
      · have hga := Lb.gotD_asked hz hB h4 ht h16
        cases hn : zeroB ((zs.drop 8).drop (2 * t)) with
        | true =>
          rw [hn, Bool.and_true] at hga
          have hq : Lb.tellsD zs = (if Lb.rightD (Lb.dirOf (zs.drop 8) t) = true then Lb.dirOf (zs.drop 8) t else []) := by unfold Lb.tellsD; rw [hga, hT]
          rw [hq, hga]
          exact lbgetd_read hA hl hB h4 ht (by omega) hn _ _ rfl rfl
        | false =>
          rw [hn, Bool.and_false] at hga
          rw [hno hga, hga]
          exact lbgetd_tail hA hl hB h4 ht (by rw [hn, Bool.and_false])
      · have hga : Lb.gotD zs = false := decide_eq_false fun e => by have := e.2.2.1; omega
        rw [hno hga, hga]
        have hrf : Lb.rightD (Lb.dirOf (zs.drop 8) t) = false := by
          unfold Lb.rightD
          rw [Lb.dirOf_length, decide_eq_false (by omega), Bool.false_and]
        cases hn : (decide (2 * t ≤ 56) && zeroB ((zs.drop 8).drop (2 * t))) with
        | true =>
          obtain ⟨q1, q2⟩ := Bool.and_eq_true_iff.1 hn
          exact lbgetd_read hA hl hB h4 ht (of_decide_eq_true q1) q2 _ _ hrf rfl
        | false => exact lbgetd_tail hA hl hB h4 ht hn
    · have hga : Lb.gotD zs = false := decide_eq_false fun e => h4 e.2.1
      rw [hno hga, hga]
      exact lbgetd_kind hA hl hB h4
  · have hga : Lb.gotD zs = false := decide_eq_false fun e => hB e.1
    rw [hno hga, hga]
    exact lbgetd_shut hA hl (by simpa using hB)
end Go.Proofs.Ytkmndllomheegaa
