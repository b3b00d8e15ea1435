/-
  What geom answers: within, parts, Right, Charts, Leaves, Fans, Place, Bound, Fits.
-/
import Derived.Test.YtmildaofmgeceaaRefGmA
import Derived.Test.YtmildaofmgeceaaGround
import Derived.Handy
namespace Go.Proofs.Ytmildaofmgeceaa
set_option linter.unusedVariables false
set_option linter.unusedSimpArgs false
open Go.RowKit

def gmIn (slot : Int) : Bool := decide (0 ≤ slot ∧ slot ≤ 1791)
def gmX (slot : Int) : Int := if gmIn slot = true then slot / 112 else 0
def gmY (slot : Int) : Int := if gmIn slot = true then slot / 7 % 16 else 0
def gmZ (slot : Int) : Int := if gmIn slot = true then slot % 7 else 0

set_option maxHeartbeats 1000000 in
theorem gmwithin_any (v a b : Int) (w : World) : Calls Try.prog 40 #[.int .i64 v, .int .i64 a, .int .i64 b] w fun e w' => e = .returned (.bool (decide (a ≤ v ∧ v ≤ b))) ∧ w' = w := by
  by_cases c1 : a ≤ v
  · have hv : decide (a ≤ v ∧ v ≤ b) = decide (v ≤ b) := decide_eq_decide.2 ⟨fun h => h.2, fun h => ⟨c1, h⟩⟩
    rw [hv]; clear hv
    go_enter Try.func40, Try.ntmps40
    go_wp2_with fail
    go_ret
    exact ⟨rfl, rfl⟩
  · have hv : decide (a ≤ v ∧ v ≤ b) = false := decide_eq_false fun h => c1 h.1
    rw [hv]; clear hv
    go_enter Try.func40, Try.ntmps40
    go_wp2_with fail
    go_ret
    exact ⟨rfl, rfl⟩

theorem gm_quo {n each q : Nat} (he : 0 < each) (he2 : each ≤ 1000) (hn : n ≤ 10000) (h : Gm.need n each = q) : ((n : Int) + (each : Int) - 1).tdiv (each : Int) = (q : Int) ∧ q ≤ 11000 := by
  obtain ⟨m, hm⟩ : ∃ m, n + (each - 1) = m := ⟨_, rfl⟩
  have e1 : (n : Int) + (each : Int) - 1 = (m : Int) := by omega
  have hq : m / each = q := by rw [← hm]; exact h
  rw [e1, Int.tdiv_eq_ediv_of_nonneg (by omega), ← Int.natCast_ediv, hq]
  refine ⟨rfl, ?_⟩
  have := Nat.div_le_self m each
  omega

set_option maxHeartbeats 1000000 in
theorem gmparts_any (n each : Nat) (w : World) (he : 0 < each) (he2 : each ≤ 1000) (hn : n ≤ 10000) :
    Calls Try.prog 41 #[.int .i64 n, .int .i64 each] w fun e w' => e = .returned (.int .i64 (Gm.need n each : Nat)) ∧ w' = w := by
  obtain ⟨q, hq⟩ : ∃ q, Gm.need n each = q := ⟨_, rfl⟩
  obtain ⟨h1, h2⟩ := gm_quo he he2 hn hq
  rw [hq]
  clear hq
  have hz : ((each : Int) == 0) = false := by simp; omega
  go_enter Try.func41, Try.ntmps41
  go_wp2_with fail
  go_ret
  exact ⟨rfl, rfl⟩

set_option maxRecDepth 100000 in
set_option maxHeartbeats 1000000 in
theorem gmright_any (b s g : Int) (w : World) : Calls Try.prog 26 #[.agg #[.int .i64 b, .int .i64 s, .int .i64 g]] w fun e w' => e = .returned (.bool (Gm.right b s g)) ∧ Below w.heap.size w w' := by
  have HB : Hid (Below w.heap.size w (w.alloc (.cells #[.int .i64 b, .int .i64 s, .int .i64 g] 23))) := (Below.refl _ _).alloc (Nat.le_refl _) _
  have H1 := hide (fun W => gmwithin_any b 16 3072 W)
  have H2 := hide (fun W => gmwithin_any s 1 1792 W)
  have H3 := hide (fun W => gmwithin_any g 1 4294967295 W)
  have hv : Gm.right b s g = (decide (16 ≤ b ∧ b ≤ 3072) && (decide (1 ≤ s ∧ s ≤ 1792) && decide (1 ≤ g ∧ g ≤ 4294967295))) := by
    unfold Gm.right
    rw [Bool.decide_and, Bool.decide_and (p := 1 ≤ s ∧ s ≤ 1792)]
  rw [hv]
  clear hv
  generalize decide (16 ≤ b ∧ b ≤ 3072) = q1 at *
  generalize decide (1 ≤ s ∧ s ≤ 1792) = q2 at *
  generalize decide (1 ≤ g ∧ g ≤ 4294967295) = q3 at *
  cases q1 <;> cases q2
  all_goals
    go_enter Try.func26, Try.ntmps26
    go_wp2_with (first | (go_at_call_of 40 (Value.int .i64 3072); refine (H1.out _).mono ?_; rintro e w' ⟨rfl, hw'⟩; obtain rfl := hw'.symm) | (go_at_call_of 40 (Value.int .i64 1792); refine (H2.out _).mono ?_; rintro e w' ⟨rfl, hw'⟩; obtain rfl := hw'.symm) | (go_at_call_of 40 (Value.int .i64 4294967295); refine (H3.out _).mono ?_; rintro e w' ⟨rfl, hw'⟩; obtain rfl := hw'.symm))
    go_ret
    exact ⟨by simp, HB.out⟩

set_option maxRecDepth 100000 in
set_option maxHeartbeats 1000000 in
theorem gmcharts_any (b s g : Int) (w : World) : Calls Try.prog 27 #[.agg #[.int .i64 b, .int .i64 s, .int .i64 g]] w fun e w' => e = .returned (.int .i64 (Gm.chartsI b s g : Nat)) ∧ Below w.heap.size w w' := by
  obtain ⟨W, hW⟩ : ∃ W, W = w.alloc (.cells #[.int .i64 b, .int .i64 s, .int .i64 g] 23) := ⟨_, rfl⟩
  have hb0 : Below w.heap.size w W := by rw [hW]; exact (Below.refl _ _).alloc (Nat.le_refl _) _
  have hg0 : W.heap[w.heap.size]? = some (.cells #[.int .i64 b, .int .i64 s, .int .i64 g] 23 (0, 0)) := by rw [hW]; exact heap_alloc_new w _
  have HB0 := hide hb0
  have HG0 := hide hg0
  have HR := hide (gmright_any b s g W)
  obtain ⟨V, hV⟩ : ∃ V, Gm.chartsI b s g = V := ⟨_, rfl⟩
  have HV : Hid ((if Gm.right b s g = true then Gm.charts b.toNat else 0) = V) := hV
  rw [hV]
  clear hb0 hg0 hV
  cases hr : Gm.right b s g with
  | false =>
    rw [hr] at HR HV
    rw [if_neg (by decide)] at HV
    obtain rfl := HV.out.symm
    clear hr
    go_enter Try.func27, Try.ntmps27
    go_wp2_with fail
    rw [← hW]
    refine HR.out.mono ?_
    rintro r w1 ⟨rfl, hb1⟩
    have HB1 := hide (HB0.out.trans (hb1.mono HB0.out.size))
    clear hb1
    go_wp2_with fail
    go_ret
    exact ⟨rfl, HB1.out⟩
  | true =>
    obtain ⟨⟨h1, h2⟩, -, -⟩ := of_decide_eq_true hr
    rw [hr] at HR HV
    rw [if_pos rfl] at HV
    obtain ⟨n, rfl⟩ : ∃ n : Nat, b = n := ⟨b.toNat, by omega⟩
    rw [Int.toNat_natCast] at HV
    have HN := hide (fun W => gmparts_any n 384 W (by decide) (by decide) (by omega))
    rw [show Gm.need n 384 = V from HV.out, show ((384 : Nat) : Int) = 384 from rfl] at HN
    clear hr HV
    go_enter Try.func27, Try.ntmps27
    go_wp2_with fail
    rw [← hW]
    refine HR.out.mono ?_
    rintro r w1 ⟨rfl, hb1⟩
    have HB1 := hide (HB0.out.trans (hb1.mono HB0.out.size))
    have hg1 := (hb1.block _ (Array.getElem?_eq_some_iff.1 HG0.out).1).trans HG0.out
    have k0 : w1.cell? ⟨w.heap.size, 0, none⟩ = some (.int .i64 n) := by simp [World.cell?, hg1]
    clear hb1 hg1
    go_wp2_with fail
    refine (HN.out _).mono ?_
    rintro e w5 ⟨rfl, hw5⟩
    obtain rfl := hw5.symm
    go_wp2_with fail
    go_ret
    exact ⟨rfl, HB1.out⟩


theorem gm_fans (n : Int) : (Gm.leavesI n = 0 → Gm.fansI n = 0) ∧ (Gm.leavesI n ≠ 0 → Gm.fansI n = Gm.need (Gm.leavesI n) 16 + 1) ∧ Gm.leavesI n ≤ 256 ∧ Gm.need (Gm.leavesI n) 16 ≤ 16 := by
  by_cases hc : 0 ≤ n ∧ n ≤ 1792
  · have hL : Gm.leavesI n = Gm.leaves n.toNat := if_pos hc
    have hF : Gm.fansI n = Gm.fans n.toNat := if_pos hc
    rw [hL, hF]
    generalize hm : n.toNat = m
    have hm2 : m ≤ 1792 := by omega
    unfold Gm.fans Gm.leaves Gm.need
    refine ⟨fun h => ?_, fun h => ?_, by omega, by omega⟩
    · rw [if_pos (by omega)]
    · rw [if_neg (by intro h0; subst h0; exact h (by decide))]
  · have hL : Gm.leavesI n = 0 := if_neg hc
    have hF : Gm.fansI n = 0 := if_neg hc
    rw [hL, hF]
    exact ⟨fun _ => rfl, fun h => absurd rfl h, by decide, by decide⟩





end Go.Proofs.Ytmildaofmgeceaa
