/-
  What geom answers: within, parts, Right, Charts, Leaves, Fans, Place, Bound, Fits.
-/
import Derived.Test.YtmeeikgebkdmiaaRefGmA
import Derived.Test.YtmeeikgebkdmiaaGround
import Derived.Handy
namespace Go.Proofs.Ytmeeikgebkdmiaa
set_option linter.unusedVariables false
set_option linter.unusedSimpArgs false
open Go.RowKit

def gmIn (slot : Int) : Bool := decide (0 ≤ slot ∧ slot ≤ 1791)
def gmX (slot : Int) : Int := if gmIn slot = true then slot / 112 else 0
def gmY (slot : Int) : Int := if gmIn slot = true then slot / 7 % 16 else 0
def gmZ (slot : Int) : Int := if gmIn slot = true then slot % 7 else 0

set_option maxHeartbeats 1000000 in
theorem gmwithin_any (v a b : Int) (w : World) : Calls Try.prog 21 #[.int .i64 v, .int .i64 a, .int .i64 b] w fun e w' => e = .returned (.bool (decide (a ≤ v ∧ v ≤ b))) ∧ w' = w := by
  by_cases c1 : a ≤ v
  · have hv : decide (a ≤ v ∧ v ≤ b) = decide (v ≤ b) := decide_eq_decide.2 ⟨fun h => h.2, fun h => ⟨c1, h⟩⟩
    rw [hv]; clear hv
    go_enter Try.func21, Try.ntmps21
    go_wp2_with fail
    go_ret
    exact ⟨rfl, rfl⟩
  · have hv : decide (a ≤ v ∧ v ≤ b) = false := decide_eq_false fun h => c1 h.1
    rw [hv]; clear hv
    go_enter Try.func21, Try.ntmps21
    go_wp2_with fail
    go_ret
    exact ⟨rfl, rfl⟩

theorem gm_quo {n each q : Nat} (he : 0 < each) (he2 : each ≤ 1000) (hn : n ≤ 10000) (h : Gm.need n each = q) : ((n : Int) + (each : Int) - 1).tdiv (each : Int) = (q : Int) ∧ q ≤ 11000 := by
  obtain ⟨m, hm⟩ : ∃ m, n + (each - 1) = m := ⟨_, rfl⟩
  have e1 : (n : Int) + (each : Int) - 1 = (m : Int) := by omega
  have hq : m / each = q := by rw [← hm]; exact h
  rw [e1, Int.tdiv_eq_ediv_of_nonneg (by omega), ← Int.natCast_ediv, hq]
  refine ⟨rfl, ?_⟩
  have := Nat.div_le_self m each
  omega

set_option maxHeartbeats 1000000 in
theorem gmparts_any (n each : Nat) (w : World) (he : 0 < each) (he2 : each ≤ 1000) (hn : n ≤ 10000) :
    Calls Try.prog 22 #[.int .i64 n, .int .i64 each] w fun e w' => e = .returned (.int .i64 (Gm.need n each : Nat)) ∧ w' = w := by
  obtain ⟨q, hq⟩ : ∃ q, Gm.need n each = q := ⟨_, rfl⟩
  obtain ⟨h1, h2⟩ := gm_quo he he2 hn hq
  rw [hq]
  clear hq
  have hz : ((each : Int) == 0) = false := by simp; omega
  go_enter Try.func22, Try.ntmps22
  go_wp2_with fail
  go_ret
  exact ⟨rfl, rfl⟩

set_option maxRecDepth 100000 in
set_option maxHeartbeats 1000000 in
theorem gmright_any (b s g : Int) (w : World) : Calls Try.prog 9 #[.agg #[.int .i64 b, .int .i64 s, .int .i64 g]] w fun e w' => e = .returned (.bool (Gm.right b s g)) ∧ Below w.heap.size w w' := by
  have HB : Hid (Below w.heap.size w (w.alloc (.cells #[.int .i64 b, .int .i64 s, .int .i64 g] 23))) := (Below.refl _ _).alloc (Nat.le_refl _) _
  have H1 := hide (fun W => gmwithin_any b 16 3072 W)
  have H2 := hide (fun W => gmwithin_any s 1 1792 W)
  have H3 := hide (fun W => gmwithin_any g 1 4294967295 W)
  have hv : Gm.right b s g = (decide (16 ≤ b ∧ b ≤ 3072) && (decide (1 ≤ s ∧ s ≤ 1792) && decide (1 ≤ g ∧ g ≤ 4294967295))) := by
    unfold Gm.right
    rw [Bool.decide_and, Bool.decide_and (p := 1 ≤ s ∧ s ≤ 1792)]
  rw [hv]
  clear hv
  generalize decide (16 ≤ b ∧ b ≤ 3072) = q1 at *
  generalize decide (1 ≤ s ∧ s ≤ 1792) = q2 at *
  generalize decide (1 ≤ g ∧ g ≤ 4294967295) = q3 at *
  cases q1 <;> cases q2
  all_goals
    go_enter Try.func9, Try.ntmps9
    go_wp2_with (first | (go_at_call_of 21 (Value.int .i64 3072); refine (H1.out _).mono ?_; rintro e w' ⟨rfl, hw'⟩; obtain rfl := hw'.symm) | (go_at_call_of 21 (Value.int .i64 1792); refine (H2.out _).mono ?_; rintro e w' ⟨rfl, hw'⟩; obtain rfl := hw'.symm) | (go_at_call_of 21 (Value.int .i64 4294967295); refine (H3.out _).mono ?_; rintro e w' ⟨rfl, hw'⟩; obtain rfl := hw'.symm))
    go_ret
    exact ⟨by simp, HB.out⟩

set_option maxRecDepth 100000 in
set_option maxHeartbeats 1000000 in
theorem gmcharts_any (b s g : Int) (w : World) : Calls Try.prog 10 #[.agg #[.int .i64 b, .int .i64 s, .int .i64 g]] w fun e w' => e = .returned (.int .i64 (Gm.chartsI b s g : Nat)) ∧ Below w.heap.size w w' := by
  obtain ⟨W, hW⟩ : ∃ W, W = w.alloc (.cells #[.int .i64 b, .int .i64 s, .int .i64 g] 23) := ⟨_, rfl⟩
  have hb0 : Below w.heap.size w W := by rw [hW]; exact (Below.refl _ _).alloc (Nat.le_refl _) _
  have hg0 : W.heap[w.heap.size]? = some (.cells #[.int .i64 b, .int .i64 s, .int .i64 g] 23 (0, 0)) := by rw [hW]; exact heap_alloc_new w _
  have HB0 := hide hb0
  have HG0 := hide hg0
  have HR := hide (gmright_any b s g W)
  obtain ⟨V, hV⟩ : ∃ V, Gm.chartsI b s g = V := ⟨_, rfl⟩
  have HV : Hid ((if Gm.right b s g = true then Gm.charts b.toNat else 0) = V) := hV
  rw [hV]
  clear hb0 hg0 hV
  cases hr : Gm.right b s g with
  | false =>
    rw [hr] at HR HV
    rw [if_neg (by decide)] at HV
    obtain rfl := HV.out.symm
    clear hr
    go_enter Try.func10, Try.ntmps10
    go_wp2_with fail
    rw [← hW]
    refine HR.out.mono ?_
    rintro r w1 ⟨rfl, hb1⟩
    have HB1 := hide (HB0.out.trans (hb1.mono HB0.out.size))
    clear hb1
    go_wp2_with fail
    go_ret
    exact ⟨rfl, HB1.out⟩
  | true =>
    obtain ⟨⟨h1, h2⟩, -, -⟩ := of_decide_eq_true hr
    rw [hr] at HR HV
    rw [if_pos rfl] at HV
    obtain ⟨n, rfl⟩ : ∃ n : Nat, b = n := ⟨b.toNat, by omega⟩
    rw [Int.toNat_natCast] at HV
    have HN := hide (fun W => gmparts_any n 384 W (by decide) (by decide) (by omega))
    rw [show Gm.need n 384 = V from HV.out, show ((384 : Nat) : Int) = 384 from rfl] at HN
    clear hr HV
    go_enter Try.func10, Try.ntmps10
    go_wp2_with fail
    rw [← hW]
    refine HR.out.mono ?_
    rintro r w1 ⟨rfl, hb1⟩
    have HB1 := hide (HB0.out.trans (hb1.mono HB0.out.size))
    have hg1 := (hb1.block _ (Array.getElem?_eq_some_iff.1 HG0.out).1).trans HG0.out
    have k0 : w1.cell? ⟨w.heap.size, 0, none⟩ = some (.int .i64 n) := by simp [World.cell?, hg1]
    clear hb1 hg1
    go_wp2_with fail
    refine (HN.out _).mono ?_
    rintro e w5 ⟨rfl, hw5⟩
    obtain rfl := hw5.symm
    go_wp2_with fail
    go_ret
    exact ⟨rfl, HB1.out⟩

set_option maxRecDepth 100000 in
set_option maxHeartbeats 1000000 in
theorem gmleaves_any (n : Int) (w : World) (hn : (Lit.int .i64 n).wf = true) : Calls Try.prog 12 #[.int .i64 n] w fun e w' => e = .returned (.int .i64 (Gm.leavesI n : Nat)) ∧ Below w.heap.size w w' := by
  have H1 := hide (fun W => gmwithin_any n 0 1792 W)
  by_cases hc : 0 ≤ n ∧ n ≤ 1792
  · have hL : Gm.leavesI n = Gm.leaves n.toNat := if_pos hc
    rw [hL]
    clear hL
    rw [decide_eq_true hc] at H1
    obtain ⟨m, rfl⟩ : ∃ m : Nat, n = m := ⟨n.toNat, by omega⟩
    rw [Int.toNat_natCast]
    have HN := hide (fun W => gmparts_any m 7 W (by decide) (by decide) (by omega))
    rw [show ((7 : Nat) : Int) = 7 from rfl, show Gm.need m 7 = Gm.leaves m from rfl] at HN
    clear hn
    go_enter Try.func12, Try.ntmps12
    go_wp2_with fail
    refine (H1.out _).mono ?_
    rintro e w5 ⟨rfl, hw5⟩
    obtain rfl := hw5.symm
    go_wp2_with fail
    refine (HN.out _).mono ?_
    rintro e w5 ⟨rfl, hw5⟩
    obtain rfl := hw5.symm
    go_wp2_with fail
    go_ret
    exact ⟨rfl, Below.refl _ _⟩
  · have hL : Gm.leavesI n = 0 := if_neg hc
    rw [hL]
    rw [decide_eq_false hc] at H1
    clear hn hL
    go_enter Try.func12, Try.ntmps12
    go_wp2_with fail
    refine (H1.out _).mono ?_
    rintro e w5 ⟨rfl, hw5⟩
    obtain rfl := hw5.symm
    go_wp2_with fail
    go_ret
    exact ⟨rfl, Below.refl _ _⟩

theorem gm_fans (n : Int) : (Gm.leavesI n = 0 → Gm.fansI n = 0) ∧ (Gm.leavesI n ≠ 0 → Gm.fansI n = Gm.need (Gm.leavesI n) 16 + 1) ∧ Gm.leavesI n ≤ 256 ∧ Gm.need (Gm.leavesI n) 16 ≤ 16 := by
  by_cases hc : 0 ≤ n ∧ n ≤ 1792
  · have hL : Gm.leavesI n = Gm.leaves n.toNat := if_pos hc
    have hF : Gm.fansI n = Gm.fans n.toNat := if_pos hc
    rw [hL, hF]
    generalize hm : n.toNat = m
    have hm2 : m ≤ 1792 := by omega
    unfold Gm.fans Gm.leaves Gm.need
    refine ⟨fun h => ?_, fun h => ?_, by omega, by omega⟩
    · rw [if_pos (by omega)]
    · rw [if_neg (by intro h0; subst h0; exact h (by decide))]
  · have hL : Gm.leavesI n = 0 := if_neg hc
    have hF : Gm.fansI n = 0 := if_neg hc
    rw [hL, hF]
    exact ⟨fun _ => rfl, fun h => absurd rfl h, by decide, by decide⟩

set_option maxRecDepth 100000 in
set_option maxHeartbeats 1000000 in
theorem gmfans_any (n : Int) (w : World) (hn : (Lit.int .i64 n).wf = true) : Calls Try.prog 13 #[.int .i64 n] w fun e w' => e = .returned (.int .i64 (Gm.fansI n : Nat)) ∧ Below w.heap.size w w' := by
  have HL := hide (gmleaves_any n w hn)
  obtain ⟨f1, f2, f3, f4⟩ := gm_fans n
  clear hn
  generalize Gm.leavesI n = x at *
  by_cases h0 : x = 0
  · rw [f1 h0]
    subst h0
    clear f1 f2 f3 f4
    go_enter Try.func13, Try.ntmps13
    go_wp2_with fail
    refine HL.out.mono ?_
    rintro e w5 ⟨rfl, hb⟩
    have HB := hide hb
    clear hb
    go_wp2_with fail
    go_ret
    exact ⟨rfl, HB.out⟩
  · rw [f2 h0]
    have HN := hide (fun W => gmparts_any x 16 W (by decide) (by decide) (by omega))
    rw [show ((16 : Nat) : Int) = 16 from rfl] at HN
    have hz : ((x : Int) == 0) = false := by simp; omega
    generalize Gm.need x 16 = y at *
    clear f1 f2 f3
    go_enter Try.func13, Try.ntmps13
    go_wp2_with fail
    refine HL.out.mono ?_
    rintro e w5 ⟨rfl, hb⟩
    have HB := hide hb
    clear hb
    go_wp2_with fail
    refine (HN.out _).mono ?_
    rintro e w6 ⟨rfl, hw6⟩
    obtain rfl := hw6.symm
    go_wp2_with fail
    go_ret
    exact ⟨by rfl, HB.out⟩

set_option maxRecDepth 100000 in
set_option maxHeartbeats 1000000 in
theorem gmplace_any (slot : Int) (w : World) (hs : (Lit.int .i64 slot).wf = true) : Calls Try.prog 17 #[.int .i64 slot] w fun e w' => e = .returned (.tuple #[.int .i64 (gmX slot), .int .i64 (gmY slot), .int .i64 (gmZ slot), .bool (gmIn slot)]) ∧ Below w.heap.size w w' := by
  have H1 := hide (fun W => gmwithin_any slot 0 1791 W)
  rw [show decide (0 ≤ slot ∧ slot ≤ 1791) = gmIn slot from rfl] at H1
  clear hs
  cases hi : gmIn slot with
  | true =>
    have hin := of_decide_eq_true hi
    have hx : gmX slot = slot / 112 := by unfold gmX; rw [hi, if_pos rfl]
    have hy : gmY slot = slot / 7 % 16 := by unfold gmY; rw [hi, if_pos rfl]
    have hz : gmZ slot = slot % 7 := by unfold gmZ; rw [hi, if_pos rfl]
    rw [hx, hy, hz]
    rw [hi] at H1
    have e1 : slot.tdiv 7 = slot / 7 := Int.tdiv_eq_ediv_of_nonneg hin.1
    have e2 : slot.tmod 7 = slot % 7 := Int.tmod_eq_emod_of_nonneg hin.1
    have e3 : (slot / 7).tdiv 16 = slot / 112 := by rw [Int.tdiv_eq_ediv_of_nonneg (by omega)]; omega
    have e4 : (slot / 7).tmod 16 = slot / 7 % 16 := Int.tmod_eq_emod_of_nonneg (by omega)
    have b0 : 0 ≤ slot / 7 ∧ slot / 7 < 256 := by omega
    have b1 : 0 ≤ slot / 112 ∧ slot / 112 < 16 := by omega
    have b2 : 0 ≤ slot / 7 % 16 ∧ slot / 7 % 16 < 16 := by omega
    have b3 : 0 ≤ slot % 7 ∧ slot % 7 < 7 := by omega
    clear hi hx hy hz
    generalize slot / 112 = x at *
    generalize slot / 7 % 16 = y at *
    generalize slot % 7 = z at *
    generalize slot / 7 = t at *
    obtain ⟨d1, d2⟩ := b0
    obtain ⟨d3, d4⟩ := b1
    obtain ⟨d5, d6⟩ := b2
    obtain ⟨d7, d8⟩ := b3
    go_enter Try.func17, Try.ntmps17
    go_wp2_with fail
    refine (H1.out _).mono ?_
    rintro e w5 ⟨rfl, hw5⟩
    obtain rfl := hw5.symm
    go_wp2_with fail
    go_returns
    exact ⟨by rfl, Below.refl _ _⟩
  | false =>
    have hx : gmX slot = 0 := by unfold gmX; rw [hi, if_neg (by decide)]
    have hy : gmY slot = 0 := by unfold gmY; rw [hi, if_neg (by decide)]
    have hz : gmZ slot = 0 := by unfold gmZ; rw [hi, if_neg (by decide)]
    rw [hx, hy, hz]
    rw [hi] at H1
    clear hi hx hy hz
    go_enter Try.func17, Try.ntmps17
    go_wp2_with fail
    refine (H1.out _).mono ?_
    rintro e w5 ⟨rfl, hw5⟩
    obtain rfl := hw5.symm
    go_wp2_with fail
    go_returns
    exact ⟨by rfl, Below.refl _ _⟩

set_option maxRecDepth 100000 in
set_option maxHeartbeats 2000000 in
theorem gmbound_any (b s g e : Int) (w : World) : Calls Try.prog 19 #[.agg #[.int .i64 b, .int .i64 s, .int .i64 g], .int .i64 e] w fun r w' => r = .returned (.int .i64 (Gm.bound b s g e)) ∧ Below w.heap.size w w' := by
  obtain ⟨W, hW⟩ : ∃ W, W = w.alloc (.cells #[.int .i64 b, .int .i64 s, .int .i64 g] 23) := ⟨_, rfl⟩
  have hb0 : Below w.heap.size w W := by rw [hW]; exact (Below.refl _ _).alloc (Nat.le_refl _) _
  have hg0 : W.heap[w.heap.size]? = some (.cells #[.int .i64 b, .int .i64 s, .int .i64 g] 23 (0, 0)) := by rw [hW]; exact heap_alloc_new w _
  have HB0 := hide hb0
  have HG0 := hide hg0
  have HR := hide (gmright_any b s g W)
  obtain ⟨V, hV⟩ : ∃ V, V = Gm.bound b s g e := ⟨_, rfl⟩
  have HV : Hid (V = if Gm.right b s g = true ∧ 0 ≤ e ∧ e ≤ s then 4 * (e + (Gm.leaves s.toNat : Nat) + (Gm.fans s.toNat : Nat) + (Gm.charts b.toNat : Nat) + 17) + 80 else 0) := hV
  rw [← hV]
  clear hb0 hg0 hV
  cases hr : Gm.right b s g with
  | false =>
    rw [hr] at HR HV
    rw [if_neg (fun h => absurd h.1 (by decide))] at HV
    clear hr
    go_enter Try.func19, Try.ntmps19
    go_wp2_with fail
    rw [← hW]
    refine HR.out.mono ?_
    rintro r w1 ⟨rfl, hb1⟩
    have HB1 := hide (HB0.out.trans (hb1.mono HB0.out.size))
    clear hb1
    go_wp2_with fail
    go_ret
    exact ⟨by rw [HV.out]; rfl, HB1.out⟩
  | true =>
    have hright := hr
    obtain ⟨⟨h1, h2⟩, ⟨h3, h4⟩, h5, h6⟩ := of_decide_eq_true hr
    have HCH := hide (fun W => gmcharts_any b s g W)
    rw [show Gm.chartsI b s g = Gm.charts b.toNat from if_pos hr] at HCH
    rw [hr] at HR HV
    have HW := hide (fun W => gmwithin_any e 0 s W)
    clear hr hright
    by_cases c : 0 ≤ e ∧ e ≤ s
    · rw [if_pos ⟨rfl, c⟩] at HV
      rw [decide_eq_true c] at HW
      obtain ⟨c1, c2⟩ := c
      obtain ⟨sn, rfl⟩ : ∃ n : Nat, s = n := ⟨s.toNat, by omega⟩
      rw [Int.toNat_natCast] at HV
      have hsn : sn ≤ 1792 := by omega
      have hwf : (Lit.int .i64 (sn : Int)).wf = true := wf_of_bd (by omega)
      have HLV := hide (fun W => gmleaves_any sn W hwf)
      have HFN := hide (fun W => gmfans_any sn W hwf)
      rw [show Gm.leavesI sn = Gm.leaves sn from by unfold Gm.leavesI; rw [if_pos (by omega), Int.toNat_natCast]] at HLV
      rw [show Gm.fansI sn = Gm.fans sn from by unfold Gm.fansI; rw [if_pos (by omega), Int.toNat_natCast]] at HFN
      have b1 := Gm.leaves_le hsn
      have b2 := Gm.fans_le hsn
      have b3 := Gm.charts_le (b := b.toNat) (by omega)
      clear hwf
      generalize Gm.leaves sn = x1 at *
      generalize Gm.fans sn = x2 at *
      generalize Gm.charts b.toNat = x3 at *
      go_enter Try.func19, Try.ntmps19
      go_wp2_with fail
      rw [← hW]
      refine HR.out.mono ?_
      rintro r w1 ⟨rfl, hb1⟩
      have HB1 := hide (HB0.out.trans (hb1.mono HB0.out.size))
      have hg1 := (hb1.block _ (Array.getElem?_eq_some_iff.1 HG0.out).1).trans HG0.out
      have k1 : w1.cell? ⟨w.heap.size, 1, none⟩ = some (.int .i64 sn) := by simp [World.cell?, hg1]
      have HG1 := hide hg1
      clear hb1 hg1
      go_wp2_with fail
      refine (HW.out _).mono ?_
      rintro r w1' ⟨rfl, hw1⟩
      obtain rfl := hw1.symm
      have q0 : ∀ x : Later w1, x.val.cell? ⟨w.heap.size, 0, none⟩ = some (.int .i64 b) := fun x => by
        have := (x.property.block _ (Array.getElem?_eq_some_iff.1 HG1.out).1).trans HG1.out
        simp [World.cell?, this]
      have q1 : ∀ x : Later w1, x.val.cell? ⟨w.heap.size, 1, none⟩ = some (.int .i64 sn) := fun x => by
        have := (x.property.block _ (Array.getElem?_eq_some_iff.1 HG1.out).1).trans HG1.out
        simp [World.cell?, this]
      have q2 : ∀ x : Later w1, x.val.cell? ⟨w.heap.size, 2, none⟩ = some (.int .i64 g) := fun x => by
        have := (x.property.block _ (Array.getElem?_eq_some_iff.1 HG1.out).1).trans HG1.out
        simp [World.cell?, this]
      have hne := later_some w1
      have HLX := hide (fun x : Later w1 => HLV.out x.val)
      have HFX := hide (fun x : Later w1 => HFN.out x.val)
      have HCX := hide (fun x : Later w1 => HCH.out x.val)
      have s1 : IntKind.i64.wrap (e + (x1 : Int)) = e + (x1 : Int) := by rw [IntKind.wrap_i64]; omega
      have s2 : IntKind.i64.wrap (e + (x1 : Int) + (x2 : Int)) = e + (x1 : Int) + (x2 : Int) := by rw [IntKind.wrap_i64]; omega
      have s3 : IntKind.i64.wrap (e + (x1 : Int) + (x2 : Int) + (x3 : Int)) = e + (x1 : Int) + (x2 : Int) + (x3 : Int) := by rw [IntKind.wrap_i64]; omega
      have s4 : IntKind.i64.wrap (e + (x1 : Int) + (x2 : Int) + (x3 : Int) + 17) = e + (x1 : Int) + (x2 : Int) + (x3 : Int) + 17 := by rw [IntKind.wrap_i64]; omega
      have s5 : IntKind.i64.wrap (4 * (e + (x1 : Int) + (x2 : Int) + (x3 : Int) + 17)) = 4 * (e + (x1 : Int) + (x2 : Int) + (x3 : Int) + 17) := by rw [IntKind.wrap_i64]; omega
      have s6 : IntKind.i64.wrap (4 * (e + (x1 : Int) + (x2 : Int) + (x3 : Int) + 17) + 80) = 4 * (e + (x1 : Int) + (x2 : Int) + (x3 : Int) + 17) + 80 := by rw [IntKind.wrap_i64]; omega
      go_wp2_with fail
      refine wp_region_later (by kernel_rfl) (by kernel_rfl) ?_
      repeat (go_big_quiet_step (first | rfl | (go_at_call 12; refine calls_later (HLX.out _)) | (go_at_call 13; refine calls_later (HFX.out _)) | (go_at_call 10; refine calls_later (HCX.out _))))
      refine wpQuiet_nil ?_
      intro w9 hw9
      obtain ⟨⟨w9', hb9⟩, rfl⟩ := hw9
      have HB9 := hide (HB1.out.trans (hb9.mono HB1.out.size))
      clear hb9
      go_wp2_with fail
      go_ret
      exact ⟨by rw [HV.out]; rfl, HB9.out⟩
    · rw [if_neg (fun h => c h.2)] at HV
      rw [decide_eq_false c] at HW
      clear c
      go_enter Try.func19, Try.ntmps19
      go_wp2_with fail
      rw [← hW]
      refine HR.out.mono ?_
      rintro r w1 ⟨rfl, hb1⟩
      have HB1 := hide (HB0.out.trans (hb1.mono HB0.out.size))
      have hg1 := (hb1.block _ (Array.getElem?_eq_some_iff.1 HG0.out).1).trans HG0.out
      have k1 : w1.cell? ⟨w.heap.size, 1, none⟩ = some (.int .i64 s) := by simp [World.cell?, hg1]
      clear hb1 hg1
      go_wp2_with fail
      refine (HW.out _).mono ?_
      rintro r w1' ⟨rfl, hw1⟩
      obtain rfl := hw1.symm
      go_wp2_with fail
      go_ret
      exact ⟨by rw [HV.out]; rfl, HB1.out⟩

set_option maxRecDepth 100000 in
set_option maxHeartbeats 1000000 in
theorem gmfits_any (b s g e : Int) (w : World) : Calls Try.prog 20 #[.agg #[.int .i64 b, .int .i64 s, .int .i64 g], .int .i64 e] w fun r w' => r = .returned (.bool (Gm.fits b s g e)) ∧ Below w.heap.size w w' := by
  obtain ⟨W, hW⟩ : ∃ W, W = w.alloc (.cells #[.int .i64 b, .int .i64 s, .int .i64 g] 23) := ⟨_, rfl⟩
  have hb0 : Below w.heap.size w W := by rw [hW]; exact (Below.refl _ _).alloc (Nat.le_refl _) _
  have hg0 : W.heap[w.heap.size]? = some (.cells #[.int .i64 b, .int .i64 s, .int .i64 g] 23 (0, 0)) := by rw [hW]; exact heap_alloc_new w _
  have HB0 := hide hb0
  have HG0 := hide hg0
  have HN := hide (gmbound_any b s g e W)
  have hv : Gm.fits b s g e = (Gm.bound b s g e != 0 && decide (Gm.bound b s g e ≤ b)) := by
    have hpos : 0 ≤ Gm.bound b s g e := by
      unfold Gm.bound
      split
      · omega
      · exact Int.le_refl _
    unfold Gm.fits
    rw [Bool.decide_and]
    congr 1
    by_cases h0 : Gm.bound b s g e = 0
    · rw [h0]; rfl
    · rw [decide_eq_true (by omega)]
      simp [h0]
  rw [hv]
  clear hb0 hg0 hv
  generalize Gm.bound b s g e = n at *
  cases h0 : (n != 0) with
  | false =>
    obtain rfl : n = 0 := by simpa using h0
    clear h0
    go_enter Try.func20, Try.ntmps20
    go_wp2_with fail
    rw [← hW]
    refine HN.out.mono ?_
    rintro r w1 ⟨rfl, hb1⟩
    have HB1 := hide (HB0.out.trans (hb1.mono HB0.out.size))
    have hg1 := (hb1.block _ (Array.getElem?_eq_some_iff.1 HG0.out).1).trans HG0.out
    have k0 : w1.cell? ⟨w.heap.size, 0, none⟩ = some (.int .i64 b) := by simp [World.cell?, hg1]
    clear hb1 hg1
    go_wp2_with fail
    go_ret
    exact ⟨rfl, HB1.out⟩
  | true =>
    go_enter Try.func20, Try.ntmps20
    go_wp2_with fail
    rw [← hW]
    refine HN.out.mono ?_
    rintro r w1 ⟨rfl, hb1⟩
    have HB1 := hide (HB0.out.trans (hb1.mono HB0.out.size))
    have hg1 := (hb1.block _ (Array.getElem?_eq_some_iff.1 HG0.out).1).trans HG0.out
    have k0 : w1.cell? ⟨w.heap.size, 0, none⟩ = some (.int .i64 b) := by simp [World.cell?, hg1]
    clear hb1 hg1
    go_wp2_with fail
    go_ret
    exact ⟨by simp, HB1.out⟩
end Go.Proofs.Ytmeeikgebkdmiaa
