/-
  super.within, there, unlike; slices.Index, slices.Contains: what they answer.
-/
import Derived.Test.YtmildaofmgeceaaSpNums
import Derived.Test.YtmildaofmgeceaaBkProg
import Derived.Test.YtmildaofmgeceaaGmProg
import Derived.Handy
namespace Go.Proofs.Ytmildaofmgeceaa
set_option linter.unusedVariables false
set_option linter.unusedSimpArgs false
open Go.RowKit

set_option maxHeartbeats 1000000 in
theorem spwithin_any (v a b : Int) (w : World) : Calls Try.prog 25 #[.int .i64 v, .int .i64 a, .int .i64 b] w fun e w' => e = .returned (.bool (decide (a ≤ v ∧ v ≤ b))) ∧ w' = w := by
  by_cases c1 : a ≤ v
  · have hv : decide (a ≤ v ∧ v ≤ b) = decide (v ≤ b) := decide_eq_decide.2 ⟨fun h => h.2, fun h => ⟨c1, h⟩⟩
    rw [hv]; clear hv
    go_enter Try.func25, Try.ntmps25
    go_wp2_with fail
    go_ret
    exact ⟨rfl, rfl⟩
  · have hv : decide (a ≤ v ∧ v ≤ b) = false := decide_eq_false fun h => c1 h.1
    rw [hv]; clear hv
    go_enter Try.func25, Try.ntmps25
    go_wp2_with fail
    go_ret
    exact ⟨rfl, rfl⟩

/-- whether a block may be, told by the superblock that was taken hold of. -/
theorem spthere_any (v b : Int) (g : Nat) (w : World) (hb : 16 ≤ b ∧ b ≤ 3072) (hc : w.cell? ⟨g, 1, none⟩ = some (.int .i64 b)) :
    Calls Try.prog 24 #[.int .i64 v, .pointer (some ⟨g, 0, none⟩)] w fun e w' => e = .returned (.bool (Sp.inB b v)) ∧ w' = w := by
  have H := hide (spwithin_any v 2 (b - 1) w)
  have e : decide (2 ≤ v ∧ v ≤ b - 1) = Sp.inB b v := decide_eq_decide.2 (by omega)
  rw [e] at H
  clear e
  go_enter Try.func24, Try.ntmps24
  go_wp2_with fail
  refine H.out.mono ?_
  rintro e w1 ⟨rfl, hw⟩
  obtain rfl := hw.symm
  go_wp2_with fail
  go_ret
  exact ⟨rfl, rfl⟩

theorem sp_mem_succ {L : List Int} {k : Nat} {v : Int} (h : k < L.length) : v ∈ L.take (k + 1) ↔ v ∈ L.take k ∨ v = L.getD k 0 := by
  rw [List.take_succ_eq_append_getElem h, List.mem_append, List.mem_singleton, List.getD_eq_getElem?_getD, List.getElem?_eq_getElem h]
  rfl

set_option maxHeartbeats 1000000 in
theorem spindex_any (a : Option Addr) (len cap : Nat) (L : List Int) (v : Int) (w : World) (hl : len ≤ 1000000) (hr : Row .i64 w a len L) :
    Calls Try.prog 54 #[.slice a len cap, .int .i64 v] w fun e w' => (∃ k : Int, e = .returned (.int .i64 k) ∧ (0 ≤ k ↔ v ∈ L) ∧ -1 ≤ k ∧ k ≤ 1000000) ∧ w' = w := by
  have HR := hide hr
  clear hr
  go_enter Try.func54, Try.ntmps54
  go_wp2_with fail
  go_loopw [8] (fun i wr => ∃ k : Nat, k ≤ len ∧ i = .int .i64 k ∧ wr = w ∧ ¬ v ∈ L.take k) (fun i _ => len - (intOf i).toNat)
  case atStart => exact ⟨0, Nat.zero_le _, rfl, rfl, by simp⟩
  case round =>
    obtain ⟨k, hk, rfl, rfl, hno⟩ := hrel
    have HNO := hide hno
    clear hno
    by_cases hlt : k < len
    · have hkn : (k : Int) < (len : Int) := by omega
      obtain ⟨hL, h0 | ⟨b, off, rfl, hbw, hc⟩⟩ := HR.out
      · omega
      have hck := hc k hlt
      have HM := hide (sp_mem_succ (v := v) (show k < L.length by omega))
      have HT : Hid (L.getD k 0 = v → v ∈ L) := fun e => by
        rw [← e, List.getD_eq_getElem?_getD, List.getElem?_eq_getElem (by omega)]
        exact List.getElem_mem _
      clear hc hL
      generalize L.getD k 0 = z at *
      by_cases hz : v = z
      · have hT := hide (HT.out hz.symm)
        subst hz
        go_wp2_with fail
        go_ret
        exact ⟨⟨k, rfl, ⟨fun _ => hT.out, fun _ => by omega⟩, by omega, by omega⟩, rfl⟩
      · go_wp2_with fail
        go_roundw
        case rel => exact ⟨k + 1, by omega, by go_num, trivial, fun h => by rcases HM.out.1 h with q | q; exact HNO.out q; exact hz q⟩
        case measure => simp [intOf]; omega
    · have hkn : ¬ (k : Int) < (len : Int) := by omega
      obtain rfl : k = len := by omega
      have HN : Hid (¬ v ∈ L) := by
        have e : L.take k = L := List.take_of_length_le (by rw [HR.out.1]; exact Nat.le_refl _)
        have := HNO.out
        rw [e] at this
        exact this
      go_wp2_with fail
      go_ret
      exact ⟨⟨-1, rfl, ⟨fun h => absurd h (by decide), fun h => absurd h HN.out⟩, by decide, by decide⟩, rfl⟩

theorem spcontains_any (a : Option Addr) (len cap : Nat) (L : List Int) (v : Int) (w : World) (hl : len ≤ 1000000) (hr : Row .i64 w a len L) :
    Calls Try.prog 42 #[.slice a len cap, .int .i64 v] w fun e w' => e = .returned (.bool (decide (v ∈ L))) ∧ w' = w := by
  have HI := hide (spindex_any a len cap L v w hl hr)
  clear hr
  go_enter Try.func42, Try.ntmps42
  go_wp2_with fail
  refine HI.out.mono ?_
  rintro e w1 ⟨⟨k, rfl, hk, hk0, hk1⟩, hw⟩
  obtain rfl := hw.symm
  have HD : Hid (decide (v ∈ L) = decide (0 ≤ k)) := by
    show _ = _
    exact decide_eq_decide.2 hk.symm
  clear hk
  go_wp2_with fail
  go_ret
  exact ⟨by rw [HD.out]; rfl, rfl⟩

theorem sp_all_ne (l : List Int) (j : Nat) (hj : j ≤ l.length) (x : Int) : ((List.range j).all fun k => l.getD k 0 != x) = !decide (x ∈ l.take j) := by
  rw [Bool.eq_iff_iff, List.all_eq_true]
  simp only [Bool.not_eq_true', decide_eq_false_iff_not, List.mem_range, bne_iff_ne, ne_eq]
  constructor
  · intro h hm
    obtain ⟨i, hi, e⟩ := List.getElem_of_mem hm
    rw [List.length_take] at hi
    refine h i (by omega) ?_
    rw [List.getD_eq_getElem?_getD, List.getElem?_eq_getElem (by omega), ← e, List.getElem_take]
    rfl
  · intro h k hk e
    refine h ?_
    rw [← e, List.getD_eq_getElem?_getD, List.getElem?_eq_getElem (by omega)]
    exact List.mem_take_iff_getElem.2 ⟨k, by omega, rfl⟩

theorem sp_unlike_step {l : List Int} {k : Nat} (h : k < l.length) : Sp.unlikeTo l (k + 1) = (Sp.unlikeTo l k && !decide (l.getD k 0 ∈ l.take k)) := by
  rw [Sp.unlikeTo_succ, sp_all_ne l k (by omega)]

set_option maxRecDepth 100000 in
set_option maxHeartbeats 1000000 in
theorem spunlike_any {w : World} (a : Option Addr) (len cap : Nat) (L : List Int) (b : Int) (g : Nat) (hr : Row .i64 w a len L) (hl : len ≤ 1000) (hlc : len ≤ cap) (hcm : cap ≤ maxLen) (hb : 16 ≤ b ∧ b ≤ 3072) (hc : w.cell? ⟨g, 1, none⟩ = some (.int .i64 b)) :
    Calls Try.prog 28 #[.slice a len cap, .func (.func 24) #[] #[.pointer (some ⟨g, 0, none⟩)]] w fun e w' => e = .returned (.bool (L.all (Sp.inB b) && Sp.unlikeTo L L.length)) ∧ w' = w := by
  have hLl := hr.1
  have HRX := hide hr
  have HTH := hide (fun v => spthere_any v b g w hb hc)
  obtain ⟨V, hV⟩ : ∃ V : Bool, V = (L.all (Sp.inB b) && Sp.unlikeTo L L.length) := ⟨_, rfl⟩
  rw [← hV]
  rw [hLl] at hV
  have HV := hide hV
  unfold maxLen at hcm
  clear hV hr hc
  go_enter Try.func28, Try.ntmps28
  go_wp2_with fail
  go_loopw [9] (fun i wr => ∃ j : Nat, j ≤ len ∧ i = .int .i64 j ∧ wr = w ∧ (L.take j).all (Sp.inB b) = true ∧ Sp.unlikeTo L j = true) (fun i _ => len - (intOf i).toNat)
  case atStart => exact ⟨0, Nat.zero_le _, rfl, rfl, by simp, rfl⟩
  case round =>
    obtain ⟨j, hj, rfl, rfl, hok1, hok2⟩ := hrel
    by_cases hlt : j < len
    · obtain ⟨_, h0 | ⟨blk', off, rfl, hbw, hcc⟩⟩ := HRX.out
      · omega
      have hjI : (j : Int) < (len : Int) := by omega
      have hjc : (j : Int) ≤ (cap : Int) := by omega
      have hck := hcc j hlt
      have HNU := hide (HTH.out (L.getD j 0))
      have HCO := hide (spcontains_any (some ⟨blk', off, none⟩) j cap (L.take j) (L.getD j 0) wr (by omega) (HRX.out.headRow j (by omega)))
      have HTK : Hid ((L.take (j + 1)).all (Sp.inB b) = Sp.inB b (L.getD j 0)) := by
        show _ = _
        rw [List.take_succ_eq_append_getElem (by omega), List.all_append, List.getD_eq_getElem?_getD, List.getElem?_eq_getElem (by omega), hok1]
        simp
      have HSC : Hid (Sp.unlikeTo L (j + 1) = !decide (L.getD j 0 ∈ L.take j)) := by
        show _ = _
        rw [sp_unlike_step (by omega), hok2, Bool.true_and]
      have HF1 : Hid (Sp.inB b (L.getD j 0) = false → V = false) := fun e => by
        rw [HV.out, ← List.take_append_drop (j + 1) L, List.all_append, HTK.out, e]
        rfl
      have HF2 : Hid ((!decide (L.getD j 0 ∈ L.take j)) = false → V = false) := fun e => by
        rw [HV.out]
        cases hq : Sp.unlikeTo L len with
        | false => simp
        | true =>
          have := Sp.unlikeTo_le hq (show j + 1 ≤ len by omega)
          rw [HSC.out, e] at this
          exact absurd this (by decide)
      generalize decide (L.getD j 0 ∈ L.take j) = cn at *
      generalize Sp.inB b (L.getD j 0) = kb at *
      generalize L.getD j 0 = z at *
      clear hok1 hok2 hbw hcc hLl
      cases kb with
      | false =>
        have HF := hide (HF1.out rfl)
        clear HF1 HF2 HSC HCO
        go_wp2_with fail
        refine HNU.out.mono ?_
        rintro e w5 ⟨rfl, hw5⟩
        obtain rfl := hw5.symm
        go_wp2_with fail
        go_ret
        exact ⟨by rw [HF.out]; rfl, rfl⟩
      | true =>
        go_wp2_with fail
        refine HNU.out.mono ?_
        rintro e w5 ⟨rfl, hw5⟩
        obtain rfl := hw5.symm
        go_wp2_with fail
        refine HCO.out.mono ?_
        rintro e w5 ⟨rfl, hw5⟩
        obtain rfl := hw5.symm
        cases cn with
        | true =>
          have HF := hide (HF2.out rfl)
          clear HF1 HF2 HSC
          go_wp2_with fail
          go_ret
          exact ⟨by rw [HF.out]; rfl, rfl⟩
        | false =>
          clear HF1 HF2
          go_wp2_with fail
          go_roundw
          case rel => exact ⟨j + 1, by omega, by go_num, trivial, HTK.out, HSC.out⟩
          case measure => simp [intOf]; omega
    · have hjI : ¬ (j : Int) < (len : Int) := by omega
      obtain rfl : j = len := by omega
      have HVX : Hid (V = true) := by
        show _ = _
        rw [List.take_of_length_le (by omega)] at hok1
        rw [HV.out, hok1, hok2]
        rfl
      clear hok1 hok2
      go_wp2_with fail
      go_ret
      exact ⟨by rw [HVX.out]; rfl, rfl⟩
end Go.Proofs.Ytmildaofmgeceaa
