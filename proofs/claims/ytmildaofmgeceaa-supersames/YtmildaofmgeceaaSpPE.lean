/-
  super.Right: what it answers, where the heads are right (some slot was used).
-/
import Derived.Test.YtmildaofmgeceaaSpPC
namespace Go.Proofs.Ytmildaofmgeceaa
set_option linter.unusedVariables false
set_option linter.unusedSimpArgs false
open Go.RowKit

set_option maxRecDepth 100000 in
set_option maxHeartbeats 8000000 in
theorem spright_some {w W : World} (ep bl sl ge tp hi fr di : Int) (cs : List Int) (a : Option Addr) (len cap : Nat) (hW : W = w.alloc (.cells (superC ⟨ep, bl, sl, ge, tp, hi, fr, di, cs⟩ a len cap) 28)) (hA : Arg .i64 w a len cap cs)
    (hq0 : decide (1 ≤ ep ∧ ep ≤ 4611686018427387904) = true) (hq1 : Gm.right bl sl ge = true) (hq2 : decide (0 ≤ hi ∧ hi ≤ sl) = true) (hq3 : decide (0 ≤ fr ∧ fr ≤ hi) = true) (h0 : ¬ hi = 0) :
    Calls Try.prog 10 #[.agg (superC ⟨ep, bl, sl, ge, tp, hi, fr, di, cs⟩ a len cap)] w fun e w' => e = .returned (.bool ((if hi = 0 then decide (tp = 0) else Sp.inB bl tp) && ((decide (di = 0) || Sp.inB bl di) && (decide (cs.length = Gm.charts bl.toNat) && (cs.all (Sp.inB bl) && Sp.unlikeTo cs cs.length))))) ∧ Below w.heap.size w w' := by
  have hb0 : Below w.heap.size w W := by rw [hW]; exact (Below.refl _ _).alloc (Nat.le_refl _) _
  have hg0 : W.heap[w.heap.size]? = some (.cells (superC ⟨ep, bl, sl, ge, tp, hi, fr, di, cs⟩ a len cap) 28 (0, 0)) := by rw [hW]; exact heap_alloc_new w _
  have HB0 := hide hb0
  have hlt : w.heap.size < W.heap.size := (Array.getElem?_eq_some_iff.1 hg0).1
  have C := fun x : Later W => super_cells ((x.property.block _ hlt).trans hg0)
  have k0 := fun x : Later W => (C x).1
  have k1 := fun x : Later W => (C x).2.1
  have k2 := fun x : Later W => (C x).2.2.1
  have k3 := fun x : Later W => (C x).2.2.2.1
  have k4 := fun x : Later W => (C x).2.2.2.2.1
  have k5 := fun x : Later W => (C x).2.2.2.2.2.1
  have k6 := fun x : Later W => (C x).2.2.2.2.2.2.1
  have k7 := fun x : Later W => (C x).2.2.2.2.2.2.2.1
  have k8 := fun x : Later W => (C x).2.2.2.2.2.2.2.2
  dsimp only at k0 k1 k2 k3 k4 k5 k6 k7 k8
  have hgr := of_decide_eq_true (show decide _ = true from hq1)
  have hbb : 16 ≤ bl ∧ bl ≤ 3072 := hgr.1
  have HE := hide (fun x : Later W => spwithin_any ep 1 4611686018427387904 x.val)
  have HH := hide (fun x : Later W => spwithin_any hi 0 sl x.val)
  have HF := hide (fun x : Later W => spwithin_any fr 0 hi x.val)
  have HGM := hide (fun x : Later W => gmright_any bl sl ge x.val)
  have HGC := hide (fun x : Later W => gmcharts_any bl sl ge x.val)
  have HTP := hide (fun x : Later W => spthere_any tp bl w.heap.size x.val hbb (k1 x))
  have HDI := hide (fun x : Later W => spthere_any di bl w.heap.size x.val hbb (k1 x))
  have HUX := hide (fun (x : Later W) (h8 : len ≤ 1000) => spunlike_any a len cap cs bl w.heap.size ((hA.2.2.1.below hb0).below x.property) h8 hA.1 hA.2.1 hbb (k1 x))
  have hci : Gm.chartsI bl sl ge = Gm.charts bl.toNat := by unfold Gm.chartsI; rw [hq1]; rfl
  have hc8 := Gm.charts_le (b := bl.toNat) (by omega)
  have HLL : Hid (cs.length = len) := hA.2.2.1.1
  have hne := later_some W
  rw [hci] at HGC
  rw [hq0] at HE
  rw [hq1] at HGM
  rw [hq2] at HH
  rw [hq3] at HF
  generalize Gm.charts bl.toNat = ch at *
  have HC8 := hide hc8
  have HV := hide (show (decide (cs.length = ch) : Bool) = decide (len = ch) from by rw [HLL.out])
  rw [HV.out]
  clear C hb0 hg0 hlt hA hq0 hq1 hq2 hq3 hgr hbb hci hc8 HV
  rw [if_neg h0]
  have p1 : (hi == 0) = false := by simpa using h0
  have p2 : (hi != 0) = true := by simpa using h0
  clear h0
  cases ht : Sp.inB bl tp with
  | false =>
    rw [ht] at HTP
    clear ht HC8 HUX
    go_enter Try.func10, Try.ntmps10; go_wp2_with fail; rw [← hW]; refine wp_region_later (by kernel_rfl) (by kernel_rfl) ?_; dsimp only [List.append]
    repeat (go_big_quiet_step (first | rfl | (go_at_call_of 25 (Value.int .i64 4611686018427387904); refine calls_later_same (HE.out _)) | (go_at_call_of 25 (Value.int .i64 sl); refine calls_later_same (HH.out _)) | (go_at_call_of 25 (Value.int .i64 fr); refine calls_later_same (HF.out _)) | (go_at_call 26; refine calls_later (HGM.out _)) | (go_at_call 27; refine calls_later (HGC.out _)) | (go_at_call_of 24 (Value.int .i64 tp); refine calls_later_same (HTP.out _)) | (go_at_call_of 24 (Value.int .i64 di); refine calls_later_same (HDI.out _)) | (go_at_call 28; refine calls_later_same (HUN.out _))))
    refine wpQuiet_nil ?_; intro w9 hw9; obtain ⟨⟨w9', hb9⟩, rfl⟩ := hw9; have HB9 := hide (HB0.out.trans (hb9.mono HB0.out.size)); clear hb9; go_wp2_with fail; all_goals (go_ret; exact ⟨rfl, HB9.out⟩)
  | true =>
    rw [ht] at HTP
    clear ht
    cases hd : decide (di = 0) with
    | true =>
      have p3 : (di == 0) = true := by simpa using hd
      have HD0 := hide hd
      clear hd
      by_cases hL : len = ch
      · have HUN := hide (fun x : Later W => HUX.out x (by have := HC8.out; omega))
        rw [decide_eq_true hL]
        rw [← hL] at HGC
        have pl : ((len : Int) == (len : Int)) = true := by simp
        clear hL HC8 HUX
        generalize (cs.all (Sp.inB bl) && Sp.unlikeTo cs cs.length) = qu at *
        go_enter Try.func10, Try.ntmps10; go_wp2_with fail; rw [← hW]; refine wp_region_later (by kernel_rfl) (by kernel_rfl) ?_; dsimp only [List.append]
        repeat (go_big_quiet_step (first | rfl | (go_at_call_of 25 (Value.int .i64 4611686018427387904); refine calls_later_same (HE.out _)) | (go_at_call_of 25 (Value.int .i64 sl); refine calls_later_same (HH.out _)) | (go_at_call_of 25 (Value.int .i64 fr); refine calls_later_same (HF.out _)) | (go_at_call 26; refine calls_later (HGM.out _)) | (go_at_call 27; refine calls_later (HGC.out _)) | (go_at_call_of 24 (Value.int .i64 tp); refine calls_later_same (HTP.out _)) | (go_at_call_of 24 (Value.int .i64 di); refine calls_later_same (HDI.out _)) | (go_at_call 28; refine calls_later_same (HUN.out _))))
        refine wpQuiet_nil ?_; intro w9 hw9; obtain ⟨⟨w9', hb9⟩, rfl⟩ := hw9; have HB9 := hide (HB0.out.trans (hb9.mono HB0.out.size)); clear hb9; go_wp2_with fail; all_goals (go_ret; exact ⟨rfl, HB9.out⟩)
      · have pl : ((len : Int) == (ch : Int)) = false := by simp; omega
        rw [decide_eq_false hL]
        clear hL HC8 HUX
        go_enter Try.func10, Try.ntmps10; go_wp2_with fail; rw [← hW]; refine wp_region_later (by kernel_rfl) (by kernel_rfl) ?_; dsimp only [List.append]
        repeat (go_big_quiet_step (first | rfl | (go_at_call_of 25 (Value.int .i64 4611686018427387904); refine calls_later_same (HE.out _)) | (go_at_call_of 25 (Value.int .i64 sl); refine calls_later_same (HH.out _)) | (go_at_call_of 25 (Value.int .i64 fr); refine calls_later_same (HF.out _)) | (go_at_call 26; refine calls_later (HGM.out _)) | (go_at_call 27; refine calls_later (HGC.out _)) | (go_at_call_of 24 (Value.int .i64 tp); refine calls_later_same (HTP.out _)) | (go_at_call_of 24 (Value.int .i64 di); refine calls_later_same (HDI.out _)) | (go_at_call 28; refine calls_later_same (HUN.out _))))
        refine wpQuiet_nil ?_; intro w9 hw9; obtain ⟨⟨w9', hb9⟩, rfl⟩ := hw9; have HB9 := hide (HB0.out.trans (hb9.mono HB0.out.size)); clear hb9; go_wp2_with fail; all_goals (go_ret; exact ⟨rfl, HB9.out⟩)
    | false =>
      have p3 : (di == 0) = false := by simpa using hd
      clear hd
      cases hqd : Sp.inB bl di with
      | false =>
        rw [hqd] at HDI
        clear hqd HC8 HUX
        go_enter Try.func10, Try.ntmps10; go_wp2_with fail; rw [← hW]; refine wp_region_later (by kernel_rfl) (by kernel_rfl) ?_; dsimp only [List.append]
        repeat (go_big_quiet_step (first | rfl | (go_at_call_of 25 (Value.int .i64 4611686018427387904); refine calls_later_same (HE.out _)) | (go_at_call_of 25 (Value.int .i64 sl); refine calls_later_same (HH.out _)) | (go_at_call_of 25 (Value.int .i64 fr); refine calls_later_same (HF.out _)) | (go_at_call 26; refine calls_later (HGM.out _)) | (go_at_call 27; refine calls_later (HGC.out _)) | (go_at_call_of 24 (Value.int .i64 tp); refine calls_later_same (HTP.out _)) | (go_at_call_of 24 (Value.int .i64 di); refine calls_later_same (HDI.out _)) | (go_at_call 28; refine calls_later_same (HUN.out _))))
        refine wpQuiet_nil ?_; intro w9 hw9; obtain ⟨⟨w9', hb9⟩, rfl⟩ := hw9; have HB9 := hide (HB0.out.trans (hb9.mono HB0.out.size)); clear hb9; go_wp2_with fail; all_goals (go_ret; exact ⟨rfl, HB9.out⟩)
      | true =>
        rw [hqd] at HDI
        clear hqd
        by_cases hL : len = ch
        · have HUN := hide (fun x : Later W => HUX.out x (by have := HC8.out; omega))
          rw [decide_eq_true hL]
          rw [← hL] at HGC
          have pl : ((len : Int) == (len : Int)) = true := by simp
          clear hL HC8 HUX
          generalize (cs.all (Sp.inB bl) && Sp.unlikeTo cs cs.length) = qu at *
          go_enter Try.func10, Try.ntmps10; go_wp2_with fail; rw [← hW]; refine wp_region_later (by kernel_rfl) (by kernel_rfl) ?_; dsimp only [List.append]
          repeat (go_big_quiet_step (first | rfl | (go_at_call_of 25 (Value.int .i64 4611686018427387904); refine calls_later_same (HE.out _)) | (go_at_call_of 25 (Value.int .i64 sl); refine calls_later_same (HH.out _)) | (go_at_call_of 25 (Value.int .i64 fr); refine calls_later_same (HF.out _)) | (go_at_call 26; refine calls_later (HGM.out _)) | (go_at_call 27; refine calls_later (HGC.out _)) | (go_at_call_of 24 (Value.int .i64 tp); refine calls_later_same (HTP.out _)) | (go_at_call_of 24 (Value.int .i64 di); refine calls_later_same (HDI.out _)) | (go_at_call 28; refine calls_later_same (HUN.out _))))
          refine wpQuiet_nil ?_; intro w9 hw9; obtain ⟨⟨w9', hb9⟩, rfl⟩ := hw9; have HB9 := hide (HB0.out.trans (hb9.mono HB0.out.size)); clear hb9; go_wp2_with fail; all_goals (go_ret; exact ⟨rfl, HB9.out⟩)
        · have pl : ((len : Int) == (ch : Int)) = false := by simp; omega
          rw [decide_eq_false hL]
          clear hL HC8 HUX
          go_enter Try.func10, Try.ntmps10; go_wp2_with fail; rw [← hW]; refine wp_region_later (by kernel_rfl) (by kernel_rfl) ?_; dsimp only [List.append]
          repeat (go_big_quiet_step (first | rfl | (go_at_call_of 25 (Value.int .i64 4611686018427387904); refine calls_later_same (HE.out _)) | (go_at_call_of 25 (Value.int .i64 sl); refine calls_later_same (HH.out _)) | (go_at_call_of 25 (Value.int .i64 fr); refine calls_later_same (HF.out _)) | (go_at_call 26; refine calls_later (HGM.out _)) | (go_at_call 27; refine calls_later (HGC.out _)) | (go_at_call_of 24 (Value.int .i64 tp); refine calls_later_same (HTP.out _)) | (go_at_call_of 24 (Value.int .i64 di); refine calls_later_same (HDI.out _)) | (go_at_call 28; refine calls_later_same (HUN.out _))))
          refine wpQuiet_nil ?_; intro w9 hw9; obtain ⟨⟨w9', hb9⟩, rfl⟩ := hw9; have HB9 := hide (HB0.out.trans (hb9.mono HB0.out.size)); clear hb9; go_wp2_with fail; all_goals (go_ret; exact ⟨rfl, HB9.out⟩)
end Go.Proofs.Ytmildaofmgeceaa
