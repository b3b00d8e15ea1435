/-
  The document's answers (layer 13): Right, of a superblock: whole.
-/
import Derived.Test.YtmildaofmgeceaaRefSpA
namespace Go.Proofs.Ytmildaofmgeceaa
set_option linter.unusedVariables false
set_option linter.unusedSimpArgs false
open Go.RowKit

/-- the blocks ahead of the charts that a superblock names. -/
def need0 (s : Sp.S) : List Int := (if s.high = 0 then [] else [s.top]) ++ (if s.dir = 0 then [] else [s.dir])

set_option maxRecDepth 100000 in
set_option maxHeartbeats 4000000 in
theorem rspright_main {w : World} (s : Sp.S) (a : Option Addr) (len cap : Nat) (hA : Arg .i64 w a len cap s.charts) (hh : Sp.headB s = true) (hm : Sp.midB s = true) :
    Calls Try.prog 9 #[.agg (superC s a len cap)] w fun e w' => e = .returned (.bool (Sp.right s)) ∧ Below w.heap.size w w' := by
  obtain ⟨W, hW⟩ : ∃ W, W = w.alloc (.cells (superC s a len cap) 28) := ⟨_, rfl⟩
  have hb0 : Below w.heap.size w W := by rw [hW]; exact (Below.refl _ _).alloc (Nat.le_refl _) _
  have hg0 : W.heap[w.heap.size]? = some (.cells (superC s a len cap) 28 (0, 0)) := by rw [hW]; exact heap_alloc_new w _
  have HB0 := hide hb0
  have HG0 := hide hg0
  have HA0 := hide (hA.below hb0)
  have hl : s.charts.length = len := hA.2.2.1.1
  obtain ⟨c0, c1, c2, c3, _, _, _, _, _⟩ := super_cells hg0
  rw [hW] at c0 c1 c2 c3
  obtain ⟨V, hV⟩ : ∃ V, V = Sp.right s := ⟨_, rfl⟩
  have HV : Hid (V = (decide (s.high = 0 → s.top = 0) && (Sp.unlikeTo s.charts s.charts.length && (Sp.needs s).all (Sp.inB s.blocks)))) := by
    show V = _
    rw [hV]
    unfold Sp.right
    rw [hh, hm]
    rfl
  have HND : Hid (Sp.needs s = need0 s ++ s.charts) := rfl
  rw [← hV]
  have HN0 : Hid (need0 s = (if s.high = 0 then [] else [s.top]) ++ (if s.dir = 0 then [] else [s.dir])) := rfl
  obtain ⟨N0, hN0⟩ : ∃ N, need0 s = N := ⟨_, rfl⟩
  rw [hN0] at HND HN0
  obtain ⟨ep, bl, sl, ge, tp, hi, fr, di, cs⟩ := s
  obtain ⟨hh1, hh2⟩ := Bool.and_eq_true_iff.1 hh
  have hep := of_decide_eq_true hh1
  have hgm := of_decide_eq_true hh2
  have hmm := of_decide_eq_true hm
  dsimp only at hep hgm hh2 hl hmm HV HND HN0 c0 c1 c2 c3
  have HR := hide (fun X => rgmright_any bl sl ge X)
  rw [hh2] at HR
  have HC := hide (fun X => rcharts_any bl sl ge X ⟨by omega, hgm.1.2⟩)
  have e1 : decide (ep < 1) = false := by simp; omega
  have e2 : decide (4611686018427387904 < ep) = false := by simp; omega
  have hl8 : len ≤ 8 := by have := Gm.charts_le (b := bl.toNat) (by omega); omega
  rw [← hmm.2.2, hl] at HC
  have f1 : decide (hi < 0) = false := by simp; omega
  have f2 : decide (sl < hi) = false := by simp; omega
  have f3 : decide (fr < 0) = false := by simp; omega
  have f4 : decide (hi < fr) = false := by simp; omega
  have hnq : ((len : Int) != (len : Int)) = false := by simp
  have HCS : Hid (∀ X : World, Below W.heap.size W X → X.cell? ⟨w.heap.size, 1, none⟩ = some (.int .i64 bl) ∧ X.cell? ⟨w.heap.size, 2, none⟩ = some (.int .i64 sl) ∧ X.cell? ⟨w.heap.size, 3, none⟩ = some (.int .i64 ge) ∧ X.cell? ⟨w.heap.size, 5, none⟩ = some (.int .i64 hi) ∧ X.cell? ⟨w.heap.size, 6, none⟩ = some (.int .i64 fr) ∧ X.cell? ⟨w.heap.size, 8, none⟩ = some (.slice a len cap) ∧ X.cell? ⟨w.heap.size, 4, none⟩ = some (.int .i64 tp) ∧ X.cell? ⟨w.heap.size, 7, none⟩ = some (.int .i64 di)) := fun X hX => by
    obtain ⟨_, k1, k2, k3, k4, k5, k6, k7, k8⟩ := super_cells ((hX.block _ (Array.getElem?_eq_some_iff.1 HG0.out).1).trans HG0.out)
    exact ⟨k1, k2, k3, k5, k6, k8, k4, k7⟩
  have HLL := hide hl
  clear hb0 hg0 hh hh1 hh2 hep hgm hl hm hmm hN0 hV hA
  go_enter Try.func9, Try.ntmps9
  go_wp2_with fail
  rw [← hW]
  refine (HR.out _).mono ?_
  rintro r w1 ⟨rfl, hb1⟩
  have HB1 := hide hb1
  have hq : ∀ x : Later w1, Below W.heap.size W x.val := fun x => hb1.trans (x.property.mono hb1.size)
  have k1 := fun x : Later w1 => (HCS.out x.val (hq x)).1
  have k2 := fun x : Later w1 => (HCS.out x.val (hq x)).2.1
  have k3 := fun x : Later w1 => (HCS.out x.val (hq x)).2.2.1
  have k5 := fun x : Later w1 => (HCS.out x.val (hq x)).2.2.2.1
  have k6 := fun x : Later w1 => (HCS.out x.val (hq x)).2.2.2.2.1
  have k8 := fun x : Later w1 => (HCS.out x.val (hq x)).2.2.2.2.2.1
  have hne := later_some w1
  have HCX := hide (fun x : Later w1 => HC.out x.val)
  clear hb1 hW hq
  go_wp2_with fail
  refine wp_region_later (by kernel_rfl) (by kernel_rfl) ?_
  repeat (go_big_quiet_step (first | rfl | (go_at_call 23; refine calls_later (HCX.out _))))
  refine wpQuiet_nil ?_
  intro w9 hw9
  obtain ⟨⟨w9', hb9⟩, rfl⟩ := hw9
  have HB9 := hide (HB1.out.trans (hb9.mono HB1.out.size))
  clear hb9 k1 k2 k3 k5 k6 k8 hne
  obtain ⟨i0, hi0, hz0, hz1, hz2⟩ := info_parts info_int64
  obtain ⟨_, _, _, k5, _, k8, k4, k7⟩ := HCS.out w9 HB9.out
  have HE0 : Hid (∀ X : World, X.ownsRow w9.heap.size 3 1 (.slice none 0 0) 0 []) := fun X => ⟨rfl, .inl ⟨rfl, rfl⟩⟩
  have hcs : (hi = 0 ∧ tp ≠ 0) ∨ (hi = 0 ∧ tp = 0 ∧ di = 0) ∨ (hi = 0 ∧ tp = 0 ∧ di ≠ 0) ∨ (hi ≠ 0 ∧ di = 0) ∨ (hi ≠ 0 ∧ di ≠ 0) := by omega
  rcases hcs with ⟨g1, g2⟩ | ⟨g1, g2, g3⟩ | ⟨g1, g2, g3⟩ | ⟨g1, g3⟩ | ⟨g1, g3⟩
  · rw [decide_eq_false (fun h => g2 (h g1)), Bool.false_and] at HV
    have g1' : (hi == 0) = true := by simpa using g1
    have g2' : (tp != 0) = true := by simpa using g2
    clear g1 g2
    go_wp2_with fail
    go_ret
    exact ⟨by rw [HV.out]; rfl, HB0.out.trans (HB9.out.mono HB0.out.size)⟩
  · rw [decide_eq_true (fun _ => g2), Bool.true_and] at HV
    have HOX : Hid (w9.ownsRow w9.heap.size 3 1 (.slice none 0 0) N0.length (N0.map (Value.int .i64))) := by
      rw [HN0.out, if_pos g1, if_pos g3]
      exact ⟨rfl, .inl ⟨rfl, rfl⟩⟩
    have HBX : Hid (Below w9.heap.size w9 w9) := Below.refl _ _
    have g1' : (hi == 0) = true := by simpa using g1
    have g2' : (tp != 0) = false := by simpa using g2
    have g3' : (di != 0) = false := by simpa using g3
    clear g1 g2 g3
    go_wp2_with fail
    go_loopw [3, 4] (fun v i wr => ∃ j : Nat, j ≤ len ∧ i = .int .i64 j ∧ wr.ownsRow w9.heap.size 3 1 v (N0.length + j) ((N0 ++ cs.take j).map (Value.int .i64)) ∧ Sp.unlikeTo cs j = true ∧ Below w9.heap.size w9 wr) (fun _ i _ => len - (intOf i).toNat)
    case atStart => exact ⟨0, Nat.zero_le _, rfl, by rw [List.take_zero, List.append_nil]; exact HOX.out, rfl, HBX.out⟩
    case round =>
      obtain ⟨j, hj, rfl, hown, hun, hb⟩ := hrel
      have HOW := hide hown
      have HBR := hide hb
      have hbW := HB9.out.trans (hb.mono HB9.out.size)
      have HBW := hide hbW
      obtain ⟨_, _, _, _, _, k8, _, _⟩ := HCS.out wr hbW
      by_cases hlt : j < len
      · have hjI : (j : Int) < (len : Int) := by omega
        obtain ⟨_, h0 | ⟨b, off, rfl, hbw, hc⟩⟩ := HA0.out.2.2.1
        · omega
        have HCC : Hid (∀ X : World, Below W.heap.size W X → ∀ i, i < len → X.cell? ⟨b, off + i, none⟩ = some (.int .i64 (cs.getD i 0))) := fun X hX i hi => (hX.cell hbw).trans (hc i hi)
        have kj := HCC.out wr hbW j hlt
        have HUS : Hid (Sp.unlikeTo cs (j + 1) = (List.range j).all fun k => cs.getD k 0 != cs.getD j 0) := by show _ = _; rw [Sp.unlikeTo_succ, hun, Bool.true_and]
        have HNO : Hid (Sp.unlikeTo cs (j + 1) = false → V = false) := fun e => by
          rw [HV.out]
          have hlen := HLL.out
          cases hq : Sp.unlikeTo cs cs.length with
          | false => rfl
          | true =>
            have := Sp.unlikeTo_le hq (show j + 1 ≤ cs.length by omega)
            rw [e] at this
            exact absurd this (by decide)
        have HTK : Hid (cs.take (j + 1) = cs.take j ++ [cs.getD j 0]) := by
          show _ = _
          have hlen := HLL.out
          rw [List.take_succ_eq_append_getElem (by omega), List.getD_eq_getElem?_getD, List.getElem?_eq_getElem (by omega)]
          rfl
        have hn0 : N0.length ≤ 2 := by
          rw [HN0.out]
          split <;> split <;> simp
        generalize hzj : cs.getD j 0 = z at *
        have HZJ := hide hzj
        have hsz := hb.size
        obtain ⟨L, hL⟩ : ∃ L, N0 ++ cs.take j = L := ⟨_, rfl⟩
        have HL := hide hL
        obtain ⟨ml, hml⟩ : ∃ m, N0.length + j = m := ⟨_, rfl⟩
        rw [hL, hml] at HOW
        have hml2 : ml ≤ 10 := by omega
        have HML := hide hml
        clear hown hun hb hbW hc hzj hL hml
        go_wp2_with (at_builtin; refine wpList_append_own _ rfl _ _ 26 rfl w9.heap.size 3 i0 _ 1 8 Try.underlying26 hi0 hz0 hz1 hz2 rfl (by decide) u3 ml (L.map (Value.int .i64)) rfl (HOW.out.alloc _) ⟨wr.heap.size, 0, none⟩ 1 1 [.int .i64 z] rfl rfl (cell_one_new _ _ _) (by simp [Value.oneCell']) (by unfold maxLen; omega) (by omega) (by simp; omega) ?_; intro v12 w12 hown12 hgrow12 hiff12; have hb12 := own_below (HOW.out.alloc _) hgrow12 (by simp; omega) (HBR.out.alloc hsz _) (Nat.le_refl _))
        have HB12 := hide hb12
        have HO12 : Hid (w12.ownsRow w9.heap.size 3 1 v12 (ml + 1) ((L ++ [z]).map (Value.int .i64))) := by
          rw [List.map_append]
          exact hown12
        clear hown12 hgrow12 hiff12 hb12 kj k8
        go_wp2_with fail
        go_loopw [5] (fun k wx => ∃ i : Nat, i ≤ j ∧ k = .int .i64 i ∧ ((List.range i).all fun k => cs.getD k 0 != z) = true ∧ Below w12.heap.size w12 wx) (fun k _ => j - (intOf k).toNat)
        case atStart => exact ⟨0, Nat.zero_le _, rfl, rfl, Below.refl _ _⟩
        case round =>
          obtain ⟨i, hi, rfl, hall, hbx⟩ := hrel
          have HBX := hide hbx
          have hbx9 := HB12.out.trans (hbx.mono HB12.out.size)
          have hbxW := HB9.out.trans (hbx9.mono HB9.out.size)
          have HBX9 := hide hbx9
          by_cases hij : i < j
          · have hiI : (i : Int) < (j : Int) := by omega
            have hil : (i : Int) < (len : Int) := by omega
            have kh : wr.drew.cell? ⟨w.heap.size, 8, none⟩ = some (.slice (some ⟨b, off, none⟩) len cap) := (HCS.out wr.drew hbxW.drew).2.2.2.2.2.1
            have ki : wr.drew.cell? ⟨b, off + i, none⟩ = some (.int .i64 (cs.getD i 0)) := HCC.out _ hbxW.drew i (by omega)
            have kj : wr.drew.cell? ⟨b, off + j, none⟩ = some (.int .i64 z) := by
              have := HCC.out _ hbxW.drew j hlt
              rw [HZJ.out] at this
              exact this
            have HAS : Hid (((List.range (i + 1)).all fun k => cs.getD k 0 != z) = (cs.getD i 0 != z)) := by
              show _ = _
              rw [List.range_succ, List.all_append, hall]
              simp
            have HAN : Hid ((cs.getD i 0 != z) = false → ((List.range j).all fun k => cs.getD k 0 != z) = false) := fun e => by
              rw [List.all_eq_false]
              exact ⟨i, List.mem_range.2 hij, by rw [e]; decide⟩
            generalize cs.getD i 0 = y at *
            clear hall hbx hbx9 hbxW
            by_cases hyz : y = z
            · have e0 : (y != z) = false := by simpa using hyz
              have HFF := hide (HNO.out (by rw [HUS.out]; exact HAN.out e0))
              have heq : (y == z) = true := by simpa using hyz
              clear e0 hyz HAS HAN
              go_wp2_with fail
              go_region_held3 (fun w' => w'.cell? ⟨w.heap.size, 8, none⟩ = some (.slice (some ⟨b, off, none⟩) len cap) ∧ w'.cell? ⟨b, off + i, none⟩ = some (.int .i64 y) ∧ w'.cell? ⟨b, off + j, none⟩ = some (.int .i64 z)) (go_keep) (fail)
              go_wp2_with fail
              go_ret
              exact ⟨by rw [HFF.out]; rfl, HB0.out.trans ((HB9.out.trans (HBX9.out.mono HB9.out.size)).mono HB0.out.size).drew⟩
            · have e0 : (y != z) = true := by simpa using hyz
              have HAS' : Hid (((List.range (i + 1)).all fun k => cs.getD k 0 != z) = true) := by show _ = _; rw [HAS.out, e0]
              have heq : (y == z) = false := by simpa using hyz
              clear e0 hyz HAS HAN
              go_wp2_with fail
              go_region_held3 (fun w' => w'.cell? ⟨w.heap.size, 8, none⟩ = some (.slice (some ⟨b, off, none⟩) len cap) ∧ w'.cell? ⟨b, off + i, none⟩ = some (.int .i64 y) ∧ w'.cell? ⟨b, off + j, none⟩ = some (.int .i64 z)) (go_keep) (fail)
              go_wp2_with fail
              go_roundw
              case rel => exact ⟨i + 1, by omega, by go_num, HAS'.out, HBX.out.drew⟩
              case measure => simp [intOf]; omega
          · have hiI : ¬ (i : Int) < (j : Int) := by omega
            obtain rfl : i = j := by omega
            have HUT : Hid (Sp.unlikeTo cs (i + 1) = true) := by show _ = _; rw [HUS.out]; exact hall
            have HOE := hide (own_kept HO12.out hbx)
            clear hall hbx hbx9 hbxW HNO
            go_wp2_with fail
            go_roundw
            case rel => exact ⟨i + 1, by omega, by go_num, by rw [HTK.out, ← List.append_assoc, HL.out, ← Nat.add_assoc, HML.out]; exact HOE.out, HUT.out, HBX9.out⟩
            case measure => simp [intOf]; omega
      · have hjI : ¬ (j : Int) < (len : Int) := by omega
        obtain rfl : j = len := by omega
        have hlen := HLL.out
        have hta : cs.take j = cs := List.take_of_length_le (by omega)
        rw [hta] at hown
        obtain ⟨F, hF⟩ : ∃ F, N0 ++ cs = F := ⟨_, rfl⟩
        rw [hF] at hown
        obtain ⟨fl, hfl⟩ : ∃ n, N0.length + j = n := ⟨_, rfl⟩
        rw [hfl] at hown
        have HFL : Hid (F.length = fl) := by show _ = _; rw [← hF, List.length_append]; omega
        have hn0 : N0.length ≤ 2 := by
          rw [HN0.out]
          split <;> split <;> simp
        have hfl10 : fl ≤ 10 := by omega
        have HVF : Hid (V = F.all (Sp.inB bl)) := by
          show V = _
          rw [HV.out, show cs.length = j from hlen, hun, Bool.true_and, HND.out, hF]
        obtain ⟨na, nc, hv, _, _, _, hrow⟩ := row_of_own hown
        subst hv
        have HRO := hide hrow
        clear hown hun hb hbW hta hF hfl hrow
        go_wp2_with fail
        clear k8
        obtain ⟨wq, hwq⟩ : ∃ x, x = wr := ⟨_, rfl⟩
        subst hwq
        go_loopw [6] (fun k wx => ∃ i : Nat, i ≤ fl ∧ k = .int .i64 i ∧ (F.take i).all (Sp.inB bl) = true ∧ Below wq.heap.size wq wx) (fun k _ => fl - (intOf k).toNat)
        case atStart => exact ⟨0, Nat.zero_le _, rfl, rfl, Below.refl _ _⟩
        case round =>
          obtain ⟨i, hi, rfl, hall, hbx⟩ := hrel
          have HBX := hide hbx
          have hbxW := HBW.out.trans (hbx.mono HBW.out.size)
          have HBXW := hide hbxW
          by_cases hij : i < fl
          · have hiI : (i : Int) < (fl : Int) := by omega
            obtain ⟨_, h0 | ⟨nb, noff, rfl, hnbw, hnc⟩⟩ := HRO.out
            · omega
            have kb : ∀ x : Later wr, x.val.cell? ⟨w.heap.size, 1, none⟩ = some (.int .i64 bl) := fun x => (HCS.out _ (hbxW.trans (x.property.mono hbxW.size))).1
            have ki : ∀ x : Later wr, x.val.cell? ⟨nb, noff + i, none⟩ = some (.int .i64 (F.getD i 0)) := fun x => ((hbx.trans (x.property.mono hbx.size)).cell hnbw).trans (hnc i hij)
            have HTA : Hid ((F.take (i + 1)).all (Sp.inB bl) = Sp.inB bl (F.getD i 0)) := by
              show _ = _
              have hFL := HFL.out
              rw [List.take_succ_eq_append_getElem (by omega), List.all_append, hall, List.getD_eq_getElem?_getD, List.getElem?_eq_getElem (by omega)]
              simp
            have HFN : Hid (Sp.inB bl (F.getD i 0) = false → V = false) := fun e => by
              have e1 := HTA.out
              rw [HVF.out, ← List.take_append_drop (i + 1) F, List.all_append, e1, e]
              rfl
            have hne := later_some wr
            generalize F.getD i 0 = y at *
            have hcy : (decide (y < 2) = true ∧ Sp.inB bl y = false) ∨ (decide (y < 2) = false ∧ decide (bl ≤ y) = true ∧ Sp.inB bl y = false) ∨ (decide (y < 2) = false ∧ decide (bl ≤ y) = false ∧ Sp.inB bl y = true) := by
              unfold Sp.inB
              simp only [decide_eq_true_eq, decide_eq_false_iff_not]
              omega
            clear hall hbx hbxW hnc
            rcases hcy with ⟨d1, d2⟩ | ⟨d1, d2, d3⟩ | ⟨d1, d2, d3⟩
            · have HFF := hide (HFN.out d2)
              clear d2 HTA HFN
              go_wp2_with fail
              refine wp_region_later (by kernel_rfl) (by kernel_rfl) ?_
              repeat (go_big_quiet_step (rfl))
              refine wpQuiet_nil ?_
              intro w9' hw
              obtain ⟨⟨x, hx⟩, rfl⟩ := hw
              go_wp2_with fail
              go_ret
              exact ⟨by rw [HFF.out]; rfl, HB0.out.trans ((HBXW.out.trans (hx.mono HBXW.out.size)).mono HB0.out.size)⟩
            · have HFF := hide (HFN.out d3)
              clear d3 HTA HFN
              go_wp2_with fail
              refine wp_region_later (by kernel_rfl) (by kernel_rfl) ?_
              repeat (go_big_quiet_step (rfl))
              refine wpQuiet_nil ?_
              intro w9' hw
              obtain ⟨⟨x, hx⟩, rfl⟩ := hw
              go_wp2_with fail
              go_ret
              exact ⟨by rw [HFF.out]; rfl, HB0.out.trans ((HBXW.out.trans (hx.mono HBXW.out.size)).mono HB0.out.size)⟩
            · have HTT := hide (HTA.out.trans d3)
              clear d3 HTA HFN
              go_wp2_with fail
              refine wp_region_later (by kernel_rfl) (by kernel_rfl) ?_
              repeat (go_big_quiet_step (rfl))
              refine wpQuiet_nil ?_
              intro w9' hw
              obtain ⟨⟨x, hx⟩, rfl⟩ := hw
              go_wp2_with fail
              go_roundw
              case rel => exact ⟨i + 1, by omega, by go_num, HTT.out, HBX.out.trans (hx.mono HBX.out.size)⟩
              case measure => simp [intOf]; omega
          · have hiI : ¬ (i : Int) < (fl : Int) := by omega
            obtain rfl : i = fl := by omega
            have HVT : Hid (V = true) := by
              have h1 := HFL.out
              rw [List.take_of_length_le (by omega)] at hall
              show V = true
              rw [HVF.out]; exact hall
            clear hall hbx hbxW
            go_wp2_with fail
            go_ret
            exact ⟨by rw [HVT.out]; rfl, HB0.out.trans (HBXW.out.mono HB0.out.size)⟩
  · rw [decide_eq_true (fun _ => g2), Bool.true_and] at HV
    have g1' : (hi == 0) = true := by simpa using g1
    have g2' : (tp != 0) = false := by simpa using g2
    have g3' : (di != 0) = true := by simpa using g3
    have HNE : Hid (N0 = [di]) := by show _ = _; rw [HN0.out, if_pos g1, if_neg g3]; rfl
    clear g1 g2 g3
    go_wp2_with (at_builtin; refine wpList_append_own _ rfl _ _ 26 rfl w9.heap.size 3 i0 _ 1 8 Try.underlying26 hi0 hz0 hz1 hz2 rfl (by decide) (.slice none 0 0) 0 [] rfl (HE0.out _) ⟨w9.heap.size, 0, none⟩ 1 1 [.int .i64 di] rfl rfl (cell_one_new _ _ _) (by simp [Value.oneCell']) (by unfold maxLen; omega) (by omega) (by simp <;> omega) ?_; intro v10 w10 hown10 hgrow10 hiff10; have hb10 := own_below (HE0.out _) hgrow10 (by simp <;> omega) (B0 := w9.heap.size) (w0 := w9) ((Below.refl _ _).alloc (Nat.le_refl _) _) (Nat.le_refl _); have hv10 := HCS.out w10 (HB9.out.trans (hb10.mono HB9.out.size)); have kd10 := hv10.2.2.2.2.2.2.2)
    have HOX : Hid (w10.ownsRow w9.heap.size 3 1 v10 N0.length (N0.map (Value.int .i64))) := by
      rw [HNE.out]
      exact hown10
    have HBX := hide hb10
    clear hown10 hgrow10 hiff10 hb10 hv10 kd10
    go_loopw [3, 4] (fun v i wr => ∃ j : Nat, j ≤ len ∧ i = .int .i64 j ∧ wr.ownsRow w9.heap.size 3 1 v (N0.length + j) ((N0 ++ cs.take j).map (Value.int .i64)) ∧ Sp.unlikeTo cs j = true ∧ Below w9.heap.size w9 wr) (fun _ i _ => len - (intOf i).toNat)
    case atStart => exact ⟨0, Nat.zero_le _, rfl, by rw [List.take_zero, List.append_nil]; exact HOX.out, rfl, HBX.out⟩
    case round =>
      obtain ⟨j, hj, rfl, hown, hun, hb⟩ := hrel
      have HOW := hide hown
      have HBR := hide hb
      have hbW := HB9.out.trans (hb.mono HB9.out.size)
      have HBW := hide hbW
      obtain ⟨_, _, _, _, _, k8, _, _⟩ := HCS.out wr hbW
      by_cases hlt : j < len
      · have hjI : (j : Int) < (len : Int) := by omega
        obtain ⟨_, h0 | ⟨b, off, rfl, hbw, hc⟩⟩ := HA0.out.2.2.1
        · omega
        have HCC : Hid (∀ X : World, Below W.heap.size W X → ∀ i, i < len → X.cell? ⟨b, off + i, none⟩ = some (.int .i64 (cs.getD i 0))) := fun X hX i hi => (hX.cell hbw).trans (hc i hi)
        have kj := HCC.out wr hbW j hlt
        have HUS : Hid (Sp.unlikeTo cs (j + 1) = (List.range j).all fun k => cs.getD k 0 != cs.getD j 0) := by show _ = _; rw [Sp.unlikeTo_succ, hun, Bool.true_and]
        have HNO : Hid (Sp.unlikeTo cs (j + 1) = false → V = false) := fun e => by
          rw [HV.out]
          have hlen := HLL.out
          cases hq : Sp.unlikeTo cs cs.length with
          | false => rfl
          | true =>
            have := Sp.unlikeTo_le hq (show j + 1 ≤ cs.length by omega)
            rw [e] at this
            exact absurd this (by decide)
        have HTK : Hid (cs.take (j + 1) = cs.take j ++ [cs.getD j 0]) := by
          show _ = _
          have hlen := HLL.out
          rw [List.take_succ_eq_append_getElem (by omega), List.getD_eq_getElem?_getD, List.getElem?_eq_getElem (by omega)]
          rfl
        have hn0 : N0.length ≤ 2 := by
          rw [HN0.out]
          split <;> split <;> simp
        generalize hzj : cs.getD j 0 = z at *
        have HZJ := hide hzj
        have hsz := hb.size
        obtain ⟨L, hL⟩ : ∃ L, N0 ++ cs.take j = L := ⟨_, rfl⟩
        have HL := hide hL
        obtain ⟨ml, hml⟩ : ∃ m, N0.length + j = m := ⟨_, rfl⟩
        rw [hL, hml] at HOW
        have hml2 : ml ≤ 10 := by omega
        have HML := hide hml
        clear hown hun hb hbW hc hzj hL hml
        go_wp2_with (at_builtin; refine wpList_append_own _ rfl _ _ 26 rfl w9.heap.size 3 i0 _ 1 8 Try.underlying26 hi0 hz0 hz1 hz2 rfl (by decide) u3 ml (L.map (Value.int .i64)) rfl (HOW.out.alloc _) ⟨wr.heap.size, 0, none⟩ 1 1 [.int .i64 z] rfl rfl (cell_one_new _ _ _) (by simp [Value.oneCell']) (by unfold maxLen; omega) (by omega) (by simp; omega) ?_; intro v12 w12 hown12 hgrow12 hiff12; have hb12 := own_below (HOW.out.alloc _) hgrow12 (by simp; omega) (HBR.out.alloc hsz _) (Nat.le_refl _))
        have HB12 := hide hb12
        have HO12 : Hid (w12.ownsRow w9.heap.size 3 1 v12 (ml + 1) ((L ++ [z]).map (Value.int .i64))) := by
          rw [List.map_append]
          exact hown12
        clear hown12 hgrow12 hiff12 hb12 kj k8
        go_wp2_with fail
        go_loopw [5] (fun k wx => ∃ i : Nat, i ≤ j ∧ k = .int .i64 i ∧ ((List.range i).all fun k => cs.getD k 0 != z) = true ∧ Below w12.heap.size w12 wx) (fun k _ => j - (intOf k).toNat)
        case atStart => exact ⟨0, Nat.zero_le _, rfl, rfl, Below.refl _ _⟩
        case round =>
          obtain ⟨i, hi, rfl, hall, hbx⟩ := hrel
          have HBX := hide hbx
          have hbx9 := HB12.out.trans (hbx.mono HB12.out.size)
          have hbxW := HB9.out.trans (hbx9.mono HB9.out.size)
          have HBX9 := hide hbx9
          by_cases hij : i < j
          · have hiI : (i : Int) < (j : Int) := by omega
            have hil : (i : Int) < (len : Int) := by omega
            have kh : wr.drew.cell? ⟨w.heap.size, 8, none⟩ = some (.slice (some ⟨b, off, none⟩) len cap) := (HCS.out wr.drew hbxW.drew).2.2.2.2.2.1
            have ki : wr.drew.cell? ⟨b, off + i, none⟩ = some (.int .i64 (cs.getD i 0)) := HCC.out _ hbxW.drew i (by omega)
            have kj : wr.drew.cell? ⟨b, off + j, none⟩ = some (.int .i64 z) := by
              have := HCC.out _ hbxW.drew j hlt
              rw [HZJ.out] at this
              exact this
            have HAS : Hid (((List.range (i + 1)).all fun k => cs.getD k 0 != z) = (cs.getD i 0 != z)) := by
              show _ = _
              rw [List.range_succ, List.all_append, hall]
              simp
            have HAN : Hid ((cs.getD i 0 != z) = false → ((List.range j).all fun k => cs.getD k 0 != z) = false) := fun e => by
              rw [List.all_eq_false]
              exact ⟨i, List.mem_range.2 hij, by rw [e]; decide⟩
            generalize cs.getD i 0 = y at *
            clear hall hbx hbx9 hbxW
            by_cases hyz : y = z
            · have e0 : (y != z) = false := by simpa using hyz
              have HFF := hide (HNO.out (by rw [HUS.out]; exact HAN.out e0))
              have heq : (y == z) = true := by simpa using hyz
              clear e0 hyz HAS HAN
              go_wp2_with fail
              go_region_held3 (fun w' => w'.cell? ⟨w.heap.size, 8, none⟩ = some (.slice (some ⟨b, off, none⟩) len cap) ∧ w'.cell? ⟨b, off + i, none⟩ = some (.int .i64 y) ∧ w'.cell? ⟨b, off + j, none⟩ = some (.int .i64 z)) (go_keep) (fail)
              go_wp2_with fail
              go_ret
              exact ⟨by rw [HFF.out]; rfl, HB0.out.trans ((HB9.out.trans (HBX9.out.mono HB9.out.size)).mono HB0.out.size).drew⟩
            · have e0 : (y != z) = true := by simpa using hyz
              have HAS' : Hid (((List.range (i + 1)).all fun k => cs.getD k 0 != z) = true) := by show _ = _; rw [HAS.out, e0]
              have heq : (y == z) = false := by simpa using hyz
              clear e0 hyz HAS HAN
              go_wp2_with fail
              go_region_held3 (fun w' => w'.cell? ⟨w.heap.size, 8, none⟩ = some (.slice (some ⟨b, off, none⟩) len cap) ∧ w'.cell? ⟨b, off + i, none⟩ = some (.int .i64 y) ∧ w'.cell? ⟨b, off + j, none⟩ = some (.int .i64 z)) (go_keep) (fail)
              go_wp2_with fail
              go_roundw
              case rel => exact ⟨i + 1, by omega, by go_num, HAS'.out, HBX.out.drew⟩
              case measure => simp [intOf]; omega
          · have hiI : ¬ (i : Int) < (j : Int) := by omega
            obtain rfl : i = j := by omega
            have HUT : Hid (Sp.unlikeTo cs (i + 1) = true) := by show _ = _; rw [HUS.out]; exact hall
            have HOE := hide (own_kept HO12.out hbx)
            clear hall hbx hbx9 hbxW HNO
            go_wp2_with fail
            go_roundw
            case rel => exact ⟨i + 1, by omega, by go_num, by rw [HTK.out, ← List.append_assoc, HL.out, ← Nat.add_assoc, HML.out]; exact HOE.out, HUT.out, HBX9.out⟩
            case measure => simp [intOf]; omega
      · have hjI : ¬ (j : Int) < (len : Int) := by omega
        obtain rfl : j = len := by omega
        have hlen := HLL.out
        have hta : cs.take j = cs := List.take_of_length_le (by omega)
        rw [hta] at hown
        obtain ⟨F, hF⟩ : ∃ F, N0 ++ cs = F := ⟨_, rfl⟩
        rw [hF] at hown
        obtain ⟨fl, hfl⟩ : ∃ n, N0.length + j = n := ⟨_, rfl⟩
        rw [hfl] at hown
        have HFL : Hid (F.length = fl) := by show _ = _; rw [← hF, List.length_append]; omega
        have hn0 : N0.length ≤ 2 := by
          rw [HN0.out]
          split <;> split <;> simp
        have hfl10 : fl ≤ 10 := by omega
        have HVF : Hid (V = F.all (Sp.inB bl)) := by
          show V = _
          rw [HV.out, show cs.length = j from hlen, hun, Bool.true_and, HND.out, hF]
        obtain ⟨na, nc, hv, _, _, _, hrow⟩ := row_of_own hown
        subst hv
        have HRO := hide hrow
        clear hown hun hb hbW hta hF hfl hrow
        go_wp2_with fail
        clear k8
        obtain ⟨wq, hwq⟩ : ∃ x, x = wr := ⟨_, rfl⟩
        subst hwq
        go_loopw [6] (fun k wx => ∃ i : Nat, i ≤ fl ∧ k = .int .i64 i ∧ (F.take i).all (Sp.inB bl) = true ∧ Below wq.heap.size wq wx) (fun k _ => fl - (intOf k).toNat)
        case atStart => exact ⟨0, Nat.zero_le _, rfl, rfl, Below.refl _ _⟩
        case round =>
          obtain ⟨i, hi, rfl, hall, hbx⟩ := hrel
          have HBX := hide hbx
          have hbxW := HBW.out.trans (hbx.mono HBW.out.size)
          have HBXW := hide hbxW
          by_cases hij : i < fl
          · have hiI : (i : Int) < (fl : Int) := by omega
            obtain ⟨_, h0 | ⟨nb, noff, rfl, hnbw, hnc⟩⟩ := HRO.out
            · omega
            have kb : ∀ x : Later wr, x.val.cell? ⟨w.heap.size, 1, none⟩ = some (.int .i64 bl) := fun x => (HCS.out _ (hbxW.trans (x.property.mono hbxW.size))).1
            have ki : ∀ x : Later wr, x.val.cell? ⟨nb, noff + i, none⟩ = some (.int .i64 (F.getD i 0)) := fun x => ((hbx.trans (x.property.mono hbx.size)).cell hnbw).trans (hnc i hij)
            have HTA : Hid ((F.take (i + 1)).all (Sp.inB bl) = Sp.inB bl (F.getD i 0)) := by
              show _ = _
              have hFL := HFL.out
              rw [List.take_succ_eq_append_getElem (by omega), List.all_append, hall, List.getD_eq_getElem?_getD, List.getElem?_eq_getElem (by omega)]
              simp
            have HFN : Hid (Sp.inB bl (F.getD i 0) = false → V = false) := fun e => by
              have e1 := HTA.out
              rw [HVF.out, ← List.take_append_drop (i + 1) F, List.all_append, e1, e]
              rfl
            have hne := later_some wr
            generalize F.getD i 0 = y at *
            have hcy : (decide (y < 2) = true ∧ Sp.inB bl y = false) ∨ (decide (y < 2) = false ∧ decide (bl ≤ y) = true ∧ Sp.inB bl y = false) ∨ (decide (y < 2) = false ∧ decide (bl ≤ y) = false ∧ Sp.inB bl y = true) := by
              unfold Sp.inB
              simp only [decide_eq_true_eq, decide_eq_false_iff_not]
              omega
            clear hall hbx hbxW hnc
            rcases hcy with ⟨d1, d2⟩ | ⟨d1, d2, d3⟩ | ⟨d1, d2, d3⟩
            · have HFF := hide (HFN.out d2)
              clear d2 HTA HFN
              go_wp2_with fail
              refine wp_region_later (by kernel_rfl) (by kernel_rfl) ?_
              repeat (go_big_quiet_step (rfl))
              refine wpQuiet_nil ?_
              intro w9' hw
              obtain ⟨⟨x, hx⟩, rfl⟩ := hw
              go_wp2_with fail
              go_ret
              exact ⟨by rw [HFF.out]; rfl, HB0.out.trans ((HBXW.out.trans (hx.mono HBXW.out.size)).mono HB0.out.size)⟩
            · have HFF := hide (HFN.out d3)
              clear d3 HTA HFN
              go_wp2_with fail
              refine wp_region_later (by kernel_rfl) (by kernel_rfl) ?_
              repeat (go_big_quiet_step (rfl))
              refine wpQuiet_nil ?_
              intro w9' hw
              obtain ⟨⟨x, hx⟩, rfl⟩ := hw
              go_wp2_with fail
              go_ret
              exact ⟨by rw [HFF.out]; rfl, HB0.out.trans ((HBXW.out.trans (hx.mono HBXW.out.size)).mono HB0.out.size)⟩
            · have HTT := hide (HTA.out.trans d3)
              clear d3 HTA HFN
              go_wp2_with fail
              refine wp_region_later (by kernel_rfl) (by kernel_rfl) ?_
              repeat (go_big_quiet_step (rfl))
              refine wpQuiet_nil ?_
              intro w9' hw
              obtain ⟨⟨x, hx⟩, rfl⟩ := hw
              go_wp2_with fail
              go_roundw
              case rel => exact ⟨i + 1, by omega, by go_num, HTT.out, HBX.out.trans (hx.mono HBX.out.size)⟩
              case measure => simp [intOf]; omega
          · have hiI : ¬ (i : Int) < (fl : Int) := by omega
            obtain rfl : i = fl := by omega
            have HVT : Hid (V = true) := by
              have h1 := HFL.out
              rw [List.take_of_length_le (by omega)] at hall
              show V = true
              rw [HVF.out]; exact hall
            clear hall hbx hbxW
            go_wp2_with fail
            go_ret
            exact ⟨by rw [HVT.out]; rfl, HB0.out.trans (HBXW.out.mono HB0.out.size)⟩
  · rw [decide_eq_true (fun h => absurd h g1), Bool.true_and] at HV
    have g1' : (hi == 0) = false := by simpa using g1
    have g3' : (di != 0) = false := by simpa using g3
    have HNE : Hid (N0 = [tp]) := by show _ = _; rw [HN0.out, if_neg g1, if_pos g3]; rfl
    clear g1 g3
    go_wp2_with (at_builtin; refine wpList_append_own _ rfl _ _ 26 rfl w9.heap.size 3 i0 _ 1 8 Try.underlying26 hi0 hz0 hz1 hz2 rfl (by decide) (.slice none 0 0) 0 [] rfl (HE0.out _) ⟨w9.heap.size, 0, none⟩ 1 1 [.int .i64 tp] rfl rfl (cell_one_new _ _ _) (by simp [Value.oneCell']) (by unfold maxLen; omega) (by omega) (by simp <;> omega) ?_; intro v10 w10 hown10 hgrow10 hiff10; have hb10 := own_below (HE0.out _) hgrow10 (by simp <;> omega) (B0 := w9.heap.size) (w0 := w9) ((Below.refl _ _).alloc (Nat.le_refl _) _) (Nat.le_refl _); have hv10 := HCS.out w10 (HB9.out.trans (hb10.mono HB9.out.size)); have kd10 := hv10.2.2.2.2.2.2.2)
    have HOX : Hid (w10.ownsRow w9.heap.size 3 1 v10 N0.length (N0.map (Value.int .i64))) := by
      rw [HNE.out]
      exact hown10
    have HBX := hide hb10
    clear hown10 hgrow10 hiff10 hb10 hv10 kd10
    go_loopw [3, 4] (fun v i wr => ∃ j : Nat, j ≤ len ∧ i = .int .i64 j ∧ wr.ownsRow w9.heap.size 3 1 v (N0.length + j) ((N0 ++ cs.take j).map (Value.int .i64)) ∧ Sp.unlikeTo cs j = true ∧ Below w9.heap.size w9 wr) (fun _ i _ => len - (intOf i).toNat)
    case atStart => exact ⟨0, Nat.zero_le _, rfl, by rw [List.take_zero, List.append_nil]; exact HOX.out, rfl, HBX.out⟩
    case round =>
      obtain ⟨j, hj, rfl, hown, hun, hb⟩ := hrel
      have HOW := hide hown
      have HBR := hide hb
      have hbW := HB9.out.trans (hb.mono HB9.out.size)
      have HBW := hide hbW
      obtain ⟨_, _, _, _, _, k8, _, _⟩ := HCS.out wr hbW
      by_cases hlt : j < len
      · have hjI : (j : Int) < (len : Int) := by omega
        obtain ⟨_, h0 | ⟨b, off, rfl, hbw, hc⟩⟩ := HA0.out.2.2.1
        · omega
        have HCC : Hid (∀ X : World, Below W.heap.size W X → ∀ i, i < len → X.cell? ⟨b, off + i, none⟩ = some (.int .i64 (cs.getD i 0))) := fun X hX i hi => (hX.cell hbw).trans (hc i hi)
        have kj := HCC.out wr hbW j hlt
        have HUS : Hid (Sp.unlikeTo cs (j + 1) = (List.range j).all fun k => cs.getD k 0 != cs.getD j 0) := by show _ = _; rw [Sp.unlikeTo_succ, hun, Bool.true_and]
        have HNO : Hid (Sp.unlikeTo cs (j + 1) = false → V = false) := fun e => by
          rw [HV.out]
          have hlen := HLL.out
          cases hq : Sp.unlikeTo cs cs.length with
          | false => rfl
          | true =>
            have := Sp.unlikeTo_le hq (show j + 1 ≤ cs.length by omega)
            rw [e] at this
            exact absurd this (by decide)
        have HTK : Hid (cs.take (j + 1) = cs.take j ++ [cs.getD j 0]) := by
          show _ = _
          have hlen := HLL.out
          rw [List.take_succ_eq_append_getElem (by omega), List.getD_eq_getElem?_getD, List.getElem?_eq_getElem (by omega)]
          rfl
        have hn0 : N0.length ≤ 2 := by
          rw [HN0.out]
          split <;> split <;> simp
        generalize hzj : cs.getD j 0 = z at *
        have HZJ := hide hzj
        have hsz := hb.size
        obtain ⟨L, hL⟩ : ∃ L, N0 ++ cs.take j = L := ⟨_, rfl⟩
        have HL := hide hL
        obtain ⟨ml, hml⟩ : ∃ m, N0.length + j = m := ⟨_, rfl⟩
        rw [hL, hml] at HOW
        have hml2 : ml ≤ 10 := by omega
        have HML := hide hml
        clear hown hun hb hbW hc hzj hL hml
        go_wp2_with (at_builtin; refine wpList_append_own _ rfl _ _ 26 rfl w9.heap.size 3 i0 _ 1 8 Try.underlying26 hi0 hz0 hz1 hz2 rfl (by decide) u3 ml (L.map (Value.int .i64)) rfl (HOW.out.alloc _) ⟨wr.heap.size, 0, none⟩ 1 1 [.int .i64 z] rfl rfl (cell_one_new _ _ _) (by simp [Value.oneCell']) (by unfold maxLen; omega) (by omega) (by simp; omega) ?_; intro v12 w12 hown12 hgrow12 hiff12; have hb12 := own_below (HOW.out.alloc _) hgrow12 (by simp; omega) (HBR.out.alloc hsz _) (Nat.le_refl _))
        have HB12 := hide hb12
        have HO12 : Hid (w12.ownsRow w9.heap.size 3 1 v12 (ml + 1) ((L ++ [z]).map (Value.int .i64))) := by
          rw [List.map_append]
          exact hown12
        clear hown12 hgrow12 hiff12 hb12 kj k8
        go_wp2_with fail
        go_loopw [5] (fun k wx => ∃ i : Nat, i ≤ j ∧ k = .int .i64 i ∧ ((List.range i).all fun k => cs.getD k 0 != z) = true ∧ Below w12.heap.size w12 wx) (fun k _ => j - (intOf k).toNat)
        case atStart => exact ⟨0, Nat.zero_le _, rfl, rfl, Below.refl _ _⟩
        case round =>
          obtain ⟨i, hi, rfl, hall, hbx⟩ := hrel
          have HBX := hide hbx
          have hbx9 := HB12.out.trans (hbx.mono HB12.out.size)
          have hbxW := HB9.out.trans (hbx9.mono HB9.out.size)
          have HBX9 := hide hbx9
          by_cases hij : i < j
          · have hiI : (i : Int) < (j : Int) := by omega
            have hil : (i : Int) < (len : Int) := by omega
            have kh : wr.drew.cell? ⟨w.heap.size, 8, none⟩ = some (.slice (some ⟨b, off, none⟩) len cap) := (HCS.out wr.drew hbxW.drew).2.2.2.2.2.1
            have ki : wr.drew.cell? ⟨b, off + i, none⟩ = some (.int .i64 (cs.getD i 0)) := HCC.out _ hbxW.drew i (by omega)
            have kj : wr.drew.cell? ⟨b, off + j, none⟩ = some (.int .i64 z) := by
              have := HCC.out _ hbxW.drew j hlt
              rw [HZJ.out] at this
              exact this
            have HAS : Hid (((List.range (i + 1)).all fun k => cs.getD k 0 != z) = (cs.getD i 0 != z)) := by
              show _ = _
              rw [List.range_succ, List.all_append, hall]
              simp
            have HAN : Hid ((cs.getD i 0 != z) = false → ((List.range j).all fun k => cs.getD k 0 != z) = false) := fun e => by
              rw [List.all_eq_false]
              exact ⟨i, List.mem_range.2 hij, by rw [e]; decide⟩
            generalize cs.getD i 0 = y at *
            clear hall hbx hbx9 hbxW
            by_cases hyz : y = z
            · have e0 : (y != z) = false := by simpa using hyz
              have HFF := hide (HNO.out (by rw [HUS.out]; exact HAN.out e0))
              have heq : (y == z) = true := by simpa using hyz
              clear e0 hyz HAS HAN
              go_wp2_with fail
              go_region_held3 (fun w' => w'.cell? ⟨w.heap.size, 8, none⟩ = some (.slice (some ⟨b, off, none⟩) len cap) ∧ w'.cell? ⟨b, off + i, none⟩ = some (.int .i64 y) ∧ w'.cell? ⟨b, off + j, none⟩ = some (.int .i64 z)) (go_keep) (fail)
              go_wp2_with fail
              go_ret
              exact ⟨by rw [HFF.out]; rfl, HB0.out.trans ((HB9.out.trans (HBX9.out.mono HB9.out.size)).mono HB0.out.size).drew⟩
            · have e0 : (y != z) = true := by simpa using hyz
              have HAS' : Hid (((List.range (i + 1)).all fun k => cs.getD k 0 != z) = true) := by show _ = _; rw [HAS.out, e0]
              have heq : (y == z) = false := by simpa using hyz
              clear e0 hyz HAS HAN
              go_wp2_with fail
              go_region_held3 (fun w' => w'.cell? ⟨w.heap.size, 8, none⟩ = some (.slice (some ⟨b, off, none⟩) len cap) ∧ w'.cell? ⟨b, off + i, none⟩ = some (.int .i64 y) ∧ w'.cell? ⟨b, off + j, none⟩ = some (.int .i64 z)) (go_keep) (fail)
              go_wp2_with fail
              go_roundw
              case rel => exact ⟨i + 1, by omega, by go_num, HAS'.out, HBX.out.drew⟩
              case measure => simp [intOf]; omega
          · have hiI : ¬ (i : Int) < (j : Int) := by omega
            obtain rfl : i = j := by omega
            have HUT : Hid (Sp.unlikeTo cs (i + 1) = true) := by show _ = _; rw [HUS.out]; exact hall
            have HOE := hide (own_kept HO12.out hbx)
            clear hall hbx hbx9 hbxW HNO
            go_wp2_with fail
            go_roundw
            case rel => exact ⟨i + 1, by omega, by go_num, by rw [HTK.out, ← List.append_assoc, HL.out, ← Nat.add_assoc, HML.out]; exact HOE.out, HUT.out, HBX9.out⟩
            case measure => simp [intOf]; omega
      · have hjI : ¬ (j : Int) < (len : Int) := by omega
        obtain rfl : j = len := by omega
        have hlen := HLL.out
        have hta : cs.take j = cs := List.take_of_length_le (by omega)
        rw [hta] at hown
        obtain ⟨F, hF⟩ : ∃ F, N0 ++ cs = F := ⟨_, rfl⟩
        rw [hF] at hown
        obtain ⟨fl, hfl⟩ : ∃ n, N0.length + j = n := ⟨_, rfl⟩
        rw [hfl] at hown
        have HFL : Hid (F.length = fl) := by show _ = _; rw [← hF, List.length_append]; omega
        have hn0 : N0.length ≤ 2 := by
          rw [HN0.out]
          split <;> split <;> simp
        have hfl10 : fl ≤ 10 := by omega
        have HVF : Hid (V = F.all (Sp.inB bl)) := by
          show V = _
          rw [HV.out, show cs.length = j from hlen, hun, Bool.true_and, HND.out, hF]
        obtain ⟨na, nc, hv, _, _, _, hrow⟩ := row_of_own hown
        subst hv
        have HRO := hide hrow
        clear hown hun hb hbW hta hF hfl hrow
        go_wp2_with fail
        clear k8
        obtain ⟨wq, hwq⟩ : ∃ x, x = wr := ⟨_, rfl⟩
        subst hwq
        go_loopw [6] (fun k wx => ∃ i : Nat, i ≤ fl ∧ k = .int .i64 i ∧ (F.take i).all (Sp.inB bl) = true ∧ Below wq.heap.size wq wx) (fun k _ => fl - (intOf k).toNat)
        case atStart => exact ⟨0, Nat.zero_le _, rfl, rfl, Below.refl _ _⟩
        case round =>
          obtain ⟨i, hi, rfl, hall, hbx⟩ := hrel
          have HBX := hide hbx
          have hbxW := HBW.out.trans (hbx.mono HBW.out.size)
          have HBXW := hide hbxW
          by_cases hij : i < fl
          · have hiI : (i : Int) < (fl : Int) := by omega
            obtain ⟨_, h0 | ⟨nb, noff, rfl, hnbw, hnc⟩⟩ := HRO.out
            · omega
            have kb : ∀ x : Later wr, x.val.cell? ⟨w.heap.size, 1, none⟩ = some (.int .i64 bl) := fun x => (HCS.out _ (hbxW.trans (x.property.mono hbxW.size))).1
            have ki : ∀ x : Later wr, x.val.cell? ⟨nb, noff + i, none⟩ = some (.int .i64 (F.getD i 0)) := fun x => ((hbx.trans (x.property.mono hbx.size)).cell hnbw).trans (hnc i hij)
            have HTA : Hid ((F.take (i + 1)).all (Sp.inB bl) = Sp.inB bl (F.getD i 0)) := by
              show _ = _
              have hFL := HFL.out
              rw [List.take_succ_eq_append_getElem (by omega), List.all_append, hall, List.getD_eq_getElem?_getD, List.getElem?_eq_getElem (by omega)]
              simp
            have HFN : Hid (Sp.inB bl (F.getD i 0) = false → V = false) := fun e => by
              have e1 := HTA.out
              rw [HVF.out, ← List.take_append_drop (i + 1) F, List.all_append, e1, e]
              rfl
            have hne := later_some wr
            generalize F.getD i 0 = y at *
            have hcy : (decide (y < 2) = true ∧ Sp.inB bl y = false) ∨ (decide (y < 2) = false ∧ decide (bl ≤ y) = true ∧ Sp.inB bl y = false) ∨ (decide (y < 2) = false ∧ decide (bl ≤ y) = false ∧ Sp.inB bl y = true) := by
              unfold Sp.inB
              simp only [decide_eq_true_eq, decide_eq_false_iff_not]
              omega
            clear hall hbx hbxW hnc
            rcases hcy with ⟨d1, d2⟩ | ⟨d1, d2, d3⟩ | ⟨d1, d2, d3⟩
            · have HFF := hide (HFN.out d2)
              clear d2 HTA HFN
              go_wp2_with fail
              refine wp_region_later (by kernel_rfl) (by kernel_rfl) ?_
              repeat (go_big_quiet_step (rfl))
              refine wpQuiet_nil ?_
              intro w9' hw
              obtain ⟨⟨x, hx⟩, rfl⟩ := hw
              go_wp2_with fail
              go_ret
              exact ⟨by rw [HFF.out]; rfl, HB0.out.trans ((HBXW.out.trans (hx.mono HBXW.out.size)).mono HB0.out.size)⟩
            · have HFF := hide (HFN.out d3)
              clear d3 HTA HFN
              go_wp2_with fail
              refine wp_region_later (by kernel_rfl) (by kernel_rfl) ?_
              repeat (go_big_quiet_step (rfl))
              refine wpQuiet_nil ?_
              intro w9' hw
              obtain ⟨⟨x, hx⟩, rfl⟩ := hw
              go_wp2_with fail
              go_ret
              exact ⟨by rw [HFF.out]; rfl, HB0.out.trans ((HBXW.out.trans (hx.mono HBXW.out.size)).mono HB0.out.size)⟩
            · have HTT := hide (HTA.out.trans d3)
              clear d3 HTA HFN
              go_wp2_with fail
              refine wp_region_later (by kernel_rfl) (by kernel_rfl) ?_
              repeat (go_big_quiet_step (rfl))
              refine wpQuiet_nil ?_
              intro w9' hw
              obtain ⟨⟨x, hx⟩, rfl⟩ := hw
              go_wp2_with fail
              go_roundw
              case rel => exact ⟨i + 1, by omega, by go_num, HTT.out, HBX.out.trans (hx.mono HBX.out.size)⟩
              case measure => simp [intOf]; omega
          · have hiI : ¬ (i : Int) < (fl : Int) := by omega
            obtain rfl : i = fl := by omega
            have HVT : Hid (V = true) := by
              have h1 := HFL.out
              rw [List.take_of_length_le (by omega)] at hall
              show V = true
              rw [HVF.out]; exact hall
            clear hall hbx hbxW
            go_wp2_with fail
            go_ret
            exact ⟨by rw [HVT.out]; rfl, HB0.out.trans (HBXW.out.mono HB0.out.size)⟩
  · rw [decide_eq_true (fun h => absurd h g1), Bool.true_and] at HV
    have g1' : (hi == 0) = false := by simpa using g1
    have g3' : (di != 0) = true := by simpa using g3
    have HNE : Hid (N0 = [tp, di]) := by show _ = _; rw [HN0.out, if_neg g1, if_neg g3]; rfl
    clear g1 g3
    go_wp2_with (first
      | (at_builtin; refine wpList_append_own _ rfl _ _ 26 rfl w9.heap.size 3 i0 _ 1 8 Try.underlying26 hi0 hz0 hz1 hz2 rfl (by decide) (.slice none 0 0) 0 [] rfl (HE0.out _) ⟨w9.heap.size, 0, none⟩ 1 1 [.int .i64 tp] rfl rfl (cell_one_new _ _ _) (by simp [Value.oneCell']) (by unfold maxLen; omega) (by omega) (by simp <;> omega) ?_; intro v10 w10 hown10 hgrow10 hiff10; have hb10 := own_below (HE0.out _) hgrow10 (by simp <;> omega) (B0 := w9.heap.size) (w0 := w9) ((Below.refl _ _).alloc (Nat.le_refl _) _) (Nat.le_refl _); have hv10 := HCS.out w10 (HB9.out.trans (hb10.mono HB9.out.size)); have kd10 := hv10.2.2.2.2.2.2.2)
      | (at_builtin; have hs10 := hb10.size; refine wpList_append_own _ rfl _ _ 26 rfl w9.heap.size 3 i0 _ 1 8 Try.underlying26 hi0 hz0 hz1 hz2 rfl (by decide) v10 1 [.int .i64 tp] rfl (hown10.alloc _) ⟨w10.heap.size, 0, none⟩ 1 1 [.int .i64 di] rfl rfl (cell_one_new _ _ _) (by simp [Value.oneCell']) (by unfold maxLen; omega) (by omega) (by simp <;> omega) ?_; intro v11 w11 hown11 hgrow11 hiff11; have hb11 := own_below (hown10.alloc _) hgrow11 (by simp <;> omega) (B0 := w9.heap.size) (w0 := w9) (hb10.alloc hb10.size _) (Nat.le_refl _); have hv11 := HCS.out w11 (HB9.out.trans (hb11.mono HB9.out.size)); have kd11 := hv11.2.2.2.2.2.2.2))
    have HOX : Hid (w11.ownsRow w9.heap.size 3 1 v11 N0.length (N0.map (Value.int .i64))) := by
      rw [HNE.out]
      exact hown11
    have HBX := hide hb11
    clear hown11 hgrow11 hiff11 hb11 hv11 kd11 hown10 hgrow10 hiff10 hb10 hv10 kd10
    go_loopw [3, 4] (fun v i wr => ∃ j : Nat, j ≤ len ∧ i = .int .i64 j ∧ wr.ownsRow w9.heap.size 3 1 v (N0.length + j) ((N0 ++ cs.take j).map (Value.int .i64)) ∧ Sp.unlikeTo cs j = true ∧ Below w9.heap.size w9 wr) (fun _ i _ => len - (intOf i).toNat)
    case atStart => exact ⟨0, Nat.zero_le _, rfl, by rw [List.take_zero, List.append_nil]; exact HOX.out, rfl, HBX.out⟩
    case round =>
      obtain ⟨j, hj, rfl, hown, hun, hb⟩ := hrel
      have HOW := hide hown
      have HBR := hide hb
      have hbW := HB9.out.trans (hb.mono HB9.out.size)
      have HBW := hide hbW
      obtain ⟨_, _, _, _, _, k8, _, _⟩ := HCS.out wr hbW
      by_cases hlt : j < len
      · have hjI : (j : Int) < (len : Int) := by omega
        obtain ⟨_, h0 | ⟨b, off, rfl, hbw, hc⟩⟩ := HA0.out.2.2.1
        · omega
        have HCC : Hid (∀ X : World, Below W.heap.size W X → ∀ i, i < len → X.cell? ⟨b, off + i, none⟩ = some (.int .i64 (cs.getD i 0))) := fun X hX i hi => (hX.cell hbw).trans (hc i hi)
        have kj := HCC.out wr hbW j hlt
        have HUS : Hid (Sp.unlikeTo cs (j + 1) = (List.range j).all fun k => cs.getD k 0 != cs.getD j 0) := by show _ = _; rw [Sp.unlikeTo_succ, hun, Bool.true_and]
        have HNO : Hid (Sp.unlikeTo cs (j + 1) = false → V = false) := fun e => by
          rw [HV.out]
          have hlen := HLL.out
          cases hq : Sp.unlikeTo cs cs.length with
          | false => rfl
          | true =>
            have := Sp.unlikeTo_le hq (show j + 1 ≤ cs.length by omega)
            rw [e] at this
            exact absurd this (by decide)
        have HTK : Hid (cs.take (j + 1) = cs.take j ++ [cs.getD j 0]) := by
          show _ = _
          have hlen := HLL.out
          rw [List.take_succ_eq_append_getElem (by omega), List.getD_eq_getElem?_getD, List.getElem?_eq_getElem (by omega)]
          rfl
        have hn0 : N0.length ≤ 2 := by
          rw [HN0.out]
          split <;> split <;> simp
        generalize hzj : cs.getD j 0 = z at *
        have HZJ := hide hzj
        have hsz := hb.size
        obtain ⟨L, hL⟩ : ∃ L, N0 ++ cs.take j = L := ⟨_, rfl⟩
        have HL := hide hL
        obtain ⟨ml, hml⟩ : ∃ m, N0.length + j = m := ⟨_, rfl⟩
        rw [hL, hml] at HOW
        have hml2 : ml ≤ 10 := by omega
        have HML := hide hml
        clear hown hun hb hbW hc hzj hL hml
        go_wp2_with (at_builtin; refine wpList_append_own _ rfl _ _ 26 rfl w9.heap.size 3 i0 _ 1 8 Try.underlying26 hi0 hz0 hz1 hz2 rfl (by decide) u3 ml (L.map (Value.int .i64)) rfl (HOW.out.alloc _) ⟨wr.heap.size, 0, none⟩ 1 1 [.int .i64 z] rfl rfl (cell_one_new _ _ _) (by simp [Value.oneCell']) (by unfold maxLen; omega) (by omega) (by simp; omega) ?_; intro v12 w12 hown12 hgrow12 hiff12; have hb12 := own_below (HOW.out.alloc _) hgrow12 (by simp; omega) (HBR.out.alloc hsz _) (Nat.le_refl _))
        have HB12 := hide hb12
        have HO12 : Hid (w12.ownsRow w9.heap.size 3 1 v12 (ml + 1) ((L ++ [z]).map (Value.int .i64))) := by
          rw [List.map_append]
          exact hown12
        clear hown12 hgrow12 hiff12 hb12 kj k8
        go_wp2_with fail
        go_loopw [5] (fun k wx => ∃ i : Nat, i ≤ j ∧ k = .int .i64 i ∧ ((List.range i).all fun k => cs.getD k 0 != z) = true ∧ Below w12.heap.size w12 wx) (fun k _ => j - (intOf k).toNat)
        case atStart => exact ⟨0, Nat.zero_le _, rfl, rfl, Below.refl _ _⟩
        case round =>
          obtain ⟨i, hi, rfl, hall, hbx⟩ := hrel
          have HBX := hide hbx
          have hbx9 := HB12.out.trans (hbx.mono HB12.out.size)
          have hbxW := HB9.out.trans (hbx9.mono HB9.out.size)
          have HBX9 := hide hbx9
          by_cases hij : i < j
          · have hiI : (i : Int) < (j : Int) := by omega
            have hil : (i : Int) < (len : Int) := by omega
            have kh : wr.drew.cell? ⟨w.heap.size, 8, none⟩ = some (.slice (some ⟨b, off, none⟩) len cap) := (HCS.out wr.drew hbxW.drew).2.2.2.2.2.1
            have ki : wr.drew.cell? ⟨b, off + i, none⟩ = some (.int .i64 (cs.getD i 0)) := HCC.out _ hbxW.drew i (by omega)
            have kj : wr.drew.cell? ⟨b, off + j, none⟩ = some (.int .i64 z) := by
              have := HCC.out _ hbxW.drew j hlt
              rw [HZJ.out] at this
              exact this
            have HAS : Hid (((List.range (i + 1)).all fun k => cs.getD k 0 != z) = (cs.getD i 0 != z)) := by
              show _ = _
              rw [List.range_succ, List.all_append, hall]
              simp
            have HAN : Hid ((cs.getD i 0 != z) = false → ((List.range j).all fun k => cs.getD k 0 != z) = false) := fun e => by
              rw [List.all_eq_false]
              exact ⟨i, List.mem_range.2 hij, by rw [e]; decide⟩
            generalize cs.getD i 0 = y at *
            clear hall hbx hbx9 hbxW
            by_cases hyz : y = z
            · have e0 : (y != z) = false := by simpa using hyz
              have HFF := hide (HNO.out (by rw [HUS.out]; exact HAN.out e0))
              have heq : (y == z) = true := by simpa using hyz
              clear e0 hyz HAS HAN
              go_wp2_with fail
              go_region_held3 (fun w' => w'.cell? ⟨w.heap.size, 8, none⟩ = some (.slice (some ⟨b, off, none⟩) len cap) ∧ w'.cell? ⟨b, off + i, none⟩ = some (.int .i64 y) ∧ w'.cell? ⟨b, off + j, none⟩ = some (.int .i64 z)) (go_keep) (fail)
              go_wp2_with fail
              go_ret
              exact ⟨by rw [HFF.out]; rfl, HB0.out.trans ((HB9.out.trans (HBX9.out.mono HB9.out.size)).mono HB0.out.size).drew⟩
            · have e0 : (y != z) = true := by simpa using hyz
              have HAS' : Hid (((List.range (i + 1)).all fun k => cs.getD k 0 != z) = true) := by show _ = _; rw [HAS.out, e0]
              have heq : (y == z) = false := by simpa using hyz
              clear e0 hyz HAS HAN
              go_wp2_with fail
              go_region_held3 (fun w' => w'.cell? ⟨w.heap.size, 8, none⟩ = some (.slice (some ⟨b, off, none⟩) len cap) ∧ w'.cell? ⟨b, off + i, none⟩ = some (.int .i64 y) ∧ w'.cell? ⟨b, off + j, none⟩ = some (.int .i64 z)) (go_keep) (fail)
              go_wp2_with fail
              go_roundw
              case rel => exact ⟨i + 1, by omega, by go_num, HAS'.out, HBX.out.drew⟩
              case measure => simp [intOf]; omega
          · have hiI : ¬ (i : Int) < (j : Int) := by omega
            obtain rfl : i = j := by omega
            have HUT : Hid (Sp.unlikeTo cs (i + 1) = true) := by show _ = _; rw [HUS.out]; exact hall
            have HOE := hide (own_kept HO12.out hbx)
            clear hall hbx hbx9 hbxW HNO
            go_wp2_with fail
            go_roundw
            case rel => exact ⟨i + 1, by omega, by go_num, by rw [HTK.out, ← List.append_assoc, HL.out, ← Nat.add_assoc, HML.out]; exact HOE.out, HUT.out, HBX9.out⟩
            case measure => simp [intOf]; omega
      · have hjI : ¬ (j : Int) < (len : Int) := by omega
        obtain rfl : j = len := by omega
        have hlen := HLL.out
        have hta : cs.take j = cs := List.take_of_length_le (by omega)
        rw [hta] at hown
        obtain ⟨F, hF⟩ : ∃ F, N0 ++ cs = F := ⟨_, rfl⟩
        rw [hF] at hown
        obtain ⟨fl, hfl⟩ : ∃ n, N0.length + j = n := ⟨_, rfl⟩
        rw [hfl] at hown
        have HFL : Hid (F.length = fl) := by show _ = _; rw [← hF, List.length_append]; omega
        have hn0 : N0.length ≤ 2 := by
          rw [HN0.out]
          split <;> split <;> simp
        have hfl10 : fl ≤ 10 := by omega
        have HVF : Hid (V = F.all (Sp.inB bl)) := by
          show V = _
          rw [HV.out, show cs.length = j from hlen, hun, Bool.true_and, HND.out, hF]
        obtain ⟨na, nc, hv, _, _, _, hrow⟩ := row_of_own hown
        subst hv
        have HRO := hide hrow
        clear hown hun hb hbW hta hF hfl hrow
        go_wp2_with fail
        clear k8
        obtain ⟨wq, hwq⟩ : ∃ x, x = wr := ⟨_, rfl⟩
        subst hwq
        go_loopw [6] (fun k wx => ∃ i : Nat, i ≤ fl ∧ k = .int .i64 i ∧ (F.take i).all (Sp.inB bl) = true ∧ Below wq.heap.size wq wx) (fun k _ => fl - (intOf k).toNat)
        case atStart => exact ⟨0, Nat.zero_le _, rfl, rfl, Below.refl _ _⟩
        case round =>
          obtain ⟨i, hi, rfl, hall, hbx⟩ := hrel
          have HBX := hide hbx
          have hbxW := HBW.out.trans (hbx.mono HBW.out.size)
          have HBXW := hide hbxW
          by_cases hij : i < fl
          · have hiI : (i : Int) < (fl : Int) := by omega
            obtain ⟨_, h0 | ⟨nb, noff, rfl, hnbw, hnc⟩⟩ := HRO.out
            · omega
            have kb : ∀ x : Later wr, x.val.cell? ⟨w.heap.size, 1, none⟩ = some (.int .i64 bl) := fun x => (HCS.out _ (hbxW.trans (x.property.mono hbxW.size))).1
            have ki : ∀ x : Later wr, x.val.cell? ⟨nb, noff + i, none⟩ = some (.int .i64 (F.getD i 0)) := fun x => ((hbx.trans (x.property.mono hbx.size)).cell hnbw).trans (hnc i hij)
            have HTA : Hid ((F.take (i + 1)).all (Sp.inB bl) = Sp.inB bl (F.getD i 0)) := by
              show _ = _
              have hFL := HFL.out
              rw [List.take_succ_eq_append_getElem (by omega), List.all_append, hall, List.getD_eq_getElem?_getD, List.getElem?_eq_getElem (by omega)]
              simp
            have HFN : Hid (Sp.inB bl (F.getD i 0) = false → V = false) := fun e => by
              have e1 := HTA.out
              rw [HVF.out, ← List.take_append_drop (i + 1) F, List.all_append, e1, e]
              rfl
            have hne := later_some wr
            generalize F.getD i 0 = y at *
            have hcy : (decide (y < 2) = true ∧ Sp.inB bl y = false) ∨ (decide (y < 2) = false ∧ decide (bl ≤ y) = true ∧ Sp.inB bl y = false) ∨ (decide (y < 2) = false ∧ decide (bl ≤ y) = false ∧ Sp.inB bl y = true) := by
              unfold Sp.inB
              simp only [decide_eq_true_eq, decide_eq_false_iff_not]
              omega
            clear hall hbx hbxW hnc
            rcases hcy with ⟨d1, d2⟩ | ⟨d1, d2, d3⟩ | ⟨d1, d2, d3⟩
            · have HFF := hide (HFN.out d2)
              clear d2 HTA HFN
              go_wp2_with fail
              refine wp_region_later (by kernel_rfl) (by kernel_rfl) ?_
              repeat (go_big_quiet_step (rfl))
              refine wpQuiet_nil ?_
              intro w9' hw
              obtain ⟨⟨x, hx⟩, rfl⟩ := hw
              go_wp2_with fail
              go_ret
              exact ⟨by rw [HFF.out]; rfl, HB0.out.trans ((HBXW.out.trans (hx.mono HBXW.out.size)).mono HB0.out.size)⟩
            · have HFF := hide (HFN.out d3)
              clear d3 HTA HFN
              go_wp2_with fail
              refine wp_region_later (by kernel_rfl) (by kernel_rfl) ?_
              repeat (go_big_quiet_step (rfl))
              refine wpQuiet_nil ?_
              intro w9' hw
              obtain ⟨⟨x, hx⟩, rfl⟩ := hw
              go_wp2_with fail
              go_ret
              exact ⟨by rw [HFF.out]; rfl, HB0.out.trans ((HBXW.out.trans (hx.mono HBXW.out.size)).mono HB0.out.size)⟩
            · have HTT := hide (HTA.out.trans d3)
              clear d3 HTA HFN
              go_wp2_with fail
              refine wp_region_later (by kernel_rfl) (by kernel_rfl) ?_
              repeat (go_big_quiet_step (rfl))
              refine wpQuiet_nil ?_
              intro w9' hw
              obtain ⟨⟨x, hx⟩, rfl⟩ := hw
              go_wp2_with fail
              go_roundw
              case rel => exact ⟨i + 1, by omega, by go_num, HTT.out, HBX.out.trans (hx.mono HBX.out.size)⟩
              case measure => simp [intOf]; omega
          · have hiI : ¬ (i : Int) < (fl : Int) := by omega
            obtain rfl : i = fl := by omega
            have HVT : Hid (V = true) := by
              have h1 := HFL.out
              rw [List.take_of_length_le (by omega)] at hall
              show V = true
              rw [HVF.out]; exact hall
            clear hall hbx hbxW
            go_wp2_with fail
            go_ret
            exact ⟨by rw [HVT.out]; rfl, HB0.out.trans (HBXW.out.mono HB0.out.size)⟩
end Go.Proofs.Ytmildaofmgeceaa
