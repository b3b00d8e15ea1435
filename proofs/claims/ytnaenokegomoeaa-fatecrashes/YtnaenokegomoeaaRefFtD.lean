/-
  The document's answers: Image (layer 6), Ints (layer 1).
-/
import Derived.Test.YtnaenokegomoeaaRefFtB
import Derived.Test.YtnaenokegomoeaaPmPlain
import Derived.Test.YtnaenokegomoeaaRefText
import Derived.Test.YtnaenokegomoeaaClones
import Derived.Test.YtnaenokegomoeaaPmLawAll
namespace Go.Proofs.Ytnaenokegomoeaa
set_option linter.unusedVariables false
set_option linter.unusedSimpArgs false
open Go.RowKit

set_option maxRecDepth 100000 in
set_option maxHeartbeats 1000000 in
theorem ints_same (a c : Option Addr) (n cap cap' : Nat) (L : List Int) (w : World) (hl : n ≤ 1000000) (ha : Row .i64 w a n L) (hc : Row .i64 w c n L) :
    Calls Try.prog 18 #[.slice a n cap, .slice c n cap'] w fun e w' => e = .returned (.bool true) ∧ Below w.heap.size w w' := by
  have HA := hide ha
  have HC := hide hc
  clear ha hc
  go_enter Try.func18, Try.ntmps18
  go_wp2_with fail
  go_loopw [5] (fun i wr => ∃ k : Nat, k ≤ n ∧ i = .int .i64 k ∧ Below w.heap.size w wr) (fun i _ => n - (intOf i).toNat)
  case atStart => exact ⟨0, Nat.zero_le _, rfl, Below.refl _ _⟩
  case round =>
    obtain ⟨k, hk, rfl, hb⟩ := hrel
    have HB := hide hb
    by_cases hlt : k < n
    · have hkn : (k : Int) < (n : Int) := by omega
      obtain ⟨hL, h0 | ⟨b, off, rfl, hbw, hca⟩⟩ := HA.out.below hb
      · omega
      obtain ⟨hM, h0 | ⟨b', off', rfl, hbw', hcb⟩⟩ := HC.out.below hb
      · omega
      have ka := hca k hlt
      have kb := hcb k hlt
      clear hca hcb hL hM hb
      generalize L.getD k 0 = x at *
      go_wp2_with fail
      go_region
      go_wp2_with fail
      go_roundw
      case rel => exact ⟨k + 1, by omega, by go_num, HB.out.drew⟩
      case measure => simp [intOf]; omega
    · have hkn : ¬ (k : Int) < (n : Int) := by omega
      go_wp2_with fail
      go_ret
      exact ⟨rfl, HB.out⟩

namespace Pm
/-- an image told by the fates, from the last one on: the words, and what is left of the number. -/
def back (was : List Int) (k : Nat) : List F → List Int × Nat
  | [] => (was, k)
  | f :: r => ((back was k r).1.set f.at' (f.vals.getD ((back was k r).2 % f.vals.length) 0), (back was k r).2 / f.vals.length)
theorem back_length (was : List Int) (k : Nat) (fs : List F) : (back was k fs).1.length = was.length := by
  induction fs with
  | nil => rfl
  | cons f r ih => rw [back, List.length_set, ih]
theorem back_le (was : List Int) (k : Nat) (fs : List F) : (back was k fs).2 ≤ k := by
  induction fs with
  | nil => exact Nat.le_refl _
  | cons f r ih => exact Nat.le_trans (Nat.div_le_self _ _) ih
theorem back_image (k : Nat) : ∀ (ws : List W) (pre : List Int), back (pre ++ lastL ws) k (fatesFrom pre.length ws) = (pre ++ (imageAt ws k).1, (imageAt ws k).2)
  | [], pre => rfl
  | x :: r, pre => by
    have ih := back_image k r (pre ++ [x.lasts])
    have hlen : (pre ++ [x.lasts]).length = pre.length + 1 := by simp
    have hcat : pre ++ [x.lasts] ++ lastL r = pre ++ lastL (x :: r) := by simp [lastL]
    rw [hlen, hcat] at ih
    have e : fatesFrom pre.length (x :: r) = if x.isOpen = true then toF pre.length x :: fatesFrom (pre.length + 1) r else fatesFrom (pre.length + 1) r := rfl
    have e0 : imageAt (x :: r) k = ((wordVals x).getD ((imageAt r k).2 % (wordVals x).length) 0 :: (imageAt r k).1, (imageAt r k).2 / (wordVals x).length) := rfl
    rw [e, e0]
    by_cases ho : x.isOpen = true
    · rw [if_pos ho, back, ih]
      have hv : (toF pre.length x).vals = wordVals x := (vals_of x pre.length ho).symm
      have ha : (toF pre.length x).at' = pre.length := rfl
      rw [hv, ha]
      simp
    · rw [if_neg ho, ih]
      unfold wordVals
      rw [if_neg ho]
      simp [Nat.mod_one]
theorem back_all (s : D) (k : Nat) : (back (lastL s.ws) k (fates s)).1 = (imageAt s.ws k).1 := by
  have := back_image k s.ws []
  simp only [List.nil_append, List.length_nil] at this
  unfold fates
  rw [this]
theorem back_bd {was : List Int} {k : Nat} {fs : List F} {lo hi : Int} (hw : ∀ v ∈ was, lo ≤ v ∧ v ≤ hi) (hf : ∀ f ∈ fs, ∀ v ∈ f.vals, lo ≤ v ∧ v ≤ hi) : ∀ v ∈ (back was k fs).1, lo ≤ v ∧ v ≤ hi := by
  induction fs with
  | nil => exact hw
  | cons f r ih =>
    intro v hv
    rw [back] at hv
    rcases List.mem_or_eq_of_mem_set hv with hv | rfl
    · exact ih (fun g hg => hf g (by simp [hg])) v hv
    · refine hf f (by simp) _ ?_
      have hp : 0 < f.vals.length := vals3_pos _ _ _
      rw [List.getD_eq_getElem?_getD, List.getElem?_eq_getElem (Nat.mod_lt _ hp)]
      exact List.getElem_mem _
end Pm

set_option maxRecDepth 100000 in
set_option maxHeartbeats 8000000 in
theorem rimage_any {w : World} {b : Nat} {s : Pm.D} {F : Nat → Prop} {g0 g1 g2 g3 : Nat} {pa : Option Addr} {pc : Nat} (h : RDev w b s F g0 g1 g2 g3 pa pc) (hm : s.ws.length ≤ 40000) (n : Nat) (hn : n ≤ 1000000) :
    Calls Try.prog 24 #[.pointer (some ⟨b, 0, none⟩), .int .i64 n] w fun e w' => e = .returned (.string (strOfNums (octs (Pm.imageAt s.ws n).1))) ∧ Below w.heap.size w w' := by
  have f0 := h.fields.1
  have HD := hide h
  obtain ⟨N, hN⟩ : ∃ N, s.ws.length = N := ⟨_, rfl⟩
  have HN := hide hN
  have HA : Hid (Arg .u64 w (some ⟨g0, 0, none⟩) N N (Pm.lastL s.ws)) := ⟨Nat.le_refl _, by unfold maxLen; omega, row_of_block h.c0 (by rw [lastL_len, hN]), wf_last h.ok, .inr ⟨g0, 0, rfl⟩⟩
  have HBK := hide (Pm.back_all s n)
  have hbw : b < w.heap.size := heap_lt h.dev
  rw [hN] at f0 hm
  clear h hN
  go_enter Try.func24, Try.ntmps24
  go_wp2_with (at_builtin; refine wpList_clone_u64 rfl _ _ rfl w.heap.size rfl ?q1 w.heap.size w ?q2 (Nat.le_refl _) (some ⟨g0, 0, none⟩) N N (Pm.lastL s.ws) rfl ?q3 (by omega) ?_)
  case q1 => exact heap_alloc_new _ _
  case q2 => exact (Below.refl _ _).alloc (Nat.le_refl _) _
  case q3 => exact HA.out.below ((Below.refl _ _).alloc (Nat.le_refl _) _)
  intro gl cap' tail w1 hb1 hBg hg hle hmax
  have HB1 := hide hb1
  have HG1 : Hid (w1.heap[gl]? = some (.cells (blkT (Pm.lastL s.ws) tail) 22 (0, 0))) := hg
  have HD1 := hide (HD.out.kept hb1.size (fun k _ hk => hb1.block k hk))
  have HGL := hide hBg
  clear hb1 hg hBg f0 hbw
  go_wp2_with fail
  refine (rfates_any HD1.out (by rw [HN.out]; exact hm)).mono ?_
  rintro e w4 ⟨v, rfl, hown, hb4⟩
  have HOW := hide hown
  have HB4 := hide (HB1.out.trans (hb4.mono HB1.out.size))
  have HK4 := hide ((hb4.block gl (heap_lt HG1.out)).trans HG1.out)
  have hl3 := heap_lt HG1.out
  have HOK := hide (fate_ok HD.out.ok.ws 0)
  have HLB : Hid (∀ v ∈ Pm.lastL s.ws, 0 ≤ v ∧ v ≤ 18446744073709551615) := fun v hv => bd_u64 (wf_last HD.out.ok v hv)
  clear hown hb4 HG1 HB1 HD1 HD
  obtain ⟨xa, cp, rfl⟩ := own_len HOW.out
  have HFL := hide (fates_length s.ws 0)
  have HFLb : Hid ((Pm.fates s).length ≤ 40000) := Nat.le_trans HFL.out (by rw [HN.out]; exact hm)
  have hflb := HFLb.out
  generalize hnf : (Pm.fates s).length = nf at hflb ⊢
  have HNF := hide hnf
  clear hnf HFLb HFL
  go_wp2_with fail
  go_loopw [1, 7] (fun kk i wr => ∃ j : Nat, j ≤ nf ∧ i = .int .i64 ((j : Int) - 1) ∧ kk = .int .i64 (Pm.back (Pm.lastL s.ws) n ((Pm.fates s).drop j)).2 ∧ wr.heap[gl]? = some (.cells (blkT (Pm.back (Pm.lastL s.ws) n ((Pm.fates s).drop j)).1 tail) 22 (0, 0)) ∧ Only (fun j => j = gl) w4 wr) (fun _ i _ => (intOf i + 1).toNat)
  case atStart =>
    have e : (Pm.fates s).drop nf = [] := List.drop_of_length_le (by rw [HNF.out]; exact Nat.le_refl _)
    exact ⟨nf, Nat.le_refl _, rfl, by rw [e]; rfl, by rw [e]; exact HK4.out, Only.refl _ _⟩
  case round =>
    obtain ⟨j, hj, rfl, rfl, hkl, ho⟩ := hrel
    have HKL := hide hkl
    have HON := hide ho
    clear hkl ho
    have hsz4 := HON.out.size
    have hgl4 := heap_lt HK4.out
    by_cases hpos : 0 < j
    · obtain ⟨i, rfl⟩ : ∃ i, j = i + 1 := ⟨j - 1, by omega⟩
      have hi1 : ((i + 1 : Nat) : Int) - 1 = (i : Int) := by omega
      rw [hi1]
      have hin : (i : Int) < (nf : Int) := by omega
      obtain ⟨f, hf⟩ : ∃ f, (Pm.fates s)[i]? = some f := ⟨_, List.getElem?_eq_getElem (by rw [HNF.out]; omega)⟩
      have hdrop : (Pm.fates s).drop i = f :: (Pm.fates s).drop (i + 1) := by
        have h1 := (List.getElem?_eq_some_iff.1 hf)
        obtain ⟨h2, h3⟩ := h1
        rw [List.drop_eq_getElem_cons h2, h3]
      obtain ⟨gg, cpp, hxa, hcp, hgB, hggw, hcells⟩ := fates_row HOW.out (by rw [HNF.out]; omega)
      cases hxa
      obtain ⟨q0, q1, q2, q3, q4⟩ := hcells i f hf
      have hgg : gg ≠ gl := by omega
      have r0 := (HON.out.cell (p := ⟨gg, i * 5, none⟩) hggw hgg).trans q0
      have r1 := (HON.out.cell (p := ⟨gg, i * 5 + 1, none⟩) hggw hgg).trans q1
      have r2 := (HON.out.cell (p := ⟨gg, i * 5 + 2, none⟩) hggw hgg).trans q2
      have r3 := (HON.out.cell (p := ⟨gg, i * 5 + 3, none⟩) hggw hgg).trans q3
      have r4 := (HON.out.cell (p := ⟨gg, i * 5 + 4, none⟩) hggw hgg).trans q4
      have hfm := List.mem_of_getElem? hf
      have hfa : f.at' < N := by
        obtain ⟨j, x, hx, _, rfl⟩ := Pm.mem_fates.1 hfm
        have := (List.getElem?_eq_some_iff.1 hx).1
        rw [HN.out] at this
        show 0 + j < N
        omega
      obtain ⟨o0, o1, o2⟩ := HOK.out f hfm
      have HVS := hide (rvalues_any f wr o0 o1 o2)
      have HSTEP : Hid (Pm.back (Pm.lastL s.ws) n ((Pm.fates s).drop i) = ((Pm.back (Pm.lastL s.ws) n ((Pm.fates s).drop (i + 1))).1.set f.at' (f.vals.getD ((Pm.back (Pm.lastL s.ws) n ((Pm.fates s).drop (i + 1))).2 % f.vals.length) 0), (Pm.back (Pm.lastL s.ws) n ((Pm.fates s).drop (i + 1))).2 / f.vals.length)) := by
        show _ = _
        rw [hdrop]
        rfl
      have hkk := Pm.back_le (Pm.lastL s.ws) n ((Pm.fates s).drop (i + 1))
      have HCL : Hid ((Pm.back (Pm.lastL s.ws) n ((Pm.fates s).drop (i + 1))).1.length = N) := by
        show _ = _
        rw [Pm.back_length, lastL_len, HN.out]
      have hvp : 0 < f.vals.length := Pm.vals3_pos _ _ _
      have hvl : f.vals.length ≤ 3 := Pm.vals3_le _ _ _
      generalize hcc : (Pm.back (Pm.lastL s.ws) n ((Pm.fates s).drop (i + 1))).1 = cur at *
      generalize hc2 : (Pm.back (Pm.lastL s.ws) n ((Pm.fates s).drop (i + 1))).2 = kk at *
      clear q0 q1 q2 q3 q4 hcells hf hfm hdrop o0 o1 o2 hcc hc2
      generalize hvv : f.vals = V at *
      have HVV := hide hvv
      clear hvv
      obtain ⟨fa, fl, ff, fs, ft⟩ := f
      simp only at r0 r1 r2 r3 r4 hfa HSTEP
      have hgn : gg < wr.heap.size := by omega
      have hi0 : (0 : Int) ≤ (i : Int) := by omega
      go_wp2_with fail
      refine HVS.out.mono ?_
      rintro e w5 ⟨v5, rfl, hown5, hb5⟩
      obtain ⟨ya, yc, rfl, hyc, hyB, hyw, hycell⟩ := own_cells hown5 hvp
      have hmod : kk % V.length < V.length := Nat.mod_lt _ hvp
      have hcy := hycell (kk % V.length) hmod
      have p0 := (hb5.cell (p := ⟨gg, i * 5, none⟩) hgn).trans r0
      have hgn5 : gg < w5.heap.size := Nat.lt_of_lt_of_le hgn hb5.size
      have HK5 := hide ((hb5.block gl (by omega)).trans HKL.out)
      have HO5 := hide (HON.out.trans (Only.of_below hb5))
      have hygl : ya ≠ gl := by omega
      have hs5 := hb5.size
      clear hown5 hycell r0 r1 r2 r3 r4 hb5
      obtain ⟨c5, z5⟩ := cell_blkT HK5.out (i := fa) (by rw [HCL.out]; exact hfa)
      generalize hyv : V.getD (kk % V.length) 0 = y at *
      generalize hvn : V.length = vn at *
      obtain ⟨r, hr⟩ : ∃ r, kk % vn = r := ⟨_, rfl⟩
      obtain ⟨t, ht⟩ : ∃ t, kk / vn = t := ⟨_, rfl⟩
      have hr1 : Int.tmod (kk : Int) (vn : Int) = (r : Int) := by rw [← hr, Int.ofNat_tmod]
      have hr2 : (kk : Int) % (vn : Int) = (r : Int) := by rw [← hr]; simp
      have ht1 : Int.tdiv (kk : Int) (vn : Int) = (t : Int) := by rw [← ht, Int.ofNat_tdiv]
      have ht2 : (kk : Int) / (vn : Int) = (t : Int) := by rw [← ht]; simp
      have htk : t ≤ kk := by rw [← ht]; exact Nat.div_le_self _ _
      rw [hr] at hmod hcy
      rw [ht] at HSTEP
      have HSET : Hid ((w5.drew.setCell ⟨gl, fa, none⟩ (.int .u64 y)).heap[gl]? = some (.cells (blkT (cur.set fa y) tail) 22 (0, 0)) ∧ Only (fun j => j = gl) w4 (w5.drew.setCell ⟨gl, fa, none⟩ (.int .u64 y))) := by
        refine ⟨?_, (HO5.out.trans (Only.drewN _ w5 1)).setCell (p := ⟨gl, fa, none⟩) rfl _⟩
        rw [heap_set (w := w5.drew) HK5.out, blkT_set _ _ _ _ (by rw [HCL.out]; exact hfa)]
      have hvn0 : ¬ (vn : Int) = 0 := by omega
      have hvn0' : ¬ vn = 0 := by omega
      have hwr : IntKind.i64.wrap (r : Int) = (r : Int) := by rw [IntKind.wrap_i64]; omega
      have hrv : (r : Int) < (vn : Int) := by omega
      have hfin : (fa : Int) < (N : Int) := by omega
      have hggl := Ne.symm hgg
      have hygl' := Ne.symm hygl
      generalize cur.getD fa 0 = y0 at c5
      clear hr ht hvn hyv
      go_wp2_with fail
      go_region_held3 (fun w' => w'.cell? ⟨gg, i * 5, none⟩ = some (.int .i64 fa) ∧ w'.cell? ⟨ya, r, none⟩ = some (.int .u64 y))
        (first
          | go_keep
          | exact ⟨p0, hcy⟩)
        (fail)
      go_wp2_with fail
      go_roundw
      case rel => exact ⟨i, by omega, by go_num, by rw [HSTEP.out], by rw [HSTEP.out]; exact HSET.out.1, HSET.out.2⟩
      case measure => simp [intOf]
    · obtain rfl : j = 0 := by omega
      have hneg : ¬ (0 : Int) ≤ ((0 : Nat) : Int) - 1 := by omega
      rw [List.drop_zero] at HKL
      have hbr : Below w.heap.size w wr := HB4.out.trans (HON.out.below (fun j hj => by rw [hj]; exact HGL.out) HB4.out.size)
      have HBR := hide hbr
      rw [HBK.out] at HKL
      have hcl : (Pm.imageAt s.ws n).1.length = N := by rw [← HBK.out, Pm.back_length, lastL_len, HN.out]
      have hcb : ∀ v ∈ (Pm.imageAt s.ws n).1, 0 ≤ v ∧ v ≤ 18446744073709551615 := by
        rw [← HBK.out]
        exact Pm.back_bd HLB.out (fun f hf => Pm.vals_bd (bd_u64 (HOK.out f hf).1) (bd_u64 (HOK.out f hf).2.1) (bd_u64 (HOK.out f hf).2.2))
      have HTX := hide (fun (c : Nat) => rtext_any (w := wr) (cap := c) (row_append (tail := tail) HKL.out hcl) hcb (by omega))
      clear hcl hcb hbr
      obtain ⟨X, hX⟩ : ∃ X, strOfNums (octs (Pm.imageAt s.ws n).1) = X := ⟨_, rfl⟩
      rw [hX] at HTX
      have HX := hide hX
      clear hX
      generalize (Pm.back (Pm.lastL s.ws) n ((Pm.fates s).drop 0)).2 = kk at *
      go_wp2_with fail
      refine (HTX.out _).mono ?_
      rintro e w6 ⟨rfl, hb6⟩
      have HB6 := hide hb6
      clear hb6
      go_wp2_with fail
      go_ret
      exact ⟨by rw [HX.out]; rfl, HBR.out.trans (HB6.out.mono HBR.out.size)⟩
end Go.Proofs.Ytnaenokegomoeaa
