/-
  Layer 5's statements: PmemCrash.
-/
import Derived.Test.YtjkiehfjbldkkaaPmLawG
import Derived.Test.YtjkiehfjbldkkaaOcN
namespace Go.Proofs.Ytjkiehfjbldkkaa
set_option linter.unusedVariables false
set_option linter.unusedSimpArgs false
open Go.RowKit

set_option maxRecDepth 100000 in
set_option maxHeartbeats 4000000 in
theorem crash_yes {w : World} {p : Option Addr} {pl pc : Nat} {l : List Int} (hP : Arg .i64 w p pl pc l) (hpl : pl ≤ 60) {a : Option Addr} {len cap : Nat} {xs : List Ac} (hA : Acts w a len cap xs) (h : smallB xs 40 = true) :
    Calls Try.prog 6 #[.slice a len cap, .slice p pl pc] w fun e w' => e = .returned (.bool true) ∧ Below w.heap.size w w' := by
  have HA := hide hA
  have HPL := hide hP
  have HSM : Hid (xs.length ≤ 40 ∧ ∀ x ∈ xs, x.len ≤ 40) := by
    show _ ∧ _
    unfold smallB at h
    simpa using h
  have hlen := hA.1
  have hll := hP.2.2.1.1
  have hl40 : len ≤ 40 := by have := HSM.out.1; omega
  have hp1 : ¬ (60 : Int) < (pl : Int) := by omega
  have HN := hide (fun W => new_own W 3 (by decide))
  have HPB : Hid (0 < pl → ∀ x, p = some x → x.block < w.heap.size) := arg_block hP
  clear hA hP
  go_enter Try.func6, Try.ntmps6
  go_wp2_with fail
  refine (awake_any _).mono ?_
  rintro e w1 ⟨rfl, hb1⟩
  have HB1 := hide hb1
  clear hb1
  go_wp2_with fail
  refine (small_any (HA.out.below HB1.out) 40 (by decide)).mono ?_
  rintro e w2 ⟨rfl, hb2⟩
  have HB2 := hide (HB1.out.trans (hb2.mono HB1.out.size))
  clear hb2
  go_wp2_with fail
  refine (HN.out _).mono ?_
  rintro e w3 ⟨b, rfl, hP, hb3⟩
  have HB3 := hide (HB2.out.trans (hb3.mono HB2.out.size))
  have HP : Hid (POwn w.heap.size w3 b (Pm.new (8 * 3))) := by
    obtain ⟨F, q1, q2⟩ := hP
    exact ⟨F, q1, fun k hk => ⟨Nat.le_trans HB2.out.size (q2 k hk).1, (q2 k hk).2⟩⟩
  have HDO0 : Hid (Doing 24 0 (Pm.new (8 * 3))) := ⟨by simp [Pm.new], by simp [Pm.new], by simp [Pm.new]⟩
  clear hP hb3
  go_wp2_with fail
  go_loopw [7] (fun i wr => ∃ (k : Nat) (s : Pm.D), k ≤ len ∧ i = .int .i64 k ∧ Doing 24 k s ∧ POwn w.heap.size wr b s ∧ Below w.heap.size w wr) (fun i _ => len - (intOf i).toNat)
  case atStart => exact ⟨0, _, Nat.zero_le _, rfl, HDO0.out, HP.out, HB3.out⟩
  case round =>
    obtain ⟨k, s, hk, rfl, hds, hpo, hbr⟩ := hrel
    have HBr := hide hbr
    have HPo := hide hpo
    have HDs := hide hds
    have hm24 : s.ws.length ≤ 40000 := by rw [hds.len]; omega
    have hst := hds.steps
    clear hpo hds
    by_cases hlt : k < len
    · have hkn : (k : Int) < (len : Int) := by omega
      have hkx : k < xs.length := by omega
      obtain ⟨x, hx⟩ : ∃ x, xs[k]? = some x := ⟨_, List.getElem?_eq_getElem hkx⟩
      have hxm := List.mem_of_getElem? hx
      have hx40 := HSM.out.2 x hxm
      have hxok := HA.out.2.2.2.1 x hxm
      have hxl : x.l.length = x.len := hxok.2.2.2.2.2.1.1
      have hAB : 0 < x.len → ∀ y, x.a = some y → y.block < w.heap.size := arg_block hxok.2.2.2
      obtain ⟨_, _, _, _, h5⟩ := HA.out.below hbr
      rcases h5 with h5 | ⟨ga, off, rfl, hgw, hc⟩
      · omega
      obtain ⟨q0, q1, q2, q3⟩ := hc k x hx
      have HDO := hide (do_own HPo.out HBr.out.size hm24 (by have := HDs.out.plan; omega) (by omega) x (ok_below hxok hbr) (by omega) hAB)
      have HDN := hide (HDs.out.act x.plain (show x.l.length ≤ 40 by omega))
      have hcl : x.cells.toArray = #[.int .i64 x.kind, .int .i64 x.at', .int .u64 x.w, .slice x.a x.len x.cap] := rfl
      rw [hcl] at HDO
      generalize Pm.act s x.plain = s' at *
      generalize Pm.actV s x.plain = av at *
      generalize Pm.actE s x.plain = ae at *
      obtain ⟨xk, xat, xw, xa, xlen, xcap, xl⟩ := x
      simp only at q0 q1 q2 q3 HDO
      clear hc hbr hxok hxm hcl hx hx40 hxl hAB
      go_wp2_with fail
      refine HDO.out.mono ?_
      rintro e W1 ⟨rfl, hp1', hb1⟩
      have HP1 := hide hp1'
      have HBV := hide (HBr.out.trans hb1)
      clear hp1' hb1 q0 q1 q2 q3
      go_wp2_with fail
      go_roundw
      case rel => exact ⟨k + 1, s', by omega, by go_num, HDN.out, HP1.out, HBV.out⟩
      case measure => simp [intOf]; omega
    · have hkn : ¬ (k : Int) < (len : Int) := by omega
      clear hbr
      obtain ⟨wq, hwq⟩ : ∃ x, x = wr := ⟨_, rfl⟩
      subst hwq
      obtain ⟨F, hD, hFB⟩ := HPo.out
      have HIM := hide (pimage_new hD hm24)
      rw [HDs.out.len, show 8 * 24 = 192 from rfl] at HIM
      have HD7 := hide hD
      clear hD
      go_wp2_with fail
      refine HIM.out.mono ?_
      rintro e w8 ⟨gw, rfl, hgw, hw8, hb8⟩
      have HB8 := hide hb8
      have HW8 := hide hw8
      have HFA := hide (pfates_own (HD7.out.kept hb8.size (fun k _ hk => hb8.block k hk)) hm24)
      clear hw8 hb8
      go_wp2_with fail
      refine HFA.out.mono ?_
      rintro e w9 ⟨v, rfl, hown, hb9⟩
      have HOW := hide hown
      have HB9 := hide hb9
      clear hown hb9
      obtain ⟨cp, hcp⟩ : ∃ cp x, v = .slice x (Pm.fates s).length cp := by
        rcases HOW.out.2 with ⟨rfl, h0⟩ | ⟨g, cap, cur, hv, _⟩
        · exact ⟨0, none, by rw [h0]⟩
        · exact ⟨cap, _, hv⟩
      obtain ⟨xa, rfl⟩ := hcp
      have hgw8 := heap_lt HW8.out
      have hs78 := HB8.out.size
      have hs89 := HB9.out.size
      have HB79 := hide (HB8.out.trans (HB9.out.mono HB8.out.size))
      have HB09 := hide (HBr.out.trans (HB79.out.mono HBr.out.size))
      have HCR := hide (pcrash_any (HD7.out.kept HB79.out.size (fun k _ hk => HB79.out.block k hk)) (fun k hk => Nat.lt_of_lt_of_le (hFB k hk).2 HB79.out.size) hm24 (HPL.out.below HB09.out) (by omega) (fun hl x hx q => by have := HPB.out hl x hx; have := hFB _ q; omega))
      have hFLb : (Pm.fates s).length ≤ 24 := by have := fates_length s.ws 0; rw [HDs.out.len] at this; exact this
      generalize hnf : (Pm.fates s).length = nf at hFLb ⊢
      have HNF := hide hnf
      clear hnf
      go_wp2_with fail
      refine HCR.out.mono ?_
      rintro e w10 ⟨rfl, F', hD10, hG10, hS10, hO10⟩
      have HD10 := hide hD10
      have HO10 := hide hO10
      have hs910 := hO10.size
      have HF' : Hid (∀ k, F' k → k < w10.heap.size ∧ w.heap.size ≤ k ∧ k ≠ gw) := by
        show ∀ k, _ → _
        intro k hk
        rcases hG10 k hk with q | q
        · have := hFB k q
          exact ⟨by omega, by omega, by omega⟩
        · have := HBr.out.size
          exact ⟨by omega, by omega, by omega⟩
      have hlc : (Pm.crash s l).ws.length = 24 := (Pm.crashW_length _ _).trans HDs.out.len
      have HIM2 := hide (pimage_new hD10 (by rw [hlc]; decide))
      rw [hlc, show 8 * 24 = 192 from rfl] at HIM2
      clear hD10 hG10 hS10 hO10
      go_wp2_with fail
      refine HIM2.out.mono ?_
      rintro e w11 ⟨gn, rfl, hgn, hw11, hb11⟩
      have HW11 := hide hw11
      have HB11 := hide hb11
      clear hw11 hb11
      have hs1011 := HB11.out.size
      -- what was, behind the crash
      have HWAS : Hid (w11.heap[gw]? = some (.cells (blk .u8 (octs (Pm.lastL s.ws))) 5 (0, 0))) := by
        show _ = _
        rw [HB11.out.block gw (by omega), HO10.out.block gw (by omega) (fun q => by have := hFB gw q; omega), HB9.out.block gw hgw8]
        exact HW8.out
      have HB0 : Hid (Below w.heap.size w w11) := by
        have q1 : Below w.heap.size w9 w10 := HO10.out.below (fun k hk => (hFB k hk).1) HB09.out.size
        exact (HB09.out.trans q1).trans (HB11.out.mono (Nat.le_trans HB09.out.size q1.size))
      have HFR : Hid (0 < nf → ∃ g, xa = some ⟨g, 0, none⟩ ∧ nf ≤ cp ∧ w.heap.size ≤ g ∧ g < w11.heap.size ∧ g ≠ gw ∧ ∀ i f, (Pm.fates s)[i]? = some f → w11.cell? ⟨g, i * 5, none⟩ = some (.int .i64 f.at') ∧ w11.cell? ⟨g, i * 5 + 1, none⟩ = some (.int .u64 f.lasts) ∧ w11.cell? ⟨g, i * 5 + 2, none⟩ = some (.bool f.flushed) ∧ w11.cell? ⟨g, i * 5 + 3, none⟩ = some (.int .u64 f.sent) ∧ w11.cell? ⟨g, i * 5 + 4, none⟩ = some (.int .u64 f.stored)) := by
        show _ → _
        intro hpos
        obtain ⟨g, cap, hv, hle, hBg, hg, hc⟩ := fates_row HOW.out (by rw [HNF.out]; exact hpos)
        cases hv
        have hnF : ¬ F g := fun q => by have := hFB g q; omega
        have mv : ∀ o, w11.cell? ⟨g, o, none⟩ = w9.cell? ⟨g, o, none⟩ := fun o => (HB11.out.cell (p := ⟨g, o, none⟩) (by simp only; omega)).trans (HO10.out.cell (p := ⟨g, o, none⟩) hg hnF)
        have := HBr.out.size
        refine ⟨g, rfl, by rw [← HNF.out]; exact hle, by omega, by omega, by omega, fun i f hf => ?_⟩
        rw [mv, mv, mv, mv, mv]
        exact hc i f hf
      have hgwb : gw < w11.heap.size := by omega
      have hgnb := heap_lt HW11.out
      have hne : gn ≠ gw := by omega
      go_wp2_with fail
      go_loopw [11] (fun i wr' => ∃ k : Nat, k ≤ nf ∧ i = .int .i64 k ∧ Only (fun j => j = gw) w11 wr' ∧ wr'.heap[gw]? = some (.cells (blk .u8 (octs (Pm.copied (Pm.lastL (Pm.crash s l).ws) ((Pm.fates s).take k) (Pm.lastL s.ws)))) 5 (0, 0))) (fun i _ => nf - (intOf i).toNat)
      case atStart => exact ⟨0, Nat.zero_le _, rfl, Only.refl _ _, by rw [List.take_zero]; exact HWAS.out⟩
      case round =>
        obtain ⟨k2, hk2, rfl, ho, hg⟩ := hrel
        have HO := hide ho
        have HG := hide hg
        have hsr := ho.size
        clear ho hg
        by_cases hlt2 : k2 < nf
        · have hkn2 : (k2 : Int) < (nf : Int) := by omega
          obtain ⟨gf, rfl, hcp, hgfB, hgf, hgfn, hcells⟩ := HFR.out (by omega)
          obtain ⟨f, hf⟩ : ∃ f, (Pm.fates s)[k2]? = some f := ⟨_, List.getElem?_eq_getElem (by rw [HNF.out]; exact hlt2)⟩
          obtain ⟨q0, q1, q2, q3, q4⟩ := hcells k2 f hf
          obtain ⟨_, hfa, hfc⟩ := Pm.fates_at (k := 0) l hf
          rw [HDs.out.len, Nat.zero_add] at hfa
          rw [Nat.sub_zero] at hfc
          have hstep := copied_step (Pm.lastL (Pm.crash s l).ws) (Pm.lastL s.ws) hf
          have hnow : (Pm.lastL (Pm.crash s l).ws).getD f.at' 0 = f.value (l.getD k2 0) := by
            unfold Pm.lastL Pm.crash
            simp only [List.getD_eq_getElem?_getD, List.getElem?_map, hfc]
            rfl
          have hyw : (Lit.int .i64 (l.getD k2 0)).wf = true := by
            by_cases hkl : k2 < l.length
            · refine HPL.out.2.2.2.1 _ ?_
              rw [List.getD_eq_getElem?_getD, List.getElem?_eq_getElem hkl]
              exact List.getElem_mem hkl
            · rw [List.getD_eq_getElem?_getD, List.getElem?_eq_none (by omega)]
              rfl
          have mv : ∀ o, wr.cell? ⟨gf, o, none⟩ = w11.cell? ⟨gf, o, none⟩ := fun o => HO.out.cell (p := ⟨gf, o, none⟩) hgf hgfn
          rw [← mv] at q0 q1 q2 q3 q4
          obtain ⟨y, hy⟩ : ∃ y, l.getD k2 0 = y := ⟨_, rfl⟩
          rw [hy] at hnow hyw
          have HVA := hide (fun W => rvalue_any f y W hyw)
          have hnb : wr.heap[gn]? = some (.cells (blk .u8 (octs (Pm.lastL (Pm.crash s l).ws))) 5 (0, 0)) := (HO.out.block gn hgnb hne).trans HW11.out
          have hoct := octs_at (L := Pm.lastL (Pm.crash s l).ws) (i := f.at') (by rw [lastL_len, show (Pm.crash s l).ws.length = 24 from hlc]; exact hfa)
          rw [hnow] at hoct hstep
          have HSTEP := hide hstep
          have hvok := Pm.crashW_ok HD7.out.ok.ws l _ (List.mem_of_getElem? hfc)
          rw [hy] at hvok
          have hv0 := hvok.l0
          have hv1 := hvok.l1
          simp only [Pm.still] at hv0 hv1
          obtain ⟨fa, fl, ff, fs, ft⟩ := f
          simp only at q0 q1 q2 q3 q4 hfa hoct HSTEP
          generalize Pm.F.value ⟨fa, fl, ff, fs, ft⟩ y = z at *
          have hrn := row_of_block hnb (by rw [octs_length, lastL_len, show (Pm.crash s l).ws.length = 24 from hlc] : _ = 192)
          obtain ⟨gb, go, hge, hrc⟩ := hrn.cut (8 * fa) 8 (by omega) (by omega)
          cases hge
          rw [hoct, Nat.zero_add] at hrc
          have HRC := hide hrc
          have HNU : Hid (∀ W, Calls Try.prog 30 #[.string (strOfNums (Nums.lay z 8))] W fun e w' => e = .returned (.int .u64 z) ∧ w' = W) := by
            show ∀ W, _
            intro W
            have := number_any (Nums.lay z 8) W (by rw [Nums.length_lay]; unfold maxLen; omega) (Nums.bytes_lay 8 z)
            rw [List.take_of_length_le (by rw [Nums.length_lay]; exact Nat.le_refl _), rd_lay8 hv0 hv1] at this
            exact this
          have hcv := conv_bytes (w := wr.drew) (192 - 8 * fa) hrc
          obtain ⟨T, hT⟩ : ∃ T, strOfNums (Nums.lay z 8) = T := ⟨_, rfl⟩
          rw [hT] at hcv HNU
          have hL : (octs (Pm.copied (Pm.lastL (Pm.crash s l).ws) ((Pm.fates s).take k2) (Pm.lastL s.ws))).length = 192 := by rw [octs_length, Pm.copied_length, lastL_len, HDs.out.len]
          have HSP : Hid (splice (octs (Pm.copied (Pm.lastL (Pm.crash s l).ws) ((Pm.fates s).take k2) (Pm.lastL s.ws))) (8 * fa) (Nums.lay z 8) = octs (Pm.copied (Pm.lastL (Pm.crash s l).ws) ((Pm.fates s).take (k2 + 1)) (Pm.lastL s.ws))) := by
            show _ = _
            rw [octs_set z (by rw [Pm.copied_length, lastL_len, HDs.out.len]; exact hfa), HSTEP.out]
          have hcase : (k2 < pl ∧ ∃ ab off, p = some ⟨ab, off, none⟩ ∧ wr.cell? ⟨ab, off + k2, none⟩ = some (.int .i64 y)) ∨ (¬ k2 < pl ∧ y = 0) := by
            by_cases hkl : k2 < pl
            · refine .inl ⟨hkl, ?_⟩
              obtain ⟨_, h0 | ⟨ab, off, rfl, hab, hac⟩⟩ := HPL.out.2.2.1
              · omega
              refine ⟨ab, off, rfl, ?_⟩
              have hab' := HPB.out (by omega) ⟨ab, off, none⟩ rfl
              have := HBr.out.size
              rw [HO.out.cell (p := ⟨ab, off + k2, none⟩) (by have := HB0.out.size; simp only at *; omega) (by simp only at *; omega), HB0.out.cell (p := ⟨ab, off + k2, none⟩) hab', hac k2 hkl, hy]
            · refine .inr ⟨hkl, ?_⟩
              rw [← hy, List.getD_eq_getElem?_getD, List.getElem?_eq_none (by omega)]
              rfl
          have hgfr : gf < wr.heap.size := by omega
          have hgnr : gn < wr.heap.size := by omega
          have hgwr : gw < wr.heap.size := by omega
          have hw1 : IntKind.i64.wrap (8 * (fa : Int)) = 8 * (fa : Int) := by rw [IntKind.wrap_i64]; omega
          have hw2 : IntKind.i64.wrap (8 * (fa : Int) + 8) = 8 * (fa : Int) + 8 := by rw [IntKind.wrap_i64]; omega
          have ht1 : (8 * (fa : Int)).toNat = 8 * fa := by omega
          have ht2 : (8 * (fa : Int) + 8).toNat = 8 * fa + 8 := by omega
          have hp0 : (0 : Int) ≤ 8 * (fa : Int) := by omega
          have hp2 : (8 : Int) * (fa : Int) ≤ 8 * (fa : Int) + 8 := by omega
          have hp3 : (8 : Int) * (fa : Int) + 8 ≤ 192 := by omega
          have hd8 : 8 * fa + 8 - 8 * fa = 8 := by omega
          have hn1 : ¬ 192 = 8 * fa := by omega
          have hf1 : ¬ (fa : Int) < 0 := by omega
          have hf2 : ¬ (24 : Int) ≤ (fa : Int) := by omega
          have hf3 : decide ((24 : Int) ≤ (fa : Int)) = false := by simp; omega
          have hf4 : (fa : Int) < 24 := by omega
          have hk0 : (0 : Int) ≤ (k2 : Int) := by omega
          clear hcells mv hnb hoct hrn hrc hfc hvok hf hstep hnow hyw hL hy hT
          rcases hcase with ⟨hkl, ab, off, rfl, hcl⟩ | ⟨hkl, rfl⟩
          · have hkl' : (k2 : Int) < (pl : Int) := by omega
            go_wp2_with fail
            go_cut [104] from 62 to 119 (fun u wx => u = .bool false ∧ Below wr.heap.size wr wx)
            case first =>
              go_region_held_law (fun w' => w'.cell? ⟨gf, k2 * 5, none⟩ = some (.int .i64 fa) ∧ w'.cell? ⟨gf, k2 * 5 + 1, none⟩ = some (.int .u64 fl) ∧ w'.cell? ⟨gf, k2 * 5 + 2, none⟩ = some (.bool ff) ∧ w'.cell? ⟨gf, k2 * 5 + 3, none⟩ = some (.int .u64 fs) ∧ w'.cell? ⟨gf, k2 * 5 + 4, none⟩ = some (.int .u64 ft))
                (first
                  | exact ⟨(hb5.cell hgfr).trans q0, (hb5.cell hgfr).trans q1, (hb5.cell hgfr).trans q2, (hb5.cell hgfr).trans q3, (hb5.cell hgfr).trans q4⟩
                  | exact ⟨q0, q1, q2, q3, q4⟩)
                (first
                  | (go_at_call 30; refine (HNU.out _).mono ?_; rintro e w4 ⟨rfl, rfl⟩)
                  | (go_at_call 31; refine (HVA.out _).mono ?_; rintro e w5 ⟨rfl, hb5'⟩; have hb5 : Below wr.heap.size wr w5 := Below.trans (b := wr.drew) ⟨rfl, rfl, rfl, Nat.le_refl _, fun _ _ => rfl⟩ hb5'; clear hb5'))
              all_goals
                go_wp2_with fail
                go_meet
                case rel => exact ⟨rfl, hb5⟩
            case rest =>
              obtain ⟨rfl, hbc⟩ := hcut
              have hgc : wc.drew.heap[gw]? = some (.cells (blk .u8 (octs (Pm.copied (Pm.lastL (Pm.crash s l).ws) ((Pm.fates s).take k2) (Pm.lastL s.ws)))) 5 (0, 0)) := (hbc.block gw hgwr).trans HG.out
              have hrc' := HRC.out.below hbc
              have hrc : Row .u8 wc.drew (some ⟨gn, 8 * fa, none⟩) 8 (Nums.lay z 8) := hrc'
              have hcopy := copy_over (W := wc.drew) (8 * fa) 8 (192 - 8 * fa) (192 - 8 * fa) hrc hgc (Nat.le_refl _) (by rw [octs_length, Pm.copied_length, lastL_len, HDs.out.len]; omega)
              rw [HSP.out, show ((8 : Nat) : Int) = 8 from rfl] at hcopy
              have HG' : Hid ((wc.drew.setRow gw (blk .u8 (octs (Pm.copied (Pm.lastL (Pm.crash s l).ws) ((Pm.fates s).take (k2 + 1)) (Pm.lastL s.ws))))).heap[gw]? = some (.cells (blk .u8 (octs (Pm.copied (Pm.lastL (Pm.crash s l).ws) ((Pm.fates s).take (k2 + 1)) (Pm.lastL s.ws)))) 5 (0, 0))) := setRow_heap _ _ _ _ _ _ hgc
              have HO' : Hid (Only (fun j => j = gw) w11 (wc.drew.setRow gw (blk .u8 (octs (Pm.copied (Pm.lastL (Pm.crash s l).ws) ((Pm.fates s).take (k2 + 1)) (Pm.lastL s.ws)))))) := by
                show Only _ _ _
                refine (HO.out.trans (Only.of_below hbc)).trans ((Only.drewN _ wc 1).trans ?_)
                exact ⟨rfl, rfl, rfl, by simp [World.setRow], fun j _ hn => setRow_other _ _ _ _ hn⟩
              have hszc : wr.heap.size ≤ wc.heap.size := hbc.size
              have hszd : ∀ cs, wr.heap.size ≤ (wc.drew.setRow gw cs).heap.size := fun cs => by simpa [World.setRow] using hszc
              generalize hL2 : octs (Pm.copied (Pm.lastL (Pm.crash s l).ws) ((Pm.fates s).take (k2 + 1)) (Pm.lastL s.ws)) = L2 at hcopy HG' HO'
              have HL2 := hide hL2
              clear hgc hrc hrc' hbc q0 q1 q2 q3 q4 hL2
              go_wp2_with fail
              go_region_held_law (fun w' => wr.heap.size ≤ w'.heap.size) (first | exact hszd _ | exact hszc) (fail)
              all_goals
                go_wp2_with fail
                go_roundw
                case rel => exact ⟨k2 + 1, by omega, by go_num, HO'.out, by rw [HL2.out]; exact HG'.out⟩
                case measure => simp [intOf]; omega
          · have hkl' : ¬ (k2 : Int) < (pl : Int) := by omega
            go_wp2_with fail
            go_cut [104] from 62 to 119 (fun u wx => u = .bool false ∧ Below wr.heap.size wr wx)
            case first =>
              go_region_held_law (fun w' => w'.cell? ⟨gf, k2 * 5, none⟩ = some (.int .i64 fa) ∧ w'.cell? ⟨gf, k2 * 5 + 1, none⟩ = some (.int .u64 fl) ∧ w'.cell? ⟨gf, k2 * 5 + 2, none⟩ = some (.bool ff) ∧ w'.cell? ⟨gf, k2 * 5 + 3, none⟩ = some (.int .u64 fs) ∧ w'.cell? ⟨gf, k2 * 5 + 4, none⟩ = some (.int .u64 ft))
                (first
                  | exact ⟨(hb5.cell hgfr).trans q0, (hb5.cell hgfr).trans q1, (hb5.cell hgfr).trans q2, (hb5.cell hgfr).trans q3, (hb5.cell hgfr).trans q4⟩
                  | exact ⟨q0, q1, q2, q3, q4⟩)
                (first
                  | (go_at_call 30; refine (HNU.out _).mono ?_; rintro e w4 ⟨rfl, rfl⟩)
                  | (go_at_call 31; refine (HVA.out _).mono ?_; rintro e w5 ⟨rfl, hb5'⟩; have hb5 : Below wr.heap.size wr w5 := Below.trans (b := wr.drew) ⟨rfl, rfl, rfl, Nat.le_refl _, fun _ _ => rfl⟩ hb5'; clear hb5'))
              all_goals
                go_wp2_with fail
                go_meet
                case rel => exact ⟨rfl, hb5⟩
            case rest =>
              obtain ⟨rfl, hbc⟩ := hcut
              have hgc : wc.drew.heap[gw]? = some (.cells (blk .u8 (octs (Pm.copied (Pm.lastL (Pm.crash s l).ws) ((Pm.fates s).take k2) (Pm.lastL s.ws)))) 5 (0, 0)) := (hbc.block gw hgwr).trans HG.out
              have hrc' := HRC.out.below hbc
              have hrc : Row .u8 wc.drew (some ⟨gn, 8 * fa, none⟩) 8 (Nums.lay z 8) := hrc'
              have hcopy := copy_over (W := wc.drew) (8 * fa) 8 (192 - 8 * fa) (192 - 8 * fa) hrc hgc (Nat.le_refl _) (by rw [octs_length, Pm.copied_length, lastL_len, HDs.out.len]; omega)
              rw [HSP.out, show ((8 : Nat) : Int) = 8 from rfl] at hcopy
              have HG' : Hid ((wc.drew.setRow gw (blk .u8 (octs (Pm.copied (Pm.lastL (Pm.crash s l).ws) ((Pm.fates s).take (k2 + 1)) (Pm.lastL s.ws))))).heap[gw]? = some (.cells (blk .u8 (octs (Pm.copied (Pm.lastL (Pm.crash s l).ws) ((Pm.fates s).take (k2 + 1)) (Pm.lastL s.ws)))) 5 (0, 0))) := setRow_heap _ _ _ _ _ _ hgc
              have HO' : Hid (Only (fun j => j = gw) w11 (wc.drew.setRow gw (blk .u8 (octs (Pm.copied (Pm.lastL (Pm.crash s l).ws) ((Pm.fates s).take (k2 + 1)) (Pm.lastL s.ws)))))) := by
                show Only _ _ _
                refine (HO.out.trans (Only.of_below hbc)).trans ((Only.drewN _ wc 1).trans ?_)
                exact ⟨rfl, rfl, rfl, by simp [World.setRow], fun j _ hn => setRow_other _ _ _ _ hn⟩
              have hszc : wr.heap.size ≤ wc.heap.size := hbc.size
              have hszd : ∀ cs, wr.heap.size ≤ (wc.drew.setRow gw cs).heap.size := fun cs => by simpa [World.setRow] using hszc
              generalize hL2 : octs (Pm.copied (Pm.lastL (Pm.crash s l).ws) ((Pm.fates s).take (k2 + 1)) (Pm.lastL s.ws)) = L2 at hcopy HG' HO'
              have HL2 := hide hL2
              clear hgc hrc hrc' hbc q0 q1 q2 q3 q4 hL2
              go_wp2_with fail
              go_region_held_law (fun w' => wr.heap.size ≤ w'.heap.size) (first | exact hszd _ | exact hszc) (fail)
              all_goals
                go_wp2_with fail
                go_roundw
                case rel => exact ⟨k2 + 1, by omega, by go_num, HO'.out, by rw [HL2.out]; exact HG'.out⟩
                case measure => simp [intOf]; omega
        · have hkn2 : ¬ (k2 : Int) < (nf : Int) := by omega
          obtain rfl : k2 = nf := by omega
          have hst : ∀ x ∈ (Pm.crash s l).ws, x = Pm.still x.lasts := Pm.crashW_still s.ws l
          have hws : (Pm.crash (Pm.crash s l) [2, 2, 2]).ws = (Pm.crash s l).ws := Pm.crashW_same hst _
          obtain ⟨NL, hNL⟩ : ∃ NL, octs (Pm.lastL (Pm.crash s l).ws) = NL := ⟨_, rfl⟩
          have hNl : NL.length = 192 := by rw [← hNL, octs_length, lastL_len, hlc]
          have xw : wr.heap[gw]? = some (.cells (blk .u8 NL) 5 (0, 0)) := by
            have e := HG.out
            rw [List.take_of_length_le (by rw [HNF.out]; exact Nat.le_refl _)] at e
            have e2 : Pm.copied (Pm.lastL (Pm.crash s l).ws) (Pm.fates s) (Pm.lastL s.ws) = Pm.lastL (Pm.crash s l).ws := Pm.copied_all s.ws l
            rw [e2, hNL] at e
            exact e
          have xn : wr.heap[gn]? = some (.cells (blk .u8 NL) 5 (0, 0)) := by rw [← hNL]; exact (HO.out.block gn hgnb hne).trans HW11.out
          obtain ⟨W, hW⟩ : ∃ W, W = wr.alloc (.cells #[.int .i64 2, .int .i64 2, .int .i64 2] 3) := ⟨_, rfl⟩
          have hbW : Below wr.heap.size wr W := by rw [hW]; exact (Below.refl _ _).alloc (Nat.le_refl _) _
          have hDr : PDev wr b (Pm.crash s l) F' := HD10.out.kept (by omega) (fun k hk hl => (HO.out.block k (by omega) (HF'.out k hk).2.2).trans (HB11.out.block k hl))
          have hDW : PDev W b (Pm.crash s l) F' := hDr.kept hbW.size (fun k hk hl => hbW.block k hl)
          have hAW : Arg .i64 W (some ⟨wr.heap.size, 0, none⟩) 3 3 [2, 2, 2] := by
            have hn : W.heap[wr.heap.size]? = some (.cells (blk .i64 [2, 2, 2]) 3 (0, 0)) := by rw [hW]; exact heap_alloc_new _ _
            exact ⟨Nat.le_refl _, by unfold maxLen; omega, row_of_block hn rfl, fun z hz => by simp at hz; subst hz; rfl, .inr ⟨_, _, rfl⟩⟩
          have HCR2 := hide (pcrash_any hDW (fun k hk => by have := (HF'.out k hk).1; have := hbW.size; omega) (by rw [hlc]; decide) hAW (by decide) (fun _ x hx q => by cases hx; have := (HF'.out _ q).1; simp only at this; omega))
          rw [hW] at HCR2
          have HWF : Hid (∀ w13, Only F' W w13 → w13.heap[gw]? = some (.cells (blk .u8 NL) 5 (0, 0)) ∧ w13.heap[gn]? = some (.cells (blk .u8 NL) 5 (0, 0)) ∧ Below w.heap.size w w13) := by
            show ∀ w13, _ → _
            intro w13 hO
            have lw := heap_lt xw
            have ln := heap_lt xn
            have q1 : ¬ F' gw := fun q => (HF'.out _ q).2.2 rfl
            have q2 : ¬ F' gn := fun q => by have := (HF'.out _ q).1; omega
            have hs := hbW.size
            have hB : Below w.heap.size w11 wr := HO.out.below (fun k hk => by have := HBr.out.size; omega) (by have := HBr.out.size; omega)
            refine ⟨?_, ?_, ?_⟩
            · rw [hO.block gw (by omega) q1, hbW.block gw lw]; exact xw
            · rw [hO.block gn (by omega) q2, hbW.block gn ln]; exact xn
            · have := HBr.out.size
              exact ((HB0.out.trans hB).trans (hbW.mono (by omega))).trans (hO.below (fun k hk => (HF'.out k hk).2.1) (by omega))
          rw [hW] at HWF
          clear xw xn hDr hDW hAW hbW hW
          go_wp2_with fail
          refine HCR2.out.mono ?_
          rintro e w13 ⟨rfl, F2, hD13, _, _, hO13⟩
          obtain ⟨yw, yn, hB13⟩ := HWF.out w13 hO13
          have HB13 := hide hB13
          have hkp : ∀ {X : World}, Below w13.heap.size w13 X → PDev X b (Pm.crash (Pm.crash s l) [2, 2, 2]) F2 := fun hb => hD13.kept hb.size (fun k _ hk => hb.block k hk)
          have hm2 : (Pm.crash (Pm.crash s l) [2, 2, 2]).ws.length ≤ 40000 := by rw [hws, hlc]; decide
          have HFA2 := hide (fun X (hb : Below w13.heap.size w13 X) => pfates_any (hkp hb) hm2)
          have HIM3 := hide (fun X (hb : Below w13.heap.size w13 X) => pimage_any (hkp hb) hm2)
          have HVW3 := hide (fun X (hb : Below w13.heap.size w13 X) => pview_any (hkp hb) hm2)
          have HUP3 := hide (fun X (hb : Below w13.heap.size w13 X) => pup_any (hkp hb))
          rw [show Pm.fates (Pm.crash (Pm.crash s l) [2, 2, 2]) = [] by unfold Pm.fates; rw [hws]; exact Pm.fates_still hst 0] at HFA2
          rw [hws, hlc, hNL, show 8 * 24 = 192 from rfl] at HIM3
          rw [hws, hlc, Pm.stored_still hst, hNL, show 8 * 24 = 192 from rfl] at HVW3
          rw [show ((Pm.crash (Pm.crash s l) [2, 2, 2]).left != 0) = true from rfl] at HUP3
          obtain ⟨T, hT⟩ : ∃ T, strOfNums NL = T := ⟨_, rfl⟩
          have HCV : Hid (∀ X (a' : Option Addr) (cp : Nat), Row .u8 X a' 192 NL → (convert 47 9 (.slice a' 192 cp)).run Try.prog X = .ok (.string T) X) := by
            show ∀ X a' cp, _ → _
            intro X a' cp hr
            rw [← hT]
            exact conv_bytes cp hr
          have hrw := row_of_block yw hNl
          have hrn := row_of_block yn hNl
          have HRN := hide hrn
          have HRW := hide hrw
          have hcvw := HCV.out w13.drew (some ⟨gw, 0, none⟩) 192 hrw
          have hcvn := HCV.out w13.drew (some ⟨gn, 0, none⟩) 192 hrn
          have BD : Hid (Below w13.heap.size w13 w13.drew) := ⟨rfl, rfl, rfl, Nat.le_refl _, fun _ _ => rfl⟩
          have hsz := Nat.le_refl w13.heap.size
          clear hD13 hO13 yw yn hB13 hkp hT hrw hrn hws hst hm2
          go_wp2_with fail
          go_region_held_law (fun w' => (convert 47 9 (.slice (some ⟨gw, 0, none⟩) 192 192)).run Try.prog w' = .ok (.string T) w' ∧ (convert 47 9 (.slice (some ⟨gn, 0, none⟩) 192 192)).run Try.prog w' = .ok (.string T) w')
            (first
              | exact ⟨HCV.out _ _ 192 (HRW.out.below hb16), HCV.out _ _ 192 (HRN.out.below hb16)⟩
              | exact ⟨HCV.out w15 _ 192 (HRW.out.below hb15), HCV.out w15 _ 192 (HRN.out.below hb15)⟩
              | exact ⟨HCV.out w14 _ 192 (HRW.out.below hb14), HCV.out w14 _ 192 (HRN.out.below hb14)⟩
              | exact ⟨hcvw, hcvn⟩)
            (first
              | (go_at_call 19; refine (HFA2.out _ BD.out).mono ?_; rintro e w14 ⟨ax, cx, rfl, hcx, hrx, hb14'⟩; have hb14 := BD.out.trans hb14'; clear hb14' hrx)
              | (go_at_call 21; refine (HIM3.out _ hb14).mono ?_; rintro e w15 ⟨ay, cy, rfl, hcy, hr15, hb15'⟩; have hb15 := hb14.trans (hb15'.mono hb14.size); have hcv15 := HCV.out w15 ay cy hr15; clear hb15')
              | (go_at_call 23; refine (HVW3.out _ hb15).mono ?_; rintro e w16 ⟨az, cz, rfl, hcz, hr16, hb16'⟩; have hb16 := hb15.trans (hb16'.mono hb15.size); have hcv16 := HCV.out w16 az cz hr16; clear hb16')
              | (go_at_call 17; refine (HUP3.out _ hb16).mono ?_; rintro e w4 ⟨rfl, rfl⟩))
          all_goals
            have HB16 := hide (HB13.out.trans (hb16.mono HB13.out.size))
            go_wp2_with fail
            go_ret
            exact ⟨rfl, HB16.out⟩

theorem crash_any {w : World} {p : Option Addr} {pl pc : Nat} {l : List Int} (hP : Arg .i64 w p pl pc l) {a : Option Addr} {len cap : Nat} {xs : List Ac} (hA : Acts w a len cap xs) :
    Calls Try.prog 6 #[.slice a len cap, .slice p pl pc] w fun e w' => e = .returned (.bool true) ∧ Below w.heap.size w w' := by
  cases h : smallB xs 40 with
  | false => exact crash_great hP hA (.inl h)
  | true =>
    by_cases h2 : pl ≤ 60
    · exact crash_yes hP h2 hA h
    · exact crash_great hP hA (.inr ⟨h, by omega⟩)
end Go.Proofs.Ytjkiehfjbldkkaa
