/-
  The document's device (layer 5): Crash.
-/
import Derived.Test.YtnaenokegomoeaaRefDevG
import Derived.Test.YtnaenokegomoeaaPmPlain
namespace Go.Proofs.Ytnaenokegomoeaa
set_option linter.unusedVariables false
set_option linter.unusedSimpArgs false
open Go.RowKit

theorem fateCells_at (fs : List Pm.F) (i : Nat) (f : Pm.F) (h : fs[i]? = some f) (j : Nat) (hj : j < 5) : (fateCells fs)[i * 5 + j]? = (fateV f)[j]? := by
  induction fs generalizing i with
  | nil => simp at h
  | cons y r ih =>
    show (fateV y ++ fateCells r)[i * 5 + j]? = _
    cases i with
    | zero =>
      simp at h
      subst h
      rw [List.getElem?_append_left (by simp [fateV]; omega), Nat.zero_mul, Nat.zero_add]
    | succ i =>
      rw [List.getElem?_append_right (by simp [fateV]; omega)]
      have e : (i + 1) * 5 + j - (fateV y).length = i * 5 + j := by simp [fateV]; omega
      rw [e]
      exact ih i (by simpa using h)

/-- a fate of a list in memory. -/
theorem fates_row {w : World} {B : Nat} {T : TypeId} {v : Value} {fs : List Pm.F} (h : w.ownsRow B T 5 v fs.length (fateCells fs)) (hp : 0 < fs.length) :
    ∃ g cap, v = .slice (some ⟨g, 0, none⟩) fs.length cap ∧ fs.length ≤ cap ∧ B ≤ g ∧ g < w.heap.size ∧ ∀ i f, fs[i]? = some f → w.cell? ⟨g, i * 5, none⟩ = some (.int .i64 f.at') ∧ w.cell? ⟨g, i * 5 + 1, none⟩ = some (.int .u64 f.lasts) ∧ w.cell? ⟨g, i * 5 + 2, none⟩ = some (.bool f.flushed) ∧ w.cell? ⟨g, i * 5 + 3, none⟩ = some (.int .u64 f.sent) ∧ w.cell? ⟨g, i * 5 + 4, none⟩ = some (.int .u64 f.stored) := by
  rcases h.2 with ⟨_, h0⟩ | ⟨g, cap, cur, hv, hB, hg, hle, _, hcs, htake⟩
  · omega
  · refine ⟨g, cap, hv, hle, hB, (Array.getElem?_eq_some_iff.1 hg).1, fun i f hi => ?_⟩
    have hil := (List.getElem?_eq_some_iff.1 hi).1
    have key : ∀ j, j < 5 → cur[i * 5 + j]? = (fateV f)[j]? := fun j hj => by
      have h2 : (cur.toList.take (fs.length * 5))[i * 5 + j]? = (fateCells fs)[i * 5 + j]? := by rw [htake]
      rw [List.getElem?_take, if_pos (by omega), fateCells_at fs i f hi j hj] at h2
      simpa using h2
    have q0 := key 0 (by omega)
    have q1 := key 1 (by omega)
    have q2 := key 2 (by omega)
    have q3 := key 3 (by omega)
    have q4 := key 4 (by omega)
    rw [Nat.add_zero] at q0
    simp [World.cell?, hg, q0, q1, q2, q3, q4, fateV]

theorem settle_turned (ws : List Pm.W) : turned Pm.settle 0 ws.length ws = ws.map Pm.settle := by
  apply List.ext_getElem?
  intro j
  rw [turned_at, List.getElem?_map]
  by_cases hj : j < ws.length
  · rw [List.getElem?_eq_getElem hj]
    simp [hj]
  · rw [List.getElem?_eq_none (by omega)]
    rfl
theorem settle_step {ws : List Pm.W} {j : Nat} (h : j < ws.length) : Pm.put (turned Pm.settle 0 j ws) j (ws.getD j (Pm.still 0)).lasts = turned Pm.settle 0 (j + 1) ws := by
  have h1 := turned_step Pm.settle 0 j ws (by omega)
  have h2 := turned_here Pm.settle 0 j ws (by omega)
  rw [Nat.zero_add] at h1 h2
  rw [h1]
  unfold Pm.put
  rw [h2]
  rfl

/-- behind a crash: no plan, no count, the power on. -/
theorem RDev.reset {w : World} {b : Nat} {s : Pm.D} {F : Nat → Prop} {g0 g1 g2 g3 : Nat} {pa : Option Addr} {pc : Nat} (h : RDev w b s F g0 g1 g2 g3 pa pc) :
    RDev (((w.setCell ⟨b, 6, none⟩ (.int .i64 (-1))).setCell ⟨b, 4, none⟩ (.slice none 0 0)).setCell ⟨b, 5, none⟩ (.int .i64 0)) b ⟨s.ws, [], 0, -1, s.steps⟩ F g0 g1 g2 g3 none 0 := by
  obtain ⟨n1, n2, n3, n4, n5, n6, n7, n8, n9, n10⟩ := h.ne
  have e1 := heap_set h.dev 6 (.int .i64 (-1))
  have e2 := heap_set e1 4 (.slice none 0 0)
  have e3 := heap_set e2 5 (.int .i64 0)
  refine ⟨?_, ?_, ?_, ?_, ?_, ⟨rfl, .inl rfl⟩, .inl rfl, h.mine, h.ne, ⟨h.ok.ws, (by intro p hp; cases hp), ⟨by simp, by simp⟩, Nat.zero_le _⟩⟩
  · rw [e3]
    rfl
  · rw [heap_set_other (Ne.symm n1), heap_set_other (Ne.symm n1), heap_set_other (Ne.symm n1)]; exact h.c0
  · rw [heap_set_other (Ne.symm n2), heap_set_other (Ne.symm n2), heap_set_other (Ne.symm n2)]; exact h.c1
  · rw [heap_set_other (Ne.symm n3), heap_set_other (Ne.symm n3), heap_set_other (Ne.symm n3)]; exact h.c2
  · rw [heap_set_other (Ne.symm n4), heap_set_other (Ne.symm n4), heap_set_other (Ne.symm n4)]; exact h.c3

set_option maxRecDepth 100000 in
set_option maxHeartbeats 4000000 in
/-- the document's Crash. -/
theorem rcrash_any {w : World} {b : Nat} {s : Pm.D} {F : Nat → Prop} {g0 g1 g2 g3 : Nat} {pa : Option Addr} {pc : Nat} (h : RDev w b s F g0 g1 g2 g3 pa pc) (hF : ∀ k, F k → k < w.heap.size) (hm : s.ws.length ≤ 40000)
    {a : Option Addr} {len cap : Nat} {l : List Int} (hA : Arg .i64 w a len cap l) (hAF : 0 < len → ∀ x, a = some x → ¬ F x.block) (hl : len ≤ 40000) :
    Calls Try.prog 60 #[.pointer (some ⟨b, 0, none⟩), .slice a len cap] w fun e w' => e = .returned (.tuple #[]) ∧ RDev w' b (Pm.crash s l) F g0 g1 g2 g3 none 0 ∧ Only F w w' := by
  have HFS := hide (rfates_any h hm)
  have HD := hide h
  have HA := hide hA
  have HFL := hide (fates_length s.ws 0)
  have hlen := hA.2.2.1.1
  clear h hA
  go_enter Try.func60, Try.ntmps60
  go_wp2_with fail
  refine HFS.out.mono ?_
  rintro e w1 ⟨v, rfl, hown, hb1⟩
  have HOW := hide hown
  have HB1 := hide hb1
  have HD1 := hide (HD.out.kept hb1.size (fun k _ hk => hb1.block k hk))
  clear hown hb1
  obtain ⟨cp, hcp⟩ : ∃ cp x, v = .slice x (Pm.fates s).length cp := by
    rcases HOW.out.2 with ⟨rfl, h0⟩ | ⟨g, cap, cur, hv, _⟩
    · exact ⟨0, none, by rw [h0]⟩
    · exact ⟨cap, _, hv⟩
  obtain ⟨xa, rfl⟩ := hcp
  go_wp2_with fail
  go_loopw [5] (fun i wr => ∃ k : Nat, k ≤ (Pm.fates s).length ∧ i = .int .i64 k ∧ RDev wr b { s with ws := Pm.lastN k s.ws l } F g0 g1 g2 g3 pa pc ∧ Only F w1 wr) (fun i _ => (Pm.fates s).length - (intOf i).toNat)
  case atStart => exact ⟨0, Nat.zero_le _, rfl, by unfold Pm.lastN; exact HD1.out, Only.refl _ _⟩
  case round =>
    obtain ⟨k, hk, rfl, hd, ho⟩ := hrel
    have HDn := hide hd
    have HO := hide ho
    have HFLb : Hid ((Pm.fates s).length ≤ 40000) := Nat.le_trans HFL.out hm
    have hflb := HFLb.out
    by_cases hlt : k < (Pm.fates s).length
    · obtain ⟨f, hf⟩ : ∃ f, (Pm.fates s)[k]? = some f := ⟨_, List.getElem?_eq_getElem hlt⟩
      obtain ⟨gg, cpp, hxa, hcp, hgB, hgw, hcells⟩ := fates_row HOW.out (by omega)
      cases hxa
      have hFg : ¬ F gg := fun q => by have := hF gg q; omega
      obtain ⟨q0, q1, q2, q3, q4⟩ := hcells k f hf
      have r0 := (HO.out.cell (p := ⟨gg, k * 5, none⟩) hgw hFg).trans q0
      have r1 := (HO.out.cell (p := ⟨gg, k * 5 + 1, none⟩) hgw hFg).trans q1
      have r2 := (HO.out.cell (p := ⟨gg, k * 5 + 2, none⟩) hgw hFg).trans q2
      have r3 := (HO.out.cell (p := ⟨gg, k * 5 + 3, none⟩) hgw hFg).trans q3
      have r4 := (HO.out.cell (p := ⟨gg, k * 5 + 4, none⟩) hgw hFg).trans q4
      clear q0 q1 q2 q3 q4 hcells hd ho
      have hkn : (k : Int) < ((Pm.fates s).length : Int) := by omega
      obtain ⟨s1, s2, s3⟩ := Pm.lastN_step (k := 0) l hf
      rw [Nat.sub_zero] at s2 s3
      have hvb := Pm.crashW_ok HD.out.ok.ws l _ (List.mem_of_getElem? (Pm.fates_at (k := 0) l hf).2.2)
      have hv0 := hvb.l0
      have hv1 := hvb.l1
      simp only [Pm.still] at hv0 hv1
      have hyw : (Lit.int .i64 (l.getD k 0)).wf = true := by
        by_cases hkl : k < l.length
        · refine HA.out.2.2.2.1 _ ?_
          rw [List.getD_eq_getElem?_getD, List.getElem?_eq_getElem hkl]
          exact List.getElem_mem hkl
        · rw [List.getD_eq_getElem?_getD, List.getElem?_eq_none (by omega)]
          rfl
      obtain ⟨y, hy⟩ : ∃ y, l.getD k 0 = y := ⟨_, rfl⟩
      rw [hy] at s3 hv0 hv1 hyw
      have HVA := hide (fun W => rvalue_any f y W hyw)
      obtain ⟨fa, fl, ff, fs, ft⟩ := f
      simp only at r0 r1 r2 r3 r4 s1 s2 s3
      have HLA : Hid (∀ W, Below wr.heap.size wr W → Calls Try.prog 73 #[.pointer (some ⟨b, 0, none⟩), .int .i64 fa, .int .u64 (Pm.F.value ⟨fa, fl, ff, fs, ft⟩ y)] W fun e w' => e = .returned (.tuple #[]) ∧ RDev w' b { s with ws := Pm.lastN (k + 1) s.ws l } F g0 g1 g2 g3 pa pc ∧ Only F wr w') := by
        show ∀ W, _ → _
        intro W hW
        refine (rlast_any (HDn.out.kept hW.size (fun k _ hk => hW.block k hk)) fa _ (by simp only [Pm.lastN_length]; exact s2) hv0 hv1 (by simp only [Pm.lastN_length]; exact hm)).mono ?_
        rintro e w' ⟨he, hd, ho⟩
        refine ⟨he, ?_, (Only.of_below hW).trans ho⟩
        rw [s3]
        exact hd
      generalize hz : Pm.F.value ⟨fa, fl, ff, fs, ft⟩ y = z at *
      clear hz s1 s2 s3 hv0 hv1 hvb hyw hf
      have hgr : gg < wr.heap.size := Nat.lt_of_lt_of_le hgw HO.out.size
      generalize hn : (Pm.fates s).length = n at hlt hkn hk hcp hflb ⊢
      have HN := hide hn
      clear hn
      have hk0 : (0 : Int) ≤ (k : Int) := by omega
      by_cases hkl : k < len
      · have hkl' : (k : Int) < (len : Int) := by omega
        obtain ⟨_, h0 | ⟨ab, off, rfl, hab, hac⟩⟩ := HA.out.2.2.1
        · omega
        have ra := (HO.out.cell (p := ⟨ab, off + k, none⟩) (Nat.lt_of_lt_of_le hab HB1.out.size) (show ¬ F ab from hAF (by omega) ⟨ab, off, none⟩ rfl)).trans ((HB1.out.cell (p := ⟨ab, off + k, none⟩) hab).trans (hac k hkl))
        rw [hy] at ra
        clear hac hy
        go_wp2_with fail
        clear ra
        have R0 := hide r0
        have R1 := hide r1
        have R2 := hide r2
        have R3 := hide r3
        have R4 := hide r4
        go_region_held3 (fun w' => w'.cell? ⟨gg, k * 5, none⟩ = some (.int .i64 fa) ∧ w'.cell? ⟨gg, k * 5 + 1, none⟩ = some (.int .u64 fl) ∧ w'.cell? ⟨gg, k * 5 + 2, none⟩ = some (.bool ff) ∧ w'.cell? ⟨gg, k * 5 + 3, none⟩ = some (.int .u64 fs) ∧ w'.cell? ⟨gg, k * 5 + 4, none⟩ = some (.int .u64 ft))
          (first
            | go_keep
            | (go_split_ands
               refine ⟨?_, ?_, ?_, ?_, ?_⟩
               · (rw [hb5.cell (by simpa using hgr)]; assumption)
               · (rw [hb5.cell (by simpa using hgr)]; assumption)
               · (rw [hb5.cell (by simpa using hgr)]; assumption)
               · (rw [hb5.cell (by simpa using hgr)]; assumption)
               · (rw [hb5.cell (by simpa using hgr)]; assumption))
            | exact ⟨(ho6.cell hgr hFg).trans R0.out, (ho6.cell hgr hFg).trans R1.out, (ho6.cell hgr hFg).trans R2.out, (ho6.cell hgr hFg).trans R3.out, (ho6.cell hgr hFg).trans R4.out⟩)
          (first
            | (go_at_call 29; refine (HVA.out _).mono ?_; rintro e w5 ⟨rfl, hb5⟩)
            | (go_at_call 73; refine (HLA.out _ (Below.trans (b := wr.drew) ⟨rfl, rfl, rfl, Nat.le_refl _, fun _ _ => rfl⟩ hb5)).mono ?_; rintro e w6 ⟨rfl, hd6, ho6⟩))
        have HD6 := hide hd6
        have HO6 := hide (HO.out.trans ho6)
        clear hd6 ho6 hb5
        go_wp2_with fail
        go_roundw
        case rel => exact ⟨k + 1, by have := HN.out; omega, by go_num, HD6.out, HO6.out⟩
        case measure => have := HN.out; simp [intOf]; omega
      · have hkl' : ¬ (k : Int) < (len : Int) := by omega
        obtain rfl : y = 0 := by
          rw [← hy, List.getD_eq_getElem?_getD, List.getElem?_eq_none (by omega)]
          rfl
        clear hy
        go_wp2_with fail
        have R0 := hide r0
        have R1 := hide r1
        have R2 := hide r2
        have R3 := hide r3
        have R4 := hide r4
        go_region_held3 (fun w' => w'.cell? ⟨gg, k * 5, none⟩ = some (.int .i64 fa) ∧ w'.cell? ⟨gg, k * 5 + 1, none⟩ = some (.int .u64 fl) ∧ w'.cell? ⟨gg, k * 5 + 2, none⟩ = some (.bool ff) ∧ w'.cell? ⟨gg, k * 5 + 3, none⟩ = some (.int .u64 fs) ∧ w'.cell? ⟨gg, k * 5 + 4, none⟩ = some (.int .u64 ft))
          (first
            | go_keep
            | (go_split_ands
               refine ⟨?_, ?_, ?_, ?_, ?_⟩
               · (rw [hb5.cell (by simpa using hgr)]; assumption)
               · (rw [hb5.cell (by simpa using hgr)]; assumption)
               · (rw [hb5.cell (by simpa using hgr)]; assumption)
               · (rw [hb5.cell (by simpa using hgr)]; assumption)
               · (rw [hb5.cell (by simpa using hgr)]; assumption))
            | exact ⟨(ho6.cell hgr hFg).trans R0.out, (ho6.cell hgr hFg).trans R1.out, (ho6.cell hgr hFg).trans R2.out, (ho6.cell hgr hFg).trans R3.out, (ho6.cell hgr hFg).trans R4.out⟩)
          (first
            | (go_at_call 29; refine (HVA.out _).mono ?_; rintro e w5 ⟨rfl, hb5⟩)
            | (go_at_call 73; refine (HLA.out _ (Below.trans (b := wr.drew) ⟨rfl, rfl, rfl, Nat.le_refl _, fun _ _ => rfl⟩ hb5)).mono ?_; rintro e w6 ⟨rfl, hd6, ho6⟩))
        have HD6 := hide hd6
        have HO6 := hide (HO.out.trans ho6)
        clear hd6 ho6 hb5
        go_wp2_with fail
        go_roundw
        case rel => exact ⟨k + 1, by have := HN.out; omega, by go_num, HD6.out, HO6.out⟩
        case measure => have := HN.out; simp [intOf]; omega
    · obtain rfl : k = (Pm.fates s).length := by omega
      have hkn : ¬ ((Pm.fates s).length : Int) < ((Pm.fates s).length : Int) := by omega
      obtain ⟨X, hX⟩ : ∃ X, Pm.lastN (Pm.fates s).length s.ws l = X := ⟨_, rfl⟩
      rw [hX] at hd HDn
      have HX : Hid (X.map Pm.settle = Pm.crashW s.ws l) := by
        show _ = _
        rw [← hX]
        exact Pm.lastN_all HD.out.ok.ws 0 l
      have HXL : Hid (X.length = s.ws.length) := by
        show _ = _
        rw [← hX, Pm.lastN_length]
      have HXO : Hid (∀ x ∈ X, x.Ok) := by
        show ∀ x ∈ X, _
        rw [← hX]
        exact Pm.lastN_ok HD.out.ok.ws _ _
      clear hd ho hX
      obtain ⟨wq, hwq⟩ : ∃ x, x = wr := ⟨_, rfl⟩
      subst hwq
      generalize hn : (Pm.fates s).length = n at hlt hkn hk hflb ⊢
      clear hn
      go_wp2_with fail
      go_loopw [7] (fun i wr => ∃ j : Nat, j ≤ X.length ∧ i = .int .i64 j ∧ RDev wr b { s with ws := turned Pm.settle 0 j X } F g0 g1 g2 g3 pa pc ∧ Only F w1 wr) (fun i _ => X.length - (intOf i).toNat)
      case atStart => exact ⟨0, Nat.zero_le _, rfl, by rw [turned_none]; exact HDn.out, HO.out⟩
      case round =>
        obtain ⟨j, hj, rfl, hd, ho⟩ := hrel
        have HDm := hide hd
        have HOm := hide ho
        have HM := hide HD.out.mine
        obtain ⟨f0, f1, f2, f3, f4, f5, f6, f7⟩ := hd.fields
        simp only [turned_length] at f0 f1 f2 f3
        have hxl : X.length ≤ 40000 := by rw [HXL.out]; exact hm
        by_cases hjl : j < X.length
        · have hjn : (j : Int) < (X.length : Int) := by omega
          obtain ⟨k0, z0⟩ := cell_blk hd.c0 (i := j) (by rw [lastL_len, turned_length]; exact hjl)
          obtain ⟨k1, z1⟩ := cell_blk hd.c1 (i := j) (by rw [storedL_len, turned_length]; exact hjl)
          simp only at k0 k1
          have h2 := turned_here Pm.settle 0 j X (by omega)
          rw [Nat.zero_add] at h2
          have e0 : (Pm.lastL (turned Pm.settle 0 j X)).getD j 0 = (X.getD j (Pm.still 0)).lasts := by
            rw [← h2]
            simp [Pm.lastL, turned_length, hjl]
          rw [e0] at k0
          have hok := Pm.getD_ok HXO.out j
          have HN := hide (hd.put j (X.getD j (Pm.still 0)).lasts (by simp only [turned_length]; exact hjl) hok.l0 hok.l1)
          simp only [settle_step hjl] at HN
          clear hd ho h2 e0 hok f2 f3 f4 f5 f6 f7 hkn hk hlt
          generalize (Pm.storedL (turned Pm.settle 0 j X)).getD j 0 = y1 at k1
          generalize (X.getD j (Pm.still 0)).lasts = y0 at k0 HN
          generalize hq : X.length = q at f0 f1 hjl hjn hj hxl
          have HQ := hide hq
          clear hq
          obtain ⟨_, nb1, _, _, n01, _⟩ := HD.out.ne
          go_wp2_with fail
          go_region_with (fail)
          all_goals
            go_wp2_with fail
            go_roundw
            case rel => exact ⟨j + 1, by have := HQ.out; omega, by go_num, HN.out.kept (Nat.le_refl _) (fun _ _ _ => rfl), (HOm.out.setCell HM.out.2.2.1 _).trans ⟨rfl, rfl, rfl, Nat.le_refl _, fun _ _ _ => rfl⟩⟩
            case measure => have := HQ.out; simp [intOf]; omega
        · obtain rfl : j = X.length := by omega
          have hjn : ¬ (X.length : Int) < (X.length : Int) := by omega
          rw [settle_turned, HX.out] at hd
          have HR := hide hd.reset
          have z4 := hd.free 4
          have z5 := hd.free 5
          have z6 := hd.free 6
          clear hd ho f1 f2 f3 hkn hk hlt
          generalize hq : X.length = q at f0 hjl hjn hxl
          clear hq
          go_wp2_with fail
          go_end0
          exact ⟨rfl, HR.out, (Only.of_below HB1.out).trans (((HOm.out.setCell HM.out.1 _).setCell HM.out.1 _).setCell HM.out.1 _)⟩
end Go.Proofs.Ytnaenokegomoeaa
