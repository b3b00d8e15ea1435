/-
  fate.Choose, fate.May.
-/
import Derived.Test.YtnaenokegomoeaaFtC
namespace Go.Proofs.Ytnaenokegomoeaa
set_option linter.unusedVariables false
set_option linter.unusedSimpArgs false
open Go.RowKit

theorem Only.grownNew {F : Nat → Prop} {w0 w w' : World} {row : Option Nat} (h : Only F w0 w) (hg : w.grownBy w' row) (hr : ∀ k, row = some k → w0.heap.size ≤ k) : Only F w0 w' :=
  ⟨hg.os.trans h.os, hg.tape.trans h.tape, hg.output.trans h.output, Nat.le_trans h.size hg.size, fun k hk hn => (hg.block k (Nat.lt_of_lt_of_le hk h.size) (fun e => by have := hr k e.symm; omega)).trans (h.block k hk hn)⟩

theorem own_set {w : World} {B : Nat} {E : TypeId} {v : Value} {n : Nat} {xs : List Value} {g i : Nat} {u : Value} (h : w.ownsRow B E 1 v n xs) (hg : g < B) : (w.setCell ⟨g, i, none⟩ u).ownsRow B E 1 v n xs := by
  obtain ⟨hl, h⟩ := h
  refine ⟨hl, ?_⟩
  rcases h with h | ⟨g', cap, cur, hv, hB, hg', hrest⟩
  · exact .inl h
  · exact .inr ⟨g', cap, cur, hv, hB, by rw [heap_set_other (by omega)]; exact hg', hrest⟩

/-- may an image be left? -/
def mayB (s : Pm.D) (zs : List Int) : Bool := decide (zs.length = 8 * s.ws.length ∧ wordsTo zs s.ws.length ∈ Pm.images s.ws)
/-- by which choices. -/
def choicesB (s : Pm.D) (zs : List Int) : List Int := Pm.choices s.ws (wordsTo zs s.ws.length)
theorem mayB_true {s : Pm.D} {zs : List Int} (h : mayB s zs = true) : zs.length = 8 * s.ws.length ∧ wordsTo zs s.ws.length ∈ Pm.images s.ws := of_decide_eq_true h

/-- the choices of the first fates. -/
def chosen (s : Pm.D) (L : List Int) (k : Nat) : List Int := ((Pm.fates s).take k).map fun f => (f.least (L.getD f.at' 0) : Int)
theorem chosen_step {s : Pm.D} {L : List Int} {k : Nat} {f : Pm.F} (h : (Pm.fates s)[k]? = some f) : chosen s L (k + 1) = chosen s L k ++ [(f.least (L.getD f.at' 0) : Int)] := by
  unfold chosen
  rw [List.take_add_one, h, List.map_append]
  rfl
theorem chosen_length {s : Pm.D} {L : List Int} {k : Nat} (h : k ≤ (Pm.fates s).length) : (chosen s L k).length = k := by
  simp [chosen, h]

theorem info_int64 : (Try.prog.info? 3).map (fun i => (i.zero, i.size, i.bytes)) = some (some (.int .i64 0), 1, 8) := by kernel_rfl

set_option maxRecDepth 100000 in
set_option maxHeartbeats 1000000 in
theorem fchoose_short {w : World} {b : Nat} {s : Pm.D} {F : Nat → Prop} (h : PDev w b s F) (hm : s.ws.length ≤ 40000) (h8 : s.ws.length % 8 = 0) (a : Option Addr) (len cap : Nat) (hl : len ≤ 400000) (hne : ¬ len = 8 * s.ws.length) :
    Calls Try.prog 15 #[.pointer (some ⟨b, 0, none⟩), .slice a len cap] w fun e w' => e = .returned (.tuple #[.slice none 0 0, .bool false]) ∧ Below w.heap.size w w' := by
  have HL := hide (plines_any h hm)
  clear h
  obtain ⟨n8, hn8⟩ : ∃ n8, s.ws.length / 8 = n8 := ⟨_, rfl⟩
  rw [hn8] at HL
  have hnn : ¬ (len : Int) = (n8 : Int) * 64 := by omega
  have hb : n8 ≤ 5000 := by omega
  clear hn8 hne
  go_enter Try.func15, Try.ntmps15
  go_wp2_with (go_at_call 35; refine HL.out.mono ?_; rintro e w1 ⟨rfl, hw⟩; obtain rfl := hw.symm)
  go_ret2
  exact ⟨rfl, Below.refl _ _⟩

set_option maxRecDepth 100000 in
set_option maxHeartbeats 8000000 in
theorem fchoose_long {w : World} {b : Nat} {s : Pm.D} {F : Nat → Prop} (h : PDev w b s F) (hm : s.ws.length ≤ 40000) (h8 : s.ws.length % 8 = 0) {a : Option Addr} {len cap : Nat} {zs : List Int} (hA : Arg .u8 w a len cap zs) (hlen : len = 8 * s.ws.length) :
    Calls Try.prog 15 #[.pointer (some ⟨b, 0, none⟩), .slice a len cap] w fun e w' => ∃ v, e = .returned (.tuple #[v, .bool (mayB s zs)]) ∧ (mayB s zs = false → v = .slice none 0 0) ∧ (mayB s zs = true → w'.ownsRow w.heap.size 3 1 v (choicesB s zs).length ((choicesB s zs).map (Value.int .i64))) ∧ Below w.heap.size w w' := by
  obtain ⟨i0, hi, hz0, hz1, hz2⟩ := info_parts info_int64
  have HL := hide (plines_any h hm)
  have HW := hide (words_any a len cap zs w (by omega) hA.1 hA.2.2.1 hA.bytes)
  have hzl : zs.length = 8 * s.ws.length := by rw [← hlen]; exact hA.2.2.1.1
  have HZL := hide hzl
  obtain ⟨N, hN⟩ : ∃ N, s.ws.length = N := ⟨_, rfl⟩
  have HN := hide hN
  rw [hN] at hm h8 hlen
  have hl8 : len / 8 = N := by omega
  rw [hl8] at HW
  obtain ⟨L, hL⟩ : ∃ L, wordsTo zs N = L := ⟨_, rfl⟩
  rw [hL] at HW
  have HLL : Hid (L.length = N) := by rw [← hL]; exact length_wordsTo zs N
  have hbd : ∀ v ∈ L, (Lit.int .u64 v).wf = true := by rw [← hL]; exact wf_words zs hA.bytes N
  have HBD := hide hbd
  have HMAY : Hid (mayB s zs = decide (L ∈ Pm.images s.ws)) := by
    show _ = _
    unfold mayB
    rw [HN.out, hL]
    refine decide_eq_decide.2 ⟨fun h => h.2, fun h => ⟨by rw [HZL.out, HN.out], h⟩⟩
  have HCH : Hid (L ∈ Pm.images s.ws → choicesB s zs = chosen s L (Pm.fates s).length) := fun hm => by
    unfold choicesB chosen
    rw [HN.out, hL, List.take_length]
    exact Pm.choices_fates hm
  have HIFF := hide (Pm.may_iff (ws := s.ws) (L := L) (by rw [HLL.out, HN.out]))
  have HP := hide h
  rw [HMAY.out]
  obtain ⟨n8, hn8⟩ : ∃ n8, N / 8 = n8 := ⟨_, rfl⟩
  rw [hN, hn8] at HL
  have hnn : (len : Int) = (n8 : Int) * 64 := by omega
  have hb8 : n8 ≤ 5000 := by omega
  have HLEN := hide hlen
  clear hzl hL hbd hN h hA hn8 hl8 h8 hlen
  generalize hM : choicesB s zs = CH at *
  clear hM HMAY HZL
  go_enter Try.func15, Try.ntmps15
  go_wp2_with (go_at_call 35; refine HL.out.mono ?_; rintro e w1 ⟨rfl, hw⟩; obtain rfl := hw.symm)
  refine HW.out.mono ?_
  rintro e w1 ⟨rfl, hw1⟩
  obtain ⟨gw, hgw⟩ : ∃ gw, w.heap.size = gw := ⟨_, rfl⟩
  have hk1 : w1.heap[gw]? = some (.cells (blk .u64 L) 22 (0, 0)) := by rw [hw1, ← hgw]; exact heap_alloc_new w _
  have hb1 : Below w.heap.size w w1 := by rw [hw1]; exact (Below.refl _ _).alloc (Nat.le_refl _) _
  rw [hgw]
  have HK1 := hide hk1
  have HB1 := hide hb1
  have HGW := hide hgw
  have HP1 := hide (HP.out.kept hb1.size (fun k _ hk => hb1.block k hk))
  clear hw1 hk1 hb1 hgw HW HL hnn
  go_wp2_with fail
  refine (pimage_any HP1.out (by rw [HN.out]; exact hm)).mono ?_
  rintro e w2 ⟨ia, icap, rfl, hic, hir, hb2⟩
  rw [HN.out] at hic hir ⊢
  have HB2 := hide (HB1.out.trans (hb2.mono HB1.out.size))
  have HK2 := hide ((hb2.block gw (heap_lt HK1.out)).trans HK1.out)
  have HP2 := hide (HP1.out.kept hb2.size (fun k _ hk => hb2.block k hk))
  have HWS := hide (words_any ia (8 * N) icap _ w2 (by omega) hic hir (octs_bytes _))
  have e8 : 8 * N / 8 = N := by omega
  have ew : wordsTo (octs (Pm.lastL s.ws)) N = Pm.lastL s.ws := by
    have := words_oct (Pm.lastL s.ws) (wf_last HP.out.ok)
    rw [octTo_all, lastL_len, HN.out] at this
    exact this
  rw [e8, ew] at HWS
  clear hb2 hic hir e8 ew HK1 HB1 HP1
  go_wp2_with fail
  refine HWS.out.mono ?_
  rintro e w3 ⟨rfl, hw3⟩
  obtain ⟨gl, hgl⟩ : ∃ gl, w2.heap.size = gl := ⟨_, rfl⟩
  have hk3 : w3.heap[gl]? = some (.cells (blk .u64 (Pm.lastL s.ws)) 22 (0, 0)) := by rw [hw3, ← hgl]; exact heap_alloc_new w2 _
  have hb3 : Below w2.heap.size w2 w3 := by rw [hw3]; exact (Below.refl _ _).alloc (Nat.le_refl _) _
  have hlt := heap_lt HK2.out
  rw [hgl] at hlt ⊢
  have hne : gl ≠ gw := by omega
  have HK3 := hide hk3
  have HB3 := hide (HB2.out.trans (hb3.mono HB2.out.size))
  have HW3 := hide ((hb3.block gw (heap_lt HK2.out)).trans HK2.out)
  have HP3 := hide (HP2.out.kept hb3.size (fun k _ hk => hb3.block k hk))
  have HGL : Hid (w.heap.size ≤ gl) := by
    show _ ≤ _
    rw [← hgl]
    exact HB2.out.size
  clear hw3 hk3 hb3 hgl HWS HK2 HB2 HP2 hlt
  go_wp2_with fail
  refine (pfates_own HP3.out (by rw [HN.out]; exact hm)).mono ?_
  rintro e w4 ⟨v, rfl, hown, hb4⟩
  have HOW := hide hown
  have HB4 := hide (HB3.out.trans (hb4.mono HB3.out.size))
  have HK4 := hide ((hb4.block gl (heap_lt HK3.out)).trans HK3.out)
  have HW4 := hide ((hb4.block gw (heap_lt HW3.out)).trans HW3.out)
  have hl3 := heap_lt HK3.out
  have hl3' := heap_lt HW3.out
  clear hown hb4 HK3 HB3 HW3 HP3 HP
  obtain ⟨xa, cp, rfl⟩ := own_len HOW.out
  have HFL := hide (fates_length s.ws 0)
  have HFLb : Hid ((Pm.fates s).length ≤ 40000) := Nat.le_trans HFL.out (by rw [HN.out]; exact hm)
  have hflb := HFLb.out
  generalize hnf : (Pm.fates s).length = nf at hflb ⊢
  have HNF := hide hnf
  clear hnf HFLb HFL
  go_wp2_with fail
  go_loopw [8, 31] (fun v i wr => ∃ k : Nat, k ≤ nf ∧ i = .int .i64 k ∧ wr.ownsRow w4.heap.size 3 1 v k ((chosen s L k).map (Value.int .i64)) ∧ (∀ f ∈ (Pm.fates s).take k, f.least (L.getD f.at' 0) < 3) ∧ wr.heap[gl]? = some (.cells (blk .u64 (Pm.copied L ((Pm.fates s).take k) (Pm.lastL s.ws))) 22 (0, 0)) ∧ Only (fun j => j = gl) w4 wr) (fun _ i _ => nf - (intOf i).toNat)
  case atStart => exact ⟨0, Nat.zero_le _, rfl, ⟨rfl, .inl ⟨rfl, rfl⟩⟩, fun f hf => by simp at hf, HK4.out, Only.refl _ _⟩
  case round =>
    obtain ⟨k, hk, rfl, hown, hall, hkl, ho⟩ := hrel
    have HO := hide hown
    have HALL := hide hall
    have HKL := hide hkl
    have HON := hide ho
    clear hown hall hkl ho
    have hsz4 := HON.out.size
    have hgl4 := heap_lt HK4.out
    have hgw4 := heap_lt HW4.out
    by_cases hlt : k < nf
    · have hkn : (k : Int) < (nf : Int) := by omega
      obtain ⟨f, hf⟩ : ∃ f, (Pm.fates s)[k]? = some f := ⟨_, List.getElem?_eq_getElem (by rw [HNF.out]; exact hlt)⟩
      obtain ⟨gg, cpp, hxa, hcp, hgB, hggw, hcells⟩ := fates_row HOW.out (by rw [HNF.out]; omega)
      cases hxa
      obtain ⟨q0, q1, q2, q3, q4⟩ := hcells k f hf
      have hgg : gg ≠ gl := by omega
      have r0 := (HON.out.cell (p := ⟨gg, k * 5, none⟩) hggw hgg).trans q0
      have r1 := (HON.out.cell (p := ⟨gg, k * 5 + 1, none⟩) hggw hgg).trans q1
      have r2 := (HON.out.cell (p := ⟨gg, k * 5 + 2, none⟩) hggw hgg).trans q2
      have r3 := (HON.out.cell (p := ⟨gg, k * 5 + 3, none⟩) hggw hgg).trans q3
      have r4 := (HON.out.cell (p := ⟨gg, k * 5 + 4, none⟩) hggw hgg).trans q4
      have hfm := List.mem_of_getElem? hf
      have hfa : f.at' < N := by
        obtain ⟨j, x, hx, _, rfl⟩ := Pm.mem_fates.1 hfm
        have := (List.getElem?_eq_some_iff.1 hx).1
        rw [HN.out] at this
        show 0 + j < N
        omega
      have rw0 : wr.cell? ⟨gw, f.at', none⟩ = some (.int .u64 (L.getD f.at' 0)) := (HON.out.cell (p := ⟨gw, f.at', none⟩) hgw4 (Ne.symm hne)).trans (cell_blk HW4.out (i := f.at') (by rw [HLL.out]; exact hfa)).1
      have HCS := hide (chosen_step (L := L) hf)
      have HCO := hide (copied_step L (Pm.lastL s.ws) hf)
      have HAL : Hid (f.least (L.getD f.at' 0) < 3 → ∀ g ∈ (Pm.fates s).take (k + 1), g.least (L.getD g.at' 0) < 3) := fun h3 g hg => by
        rw [List.take_add_one, hf] at hg
        rcases List.mem_append.1 hg with hg | hg
        · exact HALL.out g hg
        · have : g = f := by simpa using hg
          rw [this]
          exact h3
      have HNO : Hid (¬ f.least (L.getD f.at' 0) < 3 → decide (L ∈ Pm.images s.ws) = false) := fun h3 => decide_eq_false fun hm => h3 ((HIFF.out.1 hm).1 f hfm)
      have HVA := hide (fun W => choice_any f (L.getD f.at' 0) W)
      obtain ⟨fa, fl, ff, fs, ft⟩ := f
      simp only at r0 r1 r2 r3 r4 hfa rw0 HCS HCO HAL HNO HVA
      clear q0 q1 q2 q3 q4 hcells hf hfm
      generalize hmm : Pm.F.least ⟨fa, fl, ff, fs, ft⟩ (L.getD fa 0) = m at *
      generalize hzz : L.getD fa 0 = z at *
      have hfin : (fa : Int) < (N : Int) := by omega
      have hgn : gg < wr.heap.size := by omega
      obtain ⟨W, hW⟩ : ∃ W, W = wr.alloc (.cells #[.int .i64 fa, .int .u64 fl, .bool ff, .int .u64 fs, .int .u64 ft] 24) := ⟨_, rfl⟩
      have hnew : W.heap[wr.heap.size]? = some (.cells #[.int .i64 fa, .int .u64 fl, .bool ff, .int .u64 fs, .int .u64 ft] 24 (0, 0)) := by rw [hW]; exact heap_alloc_new _ _
      have t0 : W.cell? ⟨wr.heap.size, 0, none⟩ = some (.int .i64 fa) := by simp [World.cell?, hnew]
      have t1 : W.cell? ⟨wr.heap.size, 1, none⟩ = some (.int .u64 fl) := by simp [World.cell?, hnew]
      have t2 : W.cell? ⟨wr.heap.size, 2, none⟩ = some (.bool ff) := by simp [World.cell?, hnew]
      have t3 : W.cell? ⟨wr.heap.size, 3, none⟩ = some (.int .u64 fs) := by simp [World.cell?, hnew]
      have t4 : W.cell? ⟨wr.heap.size, 4, none⟩ = some (.int .u64 ft) := by simp [World.cell?, hnew]
      have tw : W.cell? ⟨gw, fa, none⟩ = some (.int .u64 z) := by rw [hW, cell_alloc_old _ _ (by simp only; omega)]; exact rw0
      have hWs : W.heap.size = wr.heap.size + 1 := by rw [hW]; simp
      have hBW : Below wr.heap.size wr W.drew := by rw [hW]; exact ((Below.refl _ _).alloc (Nat.le_refl _) _).drew
      have HBW := hide hBW
      go_wp2_with fail
      rw [← hW]
      clear hW hnew rw0 r0 r1 r2 r3 r4 hBW
      have hwn : wr.heap.size < W.heap.size := by omega
      have hgwW : gw < W.heap.size := by omega
      obtain ⟨B, hB⟩ : ∃ B, wr.heap.size = B := ⟨_, rfl⟩
      rw [hB] at t0 t1 t2 t3 t4 hwn ⊢
      have HBB := hide hB
      clear hB
      by_cases hm3 : m < 3
      · have hmod : m % 3 = m := Nat.mod_eq_of_lt hm3
        have hdec : decide (m < 3) = true := decide_eq_true hm3
        rw [hmod, hdec] at HVA
        go_region_held3 (fun w' => w'.cell? ⟨B, 0, none⟩ = some (.int .i64 fa) ∧ w'.cell? ⟨B, 1, none⟩ = some (.int .u64 fl) ∧ w'.cell? ⟨B, 2, none⟩ = some (.bool ff) ∧ w'.cell? ⟨B, 3, none⟩ = some (.int .u64 fs) ∧ w'.cell? ⟨B, 4, none⟩ = some (.int .u64 ft) ∧ w'.cell? ⟨gw, fa, none⟩ = some (.int .u64 z))
          (first
            | go_keep
            | exact ⟨(hb5.cell hwn).trans t0, (hb5.cell hwn).trans t1, (hb5.cell hwn).trans t2, (hb5.cell hwn).trans t3, (hb5.cell hwn).trans t4, (hb5.cell hgwW).trans tw⟩)
          (first
            | (go_at_call 37; refine (HVA.out _).mono ?_; rintro e w5 ⟨rfl, hb5⟩))
        have HB5 : Hid (Below wr.heap.size wr w5) := HBW.out.trans (hb5.mono HBW.out.size)
        have HC50 := hide ((hb5.cell (p := ⟨B, 0, none⟩) hwn).trans t0)
        have HC5w := hide ((hb5.cell (p := ⟨gw, fa, none⟩) hgwW).trans tw)
        have hs5 : W.heap.size ≤ w5.heap.size := hb5.size
        clear t0 t1 t2 t3 t4 tw hb5
        have HO5 : Hid (w5.ownsRow w4.heap.size 3 1 u8 k ((chosen s L k).map (Value.int .i64))) := own_kept HO.out HB5.out
        go_wp2_with (at_builtin; refine wpList_append_own _ rfl _ _ 39 rfl w4.heap.size 3 i0 _ 1 8 Try.underlying39 hi hz0 hz1 hz2 rfl (by decide) u8 k ((chosen s L k).map (Value.int .i64)) rfl (HO5.out.alloc _) ⟨w5.heap.size, 0, none⟩ 1 1 [.int .i64 m] rfl rfl (cell_one_new _ _ _) (by simp [Value.oneCell']) (by unfold maxLen; omega) (by omega) (by simp; omega) ?_; intro v' w6 hown6 hgrow hiff)
        have hblk : ∀ q, q < w5.heap.size → (q < w4.heap.size ∨ B ≤ q) → w6.heap[q]? = w5.heap[q]? := fun q hq hor => by
          have e : (w5.alloc (.cells #[.int .i64 m] 3)).heap[q]? = w5.heap[q]? := Below.heap_alloc _ _ _ hq
          rw [← e]
          refine hgrow.block q (by simp; omega) (fun e' => ?_)
          have := HO.out.lt q e'.symm
          have := HBB.out
          omega
        have HC60 : Hid (w6.cell? ⟨B, 0, none⟩ = some (.int .i64 fa)) := (World.cell?_of_block (hblk B (by omega) (.inr (Nat.le_refl _)))).trans HC50.out
        have HC6w : Hid (w6.cell? ⟨gw, fa, none⟩ = some (.int .u64 z)) := (World.cell?_of_block (hblk gw (by omega) (.inl hgw4))).trans HC5w.out
        have HK6 : Hid (w6.heap[gl]? = some (.cells (blk .u64 (Pm.copied L ((Pm.fates s).take k) (Pm.lastL s.ws))) 22 (0, 0))) := (hblk gl (by omega) (.inl hgl4)).trans ((HB5.out.block gl (by omega)).trans HKL.out)
        have HO6 : Hid (Only (fun j => j = gl) w4 w6) := ((HON.out.trans (Only.of_below HB5.out)).alloc _).grownNew hgrow (fun q hq => (HO5.out.lt q hq).1)
        have hs6 : w5.heap.size ≤ w6.heap.size := Nat.le_trans (by simp) hgrow.size
        have HON6 := hide hown6
        clear hown6 hgrow hiff hblk
        obtain ⟨c6, z6⟩ := cell_blk HK6.out (i := fa) (by rw [Pm.copied_length, lastL_len, HN.out]; exact hfa)
        have p0 := HC60.out
        have pw := HC6w.out
        generalize (Pm.copied L ((Pm.fates s).take k) (Pm.lastL s.ws)).getD fa 0 = y0 at c6
        have hBgl : B ≠ gl := by have := HBB.out; omega
        have hglB := Ne.symm hBgl
        have hne' := Ne.symm hne
        have HEND : Hid ((w6.drew.setCell ⟨gl, fa, none⟩ (.int .u64 z)).ownsRow w4.heap.size 3 1 v' (k + 1) ((chosen s L (k + 1)).map (Value.int .i64)) ∧ (w6.drew.setCell ⟨gl, fa, none⟩ (.int .u64 z)).heap[gl]? = some (.cells (blk .u64 (Pm.copied L ((Pm.fates s).take (k + 1)) (Pm.lastL s.ws))) 22 (0, 0)) ∧ Only (fun j => j = gl) w4 (w6.drew.setCell ⟨gl, fa, none⟩ (.int .u64 z))) := by
          refine ⟨own_set (w := w6.drew) (g := gl) ?_ hgl4, ?_, (HO6.out.trans (Only.drewN _ w6 1)).setCell (p := ⟨gl, fa, none⟩) rfl _⟩
          · rw [HCS.out, List.map_append]
            exact HON6.out
          · rw [heap_set (w := w6.drew) HK6.out, blk_set, HCO.out]
        go_wp2_with fail
        go_region_held3 (fun w' => w'.cell? ⟨B, 0, none⟩ = some (.int .i64 fa) ∧ w'.cell? ⟨gw, fa, none⟩ = some (.int .u64 z))
          (first
            | go_keep
            | exact ⟨p0, pw⟩)
          (fail)
        go_wp2_with fail
        go_roundw
        case rel => exact ⟨k + 1, by omega, by go_num, HEND.out.1, HAL.out hm3, HEND.out.2.1, HEND.out.2.2⟩
        case measure => simp [intOf]; omega
      · have hdec : decide (m < 3) = false := decide_eq_false hm3
        have HR := hide (HNO.out hm3)
        rw [hdec] at HVA
        generalize m % 3 = m' at *
        go_region_held3 (fun w' => w'.cell? ⟨B, 0, none⟩ = some (.int .i64 fa) ∧ w'.cell? ⟨B, 1, none⟩ = some (.int .u64 fl) ∧ w'.cell? ⟨B, 2, none⟩ = some (.bool ff) ∧ w'.cell? ⟨B, 3, none⟩ = some (.int .u64 fs) ∧ w'.cell? ⟨B, 4, none⟩ = some (.int .u64 ft) ∧ w'.cell? ⟨gw, fa, none⟩ = some (.int .u64 z))
          (first
            | go_keep
            | exact ⟨(hb5.cell hwn).trans t0, (hb5.cell hwn).trans t1, (hb5.cell hwn).trans t2, (hb5.cell hwn).trans t3, (hb5.cell hwn).trans t4, (hb5.cell hgwW).trans tw⟩)
          (first
            | (go_at_call 37; refine (HVA.out _).mono ?_; rintro e w5 ⟨rfl, hb5⟩))
        have HB5 : Hid (Below w.heap.size w w5) := by
          have h1 : Below w.heap.size w wr := HB4.out.trans (HON.out.below (fun j hj => by rw [hj]; exact HGL.out) HB4.out.size)
          exact h1.trans ((HBW.out.trans (hb5.mono HBW.out.size)).mono h1.size)
        clear t0 t1 t2 t3 t4 tw hb5
        go_wp2_with fail
        go_ret2
        exact ⟨_, by rw [HR.out]; rfl, fun _ => rfl, fun h => (by rw [HR.out] at h; cases h), HB5.out⟩
    · have hkn : ¬ (k : Int) < (nf : Int) := by omega
      obtain rfl : k = nf := by omega
      have HE : Hid ((Pm.fates s).take k = Pm.fates s) := List.take_of_length_le (by rw [HNF.out]; exact Nat.le_refl _)
      rw [HE.out] at HALL HKL
      have hw1 : wr.heap[gw]? = some (.cells (blk .u64 L) 22 (0, 0)) := (HON.out.block gw hgw4 (Ne.symm hne)).trans HW4.out
      have HEQ := hide (equal_any (some ⟨gw, 0, none⟩) (some ⟨gl, 0, none⟩) N N N L _ wr (by omega) (row_of_block hw1 HLL.out) (row_of_block HKL.out (by rw [Pm.copied_length, lastL_len, HN.out])))
      have HBR : Hid (Below w.heap.size w wr) := HB4.out.trans (HON.out.below (fun j hj => by rw [hj]; exact HGL.out) HB4.out.size)
      clear hw1
      by_cases heq : L = Pm.copied L (Pm.fates s) (Pm.lastL s.ws)
      · have hmem : L ∈ Pm.images s.ws := HIFF.out.2 ⟨HALL.out, heq.symm⟩
        have HD : Hid (decide (L ∈ Pm.images s.ws) = true) := decide_eq_true hmem
        have HCC := hide (HCH.out hmem)
        have hdd : decide (L = Pm.copied L (Pm.fates s) (Pm.lastL s.ws)) = true := decide_eq_true heq
        rw [hdd] at HEQ
        clear heq hmem hdd
        go_wp2_with fail
        refine HEQ.out.mono ?_
        rintro e w6 ⟨rfl, hb6⟩
        have HB6 := hide hb6
        clear hb6
        go_wp2_with fail
        go_ret2
        refine ⟨_, by rw [HD.out]; rfl, fun h => (by rw [HD.out] at h; cases h), fun _ => ?_, HBR.out.trans (HB6.out.mono HBR.out.size)⟩
        rw [HCC.out, HNF.out]
        rw [chosen_length (by rw [HNF.out]; exact Nat.le_refl _)]
        exact own_base (own_kept HO.out HB6.out) HB4.out.size
      · have HD : Hid (decide (L ∈ Pm.images s.ws) = false) := decide_eq_false fun hm => heq (HIFF.out.1 hm).2.symm
        have hdd : decide (L = Pm.copied L (Pm.fates s) (Pm.lastL s.ws)) = false := decide_eq_false heq
        rw [hdd] at HEQ
        clear heq hdd
        go_wp2_with fail
        refine HEQ.out.mono ?_
        rintro e w6 ⟨rfl, hb6⟩
        have HB6 := hide hb6
        clear hb6
        go_wp2_with fail
        go_ret2
        exact ⟨_, by rw [HD.out]; rfl, fun _ => rfl, fun h => (by rw [HD.out] at h; cases h), HBR.out.trans (HB6.out.mono HBR.out.size)⟩

theorem fchoose_any {w : World} {b : Nat} {s : Pm.D} {F : Nat → Prop} (h : PDev w b s F) (hm : s.ws.length ≤ 40000) (h8 : s.ws.length % 8 = 0) {a : Option Addr} {len cap : Nat} {zs : List Int} (hA : Arg .u8 w a len cap zs) (hl : len ≤ 400000) :
    Calls Try.prog 15 #[.pointer (some ⟨b, 0, none⟩), .slice a len cap] w fun e w' => ∃ v, e = .returned (.tuple #[v, .bool (mayB s zs)]) ∧ (mayB s zs = false → v = .slice none 0 0) ∧ (mayB s zs = true → w'.ownsRow w.heap.size 3 1 v (choicesB s zs).length ((choicesB s zs).map (Value.int .i64))) ∧ Below w.heap.size w w' := by
  by_cases hlen : len = 8 * s.ws.length
  · exact fchoose_long h hm h8 hA hlen
  · refine (fchoose_short h hm h8 a len cap hl hlen).mono ?_
    rintro e w' ⟨rfl, hb⟩
    have hn : mayB s zs = false := by
      unfold mayB
      exact decide_eq_false fun q => hlen (by rw [← q.1]; exact hA.2.2.1.1.symm)
    exact ⟨_, by rw [hn], fun _ => rfl, fun q => (by rw [hn] at q; cases q), hb⟩

set_option maxHeartbeats 1000000 in
theorem fmay_any {w : World} {b : Nat} {s : Pm.D} {F : Nat → Prop} (h : PDev w b s F) (hm : s.ws.length ≤ 40000) (h8 : s.ws.length % 8 = 0) {a : Option Addr} {len cap : Nat} {zs : List Int} (hA : Arg .u8 w a len cap zs) (hl : len ≤ 400000) :
    Calls Try.prog 17 #[.pointer (some ⟨b, 0, none⟩), .slice a len cap] w fun e w' => e = .returned (.bool (mayB s zs)) ∧ Below w.heap.size w w' := by
  have HC := hide (fchoose_any h hm h8 hA hl)
  clear h hA
  generalize mayB s zs = o at *
  go_enter Try.func17, Try.ntmps17
  go_wp2_with fail
  refine HC.out.mono ?_
  rintro e w1 ⟨v, rfl, _, _, hb⟩
  have HB := hide hb
  clear hb
  go_wp2_with fail
  go_ret
  exact ⟨rfl, HB.out⟩
end Go.Proofs.Ytnaenokegomoeaa
