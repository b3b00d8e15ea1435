/-
  The program's device (layer 5): Crash.
-/
import Derived.Test.YtnaenokegomoeaaPmL
namespace Go.Proofs.Ytnaenokegomoeaa
set_option linter.unusedVariables false
set_option linter.unusedSimpArgs false
open Go.RowKit

set_option maxRecDepth 100000 in
set_option maxHeartbeats 4000000 in
theorem pcrash_x {w : World} {b : Nat} {s : Pm.D} {F : Nat → Prop} {g0 g1 c1 gm n : Nat} {tl : List Value} {M : DataW Unit} {pa : Option Addr} {pc : Nat} {laid : Int} (h : PX w b s F g0 g1 c1 gm n tl M pa pc laid) (hF : ∀ k, F k → k < w.heap.size) (hm : s.ws.length ≤ 40000) {a : Option Addr} {len cap : Nat} {l : List Int} (hA : Arg .i64 w a len cap l) (hl : len ≤ 40000) (hAF : 0 < len → ∀ x, a = some x → ¬ F x.block) :
    Calls Try.prog 19 #[.pointer (some ⟨b, 0, none⟩), .slice a len cap] w fun e w' => e = .returned (.tuple #[]) ∧ PMid w b (Pm.crash s l) F 0 w' := by
  have HFS := hide (pfates_x h hm)
  have HD := hide h
  have HA := hide hA
  have HFL := hide (fates_length s.ws 0)
  have hlen := hA.2.2.1.1
  obtain ⟨n1, n2, n3, n4, n5, n6⟩ := h.ne
  have hmine := h.mine
  have lb := heap_lt h.dev
  have l0 := heap_lt h.k0
  have l1 := heap_lt h.k1
  clear h hA
  go_enter Try.func19, Try.ntmps19
  go_wp2_with fail
  refine HFS.out.mono ?_
  rintro e w1 ⟨v, rfl, hown, hb1⟩
  have HOW := hide hown
  have HB1 := hide hb1
  have HD1 := hide (HD.out.below hb1)
  clear hown hb1
  obtain ⟨cp, hcp⟩ : ∃ cp x, v = .slice x (Pm.fates s).length cp := by
    rcases HOW.out.2 with ⟨rfl, h0⟩ | ⟨g, cap, cur, hv, _⟩
    · exact ⟨0, none, by rw [h0]⟩
    · exact ⟨cap, _, hv⟩
  obtain ⟨xa, rfl⟩ := hcp
  have HFLb : Hid ((Pm.fates s).length ≤ 40000) := Nat.le_trans HFL.out hm
  have hflb := HFLb.out
  generalize hnf : (Pm.fates s).length = nf at hflb ⊢
  have HNF := hide hnf
  clear hnf
  go_wp2_with fail
  go_loopw [9] (fun i wr => ∃ k : Nat, k ≤ nf ∧ i = .int .i64 k ∧ Only (fun k => k = g0) w1 wr ∧ wr.heap[g0]? = some (.cells (blk .u64 (Pm.lastL (Pm.lastN k s.ws l))) 22 (0, 0))) (fun i _ => nf - (intOf i).toNat)
  case atStart => exact ⟨0, Nat.zero_le _, rfl, Only.refl _ _, by unfold Pm.lastN; exact HD1.out.k0⟩
  case round =>
    obtain ⟨k, hk, rfl, ho, hg⟩ := hrel
    have HO := hide ho
    have HG := hide hg
    clear ho hg
    have hsz1 := HB1.out.size
    have hsz2 := HO.out.size
    by_cases hlt : k < nf
    · have hkf : k < (Pm.fates s).length := by rw [HNF.out]; exact hlt
      obtain ⟨f, hf⟩ : ∃ f, (Pm.fates s)[k]? = some f := ⟨_, List.getElem?_eq_getElem hkf⟩
      obtain ⟨gg, cpp, hxa, hcp, hgB, hgw, hcells⟩ := fates_row HOW.out (by omega)
      cases hxa
      obtain ⟨q0, q1, q2, q3, q4⟩ := hcells k f hf
      have hgg : gg ≠ g0 := by omega
      have r0 := (HO.out.cell (p := ⟨gg, k * 5, none⟩) hgw hgg).trans q0
      have r1 := (HO.out.cell (p := ⟨gg, k * 5 + 1, none⟩) hgw hgg).trans q1
      have r2 := (HO.out.cell (p := ⟨gg, k * 5 + 2, none⟩) hgw hgg).trans q2
      have r3 := (HO.out.cell (p := ⟨gg, k * 5 + 3, none⟩) hgw hgg).trans q3
      have r4 := (HO.out.cell (p := ⟨gg, k * 5 + 4, none⟩) hgw hgg).trans q4
      clear q0 q1 q2 q3 q4 hcells
      have hkn : (k : Int) < (nf : Int) := by omega
      obtain ⟨s1, s2, s3⟩ := lastL_step l hf
      by_cases hkl : k < len
      · have hkl' : (k : Int) < (len : Int) := by omega
        have hyw : (Lit.int .i64 (l.getD k 0)).wf = true := by
          refine HA.out.2.2.2.1 _ ?_
          rw [List.getD_eq_getElem?_getD, List.getElem?_eq_getElem (by omega)]
          exact List.getElem_mem (by omega)
        obtain ⟨_, h0 | ⟨ab, off, rfl, hab, hac⟩⟩ := HA.out.2.2.1
        · omega
        have hnab : ab ≠ g0 := fun e => hAF (by omega) ⟨ab, off, none⟩ rfl (e ▸ hmine.2.1)
        have ra := (HO.out.cell (p := ⟨ab, off + k, none⟩) (Nat.lt_of_lt_of_le hab HB1.out.size) hnab).trans ((HB1.out.cell (p := ⟨ab, off + k, none⟩) hab).trans (hac k hkl))
        obtain ⟨y, hy⟩ : ∃ y, l.getD k 0 = y := ⟨_, rfl⟩
        rw [hy] at s2 hyw ra
        clear hac hy s3
        have HVA := hide (fun W => pkept_any f y W hyw)
        obtain ⟨fa, fl, ff, fs, ft⟩ := f
        simp only at r0 r1 r2 r3 r4 s1 s2
        have hgn : gg < wr.heap.size := by omega
        have habn : ab < wr.heap.size := by omega
        have rb : wr.cell? ⟨b, 0, none⟩ = some (.slice (some ⟨g0, 0, none⟩) s.ws.length s.ws.length) := by
          rw [HO.out.cell (p := ⟨b, 0, none⟩) (by simp only; omega) n1]
          exact HD1.out.fields.1
        obtain ⟨W, hW⟩ : ∃ W, W = wr.alloc (.cells #[.int .i64 fa, .int .u64 fl, .bool ff, .int .u64 fs, .int .u64 ft] 24) := ⟨_, rfl⟩
        have hnew : W.heap[wr.heap.size]? = some (.cells #[.int .i64 fa, .int .u64 fl, .bool ff, .int .u64 fs, .int .u64 ft] 24 (0, 0)) := by rw [hW]; exact heap_alloc_new _ _
        have t0 : W.cell? ⟨wr.heap.size, 0, none⟩ = some (.int .i64 fa) := by simp [World.cell?, hnew]
        have t1 : W.cell? ⟨wr.heap.size, 1, none⟩ = some (.int .u64 fl) := by simp [World.cell?, hnew]
        have t2 : W.cell? ⟨wr.heap.size, 2, none⟩ = some (.bool ff) := by simp [World.cell?, hnew]
        have t3 : W.cell? ⟨wr.heap.size, 3, none⟩ = some (.int .u64 fs) := by simp [World.cell?, hnew]
        have t4 : W.cell? ⟨wr.heap.size, 4, none⟩ = some (.int .u64 ft) := by simp [World.cell?, hnew]
        have tb : W.cell? ⟨b, 0, none⟩ = some (.slice (some ⟨g0, 0, none⟩) s.ws.length s.ws.length) := by rw [hW, cell_alloc_old _ _ (by simp only; omega)]; exact rb
        have ta : W.cell? ⟨ab, off + k, none⟩ = some (.int .i64 y) := by rw [hW, cell_alloc_old _ _ (by simp only; omega)]; exact ra
        have hWs : W.heap.size = wr.heap.size + 1 := by rw [hW]; simp
        have HWG : Hid (W.drew.heap[g0]? = some (.cells (blk .u64 (Pm.lastL (Pm.lastN k s.ws l))) 22 (0, 0))) := by
          show W.heap[g0]? = _
          rw [hW, Below.heap_alloc _ _ _ (by omega)]
          exact HG.out
        have HWO : Hid (Only (fun k => k = g0) w1 W.drew) := by
          show Only _ _ _
          refine Only.trans (b := W) ?_ (Only.drewN _ _ 1)
          rw [hW]
          exact HO.out.alloc _
        have HSTEP : Hid (∀ w5, Below W.drew.heap.size W.drew w5 → w5.cell? ⟨g0, fa, none⟩ = some (.int .u64 ((Pm.lastL (Pm.lastN k s.ws l)).getD fa 0)) ∧ w5.frozen? ⟨g0, fa, none⟩ = false ∧
            (w5.setCell ⟨g0, fa, none⟩ (.int .u64 (Pm.F.value ⟨fa, fl, ff, fs, ft⟩ y))).heap[g0]? = some (.cells (blk .u64 (Pm.lastL (Pm.lastN (k + 1) s.ws l))) 22 (0, 0)) ∧
            Only (fun k => k = g0) w1 (w5.setCell ⟨g0, fa, none⟩ (.int .u64 (Pm.F.value ⟨fa, fl, ff, fs, ft⟩ y)))) := by
          show ∀ w5, _ → _
          intro w5 hb5
          have hg5 : w5.heap[g0]? = some (.cells (blk .u64 (Pm.lastL (Pm.lastN k s.ws l))) 22 (0, 0)) := (hb5.block g0 (heap_lt HWG.out)).trans HWG.out
          obtain ⟨c5, z5⟩ := cell_blk hg5 (i := fa) (by rw [lastL_len, Pm.lastN_length]; exact s1)
          refine ⟨c5, z5, ?_, (HWO.out.trans (Only.of_below hb5)).setCell (p := ⟨g0, fa, none⟩) rfl _⟩
          rw [heap_set hg5, blk_set, s2]
        have hfin : (fa : Int) < (s.ws.length : Int) := by omega
        go_wp2_with fail
        rw [← hW]
        clear hW hnew rb ra r0 r1 r2 r3 r4
        generalize Pm.F.value ⟨fa, fl, ff, fs, ft⟩ y = z at *
        generalize (Pm.lastL (Pm.lastN k s.ws l)).getD fa 0 = y0 at *
        generalize hNN : s.ws.length = N at *
        clear hNN
        have hwn : wr.heap.size < W.heap.size := by omega
        generalize wr.heap.size = B at *
        have hBg0 : B ≠ g0 := by omega
        have hg0B := Ne.symm hBg0
        have hbW : b < W.heap.size := by omega
        have habW : ab < W.heap.size := by omega
        have n1' := Ne.symm n1
        have hnab' := Ne.symm hnab
        go_region_held3 (fun w' => w'.cell? ⟨b, 0, none⟩ = some (.slice (some ⟨g0, 0, none⟩) N N) ∧ w'.cell? ⟨B, 0, none⟩ = some (.int .i64 fa) ∧ w'.cell? ⟨B, 1, none⟩ = some (.int .u64 fl) ∧ w'.cell? ⟨B, 2, none⟩ = some (.bool ff) ∧ w'.cell? ⟨B, 3, none⟩ = some (.int .u64 fs) ∧ w'.cell? ⟨B, 4, none⟩ = some (.int .u64 ft) ∧ w'.cell? ⟨ab, off + k, none⟩ = some (.int .i64 y))
          (first
            | go_keep
            | exact ⟨(hb5.cell hbW).trans tb, (hb5.cell hwn).trans t0, (hb5.cell hwn).trans t1, (hb5.cell hwn).trans t2, (hb5.cell hwn).trans t3, (hb5.cell hwn).trans t4, (hb5.cell habW).trans ta⟩)
          (first
            | (go_at_call 39; refine (HVA.out _).mono ?_; rintro e w5 ⟨rfl, hb5⟩; obtain ⟨c5, z5, g5, o5⟩ := HSTEP.out w5 hb5))
        have G5 := hide g5
        have O5 := hide o5
        clear g5 o5 hb5 c5 z5
        go_wp2_with fail
        go_roundw
        case rel => exact ⟨k + 1, by omega, by go_num, O5.out, G5.out⟩
        case measure => simp [intOf]; omega
      · have hkl' : ¬ (k : Int) < (len : Int) := by omega
        have hs3 := s3 (by omega)
        obtain ⟨fa, fl, ff, fs, ft⟩ := f
        simp only at r0 r1 r2 r3 r4
        have HG' : Hid ((wr.alloc (.cells #[.int .i64 fa, .int .u64 fl, .bool ff, .int .u64 fs, .int .u64 ft] 24)).heap[g0]? = some (.cells (blk .u64 (Pm.lastL (Pm.lastN (k + 1) s.ws l))) 22 (0, 0))) := by
          show _ = _
          rw [Below.heap_alloc _ _ _ (by omega), hs3]
          exact HG.out
        clear s2 s3 hs3
        have hgn : gg < wr.heap.size := by omega
        go_wp2_with fail
        go_roundw
        case rel => exact ⟨k + 1, by omega, by go_num, HO.out.alloc _, HG'.out⟩
        case measure => simp [intOf]; omega
    · have hkn : ¬ (k : Int) < (nf : Int) := by omega
      obtain rfl : k = nf := by omega
      have dv : wr.heap[b]? = w1.heap[b]? := HO.out.block b (by omega) n1
      have dv' := dv.trans HD1.out.dev
      have k1' := (HO.out.block g1 (by omega) (Ne.symm n4)).trans HD1.out.k1
      have hcopy := copy_words (W := wr.drew) (c := c1) k1' HG.out (storedL_len _) (by rw [lastL_len, Pm.lastN_length])
      have f0 : wr.cell? ⟨b, 0, none⟩ = some (.slice (some ⟨g0, 0, none⟩) s.ws.length s.ws.length) := by simp [World.cell?, dv']
      have f1 : wr.cell? ⟨b, 1, none⟩ = some (.slice (some ⟨g1, 0, none⟩) s.ws.length c1) := by simp [World.cell?, dv']
      obtain ⟨X, hX⟩ : ∃ X, X = wr.drew.setRow g1 (blkT (Pm.lastL (Pm.lastN k s.ws l)) tl) := ⟨_, rfl⟩
      rw [← hX] at hcopy
      have xb : X.heap[b]? = wr.heap[b]? := by rw [hX]; exact setRow_other _ _ _ _ n2
      have x0 : X.heap[g0]? = some (.cells (blk .u64 (Pm.lastL (Pm.lastN k s.ws l))) 22 (0, 0)) := by rw [hX, setRow_other _ _ _ _ n4]; exact HG.out
      have x1 : X.heap[g1]? = some (.cells (blkT (Pm.lastL (Pm.lastN k s.ws l)) tl) 22 (0, 0)) := by rw [hX]; exact setRow_heap _ _ _ _ _ _ k1'
      have xo : Only F w X := by
        refine ((Only.of_below HB1.out).trans (HO.out.mono (fun k hk => hk ▸ hmine.2.1))).trans (Only.trans (Only.drewN F wr 1) ?_)
        rw [hX]
        exact ⟨rfl, rfl, rfl, by simp [World.setRow], fun k _ hn => setRow_other _ _ _ _ (fun e => hn (e ▸ hmine.2.2.1))⟩
      have xd := xb.trans dv'
      have y2 : X.cell? ⟨b, 2, none⟩ = some (.map (some gm)) := by simp [World.cell?, xd]
      have y4 : X.cell? ⟨b, 4, none⟩ = some (.bool (decide (s.left = 0))) := by simp [World.cell?, xd]
      have y5 : X.cell? ⟨b, 5, none⟩ = some (.int .i64 (if 0 < s.left then s.left else 0)) := by simp [World.cell?, xd]
      have y6 : X.cell? ⟨b, 6, none⟩ = some (.slice pa s.plan.length pc) := by simp [World.cell?, xd]
      have yz : ∀ j, X.frozen? ⟨b, j, none⟩ = false := fun j => by simp [World.frozen?, xd]
      have hbX := heap_lt xd
      have XB := hide xd
      have X0 := hide x0
      have X1 := hide x1
      have XO := hide xo
      have hmm := @run_makeMap Try.prog
      clear dv dv' k1' xb x0 x1 xo xd hX
      generalize hE : decide (s.left = 0) = E4 at y4
      generalize hE5 : (if 0 < s.left then s.left else 0) = E5 at y5
      generalize hE6 : s.plan.length = E6 at y6
      generalize hNN : s.ws.length = N at f0 f1 hcopy
      clear hE hE5 hE6
      go_wp2_with fail
      go_region_held3 (fun w' => w'.cell? ⟨b, 0, none⟩ = some (.slice (some ⟨g0, 0, none⟩) N N) ∧ w'.cell? ⟨b, 1, none⟩ = some (.slice (some ⟨g1, 0, none⟩) N c1))
        (first
          | go_keep
          | exact ⟨by rw [← hNN]; simp [World.cell?, XB.out], by rw [← hNN]; simp [World.cell?, XB.out]⟩)
        (fail)
      have z2 := yz 2
      have z4 := yz 4
      have z5 := yz 5
      have z6 := yz 6
      clear yz hcopy f0 f1
      go_wp2
      go_end0
      have hsx : w.heap.size ≤ X.heap.size := XO.out.size
      have e1 := heap_set XB.out 2 (.map (some X.heap.size))
      have e2 := heap_set e1 4 (.bool false)
      have e3 := heap_set e2 5 (.int .i64 0)
      have e4 := heap_set e3 6 (.slice none 0 0)
      obtain ⟨Y, hY⟩ : ∃ Y, Y = (((X.setCell ⟨b, 2, none⟩ (.map (some X.heap.size))).setCell ⟨b, 4, none⟩ (.bool false)).setCell ⟨b, 5, none⟩ (.int .i64 0)).setCell ⟨b, 6, none⟩ (.slice none 0 0) := ⟨_, rfl⟩
      rw [← hY] at e4 ⊢
      have hYs : Y.heap.size = X.heap.size := by rw [hY]; simp [World.setCell]
      have hYo : ∀ j, j ≠ b → Y.heap[j]? = X.heap[j]? := fun j hj => by rw [hY, heap_set_other hj, heap_set_other hj, heap_set_other hj, heap_set_other hj]
      have hYO : Only F X Y := by
        rw [hY]
        exact ((((Only.refl F X).setCell (p := ⟨b, 2, none⟩) hmine.1 _).setCell (p := ⟨b, 4, none⟩) hmine.1 _).setCell (p := ⟨b, 5, none⟩) hmine.1 _).setCell (p := ⟨b, 6, none⟩) hmine.1 _
      have hkk := HNF.out
      refine ⟨rfl, (fun j => F j ∨ j = X.heap.size), ⟨g0, g1, c1, X.heap.size, 0, tl, .map [], none, 0, laid, HD.out.crashed l (fun j hj => .inl hj) (.inr rfl) hsx ?_ ?_ ?_ ?_, Nat.le_refl _⟩, ?_, fun j hj => .inl hj, (XO.out.trans hYO).alloc _⟩
      · rw [Below.heap_alloc _ _ _ (by omega), e4]
        rfl
      · rw [Below.heap_alloc _ _ _ (by omega), hYo g0 (Ne.symm n1), hkk]
        exact X0.out
      · rw [Below.heap_alloc _ _ _ (by omega), hYo g1 (Ne.symm n2), hkk]
        exact X1.out
      · have := World.ownsMap_made (H := Unit) Y Try.prog 3 (plainElem Try.prog 22)
        rw [hYs] at this
        exact this
      · intro j hj
        rcases hj with hj | rfl
        · exact .inl hj
        · exact .inr ⟨hsx, by simp [hYs]⟩
end Go.Proofs.Ytnaenokegomoeaa
