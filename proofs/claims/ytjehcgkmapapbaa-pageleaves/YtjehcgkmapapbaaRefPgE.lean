/-
  The document's answers (layer 9): GetLeaf of a leaf's block.
-/
import Derived.Test.YtjehcgkmapapbaaRefPgD
namespace Go.Proofs.Ytjehcgkmapapbaa
set_option linter.unusedVariables false
set_option linter.unusedSimpArgs false
open Go.RowKit

theorem drew_heapR (W : World) : W.drew.heap = W.heap := rfl
theorem seats_set : ∀ (l : List Pg.Seat) (j : Nat) (x : Pg.Seat), (((l.flatMap seatC).set (j * 3) (.bool x.live)).set (j * 3 + 1) (.int .i64 x.gen)).set (j * 3 + 2) (.int .i64 x.next) = (l.set j x).flatMap seatC
  | [], _, _ => rfl
  | y :: r, 0, x => by simp [seatC]
  | y :: r, j + 1, x => by
    have ih := seats_set r j x
    rw [show (j + 1) * 3 = j * 3 + 1 + 1 + 1 by omega]
    simp only [List.flatMap_cons, seatC, List.cons_append, List.nil_append, List.set_cons_succ] at ih ⊢
    exact congrArg _ (congrArg _ (congrArg _ ih))
theorem leafC_set (l : List Pg.Seat) (j : Nat) (x : Pg.Seat) : (((leafC l).setIfInBounds (j * 3) (.bool x.live)).setIfInBounds (j * 3 + 1) (.int .i64 x.gen)).setIfInBounds (j * 3 + 2) (.int .i64 x.next) = leafC (l.set j x) := by
  unfold leafC
  rw [← seats_set l j x]
  simp
theorem leaf_snoc (s : List Int) (t j : Nat) (hj : j < 7) (x : Pg.Seat) (hx : Pg.seatAt s t j = x) : (Pg.leafTo s t j ++ List.replicate (7 - j) (⟨false, 0, 0⟩ : Pg.Seat)).set j x = Pg.leafTo s t (j + 1) ++ List.replicate (7 - (j + 1)) (⟨false, 0, 0⟩ : Pg.Seat) := by
  rw [Pg.leafTo_succ, hx]
  obtain ⟨m, hm⟩ : ∃ m, 7 - j = m + 1 := ⟨7 - j - 1, by omega⟩
  rw [hm, show 7 - (j + 1) = m by omega, List.replicate_succ]
  have hlj : (Pg.leafTo s t j).length = j := by simp [Pg.leafTo]
  rw [List.set_append_right _ _ (by omega), hlj]
  simp
theorem live_bit (t pw : Nat) (h : t ≤ 255) : ((wrap64 ((t : Int) / (pw : Int))).tmod 2 == 1) = decide (t / pw % 2 = 1) := by
  have hq : t / pw ≤ t := Nat.div_le_self t pw
  have h1 : ((t : Int) / (pw : Int)) = ((t / pw : Nat) : Int) := rfl
  rw [h1]
  generalize t / pw = q at *
  rw [wrap64_small (by omega) (by omega), show (2 : Int) = ((2 : Nat) : Int) from rfl, ← Int.ofNat_tmod]
  rw [Bool.eq_iff_iff]
  simp
  omega

set_option maxRecDepth 100000 in
set_option maxHeartbeats 4000000 in
theorem rgetleaf_leaf {w : World} {a : Option Addr} {len cap : Nat} {zs : List Int} (hA : Arg .u8 w a len cap zs) (hl : len ≤ 100000) (hB : Bk.isB zs = true) (h4 : zs.getD 4 0 = 2) :
    Calls Try.prog 18 #[.slice a len cap] w fun e w' => e = .returned (.tuple #[.agg (leafC (Pg.tellsL zs)), .bool (Pg.gotL zs)]) ∧ Below w.heap.size w w' := by
  have hz := hA.bytes
  have hzl : zs.length = 64 := (of_decide_eq_true hB).1
  have hb5 := byte_of hz 5
  obtain ⟨t, ht⟩ : ∃ t : Nat, zs.getD 5 0 = t := ⟨(zs.getD 5 0).toNat, by omega⟩
  obtain ⟨V, hV⟩ : ∃ V : Value, V = .tuple #[.agg (leafC (Pg.tellsL zs)), .bool (Pg.gotL zs)] := ⟨_, rfl⟩
  rw [← hV]
  have HV0 := hide hV
  obtain ⟨s, hs⟩ : ∃ s, s = zs.drop 8 := ⟨_, rfl⟩
  have hsz : Nums.Bytes s := by rw [hs]; exact Nums.bytes_drop hz 8
  have hsl : s.length = 56 := by rw [hs]; simp; omega
  obtain ⟨W, hW⟩ : ∃ W, W = w.alloc (.cells #[Value.bool false, Value.int .i64 0, Value.int .i64 0, Value.bool false, Value.int .i64 0, Value.int .i64 0, Value.bool false, Value.int .i64 0, Value.int .i64 0, Value.bool false, Value.int .i64 0, Value.int .i64 0, Value.bool false, Value.int .i64 0, Value.int .i64 0, Value.bool false, Value.int .i64 0, Value.int .i64 0, Value.bool false, Value.int .i64 0, Value.int .i64 0] 26) := ⟨_, rfl⟩
  have hb0 : Below w.heap.size w W := by rw [hW]; exact (Below.refl _ _).alloc (Nat.le_refl _) _
  have hg0 : W.heap[w.heap.size]? = some (.cells (leafC Pg.nil) 26 (0, 0)) := by rw [hW]; exact heap_alloc_new w _
  have hO := ropen_any (hA.below hb0) hl
  rw [if_pos hB, h4, ht, ← hs] at hO
  have HT : Hid (Pg.told zs = Pg.leafTo s t 7) := by
    show Pg.told zs = _
    unfold Pg.told
    rw [← hs, ht, Int.toNat_natCast]
  have HPK := hide (fun W j => piece W s hsz (8 * j) 4 (by decide))
  have HPL := hide (fun W j => piece W s hsz (8 * j + 4) 4 (by decide))
  have hSz := size_str s
  rw [hsl] at hSz
  have HO := hide hO
  have HB0 := hide hb0
  have HG0 := hide hg0
  have HGG : Hid (Bk.isB zs = true ∧ zs.getD 4 0 = 2) := ⟨hB, h4⟩
  have HA := hide hA
  generalize strOfNums s = S at *
  have ht255 : t ≤ 255 := by omega
  clear hA hO hb0 hg0 hB h4 hzl hs hsz hsl hz hV hb5 ht
  go_enter Try.func18, Try.ntmps18
  go_wp2_with fail
  rw [← hW]
  refine HO.out.mono ?_
  rintro e w1 ⟨rfl, hb1⟩
  have HG1 := hide ((hb1.block _ ((Array.getElem?_eq_some_iff.1 HG0.out).1)).trans HG0.out)
  have HB1 := hide (HB0.out.trans (hb1.mono HB0.out.size))
  clear hb1
  go_wp2_with fail
  obtain ⟨G, hG⟩ : ∃ G, G = w1.heap.size := ⟨_, rfl⟩
  have HGW : Hid (w.heap.size < G) := by show _ < _; rw [hG]; exact (Array.getElem?_eq_some_iff.1 HG1.out).1
  rw [← hG]
  have HGE := hide hG
  clear hG
  go_loopw [9] (fun i wr => ∃ j : Nat, j ≤ 7 ∧ i = .int .i64 j ∧ wr.heap[G]? = some (.cells (leafC (Pg.leafTo s t j ++ List.replicate (7 - j) ⟨false, 0, 0⟩)) 26 (0, 0)) ∧ Below G w1 wr) (fun i _ => 7 - (intOf i).toNat)
  case atStart => exact ⟨0, Nat.zero_le _, rfl, by rw [HGE.out]; exact heap_alloc_new w1 _, by rw [HGE.out]; exact (Below.refl _ _).alloc (Nat.le_refl _) _⟩
  case round =>
    obtain ⟨j, hj, rfl, hgr, hbr⟩ := hrel
    have HGR := hide hgr
    have HBR := hide hbr
    have hGlt : G < wr.heap.size := (Array.getElem?_eq_some_iff.1 hgr).1
    by_cases hlt : j < 7
    · have hjI : (j : Int) < 7 := by omega
      obtain ⟨c0, c1, c2⟩ := boxed_leaf hgr (j := j) (by simp [Pg.leafTo]; omega)
      have f0 : wr.frozen? ⟨G, j * 3, none⟩ = false := by simp [World.frozen?, hgr]
      have f1 : wr.frozen? ⟨G, j * 3 + 1, none⟩ = false := by simp [World.frozen?, hgr]
      have f2 : wr.frozen? ⟨G, j * 3 + 2, none⟩ = false := by simp [World.frozen?, hgr]
      have HPJ := hide (fun W => HPK.out W j)
      have HPN := hide (fun W => HPL.out W j)
      have HFS := hide (Pg.leafTo_succ s t j)
      obtain ⟨xj, hxj⟩ : ∃ x, Nums.rd ((s.drop (8 * j)).take 4) = x := ⟨_, rfl⟩
      obtain ⟨yj, hyj⟩ : ∃ x, Nums.rd ((s.drop (8 * j + 4)).take 4) = x := ⟨_, rfl⟩
      unfold Pg.seatAt at HFS
      rw [hxj] at HPJ HFS
      rw [hyj] at HPN HFS
      obtain ⟨Sj, hSj⟩ : ∃ x, S.extract (8 * j) (8 * j + 4) = x := ⟨_, rfl⟩
      obtain ⟨Tj, hTj⟩ : ∃ x, S.extract (8 * j + 4) (8 * j + 4 + 4) = x := ⟨_, rfl⟩
      rw [hSj] at HPJ
      rw [hTj] at HPN
      have hTj' : S.extract (8 * j + 4) (8 * j + 8) = Tj := hTj
      have w1' : IntKind.i64.wrap (8 * (j : Int)) = 8 * (j : Int) := by rw [IntKind.wrap_i64]; omega
      have w2' : IntKind.i64.wrap (8 * (j : Int) + 4) = 8 * (j : Int) + 4 := by rw [IntKind.wrap_i64]; omega
      have w3' : IntKind.i64.wrap (8 * (j : Int) + 8) = 8 * (j : Int) + 8 := by rw [IntKind.wrap_i64]; omega
      have n1' : (8 * (j : Int)).toNat = 8 * j := by omega
      have n2' : (8 * (j : Int) + 4).toNat = 8 * j + 4 := by omega
      have n3' : (8 * (j : Int) + 8).toNat = 8 * j + 8 := by omega
      have p1' : (0 : Int) ≤ 8 * (j : Int) := by omega
      have p2' : (0 : Int) ≤ 8 * (j : Int) + 4 := by omega
      have q2' : (8 * (j : Int) + 4) ≤ 8 * (j : Int) + 8 := by omega
      have q3' : (8 * (j : Int) + 8) ≤ 56 := by omega
      have q4' : 8 * j + 8 ≤ 56 := by omega
      have q5' : (8 * (j : Int) + 4) ≤ 56 := by omega
      have q6' : 8 * j + 4 ≤ 56 := by omega
      obtain ⟨pw, hpwj⟩ : ∃ pw : Nat, (2 : Nat) ^ j = pw := ⟨_, rfl⟩
      have hpw : pw ≠ 0 := by rw [← hpwj]; exact Nat.ne_of_gt (Nat.pow_pos (by decide))
      have hpl : pw ≤ 64 := by rw [← hpwj]; exact Nat.pow_le_pow_right (by decide) (by omega : j ≤ 6)
      have hwi : IntKind.i64.wrap ((2 : Int) ^ j) = (pw : Int) := by
        rw [show ((2 : Int) ^ j) = (pw : Int) by rw [← hpwj]; exact (Int.natCast_pow 2 j).symm, IntKind.wrap_i64]
        omega
      have hj64 : (j : Int) ≤ 64 := by omega
      have q1' : (8 * (j : Int)) ≤ 8 * (j : Int) + 4 := by omega
      rw [hpwj] at HFS
      have hpw0 : ¬ (pw : Int) = 0 := by omega
      have hpw1 : ¬ pw = 0 := hpw
      have HLS : Hid ((Pg.leafTo s t j ++ List.replicate (7 - j) (⟨false, 0, 0⟩ : Pg.Seat)).set j (⟨(wrap64 ((t : Int) / (pw : Int))).tmod 2 == 1, xj, yj⟩ : Pg.Seat) = Pg.leafTo s t (j + 1) ++ List.replicate (7 - (j + 1)) (⟨false, 0, 0⟩ : Pg.Seat)) := by
        refine leaf_snoc s t j hlt _ ?_
        rw [live_bit t pw ht255, ← hpwj, ← hxj, ← hyj]
        rfl
      have HJ7 := hide hlt
      generalize (Pg.leafTo s t j ++ List.replicate (7 - j) ⟨false, 0, 0⟩)[j]'_ = old at c0 c1 c2
      clear hgr hbr hxj hyj hTj hpw hpl hpwj HFS
      go_wp2_with fail
      go_region_held3 (fun _ => True) (exact trivial) (first
        | (go_at_call_of 34 (Value.string Sj); refine (HPJ.out _).mono ?_; rintro e w' ⟨rfl, hw'⟩; obtain rfl := hw'.symm)
        | (go_at_call_of 34 (Value.string Tj); refine (HPN.out _).mono ?_; rintro e w' ⟨rfl, hw'⟩; obtain rfl := hw'.symm))
      all_goals
        go_wp2_with fail
        go_roundw
        case rel =>
          refine ⟨j + 1, by omega, by go_num, ?_, ?_⟩
          · rw [drew_heapR, heap_set (heap_set (heap_set HGR.out _ _) _ _) _ _, ← HLS.out]
            exact congrArg (fun c => some (Obj.cells c 26 (0, 0))) (leafC_set _ j ⟨(wrap64 ((t : Int) / (pw : Int))).tmod 2 == 1, xj, yj⟩)
          · exact (((HBR.out.setCell (p := ⟨G, j * 3, none⟩) (Nat.le_refl G) _).setCell (p := ⟨G, j * 3 + 1, none⟩) (Nat.le_refl G) _).setCell (p := ⟨G, j * 3 + 2, none⟩) (Nat.le_refl G) _).drew
        case measure => simp [intOf]; omega
    · have hjI : ¬ (j : Int) < 7 := by omega
      obtain rfl : j = 7 := by omega
      have hFl : (Pg.leafTo s t 7).length = 7 := by simp [Pg.leafTo]
      have hgF : wr.heap[G]? = some (.cells (leafC (Pg.leafTo s t 7)) 26 (0, 0)) := by
        have := hgr
        rw [Nat.sub_self, List.replicate_zero, List.append_nil] at this
        exact this
      have HGx0 := hide hgF
      have HG9a : Hid (wr.heap[w.heap.size]? = some (.cells (leafC Pg.nil) 26 (0, 0))) := (hbr.block _ HGW.out).trans HG1.out
      have HBw : Hid (Below w.heap.size w wr) := HB1.out.trans (hbr.mono (Nat.le_of_lt HGW.out))
      have HLF := hide (rleaf_any (Pg.leafTo s t 7) wr hFl)
      have HSF := hide (leaf_size hFl)
      have HSZ : Hid ((leafC Pg.nil).size = (leafC (Pg.leafTo s t 7)).size) := by show _ = _; rw [leafC_size, leafC_size, hFl]; rfl
      have HFB := hide (Pg.leaf_bytes hFl)
      have HFF := hide hFl
      clear hgr hbr hgF
      rw [← HT.out] at *
      generalize hFF : Pg.told zs = F at *
      go_wp2_with (refine wpList_load_row rfl 26 _ rfl G rfl 26 (leafC F) (0, 0) _ HGx0.out Try.underlying26 rfl HSF.out ?_)
      refine HLF.out.mono ?_
      rintro e w5 ⟨rfl, hb5'⟩
      have HG9 := hide ((hb5'.block _ (Nat.lt_trans HGW.out hGlt)).trans HG9a.out)
      have HGx := hide ((hb5'.block _ hGlt).trans HGx0.out)
      have HB9 := hide (HBw.out.trans (hb5'.mono HBw.out.size))
      have hcv := conv_bytes cap (HA.out.2.2.1.below HB9.out)
      clear hb5'
      by_cases hr : Pg.leafR F = true
      · rw [hr, if_pos rfl]
        by_cases he : Pg.leaf F = zs
        · have HV : Hid (V = .tuple #[.agg (leafC F), .bool true]) := by
            have hgot : Pg.gotL zs = true := decide_eq_true ⟨HGG.out.1, HGG.out.2, by rw [hFF]; exact hr, by rw [hFF]; exact he⟩
            show V = _
            rw [HV0.out]
            unfold Pg.tellsL
            rw [hgot, if_pos rfl, hFF]
          rw [he]
          generalize strOfNums zs = X at *
          clear he hr
          go_wp2_with (first | (refine wpList_load_row rfl 26 _ rfl G rfl 26 (leafC F) (0, 0) _ HGx.out Try.underlying26 rfl HSF.out ?_) | (refine wpList_store_row rfl 26 _ _ rfl w.heap.size (leafC F) rfl rfl 26 (leafC Pg.nil) HG9.out HSF.out HSZ.out (leafC_one F) ?_))
          (try simp only [Exit.inBlock, Exit.then]); refine bodyPost_ret (results_row rfl Try.underlying26 _ _ w.heap.size (leafC F) rfl (setRow_heap _ _ _ _ _ _ HG9.out) HSF.out) rfl ?_
          exact ⟨by rw [HV.out]; rfl, below_setRow HB9.out (Nat.le_refl _) _⟩
        · have hbeq := str_ne (s := strOfNums (Pg.leaf F)) (t := strOfNums zs) (fun e => he (str_inj HFB.out HA.out.bytes e))
          have HV : Hid (V = .tuple #[.agg (leafC Pg.nil), .bool false]) := by
            have hgot : Pg.gotL zs = false := decide_eq_false fun e => he (by have := e.2.2.2; rw [hFF] at this; exact this)
            show V = _
            rw [HV0.out]
            unfold Pg.tellsL
            rw [hgot]
            rfl
          generalize strOfNums (Pg.leaf F) = Y at *
          generalize strOfNums zs = X at *
          clear he hr
          go_wp2_with (refine wpList_store_row rfl 26 _ _ rfl w.heap.size #[Value.bool false, Value.int .i64 0, Value.int .i64 0, Value.bool false, Value.int .i64 0, Value.int .i64 0, Value.bool false, Value.int .i64 0, Value.int .i64 0, Value.bool false, Value.int .i64 0, Value.int .i64 0, Value.bool false, Value.int .i64 0, Value.int .i64 0, Value.bool false, Value.int .i64 0, Value.int .i64 0, Value.bool false, Value.int .i64 0, Value.int .i64 0] rfl rfl 26 (leafC Pg.nil) HG9.out info_leaf rfl (leafC_one Pg.nil) ?_)
          (try simp only [Exit.inBlock, Exit.then]); refine bodyPost_ret (results_row rfl Try.underlying26 _ _ w.heap.size #[Value.bool false, Value.int .i64 0, Value.int .i64 0, Value.bool false, Value.int .i64 0, Value.int .i64 0, Value.bool false, Value.int .i64 0, Value.int .i64 0, Value.bool false, Value.int .i64 0, Value.int .i64 0, Value.bool false, Value.int .i64 0, Value.int .i64 0, Value.bool false, Value.int .i64 0, Value.int .i64 0, Value.bool false, Value.int .i64 0, Value.int .i64 0] rfl (setRow_heap _ _ _ _ _ _ HG9.out) info_leaf) rfl ?_
          exact ⟨by rw [HV.out]; rfl, below_setRow HB9.out (Nat.le_refl _) _⟩
      · have hr' : Pg.leafR F = false := by simpa using hr
        have HV : Hid (V = .tuple #[.agg (leafC Pg.nil), .bool false]) := by
          have hgot : Pg.gotL zs = false := decide_eq_false fun e => hr (by have := e.2.2.1; rw [hFF] at this; exact this)
          show V = _
          rw [HV0.out]
          unfold Pg.tellsL
          rw [hgot]
          rfl
        rw [hr']
        clear hr hr'
        go_wp2_with (refine wpList_store_row rfl 26 _ _ rfl w.heap.size #[Value.bool false, Value.int .i64 0, Value.int .i64 0, Value.bool false, Value.int .i64 0, Value.int .i64 0, Value.bool false, Value.int .i64 0, Value.int .i64 0, Value.bool false, Value.int .i64 0, Value.int .i64 0, Value.bool false, Value.int .i64 0, Value.int .i64 0, Value.bool false, Value.int .i64 0, Value.int .i64 0, Value.bool false, Value.int .i64 0, Value.int .i64 0] rfl rfl 26 (leafC Pg.nil) HG9.out info_leaf rfl (leafC_one Pg.nil) ?_)
        (try simp only [Exit.inBlock, Exit.then]); refine bodyPost_ret (results_row rfl Try.underlying26 _ _ w.heap.size #[Value.bool false, Value.int .i64 0, Value.int .i64 0, Value.bool false, Value.int .i64 0, Value.int .i64 0, Value.bool false, Value.int .i64 0, Value.int .i64 0, Value.bool false, Value.int .i64 0, Value.int .i64 0, Value.bool false, Value.int .i64 0, Value.int .i64 0, Value.bool false, Value.int .i64 0, Value.int .i64 0, Value.bool false, Value.int .i64 0, Value.int .i64 0] rfl (setRow_heap _ _ _ _ _ _ HG9.out) info_leaf) rfl ?_
        exact ⟨by rw [HV.out]; rfl, below_setRow HB9.out (Nat.le_refl _) _⟩

theorem rgetleaf_any {w : World} {a : Option Addr} {len cap : Nat} {zs : List Int} (hA : Arg .u8 w a len cap zs) (hl : len ≤ 100000) :
    Calls Try.prog 18 #[.slice a len cap] w fun e w' => e = .returned (.tuple #[.agg (leafC (Pg.tellsL zs)), .bool (Pg.gotL zs)]) ∧ Below w.heap.size w w' := by
  by_cases h : Bk.isB zs = true ∧ zs.getD 4 0 = 2
  · exact rgetleaf_leaf hA hl h.1 h.2
  · exact rgetleaf_other hA hl h
end Go.Proofs.Ytjehcgkmapapbaa
