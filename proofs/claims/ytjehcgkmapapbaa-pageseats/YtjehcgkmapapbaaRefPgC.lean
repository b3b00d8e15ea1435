/-
  The document's answers (layer 9): GetFan.
-/
import Derived.Test.YtjehcgkmapapbaaRefPgB
import Derived.Test.YtjehcgkmapapbaaRefNdC
import Derived.Test.YtjehcgkmapapbaaEqRow
import Derived.Laws.ResultCell
import Derived.Laws.Tables
namespace Go.Proofs.Ytjehcgkmapapbaa
set_option linter.unusedVariables false
set_option linter.unusedSimpArgs false
open Go.RowKit

theorem info_fan : (Try.prog.info? 40).map (·.size) = some 16 := by kernel_rfl
theorem info_leaf : (Try.prog.info? 26).map (·.size) = some 21 := by kernel_rfl
theorem byte_of {zs : List Int} (hz : Nums.Bytes zs) (i : Nat) : 0 ≤ zs.getD i 0 ∧ zs.getD i 0 ≤ 255 := by
  rw [List.getD_eq_getElem?_getD]
  by_cases h : i < zs.length
  · rw [List.getElem?_eq_getElem h]
    exact hz _ (List.getElem_mem _)
  · rw [List.getElem?_eq_none (by omega)]
    decide
theorem fan_size {l : List Int} (h : l.length = 16) : (Try.prog.info? 40).map (·.size) = some (blk .i64 l).size := by rw [size_blk, h]; exact info_fan

set_option maxRecDepth 100000 in
set_option maxHeartbeats 2000000 in
theorem rgetfan_other {w : World} {a : Option Addr} {len cap : Nat} {zs : List Int} (hA : Arg .u8 w a len cap zs) (hl : len ≤ 100000) (h : ¬ (Bk.isB zs = true ∧ zs.getD 4 0 = 3)) :
    Calls Try.prog 19 #[.slice a len cap] w fun e w' => e = .returned (.tuple #[.agg (blk .i64 (Pg.tellsF zs)), .bool (Pg.gotF zs)]) ∧ Below w.heap.size w w' := by
  have hg : Pg.gotF zs = false := decide_eq_false fun e => h ⟨e.1, e.2.1⟩
  have ht : Pg.tellsF zs = Pg.nilF := by unfold Pg.tellsF; rw [hg]; rfl
  obtain ⟨V, hV⟩ : ∃ V : Value, V = .tuple #[.agg (blk .i64 (Pg.tellsF zs)), .bool (Pg.gotF zs)] := ⟨_, rfl⟩
  rw [← hV]
  rw [hg, ht] at hV
  have HV := hide hV
  obtain ⟨W, hW⟩ : ∃ W, W = w.alloc (.cells #[Value.int .i64 0, Value.int .i64 0, Value.int .i64 0, Value.int .i64 0, Value.int .i64 0, Value.int .i64 0, Value.int .i64 0, Value.int .i64 0, Value.int .i64 0, Value.int .i64 0, Value.int .i64 0, Value.int .i64 0, Value.int .i64 0, Value.int .i64 0, Value.int .i64 0, Value.int .i64 0] 40) := ⟨_, rfl⟩
  have hb0 : Below w.heap.size w W := by rw [hW]; exact (Below.refl _ _).alloc (Nat.le_refl _) _
  have hg0 : W.heap[w.heap.size]? = some (.cells (blk .i64 Pg.nilF) 40 (0, 0)) := by rw [hW]; exact heap_alloc_new w _
  have HO := hide (ropen_any (hA.below hb0) hl)
  have HB0 := hide hb0
  have HG0 := hide hg0
  have hb4 := byte_of hA.bytes 4
  have hb5 := byte_of hA.bytes 5
  clear hA hg ht hb0 hg0 hV
  by_cases hB : Bk.isB zs = true
  · rw [if_pos hB] at HO
    have h4 : ¬ zs.getD 4 0 = 3 := fun e => h ⟨hB, e⟩
    clear h hB
    generalize zs.getD 4 0 = k at *
    generalize zs.getD 5 0 = t at *
    generalize strOfNums (zs.drop 8) = S at *
    have hk1 : (k != 3) = true := by simpa using h4
    go_enter Try.func19, Try.ntmps19
    go_wp2_with fail
    rw [← hW]
    refine HO.out.mono ?_
    rintro e w1 ⟨rfl, hb1⟩
    have HG9 := hide ((hb1.block _ ((Array.getElem?_eq_some_iff.1 HG0.out).1)).trans HG0.out)
    have HB9 := hide (HB0.out.trans (hb1.mono HB0.out.size))
    clear hb1
    go_wp2_with (refine wpList_store_row rfl 40 _ _ rfl w.heap.size #[Value.int .i64 0, Value.int .i64 0, Value.int .i64 0, Value.int .i64 0, Value.int .i64 0, Value.int .i64 0, Value.int .i64 0, Value.int .i64 0, Value.int .i64 0, Value.int .i64 0, Value.int .i64 0, Value.int .i64 0, Value.int .i64 0, Value.int .i64 0, Value.int .i64 0, Value.int .i64 0] rfl rfl 40 (blk .i64 Pg.nilF) HG9.out info_fan rfl (blk_one .i64 Pg.nilF) ?_)
    (try simp only [Exit.inBlock, Exit.then]); refine bodyPost_ret (results_row rfl Try.underlying40 _ _ w.heap.size #[Value.int .i64 0, Value.int .i64 0, Value.int .i64 0, Value.int .i64 0, Value.int .i64 0, Value.int .i64 0, Value.int .i64 0, Value.int .i64 0, Value.int .i64 0, Value.int .i64 0, Value.int .i64 0, Value.int .i64 0, Value.int .i64 0, Value.int .i64 0, Value.int .i64 0, Value.int .i64 0] rfl (setRow_heap _ _ _ _ _ _ HG9.out) info_fan) rfl ?_
    exact ⟨by rw [HV.out]; rfl, below_setRow HB9.out (Nat.le_refl _) _⟩
  · rw [if_neg hB] at HO
    clear h hB
    go_enter Try.func19, Try.ntmps19
    go_wp2_with fail
    rw [← hW]
    refine HO.out.mono ?_
    rintro e w1 ⟨rfl, hb1⟩
    have HG9 := hide ((hb1.block _ ((Array.getElem?_eq_some_iff.1 HG0.out).1)).trans HG0.out)
    have HB9 := hide (HB0.out.trans (hb1.mono HB0.out.size))
    clear hb1
    go_wp2_with (refine wpList_store_row rfl 40 _ _ rfl w.heap.size #[Value.int .i64 0, Value.int .i64 0, Value.int .i64 0, Value.int .i64 0, Value.int .i64 0, Value.int .i64 0, Value.int .i64 0, Value.int .i64 0, Value.int .i64 0, Value.int .i64 0, Value.int .i64 0, Value.int .i64 0, Value.int .i64 0, Value.int .i64 0, Value.int .i64 0, Value.int .i64 0] rfl rfl 40 (blk .i64 Pg.nilF) HG9.out info_fan rfl (blk_one .i64 Pg.nilF) ?_)
    (try simp only [Exit.inBlock, Exit.then]); refine bodyPost_ret (results_row rfl Try.underlying40 _ _ w.heap.size #[Value.int .i64 0, Value.int .i64 0, Value.int .i64 0, Value.int .i64 0, Value.int .i64 0, Value.int .i64 0, Value.int .i64 0, Value.int .i64 0, Value.int .i64 0, Value.int .i64 0, Value.int .i64 0, Value.int .i64 0, Value.int .i64 0, Value.int .i64 0, Value.int .i64 0, Value.int .i64 0] rfl (setRow_heap _ _ _ _ _ _ HG9.out) info_fan) rfl ?_
    exact ⟨by rw [HV.out]; rfl, below_setRow HB9.out (Nat.le_refl _) _⟩

set_option maxRecDepth 100000 in
set_option maxHeartbeats 4000000 in
theorem rgetfan_fan {w : World} {a : Option Addr} {len cap : Nat} {zs : List Int} (hA : Arg .u8 w a len cap zs) (hl : len ≤ 100000) (hB : Bk.isB zs = true) (h4 : zs.getD 4 0 = 3) :
    Calls Try.prog 19 #[.slice a len cap] w fun e w' => e = .returned (.tuple #[.agg (blk .i64 (Pg.tellsF zs)), .bool (Pg.gotF zs)]) ∧ Below w.heap.size w w' := by
  have hz := hA.bytes
  have hzl : zs.length = 64 := (of_decide_eq_true hB).1
  have hb5 := byte_of hz 5
  obtain ⟨V, hV⟩ : ∃ V : Value, V = .tuple #[.agg (blk .i64 (Pg.tellsF zs)), .bool (Pg.gotF zs)] := ⟨_, rfl⟩
  rw [← hV]
  have HV0 := hide hV
  obtain ⟨s, hs⟩ : ∃ s, s = zs.drop 8 := ⟨_, rfl⟩
  have hsz : Nums.Bytes s := by rw [hs]; exact Nums.bytes_drop hz 8
  have hsl : s.length = 56 := by rw [hs]; simp; omega
  obtain ⟨W, hW⟩ : ∃ W, W = w.alloc (.cells #[Value.int .i64 0, Value.int .i64 0, Value.int .i64 0, Value.int .i64 0, Value.int .i64 0, Value.int .i64 0, Value.int .i64 0, Value.int .i64 0, Value.int .i64 0, Value.int .i64 0, Value.int .i64 0, Value.int .i64 0, Value.int .i64 0, Value.int .i64 0, Value.int .i64 0, Value.int .i64 0] 40) := ⟨_, rfl⟩
  have hb0 : Below w.heap.size w W := by rw [hW]; exact (Below.refl _ _).alloc (Nat.le_refl _) _
  have hg0 : W.heap[w.heap.size]? = some (.cells (blk .i64 Pg.nilF) 40 (0, 0)) := by rw [hW]; exact heap_alloc_new w _
  have hO := ropen_any (hA.below hb0) hl
  rw [if_pos hB, h4, ← hs] at hO
  have HT : Hid (Pg.toldF zs = Pg.fanTo s 16) := by
    show Pg.toldF zs = _
    unfold Pg.toldF
    rw [← hs]
  have HPK := hide (fun W j => piece W s hsz (2 * j) 2 (by decide))
  have hSz := size_str s
  rw [hsl] at hSz
  have HO := hide hO
  have HB0 := hide hb0
  have HG0 := hide hg0
  have HGG : Hid (Bk.isB zs = true ∧ zs.getD 4 0 = 3) := ⟨hB, h4⟩
  have HA := hide hA
  generalize strOfNums s = S at *
  generalize zs.getD 5 0 = t at *
  clear hA hO hb0 hg0 hB h4 hzl hs hsz hsl hz hV
  go_enter Try.func19, Try.ntmps19
  go_wp2_with fail
  rw [← hW]
  refine HO.out.mono ?_
  rintro e w1 ⟨rfl, hb1⟩
  have HG1 := hide ((hb1.block _ ((Array.getElem?_eq_some_iff.1 HG0.out).1)).trans HG0.out)
  have HB1 := hide (HB0.out.trans (hb1.mono HB0.out.size))
  clear hb1
  go_wp2_with fail
  obtain ⟨G, hG⟩ : ∃ G, G = w1.heap.size := ⟨_, rfl⟩
  have HGW : Hid (w.heap.size < G) := by show _ < _; rw [hG]; exact (Array.getElem?_eq_some_iff.1 HG1.out).1
  rw [← hG]
  have HGE := hide hG
  clear hG
  go_loopw [9] (fun i wr => ∃ j : Nat, j ≤ 16 ∧ i = .int .i64 j ∧ wr.heap[G]? = some (.cells (blk .i64 (Pg.fanTo s j ++ List.replicate (16 - j) 0)) 40 (0, 0)) ∧ Below G w1 wr) (fun i _ => 16 - (intOf i).toNat)
  case atStart => exact ⟨0, Nat.zero_le _, rfl, by rw [HGE.out]; exact heap_alloc_new w1 _, by rw [HGE.out]; exact (Below.refl _ _).alloc (Nat.le_refl _) _⟩
  case round =>
    obtain ⟨j, hj, rfl, hgr, hbr⟩ := hrel
    have HGR := hide hgr
    have HBR := hide hbr
    have hGlt : G < wr.heap.size := (Array.getElem?_eq_some_iff.1 hgr).1
    by_cases hlt : j < 16
    · have hjI : (j : Int) < 16 := by omega
      obtain ⟨cj, fj⟩ := cell_blk hgr (i := j) (by simp [Pg.fanTo]; omega)
      have HPJ := hide (HPK.out wr j)
      have HFS := hide (Pg.fanTo_succ s j)
      obtain ⟨xj, hxj⟩ : ∃ x, Nums.rd ((s.drop (2 * j)).take 2) = x := ⟨_, rfl⟩
      rw [hxj] at HPJ HFS
      obtain ⟨Sj, hSj⟩ : ∃ x, S.extract (2 * j) (2 * j + 2) = x := ⟨_, rfl⟩
      rw [hSj] at HPJ
      have w1' : IntKind.i64.wrap (2 * (j : Int)) = 2 * (j : Int) := by rw [IntKind.wrap_i64]; omega
      have w2' : IntKind.i64.wrap (2 * (j : Int) + 2) = 2 * (j : Int) + 2 := by rw [IntKind.wrap_i64]; omega
      have n1' : (2 * (j : Int)).toNat = 2 * j := by omega
      have n2' : (2 * (j : Int) + 2).toNat = 2 * j + 2 := by omega
      have p1' : (0 : Int) ≤ 2 * (j : Int) := by omega
      have q2' : (2 * (j : Int)) ≤ 2 * (j : Int) + 2 := by omega
      have q3' : (2 * (j : Int) + 2) ≤ 56 := by omega
      have q4' : 2 * j + 2 ≤ 56 := by omega
      have HST : Hid ((Pg.fanTo s j ++ List.replicate (16 - j) 0).set j xj = Pg.fanTo s (j + 1) ++ List.replicate (16 - (j + 1)) 0) := by
        show _ = _
        rw [HFS.out]
        obtain ⟨m, hm⟩ : ∃ m, 16 - j = m + 1 := ⟨16 - j - 1, by omega⟩
        rw [hm, show 16 - (j + 1) = m by omega, List.replicate_succ]
        have hlj : (Pg.fanTo s j).length = j := by simp [Pg.fanTo]
        rw [List.set_append_right _ _ (by omega), hlj]
        simp
      generalize (Pg.fanTo s j ++ List.replicate (16 - j) 0).getD j 0 = old at cj
      clear hgr hbr hxj
      go_wp2_with fail
      refine HPJ.out.mono ?_
      rintro e w5 ⟨rfl, hw5⟩
      obtain rfl := hw5.symm
      go_wp2_with fail
      go_roundw
      case rel => exact ⟨j + 1, by omega, by go_num, by rw [heap_set HGR.out, blk_set, HST.out], HBR.out.setCell (p := ⟨G, j, none⟩) (Nat.le_refl G) _⟩
      case measure => simp [intOf]; omega
    · have hjI : ¬ (j : Int) < 16 := by omega
      obtain rfl : j = 16 := by omega
      have hFl : (Pg.fanTo s 16).length = 16 := by simp [Pg.fanTo]
      have hgF : wr.heap[G]? = some (.cells (blk .i64 (Pg.fanTo s 16)) 40 (0, 0)) := by
        have := hgr
        rw [Nat.sub_self, List.replicate_zero, List.append_nil] at this
        exact this
      have HGx0 := hide hgF
      have HG9a : Hid (wr.heap[w.heap.size]? = some (.cells (blk .i64 Pg.nilF) 40 (0, 0))) := (hbr.block _ HGW.out).trans HG1.out
      have HBw : Hid (Below w.heap.size w wr) := HB1.out.trans (hbr.mono (Nat.le_of_lt HGW.out))
      have HLF := hide (rfan_any (Pg.fanTo s 16) wr hFl)
      have HSF := hide (fan_size hFl)
      have HSZ : Hid ((blk .i64 Pg.nilF).size = (blk .i64 (Pg.fanTo s 16)).size) := by show _ = _; rw [size_blk, size_blk, hFl]; rfl
      have HFB := hide (Pg.fan_bytes hFl)
      have HFF := hide hFl
      clear hgr hbr hgF
      rw [← HT.out] at *
      generalize hFF : Pg.toldF zs = F at *
      go_wp2_with (refine wpList_load_row rfl 40 _ rfl G rfl 40 (blk .i64 F) (0, 0) _ HGx0.out Try.underlying40 rfl HSF.out ?_)
      refine HLF.out.mono ?_
      rintro e w5 ⟨rfl, hb5'⟩
      have HG9 := hide ((hb5'.block _ (Nat.lt_trans HGW.out hGlt)).trans HG9a.out)
      have HGx := hide ((hb5'.block _ hGlt).trans HGx0.out)
      have HB9 := hide (HBw.out.trans (hb5'.mono HBw.out.size))
      have hcv := conv_bytes cap (HA.out.2.2.1.below HB9.out)
      clear hb5'
      by_cases hr : Pg.fanR F = true
      · rw [hr, if_pos rfl]
        by_cases he : Pg.fan F = zs
        · have HV : Hid (V = .tuple #[.agg (blk .i64 F), .bool true]) := by
            have hgot : Pg.gotF zs = true := decide_eq_true ⟨HGG.out.1, HGG.out.2, by rw [hFF]; exact hr, by rw [hFF]; exact he⟩
            show V = _
            rw [HV0.out]
            unfold Pg.tellsF
            rw [hgot, if_pos rfl, hFF]
          rw [he]
          generalize strOfNums zs = X at *
          clear he hr
          go_wp2_with (first | (refine wpList_load_row rfl 40 _ rfl G rfl 40 (blk .i64 F) (0, 0) _ HGx.out Try.underlying40 rfl HSF.out ?_) | (refine wpList_store_row rfl 40 _ _ rfl w.heap.size (blk .i64 F) rfl rfl 40 (blk .i64 Pg.nilF) HG9.out HSF.out HSZ.out (blk_one .i64 F) ?_))
          (try simp only [Exit.inBlock, Exit.then]); refine bodyPost_ret (results_row rfl Try.underlying40 _ _ w.heap.size (blk .i64 F) rfl (setRow_heap _ _ _ _ _ _ HG9.out) HSF.out) rfl ?_
          exact ⟨by rw [HV.out]; rfl, below_setRow HB9.out (Nat.le_refl _) _⟩
        · have hbeq := str_ne (s := strOfNums (Pg.fan F)) (t := strOfNums zs) (fun e => he (str_inj HFB.out HA.out.bytes e))
          have HV : Hid (V = .tuple #[.agg (blk .i64 Pg.nilF), .bool false]) := by
            have hgot : Pg.gotF zs = false := decide_eq_false fun e => he (by have := e.2.2.2; rw [hFF] at this; exact this)
            show V = _
            rw [HV0.out]
            unfold Pg.tellsF
            rw [hgot]
            rfl
          generalize strOfNums (Pg.fan F) = Y at *
          generalize strOfNums zs = X at *
          clear he hr
          go_wp2_with (refine wpList_store_row rfl 40 _ _ rfl w.heap.size #[Value.int .i64 0, Value.int .i64 0, Value.int .i64 0, Value.int .i64 0, Value.int .i64 0, Value.int .i64 0, Value.int .i64 0, Value.int .i64 0, Value.int .i64 0, Value.int .i64 0, Value.int .i64 0, Value.int .i64 0, Value.int .i64 0, Value.int .i64 0, Value.int .i64 0, Value.int .i64 0] rfl rfl 40 (blk .i64 Pg.nilF) HG9.out info_fan rfl (blk_one .i64 Pg.nilF) ?_)
          (try simp only [Exit.inBlock, Exit.then]); refine bodyPost_ret (results_row rfl Try.underlying40 _ _ w.heap.size #[Value.int .i64 0, Value.int .i64 0, Value.int .i64 0, Value.int .i64 0, Value.int .i64 0, Value.int .i64 0, Value.int .i64 0, Value.int .i64 0, Value.int .i64 0, Value.int .i64 0, Value.int .i64 0, Value.int .i64 0, Value.int .i64 0, Value.int .i64 0, Value.int .i64 0, Value.int .i64 0] rfl (setRow_heap _ _ _ _ _ _ HG9.out) info_fan) rfl ?_
          exact ⟨by rw [HV.out]; rfl, below_setRow HB9.out (Nat.le_refl _) _⟩
      · have hr' : Pg.fanR F = false := by simpa using hr
        have HV : Hid (V = .tuple #[.agg (blk .i64 Pg.nilF), .bool false]) := by
          have hgot : Pg.gotF zs = false := decide_eq_false fun e => hr (by have := e.2.2.1; rw [hFF] at this; exact this)
          show V = _
          rw [HV0.out]
          unfold Pg.tellsF
          rw [hgot]
          rfl
        rw [hr']
        clear hr hr'
        go_wp2_with (refine wpList_store_row rfl 40 _ _ rfl w.heap.size #[Value.int .i64 0, Value.int .i64 0, Value.int .i64 0, Value.int .i64 0, Value.int .i64 0, Value.int .i64 0, Value.int .i64 0, Value.int .i64 0, Value.int .i64 0, Value.int .i64 0, Value.int .i64 0, Value.int .i64 0, Value.int .i64 0, Value.int .i64 0, Value.int .i64 0, Value.int .i64 0] rfl rfl 40 (blk .i64 Pg.nilF) HG9.out info_fan rfl (blk_one .i64 Pg.nilF) ?_)
        (try simp only [Exit.inBlock, Exit.then]); refine bodyPost_ret (results_row rfl Try.underlying40 _ _ w.heap.size #[Value.int .i64 0, Value.int .i64 0, Value.int .i64 0, Value.int .i64 0, Value.int .i64 0, Value.int .i64 0, Value.int .i64 0, Value.int .i64 0, Value.int .i64 0, Value.int .i64 0, Value.int .i64 0, Value.int .i64 0, Value.int .i64 0, Value.int .i64 0, Value.int .i64 0, Value.int .i64 0] rfl (setRow_heap _ _ _ _ _ _ HG9.out) info_fan) rfl ?_
        exact ⟨by rw [HV.out]; rfl, below_setRow HB9.out (Nat.le_refl _) _⟩

theorem rgetfan_any {w : World} {a : Option Addr} {len cap : Nat} {zs : List Int} (hA : Arg .u8 w a len cap zs) (hl : len ≤ 100000) :
    Calls Try.prog 19 #[.slice a len cap] w fun e w' => e = .returned (.tuple #[.agg (blk .i64 (Pg.tellsF zs)), .bool (Pg.gotF zs)]) ∧ Below w.heap.size w w' := by
  by_cases h : Bk.isB zs = true ∧ zs.getD 4 0 = 3
  · exact rgetfan_fan hA hl h.1 h.2
  · exact rgetfan_other hA hl h
end Go.Proofs.Ytjehcgkmapapbaa
