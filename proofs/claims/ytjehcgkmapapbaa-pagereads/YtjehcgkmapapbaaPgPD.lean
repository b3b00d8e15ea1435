/-
  page.GetLeaf: what it answers.
-/
import Derived.Test.YtjehcgkmapapbaaPgPC
import Derived.Test.YtjehcgkmapapbaaPgMore
namespace Go.Proofs.Ytjehcgkmapapbaa
set_option linter.unusedVariables false
set_option linter.unusedSimpArgs false
open Go.RowKit

theorem and_one_i64 (t j : Nat) (ht : t ≤ 255) : (bits .and .i64 ((t : Int) / (2 : Int) ^ j) 1 == 1) = decide (t / 2 ^ j % 2 = 1) := by
  have hq : t / 2 ^ j ≤ t := Nat.div_le_self _ _
  rw [show ((t : Int) / (2 : Int) ^ j) = ((t / 2 ^ j : Nat) : Int) by rw [show ((2 : Int) ^ j) = ((2 ^ j : Nat) : Int) from (Int.natCast_pow 2 j).symm]; rfl]
  generalize t / 2 ^ j = q at *
  have h1 : bits .and .i64 (q : Int) 1 = ((q % 2 : Nat) : Int) := by
    show IntKind.i64.wrap ((BitVec.ofInt 64 (q : Int) &&& BitVec.ofInt 64 1).toNat : Int) = _
    rw [BitVec.toNat_and, ofInt_u64 q (by omega), show (BitVec.ofInt 64 1).toNat = 1 by decide, Nat.and_one_is_mod, IntKind.wrap_i64]
    omega
  rw [h1, Bool.eq_iff_iff]
  simp
  omega
theorem rd_word4 {zs : List Int} (hz : Nums.Bytes zs) (p : Nat) : 0 ≤ Nums.rd ((zs.drop p).take 4) ∧ Nums.rd ((zs.drop p).take 4) < 4294967296 := by
  have h := Nums.rd_bounds _ (Nums.bytes_take (Nums.bytes_drop hz p) 4)
  have hq : (256 : Int) ^ ((zs.drop p).take 4).length ≤ 256 ^ 4 := by
    rw [show (256 : Int) ^ ((zs.drop p).take 4).length = ((256 ^ ((zs.drop p).take 4).length : Nat) : Int) from (Int.natCast_pow 256 _).symm, show (256 : Int) ^ 4 = ((256 ^ 4 : Nat) : Int) from rfl]
    exact Int.ofNat_le.2 (Nat.pow_le_pow_right (by decide) (by simp; omega))
  have e : (256 : Int) ^ 4 = 4294967296 := by decide
  omega

set_option maxRecDepth 100000 in
set_option maxHeartbeats 2000000 in
theorem preadleaf_any {w : World} {a : Option Addr} {cap : Nat} {s : List Int} (hA : Arg .u8 w a 56 cap s) (t : Nat) (ht : t ≤ 255) :
    Calls Try.prog 29 #[.int .i64 t, .slice a 56 cap] w fun e w' => e = .returned (.agg (leafC (Pg.leafTo s t 7))) ∧ Below w.heap.size w w' := by
  have hz := hA.bytes
  have HA := hide hA
  have HGT := hide (fun (W : World) (p : Nat) (hp : p + 4 ≤ 56) (hb : Below w.heap.size w W) => get_yes a 56 cap p 4 s W (by unfold maxLen; decide) hA.1 (hA.2.2.1.below hb) hz (by decide) (by decide) hp)
  rw [show ((4 : Nat) : Int) = 4 from rfl] at HGT
  obtain ⟨X, hX⟩ : ∃ X, X = w.alloc (.cells (leafC Pg.nil) 26) := ⟨_, rfl⟩
  have hbX : Below w.heap.size w X := by rw [hX]; exact (Below.refl _ _).alloc (Nat.le_refl _) _
  have hgX : X.heap[w.heap.size]? = some (.cells (leafC Pg.nil) 26 (0, 0)) := by rw [hX]; exact heap_alloc_new w _
  have HBX := hide hbX
  have HGX := hide hgX
  have hXs : X.heap.size = w.heap.size + 1 := by rw [hX]; simp
  have HX := hide hX
  clear hA hX hbX hgX
  go_enter Try.func29, Try.ntmps29
  go_wp2_with fail
  rw [show w.alloc (.cells #[Value.bool false, Value.int .i64 0, Value.int .i64 0, Value.bool false, Value.int .i64 0, Value.int .i64 0, Value.bool false, Value.int .i64 0, Value.int .i64 0, Value.bool false, Value.int .i64 0, Value.int .i64 0, Value.bool false, Value.int .i64 0, Value.int .i64 0, Value.bool false, Value.int .i64 0, Value.int .i64 0, Value.bool false, Value.int .i64 0, Value.int .i64 0] 26) = X from HX.out.symm]
  obtain ⟨G, hG⟩ : ∃ G, G = w.heap.size + 1 := ⟨_, rfl⟩
  rw [← hG]
  have HGE : Hid (X.heap.size = G) := hXs.trans hG.symm
  have HGW : Hid (w.heap.size < G) := by show _ < _; omega
  clear hG hXs
  go_loopw [11] (fun i wr => ∃ j : Nat, j ≤ 7 ∧ i = .int .i64 j ∧ wr.heap[G]? = some (.cells (leafC (Pg.leafTo s t j ++ List.replicate (7 - j) ⟨false, 0, 0⟩)) 26 (0, 0)) ∧ Below G X wr) (fun i _ => 7 - (intOf i).toNat)
  case atStart => exact ⟨0, Nat.zero_le _, rfl, by rw [← HGE.out]; exact heap_alloc_new X _, by rw [← HGE.out]; exact (Below.refl _ _).alloc (Nat.le_refl _) _⟩
  case round =>
    obtain ⟨j, hj, rfl, hgr, hbr⟩ := hrel
    have HGR := hide hgr
    have HBR := hide hbr
    have hGlt : G < wr.heap.size := (Array.getElem?_eq_some_iff.1 hgr).1
    by_cases hlt : j < 7
    · have hjI : (j : Int) < 7 := by omega
      obtain ⟨c0, c1, c2⟩ := boxed_leaf hgr (j := j) (by simp [Pg.leafTo]; omega)
      have f0 : wr.frozen? ⟨G, j * 3, none⟩ = false := by simp [World.frozen?, hgr]
      have f1 : wr.frozen? ⟨G, j * 3 + 1, none⟩ = false := by simp [World.frozen?, hgr]
      have f2 : wr.frozen? ⟨G, j * 3 + 2, none⟩ = false := by simp [World.frozen?, hgr]
      have hBW : Below w.heap.size w wr := HBX.out.trans (hbr.mono (Nat.le_of_lt HGW.out))
      have HG1 := hide (HGT.out wr (8 * j) (by omega) hBW)
      have HG2 := hide (HGT.out wr (8 * j + 4) (by omega) hBW)
      rw [show ((8 * j : Nat) : Int) = 8 * (j : Int) by omega] at HG1
      rw [show ((8 * j + 4 : Nat) : Int) = 8 * (j : Int) + 4 by omega] at HG2
      have w1' : IntKind.i64.wrap ((j : Int) * 8) = 8 * (j : Int) := by rw [IntKind.wrap_i64]; omega
      have w2' : IntKind.i64.wrap (8 * (j : Int) + 4) = 8 * (j : Int) + 4 := by rw [IntKind.wrap_i64]; omega
      have hx1 := rd_word4 hz (8 * j)
      have hx2 := rd_word4 hz (8 * j + 4)
      have HLS := hide (leaf_snoc s t j hlt _ rfl)
      unfold Pg.seatAt at HLS
      generalize Nums.rd ((s.drop (8 * j)).take 4) = xj at *
      generalize Nums.rd ((s.drop (8 * j + 4)).take 4) = yj at *
      have v1' : IntKind.i64.wrap xj = xj := by rw [IntKind.wrap_i64]; omega
      have v2' : IntKind.i64.wrap yj = yj := by rw [IntKind.wrap_i64]; omega
      generalize (Pg.leafTo s t j ++ List.replicate (7 - j) ⟨false, 0, 0⟩)[j]'_ = old at c0 c1 c2
      clear hgr hbr hBW hx1 hx2
      go_wp2_with fail
      refine HG1.out.mono ?_
      rintro e w5 ⟨rfl, hw5⟩
      obtain rfl := hw5.symm
      go_wp2_with fail
      refine HG2.out.mono ?_
      rintro e w6 ⟨rfl, hw6⟩
      obtain rfl := hw6.symm
      go_wp2_with fail
      go_roundw
      case rel =>
        refine ⟨j + 1, by omega, by go_num, ?_, ((HBR.out.setCell (p := ⟨G, j * 3, none⟩) (Nat.le_refl G) _).setCell (p := ⟨G, j * 3 + 1, none⟩) (Nat.le_refl G) _).setCell (p := ⟨G, j * 3 + 2, none⟩) (Nat.le_refl G) _⟩
        rw [heap_set (heap_set (heap_set HGR.out _ _) _ _) _ _, ← HLS.out, and_one_i64 t j ht]
        exact congrArg (fun c => some (Obj.cells c 26 (0, 0))) (leafC_set _ j ⟨decide (t / 2 ^ j % 2 = 1), xj, yj⟩)
      case measure => simp [intOf]; omega
    · have hjI : ¬ (j : Int) < 7 := by omega
      obtain rfl : j = 7 := by omega
      have hFl : (Pg.leafTo s t 7).length = 7 := by simp [Pg.leafTo]
      have hgF : wr.heap[G]? = some (.cells (leafC (Pg.leafTo s t 7)) 26 (0, 0)) := by
        have := hgr
        rw [Nat.sub_self, List.replicate_zero, List.append_nil] at this
        exact this
      have HGx := hide hgF
      have HG9 : Hid (wr.heap[w.heap.size]? = some (.cells (leafC Pg.nil) 26 (0, 0))) := (hbr.block _ HGW.out).trans HGX.out
      have HB9 : Hid (Below w.heap.size w wr) := HBX.out.trans (hbr.mono (Nat.le_of_lt HGW.out))
      have HSF := hide (leaf_size hFl)
      have HSZ : Hid ((leafC Pg.nil).size = (leafC (Pg.leafTo s t 7)).size) := by show _ = _; rw [leafC_size, leafC_size, hFl]; rfl
      clear hgr hbr hgF
      generalize hFF : Pg.leafTo s t 7 = F at *
      have HFF := hide hFF
      clear hFF
      go_wp2_with (first | (refine wpList_load_row rfl 26 _ rfl G rfl 26 (leafC F) (0, 0) _ HGx.out Try.underlying26 rfl HSF.out ?_) | (refine wpList_store_row rfl 26 _ _ rfl w.heap.size (leafC F) rfl rfl 26 (leafC Pg.nil) HG9.out HSF.out HSZ.out (leafC_one F) ?_))
      (try simp only [Exit.inBlock, Exit.then]); refine bodyPost_ret (results_cell_row rfl _ _ w.heap.size 26 (leafC F) (0, 0) _ rfl (setRow_heap _ _ _ _ _ _ HG9.out) Try.underlying26 rfl HSF.out) rfl ?_
      exact ⟨by rw [HFF.out], below_setRow HB9.out (Nat.le_refl _) _⟩

set_option maxRecDepth 100000 in
set_option maxHeartbeats 2000000 in
theorem getleaf_other {w : World} {a : Option Addr} {len cap : Nat} {zs : List Int} (hA : Arg .u8 w a len cap zs) (hl : len ≤ 1000) (h : ¬ (Bk.isB zs = true ∧ zs.getD 4 0 = 2 ∧ zs.getD 5 0 < 128)) :
    Calls Try.prog 12 #[.slice a len cap] w fun e w' => e = .returned (.tuple #[.agg (leafC (Pg.tellsL zs)), .bool (Pg.gotL zs)]) ∧ Below w.heap.size w w' := by
  have hg : Pg.gotL zs = false := decide_eq_false fun e => h ⟨e.1, e.2.1, by
    have h5 := (Bk.shut_parts (k := 2) (t := ((Pg.tag (Pg.told zs) : Nat) : Int)) (body := Pg.seatsB (Pg.told zs))).2.1
    have h7 := Pg.tag_lt (Pg.told zs)
    rw [Pg.told_length] at h7
    have h8 := e.2.2.2
    unfold Pg.leaf at h8
    rw [h8] at h5
    omega⟩
  have ht : Pg.tellsL zs = Pg.nil := by unfold Pg.tellsL; rw [hg]; rfl
  obtain ⟨V, hV⟩ : ∃ V : Value, V = .tuple #[.agg (leafC (Pg.tellsL zs)), .bool (Pg.gotL zs)] := ⟨_, rfl⟩
  rw [← hV]
  rw [hg, ht] at hV
  have HV := hide hV
  obtain ⟨W, hW⟩ : ∃ W, W = w.alloc (.cells #[Value.bool false, Value.int .i64 0, Value.int .i64 0, Value.bool false, Value.int .i64 0, Value.int .i64 0, Value.bool false, Value.int .i64 0, Value.int .i64 0, Value.bool false, Value.int .i64 0, Value.int .i64 0, Value.bool false, Value.int .i64 0, Value.int .i64 0, Value.bool false, Value.int .i64 0, Value.int .i64 0, Value.bool false, Value.int .i64 0, Value.int .i64 0] 26) := ⟨_, rfl⟩
  have hb0 : Below w.heap.size w W := by rw [hW]; exact (Below.refl _ _).alloc (Nat.le_refl _) _
  have hg0 : W.heap[w.heap.size]? = some (.cells (leafC Pg.nil) 26 (0, 0)) := by rw [hW]; exact heap_alloc_new w _
  have HB0 := hide hb0
  have HG0 := hide hg0
  have hb4 := byte_of hA.bytes 4
  have hb5 := byte_of hA.bytes 5
  by_cases hB : Bk.isB zs = true
  · have HO := hide (bopen_yes (hA.below hb0) hl hB)
    by_cases h4 : zs.getD 4 0 = 2
    · have h5 : ¬ zs.getD 5 0 < 128 := fun e => h ⟨hB, h4, e⟩
      rw [h4] at HO
      clear hA hg ht hb0 hg0 hV h hB h4 hb4
      generalize zs.getD 5 0 = t at *
      generalize zs.drop 8 = S at *
      have h5' : (128 : Int) ≤ t := by omega
      clear h5
      go_enter Try.func12, Try.ntmps12
      go_wp2_with fail
      rw [← hW]
      refine HO.out.mono ?_
      rintro e w1 ⟨a', c', rfl, hA', hb1⟩
      have HG9 := hide ((hb1.block _ ((Array.getElem?_eq_some_iff.1 HG0.out).1)).trans HG0.out)
      have HB9 := hide (HB0.out.trans (hb1.mono HB0.out.size))
      clear hb1 hA' hW
      go_wp2_with (refine wpList_store_row rfl 26 _ _ rfl w.heap.size #[Value.bool false, Value.int .i64 0, Value.int .i64 0, Value.bool false, Value.int .i64 0, Value.int .i64 0, Value.bool false, Value.int .i64 0, Value.int .i64 0, Value.bool false, Value.int .i64 0, Value.int .i64 0, Value.bool false, Value.int .i64 0, Value.int .i64 0, Value.bool false, Value.int .i64 0, Value.int .i64 0, Value.bool false, Value.int .i64 0, Value.int .i64 0] rfl rfl 26 (leafC Pg.nil) HG9.out info_leaf rfl (leafC_one Pg.nil) ?_)
      (try simp only [Exit.inBlock, Exit.then]); refine bodyPost_ret (results_row rfl Try.underlying26 _ _ w.heap.size #[Value.bool false, Value.int .i64 0, Value.int .i64 0, Value.bool false, Value.int .i64 0, Value.int .i64 0, Value.bool false, Value.int .i64 0, Value.int .i64 0, Value.bool false, Value.int .i64 0, Value.int .i64 0, Value.bool false, Value.int .i64 0, Value.int .i64 0, Value.bool false, Value.int .i64 0, Value.int .i64 0, Value.bool false, Value.int .i64 0, Value.int .i64 0] rfl (setRow_heap _ _ _ _ _ _ HG9.out) info_leaf) rfl ?_
      exact ⟨by rw [HV.out]; rfl, below_setRow HB9.out (Nat.le_refl _) _⟩
    · clear hA hg ht hb0 hg0 hV h hB
      generalize zs.getD 4 0 = k at *
      generalize zs.getD 5 0 = t at *
      generalize zs.drop 8 = S at *
      have hk1 : (k != 2) = true := by simpa using h4
      go_enter Try.func12, Try.ntmps12
      go_wp2_with fail
      rw [← hW]
      refine HO.out.mono ?_
      rintro e w1 ⟨a', c', rfl, hA', hb1⟩
      have HG9 := hide ((hb1.block _ ((Array.getElem?_eq_some_iff.1 HG0.out).1)).trans HG0.out)
      have HB9 := hide (HB0.out.trans (hb1.mono HB0.out.size))
      clear hb1 hA' hW
      go_wp2_with (refine wpList_store_row rfl 26 _ _ rfl w.heap.size #[Value.bool false, Value.int .i64 0, Value.int .i64 0, Value.bool false, Value.int .i64 0, Value.int .i64 0, Value.bool false, Value.int .i64 0, Value.int .i64 0, Value.bool false, Value.int .i64 0, Value.int .i64 0, Value.bool false, Value.int .i64 0, Value.int .i64 0, Value.bool false, Value.int .i64 0, Value.int .i64 0, Value.bool false, Value.int .i64 0, Value.int .i64 0] rfl rfl 26 (leafC Pg.nil) HG9.out info_leaf rfl (leafC_one Pg.nil) ?_)
      (try simp only [Exit.inBlock, Exit.then]); refine bodyPost_ret (results_row rfl Try.underlying26 _ _ w.heap.size #[Value.bool false, Value.int .i64 0, Value.int .i64 0, Value.bool false, Value.int .i64 0, Value.int .i64 0, Value.bool false, Value.int .i64 0, Value.int .i64 0, Value.bool false, Value.int .i64 0, Value.int .i64 0, Value.bool false, Value.int .i64 0, Value.int .i64 0, Value.bool false, Value.int .i64 0, Value.int .i64 0, Value.bool false, Value.int .i64 0, Value.int .i64 0] rfl (setRow_heap _ _ _ _ _ _ HG9.out) info_leaf) rfl ?_
      exact ⟨by rw [HV.out]; rfl, below_setRow HB9.out (Nat.le_refl _) _⟩
  · have hBf : Bk.isB zs = false := by simpa using hB
    have HO := hide (bopen_no (hA.below hb0) hl hBf)
    clear hA hg ht hb0 hg0 hV h hB hBf
    go_enter Try.func12, Try.ntmps12
    go_wp2_with fail
    rw [← hW]
    refine HO.out.mono ?_
    rintro e w1 ⟨rfl, hb1⟩
    have HG9 := hide ((hb1.block _ ((Array.getElem?_eq_some_iff.1 HG0.out).1)).trans HG0.out)
    have HB9 := hide (HB0.out.trans (hb1.mono HB0.out.size))
    clear hb1 hW
    go_wp2_with (refine wpList_store_row rfl 26 _ _ rfl w.heap.size #[Value.bool false, Value.int .i64 0, Value.int .i64 0, Value.bool false, Value.int .i64 0, Value.int .i64 0, Value.bool false, Value.int .i64 0, Value.int .i64 0, Value.bool false, Value.int .i64 0, Value.int .i64 0, Value.bool false, Value.int .i64 0, Value.int .i64 0, Value.bool false, Value.int .i64 0, Value.int .i64 0, Value.bool false, Value.int .i64 0, Value.int .i64 0] rfl rfl 26 (leafC Pg.nil) HG9.out info_leaf rfl (leafC_one Pg.nil) ?_)
    (try simp only [Exit.inBlock, Exit.then]); refine bodyPost_ret (results_row rfl Try.underlying26 _ _ w.heap.size #[Value.bool false, Value.int .i64 0, Value.int .i64 0, Value.bool false, Value.int .i64 0, Value.int .i64 0, Value.bool false, Value.int .i64 0, Value.int .i64 0, Value.bool false, Value.int .i64 0, Value.int .i64 0, Value.bool false, Value.int .i64 0, Value.int .i64 0, Value.bool false, Value.int .i64 0, Value.int .i64 0, Value.bool false, Value.int .i64 0, Value.int .i64 0] rfl (setRow_heap _ _ _ _ _ _ HG9.out) info_leaf) rfl ?_
    exact ⟨by rw [HV.out]; rfl, below_setRow HB9.out (Nat.le_refl _) _⟩

set_option maxRecDepth 100000 in
set_option maxHeartbeats 4000000 in
theorem getleaf_leaf {w : World} {a : Option Addr} {len cap : Nat} {zs : List Int} (hA : Arg .u8 w a len cap zs) (hl : len ≤ 1000) (hB : Bk.isB zs = true) (h4 : zs.getD 4 0 = 2) {t : Nat} (h5 : zs.getD 5 0 = (t : Int)) (ht : t < 128) :
    Calls Try.prog 12 #[.slice a len cap] w fun e w' => e = .returned (.tuple #[.agg (leafC (Pg.tellsL zs)), .bool (Pg.gotL zs)]) ∧ Below w.heap.size w w' := by
  have hz := hA.bytes
  have HGOT : Hid (Pg.gotL zs = Pg.leafR (Pg.told zs)) := Pg.got_asked hz hB h4 h5 ht
  have HTOLD : Hid (Pg.told zs = Pg.leafTo (zs.drop 8) t 7) := by show Pg.told zs = _; unfold Pg.told; rw [h5, Int.toNat_natCast]
  obtain ⟨V, hV⟩ : ∃ V : Value, V = .tuple #[.agg (leafC (Pg.tellsL zs)), .bool (Pg.gotL zs)] := ⟨_, rfl⟩
  rw [← hV]
  have HV0 := hide hV
  obtain ⟨W, hW⟩ : ∃ W, W = w.alloc (.cells #[Value.bool false, Value.int .i64 0, Value.int .i64 0, Value.bool false, Value.int .i64 0, Value.int .i64 0, Value.bool false, Value.int .i64 0, Value.int .i64 0, Value.bool false, Value.int .i64 0, Value.int .i64 0, Value.bool false, Value.int .i64 0, Value.int .i64 0, Value.bool false, Value.int .i64 0, Value.int .i64 0, Value.bool false, Value.int .i64 0, Value.int .i64 0] 26) := ⟨_, rfl⟩
  have hb0 : Below w.heap.size w W := by rw [hW]; exact (Below.refl _ _).alloc (Nat.le_refl _) _
  have hg0 : W.heap[w.heap.size]? = some (.cells (leafC Pg.nil) 26 (0, 0)) := by rw [hW]; exact heap_alloc_new w _
  have HB0 := hide hb0
  have HG0 := hide hg0
  have HO := hide (bopen_yes (hA.below hb0) hl hB)
  rw [h4, h5] at HO
  have hFl : (Pg.leafTo (zs.drop 8) t 7).length = 7 := by simp [Pg.leafTo]
  have HRD := hide (fun (W : World) (a : Option Addr) (c : Nat) (h : Arg .u8 W a 56 c (zs.drop 8)) => preadleaf_any h t (by omega))
  have HRL := hide (fun (W : World) => prightleaf_any (Pg.leafTo (zs.drop 8) t 7) W hFl)
  have HSF := hide (leaf_size hFl)
  have HSZ : Hid ((leafC Pg.nil).size = (leafC (Pg.leafTo (zs.drop 8) t 7)).size) := by show _ = _; rw [leafC_size, leafC_size, hFl]; rfl
  have htI : decide ((128 : Int) ≤ (t : Int)) = false := by simp; omega
  clear hA hB h4 h5 hb0 hg0 hz ht hV hFl
  rw [HTOLD.out] at HGOT
  generalize Pg.leafTo (zs.drop 8) t 7 = F at *
  generalize zs.drop 8 = S at *
  go_enter Try.func12, Try.ntmps12
  go_wp2_with fail
  rw [← hW]
  refine HO.out.mono ?_
  rintro e w1 ⟨a1, c1, rfl, hA1, hb1⟩
  have HG1 := hide ((hb1.block _ ((Array.getElem?_eq_some_iff.1 HG0.out).1)).trans HG0.out)
  have HB1 := hide (HB0.out.trans (hb1.mono HB0.out.size))
  have hs1 : w.heap.size < w1.heap.size := (Array.getElem?_eq_some_iff.1 HG1.out).1
  have HA1 := hide hA1
  clear hb1 hA1 hW
  go_wp2_with fail
  refine (HRD.out _ _ _ HA1.out).mono ?_
  rintro e w2 ⟨rfl, hb2⟩
  have HG2 := hide ((hb2.block _ hs1).trans HG1.out)
  have HB2 := hide (HB1.out.trans (hb2.mono HB1.out.size))
  clear hb2
  have hs2 : w.heap.size < w2.heap.size := (Array.getElem?_eq_some_iff.1 HG2.out).1
  obtain ⟨X2, hX2⟩ : ∃ X2, X2 = (w2.alloc (.cells #[Value.bool false, Value.int .i64 0, Value.int .i64 0, Value.bool false, Value.int .i64 0, Value.int .i64 0, Value.bool false, Value.int .i64 0, Value.int .i64 0, Value.bool false, Value.int .i64 0, Value.int .i64 0, Value.bool false, Value.int .i64 0, Value.int .i64 0, Value.bool false, Value.int .i64 0, Value.int .i64 0, Value.bool false, Value.int .i64 0, Value.int .i64 0] 26)).setRow w2.heap.size (leafC F) := ⟨_, rfl⟩
  have hbX : Below w2.heap.size w2 X2 := by rw [hX2]; exact below_setRow ((Below.refl _ _).alloc (Nat.le_refl _) _) (Nat.le_refl _) _
  have HX2 : Hid (X2.heap[w2.heap.size]? = some (.cells (leafC F) 26 (0, 0))) := by show _ = _; rw [hX2]; exact setRow_heap _ _ _ _ _ _ (heap_alloc_new w2 _)
  have HGX := hide ((hbX.block _ hs2).trans HG2.out)
  have HBX := hide (HB2.out.trans (hbX.mono HB2.out.size))
  have hsX : w2.heap.size < X2.heap.size := (Array.getElem?_eq_some_iff.1 HX2.out).1
  clear hbX
  have HRX := hide (HRL.out X2)
  clear HRL
  cases hq : Pg.leafR F with
  | true =>
    rw [hq] at HRX
    have HV : Hid (V = .tuple #[.agg (leafC F), .bool true]) := by
      show V = _
      rw [HV0.out]
      unfold Pg.tellsL
      rw [HGOT.out, hq, if_pos rfl, HTOLD.out]
    clear hq
    go_wp2_with (first | (refine wpList_store_row rfl 26 _ _ rfl w2.heap.size (leafC F) rfl rfl 26 _ (heap_alloc_new w2 _) HSF.out HSZ.out (leafC_one _) ?_; rw [← hX2]; clear hX2) | (refine wpList_load_row rfl 26 _ rfl w2.heap.size rfl 26 (leafC F) (0, 0) _ HX2.out Try.underlying26 rfl HSF.out ?_))
    refine HRX.out.mono ?_
    rintro e w5 ⟨rfl, hb5⟩
    have HG9 := hide ((hb5.block _ (Nat.lt_trans hs2 hsX)).trans HGX.out)
    have HGx := hide ((hb5.block _ hsX).trans HX2.out)
    have HB9 := hide (HBX.out.trans (hb5.mono HBX.out.size))
    clear hb5
    go_wp2_with (first | (refine wpList_load_row rfl 26 _ rfl w2.heap.size rfl 26 (leafC F) (0, 0) _ HGx.out Try.underlying26 rfl HSF.out ?_) | (refine wpList_store_row rfl 26 _ _ rfl w.heap.size (leafC F) rfl rfl 26 (leafC Pg.nil) HG9.out HSF.out HSZ.out (leafC_one F) ?_))
    (try simp only [Exit.inBlock, Exit.then]); refine bodyPost_ret (results_row rfl Try.underlying26 _ _ w.heap.size (leafC F) rfl (setRow_heap _ _ _ _ _ _ HG9.out) HSF.out) rfl ?_
    exact ⟨by rw [HV.out]; rfl, below_setRow HB9.out (Nat.le_refl _) _⟩
  | false =>
    rw [hq] at HRX
    have HV : Hid (V = .tuple #[.agg (leafC Pg.nil), .bool false]) := by
      show V = _
      rw [HV0.out]
      unfold Pg.tellsL
      rw [HGOT.out, hq]
      rfl
    clear hq
    go_wp2_with (first | (refine wpList_store_row rfl 26 _ _ rfl w2.heap.size (leafC F) rfl rfl 26 _ (heap_alloc_new w2 _) HSF.out HSZ.out (leafC_one _) ?_; rw [← hX2]; clear hX2) | (refine wpList_load_row rfl 26 _ rfl w2.heap.size rfl 26 (leafC F) (0, 0) _ HX2.out Try.underlying26 rfl HSF.out ?_))
    refine HRX.out.mono ?_
    rintro e w5 ⟨rfl, hb5⟩
    have HG9 := hide ((hb5.block _ (Nat.lt_trans hs2 hsX)).trans HGX.out)
    have HB9 := hide (HBX.out.trans (hb5.mono HBX.out.size))
    clear hb5
    go_wp2_with (refine wpList_store_row rfl 26 _ _ rfl w.heap.size #[Value.bool false, Value.int .i64 0, Value.int .i64 0, Value.bool false, Value.int .i64 0, Value.int .i64 0, Value.bool false, Value.int .i64 0, Value.int .i64 0, Value.bool false, Value.int .i64 0, Value.int .i64 0, Value.bool false, Value.int .i64 0, Value.int .i64 0, Value.bool false, Value.int .i64 0, Value.int .i64 0, Value.bool false, Value.int .i64 0, Value.int .i64 0] rfl rfl 26 (leafC Pg.nil) HG9.out info_leaf rfl (leafC_one Pg.nil) ?_)
    (try simp only [Exit.inBlock, Exit.then]); refine bodyPost_ret (results_row rfl Try.underlying26 _ _ w.heap.size #[Value.bool false, Value.int .i64 0, Value.int .i64 0, Value.bool false, Value.int .i64 0, Value.int .i64 0, Value.bool false, Value.int .i64 0, Value.int .i64 0, Value.bool false, Value.int .i64 0, Value.int .i64 0, Value.bool false, Value.int .i64 0, Value.int .i64 0, Value.bool false, Value.int .i64 0, Value.int .i64 0, Value.bool false, Value.int .i64 0, Value.int .i64 0] rfl (setRow_heap _ _ _ _ _ _ HG9.out) info_leaf) rfl ?_
    exact ⟨by rw [HV.out]; rfl, below_setRow HB9.out (Nat.le_refl _) _⟩

theorem getleaf_any {w : World} {a : Option Addr} {len cap : Nat} {zs : List Int} (hA : Arg .u8 w a len cap zs) (hl : len ≤ 1000) :
    Calls Try.prog 12 #[.slice a len cap] w fun e w' => e = .returned (.tuple #[.agg (leafC (Pg.tellsL zs)), .bool (Pg.gotL zs)]) ∧ Below w.heap.size w w' := by
  by_cases h : Bk.isB zs = true ∧ zs.getD 4 0 = 2 ∧ zs.getD 5 0 < 128
  · have := (byte_of hA.bytes 5).1
    exact getleaf_leaf hA hl h.1 h.2.1 (t := (zs.getD 5 0).toNat) (by omega) (by omega)
  · exact getleaf_other hA hl h
end Go.Proofs.Ytjehcgkmapapbaa
