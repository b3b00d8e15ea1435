/-
  page.PutFan, GetFan: what they answer.
-/
import Derived.Test.YtjehcgkmapapbaaPgPD
namespace Go.Proofs.Ytjehcgkmapapbaa
set_option linter.unusedVariables false
set_option linter.unusedSimpArgs false
open Go.RowKit

set_option maxRecDepth 100000 in
set_option maxHeartbeats 1000000 in
theorem putfan_no (l : List Int) (w : World) (hl : l.length = 16) (hr : Pg.fanR l = false) :
    Calls Try.prog 14 #[.agg (blk .i64 l)] w fun e w' => e = .returned (.tuple #[.slice none 0 0, .bool false]) ∧ Below w.heap.size w w' := by
  obtain ⟨W, hW⟩ : ∃ W, W = w.alloc (.cells (blk .i64 l) 40) := ⟨_, rfl⟩
  have hB0 : Below w.heap.size w W := by rw [hW]; exact (Below.refl _ _).alloc (Nat.le_refl _) _
  have HB0 := hide hB0
  have HSZ : Hid ((Try.prog.info? 40).map (·.size) = some (blk .i64 l).size) := fan_size hl
  have HR := hide (prightfan_any l W hl)
  rw [hr] at HR
  clear hB0 hr
  go_enter Try.func14, Try.ntmps14
  go_wp2_with (refine wpList_load_row rfl 40 _ rfl w.heap.size rfl 40 (blk .i64 l) (0, 0) _ (heap_alloc_new w _) Try.underlying40 rfl HSZ.out ?_)
  rw [← hW]
  clear hW
  refine HR.out.mono ?_
  rintro e w1 ⟨rfl, hb1⟩
  have HB1 := hide (HB0.out.trans (hb1.mono HB0.out.size))
  clear hb1
  go_wp2_with fail
  go_ret2
  exact ⟨rfl, HB1.out⟩

set_option maxRecDepth 100000 in
set_option maxHeartbeats 2000000 in
theorem putfan_yes (l : List Int) (w : World) (hl : l.length = 16) (hr : Pg.fanR l = true) :
    Calls Try.prog 14 #[.agg (blk .i64 l)] w fun e w' => ∃ h c tail, e = .returned (.tuple #[.slice (some ⟨h, 0, none⟩) 64 c, .bool true]) ∧ 64 ≤ c ∧ c ≤ maxLen ∧ w.heap.size ≤ h ∧ w'.heap[h]? = some (.cells ((Pg.fan l).map (Value.int .u8) ++ tail).toArray 5 (0, 0)) ∧ Below w.heap.size w w' := by
  obtain ⟨W, hW⟩ : ∃ W, W = w.alloc (.cells (blk .i64 l) 40) := ⟨_, rfl⟩
  have hB0 : Below w.heap.size w W := by rw [hW]; exact (Below.refl _ _).alloc (Nat.le_refl _) _
  have hg0 : W.heap[w.heap.size]? = some (.cells (blk .i64 l) 40 (0, 0)) := by rw [hW]; exact heap_alloc_new w _
  have HB0 := hide hB0
  have HG0 := hide hg0
  have HSZ : Hid ((Try.prog.info? 40).map (·.size) = some (blk .i64 l).size) := fan_size hl
  have HSA : Hid ((Try.prog.info? 38).map (·.size) = some (blk .i64 l).size) := by show _ = _; rw [size_blk, hl]; kernel_rfl
  have HR := hide (prightfan_any l W hl)
  rw [hr] at HR
  have hlt0 : w.heap.size < W.heap.size := (Array.getElem?_eq_some_iff.1 hg0).1
  clear hB0 hg0
  go_enter Try.func14, Try.ntmps14
  go_wp2_with (refine wpList_load_row rfl 40 _ rfl w.heap.size rfl 40 (blk .i64 l) (0, 0) _ (heap_alloc_new w _) Try.underlying40 rfl HSZ.out ?_)
  rw [← hW]
  clear hW
  refine HR.out.mono ?_
  rintro e w1 ⟨rfl, hb1⟩
  have HG1 := hide ((hb1.block _ hlt0).trans HG0.out)
  have HB1 := hide (HB0.out.trans (hb1.mono HB0.out.size))
  clear hb1
  go_wp2_with (refine wpList_load_row rfl 38 _ rfl w.heap.size rfl 40 (blk .i64 l) (0, 0) _ HG1.out Try.underlying38 rfl HSA.out ?_)
  obtain ⟨G, hG⟩ : ∃ G, G = w1.heap.size := ⟨_, rfl⟩
  obtain ⟨i0, hi, hz0, hz1, hz2⟩ := info_parts info_u8
  go_loopw [4, 12] (fun v i wr => ∃ j : Nat, j ≤ 16 ∧ i = .int .i64 j ∧ wr.ownsRow G 5 1 v (2 * j) ((Nd.kidsB (l.take j)).map (Value.int .u8)) ∧ Below G w1 wr) (fun _ i _ => 16 - (intOf i).toNat)
  case atStart => exact ⟨0, Nat.zero_le _, rfl, ⟨rfl, .inl ⟨rfl, rfl⟩⟩, by rw [hG]; exact Below.refl _ _⟩
  case round =>
    obtain ⟨j, hj, rfl, hown, hbr⟩ := hrel
    have HBR := hide hbr
    have HOW := hide hown
    have hGr : G ≤ wr.heap.size := by rw [hG]; exact hbr.size
    by_cases hlt : j < 16
    · have hjI : (j : Int) < 16 := by omega
      have hlj : l[j]'(by omega) = l.getD j 0 := by rw [List.getD_eq_getElem?_getD, List.getElem?_eq_getElem (by omega)]; rfl
      have hxr := Pg.fan_mem hr (l.getD j 0) (by rw [← hlj]; exact List.getElem_mem _)
      have HSB : Hid (Nd.kidsB (l.take (j + 1)) = Nd.kidsB (l.take j) ++ Nums.lay (l.getD j 0) 2) := by
        show _ = _
        rw [List.take_succ_eq_append_getElem (by omega), hlj, Nd.kidsB_snoc]
      have hix := fun W => run_index_fan l hl j hlt W
      generalize l.getD j 0 = z at *
      have hwz : IntKind.u64.wrap z = z := by rw [IntKind.wrap_u64]; omega
      have HL1 := hide (fun W => lay_yes z 2 W (by simp [Lit.wf, IntKind.min, IntKind.max, IntKind.signed, IntKind.bits]; omega) (by decide))
      rw [show ((2 : Nat) : Int) = 2 from rfl] at HL1
      have hl1 : (Nums.lay z 2).length = 2 := Nums.length_lay 2 z
      generalize Nums.lay z 2 = Z1 at *
      generalize Nd.kidsB (l.take j) = SB at *
      have hO1 : Hid ((wr.alloc (.cells (blk .u8 Z1) 5)).ownsRow G 5 1 u4 (2 * j) (SB.map (Value.int .u8))) := hown.alloc _
      clear hown hbr hlj hxr
      go_wp2_with fail
      refine (HL1.out _).mono ?_
      rintro e w' ⟨rfl, rfl⟩
      go_wp2_with (refine wpList_append_lies _ rfl _ _ _ rfl G 5 i0 _ 1 1 Try.underlying29 hi hz0 hz1 hz2 rfl (by omega) u4 (2 * j) (SB.map (Value.int .u8)) rfl hO1.out ⟨wr.heap.size, 0, none⟩ 2 2 (Z1.map (Value.int .u8)) rfl (by simp [hl1]) (fun j u hu => World.news_of_block (cs := blk .u8 Z1) (t := 5) (fr := (0, 0)) (heap_alloc_new wr _) j u (by simpa [blk] using hu)) (oneCells _ _) (by omega) (by unfold maxLen; omega) (by omega) (by simp; omega) (wr.heap.size + 1) (by simp) ?_; intro gh cq w6 hown2 hgrow hat hlt1; have HB6 := hide (own_below hO1.out hgrow (by simp; omega) (HBR.out.alloc hGr _) (Nat.le_refl _)); have HO6 := hide hown2; clear hgrow hat hlt1 hown2)
      go_roundw
      case rel =>
        refine ⟨j + 1, by omega, by go_num, ?_, HB6.out⟩
        rw [HSB.out, List.map_append]
        exact HO6.out
      case measure => simp [intOf]; omega
    · have hjI : ¬ (j : Int) < 16 := by omega
      obtain rfl : j = 16 := by omega
      have hta : l.take 16 = l := List.take_of_length_le (by omega)
      rw [hta] at hown
      obtain ⟨ba, bc, rfl, hbA⟩ := arg_of_own8 hown (Nd.kidsB_bytes l)
      have HS := hide (bseal_yes 3 0 (by decide) (by decide) hbA (by decide))
      have HLF : Hid (Bk.shut 3 0 (Nd.kidsB l) = Pg.fan l) := rfl
      rw [HLF.out] at HS
      clear hown hbA HOW hta
      go_wp2_with fail
      refine HS.out.mono ?_
      rintro e w6 ⟨g6, c6, t6, rfl, h64, hcm, hg6, hh6, hb6⟩
      have HB6 := hide (HB1.out.trans ((HBR.out.trans (hb6.mono hGr)).mono (by rw [hG]; exact HB1.out.size)))
      have HH6 := hide hh6
      have HZ6 : Hid (w.heap.size ≤ g6) := by show w.heap.size ≤ g6; have := HB1.out.size; omega
      clear hb6 hh6 hg6
      go_wp2_with fail
      go_ret2
      exact ⟨_, _, _, rfl, h64, hcm, HZ6.out, HH6.out, HB6.out⟩

set_option maxRecDepth 100000 in
set_option maxHeartbeats 2000000 in
theorem preadfan_any {w : World} {a : Option Addr} {cap : Nat} {s : List Int} (hA : Arg .u8 w a 56 cap s) :
    Calls Try.prog 31 #[.slice a 56 cap] w fun e w' => ∃ a' c', e = .returned (.tuple #[.agg (blk .i64 (Pg.fanTo s 16)), .slice a' 24 c']) ∧ Arg .u8 w' a' 24 c' (s.drop 32) ∧ Below w.heap.size w w' := by
  have hz := hA.bytes
  have HA := hide hA
  have HGT := hide (fun (W : World) (p : Nat) (hp : p + 2 ≤ 56) (hb : Below w.heap.size w W) => get_yes a 56 cap p 2 s W (by unfold maxLen; decide) hA.1 (hA.2.2.1.below hb) hz (by decide) (by decide) hp)
  rw [show ((2 : Nat) : Int) = 2 from rfl] at HGT
  obtain ⟨X, hX⟩ : ∃ X, X = w.alloc (.cells (blk .i64 Pg.nilF) 40) := ⟨_, rfl⟩
  have hbX : Below w.heap.size w X := by rw [hX]; exact (Below.refl _ _).alloc (Nat.le_refl _) _
  have hgX : X.heap[w.heap.size]? = some (.cells (blk .i64 Pg.nilF) 40 (0, 0)) := by rw [hX]; exact heap_alloc_new w _
  have HBX := hide hbX
  have HGX := hide hgX
  have hXs : X.heap.size = w.heap.size + 1 := by rw [hX]; simp
  have HX := hide hX
  clear hA hX hbX hgX
  go_enter Try.func31, Try.ntmps31
  go_wp2_with fail
  rw [show w.alloc (.cells #[Value.int .i64 0, Value.int .i64 0, Value.int .i64 0, Value.int .i64 0, Value.int .i64 0, Value.int .i64 0, Value.int .i64 0, Value.int .i64 0, Value.int .i64 0, Value.int .i64 0, Value.int .i64 0, Value.int .i64 0, Value.int .i64 0, Value.int .i64 0, Value.int .i64 0, Value.int .i64 0] 40) = X from HX.out.symm]
  obtain ⟨G, hG⟩ : ∃ G, G = w.heap.size + 1 := ⟨_, rfl⟩
  rw [← hG]
  have HGE : Hid (X.heap.size = G) := hXs.trans hG.symm
  have HGW : Hid (w.heap.size < G) := by show _ < _; omega
  clear hG hXs
  go_loopw [8] (fun i wr => ∃ j : Nat, j ≤ 16 ∧ i = .int .i64 j ∧ wr.heap[G]? = some (.cells (blk .i64 (Pg.fanTo s j ++ List.replicate (16 - j) 0)) 40 (0, 0)) ∧ Below G X wr) (fun i _ => 16 - (intOf i).toNat)
  case atStart => exact ⟨0, Nat.zero_le _, rfl, by rw [← HGE.out]; exact heap_alloc_new X _, by rw [← HGE.out]; exact (Below.refl _ _).alloc (Nat.le_refl _) _⟩
  case round =>
    obtain ⟨j, hj, rfl, hgr, hbr⟩ := hrel
    have HGR := hide hgr
    have HBR := hide hbr
    have hGlt : G < wr.heap.size := (Array.getElem?_eq_some_iff.1 hgr).1
    by_cases hlt : j < 16
    · have hjI : (j : Int) < 16 := by omega
      obtain ⟨cj, fj⟩ := cell_blk hgr (i := j) (by simp [Pg.fanTo]; omega)
      have hBW : Below w.heap.size w wr := HBX.out.trans (hbr.mono (Nat.le_of_lt HGW.out))
      have HG1 := hide (HGT.out wr (2 * j) (by omega) hBW)
      rw [show ((2 * j : Nat) : Int) = 2 * (j : Int) by omega] at HG1
      have w1' : IntKind.i64.wrap ((j : Int) * 2) = 2 * (j : Int) := by rw [IntKind.wrap_i64]; omega
      have hx1 := (Nums.rd_bounds _ (Nums.bytes_take (Nums.bytes_drop hz (2 * j)) 2)).1
      have hx2 : Nums.rd ((s.drop (2 * j)).take 2) < 65536 := by
        have h := (Nums.rd_bounds _ (Nums.bytes_take (Nums.bytes_drop hz (2 * j)) 2)).2
        have hq : (256 : Int) ^ ((s.drop (2 * j)).take 2).length ≤ 256 ^ 2 := by
          rw [show (256 : Int) ^ ((s.drop (2 * j)).take 2).length = ((256 ^ ((s.drop (2 * j)).take 2).length : Nat) : Int) from (Int.natCast_pow 256 _).symm, show (256 : Int) ^ 2 = ((256 ^ 2 : Nat) : Int) from rfl]
          exact Int.ofNat_le.2 (Nat.pow_le_pow_right (by decide) (by simp; omega))
        have e : (256 : Int) ^ 2 = 65536 := by decide
        omega
      have HFS := hide (Pg.fanTo_succ s j)
      generalize Nums.rd ((s.drop (2 * j)).take 2) = xj at *
      have v1' : IntKind.i64.wrap xj = xj := by rw [IntKind.wrap_i64]; omega
      have HST : Hid ((Pg.fanTo s j ++ List.replicate (16 - j) 0).set j xj = Pg.fanTo s (j + 1) ++ List.replicate (16 - (j + 1)) 0) := by
        show _ = _
        rw [HFS.out]
        obtain ⟨m, hm⟩ : ∃ m, 16 - j = m + 1 := ⟨16 - j - 1, by omega⟩
        rw [hm, show 16 - (j + 1) = m by omega, List.replicate_succ]
        have hlj : (Pg.fanTo s j).length = j := by simp [Pg.fanTo]
        rw [List.set_append_right _ _ (by omega), hlj]
        simp
      generalize (Pg.fanTo s j ++ List.replicate (16 - j) 0).getD j 0 = old at cj
      clear hgr hbr hBW hx1 hx2
      go_wp2_with fail
      refine HG1.out.mono ?_
      rintro e w5 ⟨rfl, hw5⟩
      obtain rfl := hw5.symm
      go_wp2_with fail
      go_roundw
      case rel => exact ⟨j + 1, by omega, by go_num, by rw [heap_set HGR.out, blk_set, HST.out], HBR.out.setCell (p := ⟨G, j, none⟩) (Nat.le_refl G) _⟩
      case measure => simp [intOf]; omega
    · have hjI : ¬ (j : Int) < 16 := by omega
      obtain rfl : j = 16 := by omega
      have hFl : (Pg.fanTo s 16).length = 16 := by simp [Pg.fanTo]
      have hgF : wr.heap[G]? = some (.cells (blk .i64 (Pg.fanTo s 16)) 40 (0, 0)) := by
        have := hgr
        rw [Nat.sub_self, List.replicate_zero, List.append_nil] at this
        exact this
      have HGx := hide hgF
      have HG9 : Hid (wr.heap[w.heap.size]? = some (.cells (blk .i64 Pg.nilF) 40 (0, 0))) := (hbr.block _ HGW.out).trans HGX.out
      have HB9 : Hid (Below w.heap.size w wr) := HBX.out.trans (hbr.mono (Nat.le_of_lt HGW.out))
      have HSF := hide (fan_size hFl)
      have HSZ : Hid ((blk .i64 Pg.nilF).size = (blk .i64 (Pg.fanTo s 16)).size) := by show _ = _; rw [size_blk, size_blk, hFl]; rfl
      have hcap := HA.out.1
      have hcm := HA.out.2.1
      unfold maxLen at hcm
      obtain ⟨b, off, rfl⟩ : ∃ b off, a = some ⟨b, off, none⟩ := by
        obtain h | h := HA.out.2.2.2.2
        · omega
        · exact h
      have hp2 : (32 : Int) ≤ (cap : Int) := by omega
      have hp3 : ¬ cap = 32 := by omega
      have hp4 : (56 : Int) ≤ (cap : Int) := by omega
      have HRest : Hid (Row .u8 w (some ⟨b, off + 32, none⟩) 24 (s.drop 32)) := by
        obtain ⟨b', off', e, h⟩ := HA.out.2.2.1.cut 32 24 (by omega) (by omega)
        cases e
        rw [List.take_of_length_le (by have := HA.out.2.2.1.1; simp; omega)] at h
        exact h
      generalize hFF : Pg.fanTo s 16 = F at *
      have HFF := hide hFF
      clear hgr hbr hgF hFF
      have HGxd : Hid (wr.drew.heap[G]? = some (.cells (blk .i64 F) 40 (0, 0))) := HGx.out
      have HG9d : Hid (wr.drew.heap[w.heap.size]? = some (.cells (blk .i64 Pg.nilF) 40 (0, 0))) := HG9.out
      go_wp2_with fail
      refine wp_region_any (by kernel_rfl) ?_
      try (change wpAny _ _ _ _ _ _ _ (World.drew _))
      refine wpAny_take (i := 1) (v := ?_) rfl (by kernel_rfl) (by kernel_rfl) (by kernel_rfl) (fun _ _ _ h => h) (Or.inl ⟨by rfl, ?_⟩) ?_
      rotate_left
      · intro w
        go_simp
        with_reducible rfl
      refine wpAny_take (i := 2) (v := ?_) rfl (by kernel_rfl) (by kernel_rfl) (by kernel_rfl) (fun _ _ _ h => h) (Or.inl ⟨by rfl, ?_⟩) ?_
      rotate_left
      · intro w
        go_simp
        with_reducible rfl
      refine wpAny_ready (rs := [0]) (by kernel_rfl) (by simp) ?_
      refine AllReady.cons rfl (fun K hK => ?_) AllReady.nil
      refine step_load_row rfl 40 _ rfl G (by go_simp) 40 (blk .i64 F) (0, 0) _ HGxd.out Try.underlying40 rfl HSF.out ?_
      refine hK _ _ ?_
      clear hK K
      refine wpAny_ready (rs := [3]) (by kernel_rfl) (by simp) ?_
      refine AllReady.cons rfl (fun K hK => ?_) AllReady.nil
      refine step_store_row rfl 40 _ _ rfl w.heap.size (blk .i64 F) (by go_simp) (by go_simp) 40 (blk .i64 Pg.nilF) HG9d.out HSF.out HSZ.out (blk_one .i64 F) ?_
      refine hK _ _ ?_
      clear hK K
      refine wpAny_ready (rs := [4]) (by kernel_rfl) (by simp) ?_
      refine AllReady.cons rfl (fun K hK => ?_) AllReady.nil
      go_simp
      refine hK _ _ ?_
      clear hK K
      refine wpAny_done (by kernel_rfl) ?_ _
      go_wp2_with fail
      (try simp only [Exit.inBlock, Exit.then]); refine bodyPost_ret (results_row rfl Try.underlying40 _ _ w.heap.size (blk .i64 F) rfl (setRow_heap _ _ _ _ _ _ HG9d.out) HSF.out) rfl ?_
      have HBN : Hid (Below w.heap.size w (wr.drew.setRow w.heap.size (blk .i64 F))) := below_setRow HB9.out.drew (Nat.le_refl _) _
      refine ⟨some ⟨b, off + 32, none⟩, cap - 32, by rw [HFF.out]; rfl, ?_, HBN.out⟩
      exact ⟨by omega, by unfold maxLen; omega, HRest.out.below HBN.out, fun z hz' => HA.out.2.2.2.1 z (List.mem_of_mem_drop hz'), .inr ⟨_, _, rfl⟩⟩

set_option maxRecDepth 100000 in
set_option maxHeartbeats 2000000 in
theorem getfan_other {w : World} {a : Option Addr} {len cap : Nat} {zs : List Int} (hA : Arg .u8 w a len cap zs) (hl : len ≤ 1000) (h : ¬ (Bk.isB zs = true ∧ zs.getD 4 0 = 3 ∧ zs.getD 5 0 = 0)) :
    Calls Try.prog 16 #[.slice a len cap] w fun e w' => e = .returned (.tuple #[.agg (blk .i64 (Pg.tellsF zs)), .bool (Pg.gotF zs)]) ∧ Below w.heap.size w w' := by
  have hg : Pg.gotF zs = false := by
    cases hq : Pg.gotF zs with
    | false => rfl
    | true =>
      have e := of_decide_eq_true hq
      exact absurd ⟨e.1, e.2.1, Pg.gotF_tag hq⟩ h
  have ht : Pg.tellsF zs = Pg.nilF := by unfold Pg.tellsF; rw [hg]; rfl
  obtain ⟨V, hV⟩ : ∃ V : Value, V = .tuple #[.agg (blk .i64 (Pg.tellsF zs)), .bool (Pg.gotF zs)] := ⟨_, rfl⟩
  rw [← hV]
  rw [hg, ht] at hV
  have HV := hide hV
  obtain ⟨W, hW⟩ : ∃ W, W = w.alloc (.cells #[Value.int .i64 0, Value.int .i64 0, Value.int .i64 0, Value.int .i64 0, Value.int .i64 0, Value.int .i64 0, Value.int .i64 0, Value.int .i64 0, Value.int .i64 0, Value.int .i64 0, Value.int .i64 0, Value.int .i64 0, Value.int .i64 0, Value.int .i64 0, Value.int .i64 0, Value.int .i64 0] 40) := ⟨_, rfl⟩
  have hb0 : Below w.heap.size w W := by rw [hW]; exact (Below.refl _ _).alloc (Nat.le_refl _) _
  have hg0 : W.heap[w.heap.size]? = some (.cells (blk .i64 Pg.nilF) 40 (0, 0)) := by rw [hW]; exact heap_alloc_new w _
  have HB0 := hide hb0
  have HG0 := hide hg0
  by_cases hB : Bk.isB zs = true
  · have HO := hide (bopen_yes (hA.below hb0) hl hB)
    by_cases h4 : zs.getD 4 0 = 3
    · have h5 : ¬ zs.getD 5 0 = 0 := fun e => h ⟨hB, h4, e⟩
      rw [h4] at HO
      clear hA hg ht hb0 hg0 hV h hB h4
      generalize zs.getD 5 0 = t at *
      generalize zs.drop 8 = S at *
      have h5' : (t != 0) = true := by simpa using h5
      go_enter Try.func16, Try.ntmps16
      go_wp2_with fail
      rw [← hW]
      refine HO.out.mono ?_
      rintro e w1 ⟨a', c', rfl, hA', hb1⟩
      have HG9 := hide ((hb1.block _ ((Array.getElem?_eq_some_iff.1 HG0.out).1)).trans HG0.out)
      have HB9 := hide (HB0.out.trans (hb1.mono HB0.out.size))
      clear hb1 hA' hW
      go_wp2_with (refine wpList_store_row rfl 40 _ _ rfl w.heap.size #[Value.int .i64 0, Value.int .i64 0, Value.int .i64 0, Value.int .i64 0, Value.int .i64 0, Value.int .i64 0, Value.int .i64 0, Value.int .i64 0, Value.int .i64 0, Value.int .i64 0, Value.int .i64 0, Value.int .i64 0, Value.int .i64 0, Value.int .i64 0, Value.int .i64 0, Value.int .i64 0] rfl rfl 40 (blk .i64 Pg.nilF) HG9.out info_fan rfl (blk_one .i64 Pg.nilF) ?_)
      (try simp only [Exit.inBlock, Exit.then]); refine bodyPost_ret (results_row rfl Try.underlying40 _ _ w.heap.size #[Value.int .i64 0, Value.int .i64 0, Value.int .i64 0, Value.int .i64 0, Value.int .i64 0, Value.int .i64 0, Value.int .i64 0, Value.int .i64 0, Value.int .i64 0, Value.int .i64 0, Value.int .i64 0, Value.int .i64 0, Value.int .i64 0, Value.int .i64 0, Value.int .i64 0, Value.int .i64 0] rfl (setRow_heap _ _ _ _ _ _ HG9.out) info_fan) rfl ?_
      exact ⟨by rw [HV.out]; rfl, below_setRow HB9.out (Nat.le_refl _) _⟩
    · clear hA hg ht hb0 hg0 hV h hB
      generalize zs.getD 4 0 = k at *
      generalize zs.getD 5 0 = t at *
      generalize zs.drop 8 = S at *
      have hk1 : (k != 3) = true := by simpa using h4
      go_enter Try.func16, Try.ntmps16
      go_wp2_with fail
      rw [← hW]
      refine HO.out.mono ?_
      rintro e w1 ⟨a', c', rfl, hA', hb1⟩
      have HG9 := hide ((hb1.block _ ((Array.getElem?_eq_some_iff.1 HG0.out).1)).trans HG0.out)
      have HB9 := hide (HB0.out.trans (hb1.mono HB0.out.size))
      clear hb1 hA' hW
      go_wp2_with (refine wpList_store_row rfl 40 _ _ rfl w.heap.size #[Value.int .i64 0, Value.int .i64 0, Value.int .i64 0, Value.int .i64 0, Value.int .i64 0, Value.int .i64 0, Value.int .i64 0, Value.int .i64 0, Value.int .i64 0, Value.int .i64 0, Value.int .i64 0, Value.int .i64 0, Value.int .i64 0, Value.int .i64 0, Value.int .i64 0, Value.int .i64 0] rfl rfl 40 (blk .i64 Pg.nilF) HG9.out info_fan rfl (blk_one .i64 Pg.nilF) ?_)
      (try simp only [Exit.inBlock, Exit.then]); refine bodyPost_ret (results_row rfl Try.underlying40 _ _ w.heap.size #[Value.int .i64 0, Value.int .i64 0, Value.int .i64 0, Value.int .i64 0, Value.int .i64 0, Value.int .i64 0, Value.int .i64 0, Value.int .i64 0, Value.int .i64 0, Value.int .i64 0, Value.int .i64 0, Value.int .i64 0, Value.int .i64 0, Value.int .i64 0, Value.int .i64 0, Value.int .i64 0] rfl (setRow_heap _ _ _ _ _ _ HG9.out) info_fan) rfl ?_
      exact ⟨by rw [HV.out]; rfl, below_setRow HB9.out (Nat.le_refl _) _⟩
  · have hBf : Bk.isB zs = false := by simpa using hB
    have HO := hide (bopen_no (hA.below hb0) hl hBf)
    clear hA hg ht hb0 hg0 hV h hB hBf
    go_enter Try.func16, Try.ntmps16
    go_wp2_with fail
    rw [← hW]
    refine HO.out.mono ?_
    rintro e w1 ⟨rfl, hb1⟩
    have HG9 := hide ((hb1.block _ ((Array.getElem?_eq_some_iff.1 HG0.out).1)).trans HG0.out)
    have HB9 := hide (HB0.out.trans (hb1.mono HB0.out.size))
    clear hb1 hW
    go_wp2_with (refine wpList_store_row rfl 40 _ _ rfl w.heap.size #[Value.int .i64 0, Value.int .i64 0, Value.int .i64 0, Value.int .i64 0, Value.int .i64 0, Value.int .i64 0, Value.int .i64 0, Value.int .i64 0, Value.int .i64 0, Value.int .i64 0, Value.int .i64 0, Value.int .i64 0, Value.int .i64 0, Value.int .i64 0, Value.int .i64 0, Value.int .i64 0] rfl rfl 40 (blk .i64 Pg.nilF) HG9.out info_fan rfl (blk_one .i64 Pg.nilF) ?_)
    (try simp only [Exit.inBlock, Exit.then]); refine bodyPost_ret (results_row rfl Try.underlying40 _ _ w.heap.size #[Value.int .i64 0, Value.int .i64 0, Value.int .i64 0, Value.int .i64 0, Value.int .i64 0, Value.int .i64 0, Value.int .i64 0, Value.int .i64 0, Value.int .i64 0, Value.int .i64 0, Value.int .i64 0, Value.int .i64 0, Value.int .i64 0, Value.int .i64 0, Value.int .i64 0, Value.int .i64 0] rfl (setRow_heap _ _ _ _ _ _ HG9.out) info_fan) rfl ?_
    exact ⟨by rw [HV.out]; rfl, below_setRow HB9.out (Nat.le_refl _) _⟩

set_option maxRecDepth 100000 in
set_option maxHeartbeats 4000000 in
theorem getfan_fan {w : World} {a : Option Addr} {len cap : Nat} {zs : List Int} (hA : Arg .u8 w a len cap zs) (hl : len ≤ 1000) (hB : Bk.isB zs = true) (h4 : zs.getD 4 0 = 3) (h5 : zs.getD 5 0 = 0) :
    Calls Try.prog 16 #[.slice a len cap] w fun e w' => e = .returned (.tuple #[.agg (blk .i64 (Pg.tellsF zs)), .bool (Pg.gotF zs)]) ∧ Below w.heap.size w w' := by
  have hz := hA.bytes
  have HGOT : Hid (Pg.gotF zs = (Pg.fanR (Pg.toldF zs) && zeroB ((zs.drop 8).drop 32))) := Pg.gotF_asked hz hB h4 h5
  have HTOLD : Hid (Pg.toldF zs = Pg.fanTo (zs.drop 8) 16) := rfl
  obtain ⟨V, hV⟩ : ∃ V : Value, V = .tuple #[.agg (blk .i64 (Pg.tellsF zs)), .bool (Pg.gotF zs)] := ⟨_, rfl⟩
  rw [← hV]
  have HV0 := hide hV
  obtain ⟨W, hW⟩ : ∃ W, W = w.alloc (.cells #[Value.int .i64 0, Value.int .i64 0, Value.int .i64 0, Value.int .i64 0, Value.int .i64 0, Value.int .i64 0, Value.int .i64 0, Value.int .i64 0, Value.int .i64 0, Value.int .i64 0, Value.int .i64 0, Value.int .i64 0, Value.int .i64 0, Value.int .i64 0, Value.int .i64 0, Value.int .i64 0] 40) := ⟨_, rfl⟩
  have hb0 : Below w.heap.size w W := by rw [hW]; exact (Below.refl _ _).alloc (Nat.le_refl _) _
  have hg0 : W.heap[w.heap.size]? = some (.cells (blk .i64 Pg.nilF) 40 (0, 0)) := by rw [hW]; exact heap_alloc_new w _
  have HB0 := hide hb0
  have HG0 := hide hg0
  have HO := hide (bopen_yes (hA.below hb0) hl hB)
  rw [h4, h5] at HO
  have hFl : (Pg.fanTo (zs.drop 8) 16).length = 16 := by simp [Pg.fanTo]
  have HRD := hide (fun (W : World) (a : Option Addr) (c : Nat) (h : Arg .u8 W a 56 c (zs.drop 8)) => preadfan_any h)
  have HRL := hide (fun (W : World) => prightfan_any (Pg.fanTo (zs.drop 8) 16) W hFl)
  have HSF := hide (fan_size hFl)
  have HSZ : Hid ((blk .i64 Pg.nilF).size = (blk .i64 (Pg.fanTo (zs.drop 8) 16)).size) := by show _ = _; rw [size_blk, size_blk, hFl]; rfl
  have HRB := hide (Nums.bytes_drop (Nums.bytes_drop hz 8) 32)
  have HRN : Hid (((zs.drop 8).drop 32).length = 24) := by show _ = _; have := (of_decide_eq_true hB).1; simp; omega
  clear hA hB h4 h5 hb0 hg0 hz hV hFl
  rw [HTOLD.out] at HGOT
  generalize Pg.fanTo (zs.drop 8) 16 = F at *
  generalize (zs.drop 8).drop 32 = R at *
  generalize zs.drop 8 = S at *
  go_enter Try.func16, Try.ntmps16
  go_wp2_with fail
  rw [← hW]
  refine HO.out.mono ?_
  rintro e w1 ⟨a1, c1, rfl, hA1, hb1⟩
  have HG1 := hide ((hb1.block _ ((Array.getElem?_eq_some_iff.1 HG0.out).1)).trans HG0.out)
  have HB1 := hide (HB0.out.trans (hb1.mono HB0.out.size))
  have hs1 : w.heap.size < w1.heap.size := (Array.getElem?_eq_some_iff.1 HG1.out).1
  have HA1 := hide hA1
  clear hb1 hA1 hW
  go_wp2_with fail
  refine (HRD.out _ _ _ HA1.out).mono ?_
  rintro e w2 ⟨a2, c2, rfl, hR2, hb2⟩
  have HG2 := hide ((hb2.block _ hs1).trans HG1.out)
  have HB2 := hide (HB1.out.trans (hb2.mono HB1.out.size))
  have hs2 : w.heap.size < w2.heap.size := (Array.getElem?_eq_some_iff.1 HG2.out).1
  obtain ⟨X2, hX2⟩ : ∃ X2, X2 = (w2.alloc (.cells #[Value.int .i64 0, Value.int .i64 0, Value.int .i64 0, Value.int .i64 0, Value.int .i64 0, Value.int .i64 0, Value.int .i64 0, Value.int .i64 0, Value.int .i64 0, Value.int .i64 0, Value.int .i64 0, Value.int .i64 0, Value.int .i64 0, Value.int .i64 0, Value.int .i64 0, Value.int .i64 0] 40)).setRow w2.heap.size (blk .i64 F) := ⟨_, rfl⟩
  have hbX : Below w2.heap.size w2 X2 := by rw [hX2]; exact below_setRow ((Below.refl _ _).alloc (Nat.le_refl _) _) (Nat.le_refl _) _
  have HX2 : Hid (X2.heap[w2.heap.size]? = some (.cells (blk .i64 F) 40 (0, 0))) := by show _ = _; rw [hX2]; exact setRow_heap _ _ _ _ _ _ (heap_alloc_new w2 _)
  have HGX := hide ((hbX.block _ hs2).trans HG2.out)
  have HBX := hide (HB2.out.trans (hbX.mono HB2.out.size))
  have hsX : w2.heap.size < X2.heap.size := (Array.getElem?_eq_some_iff.1 HX2.out).1
  have HRX := hide (HRL.out X2)
  have HR2 := hide (hR2.below hbX)
  clear HRL hbX hR2 hb2
  cases hq : Pg.fanR F with
  | true =>
    rw [hq] at HRX HGOT
    rw [Bool.true_and] at HGOT
    clear hq
    go_wp2_with (first | (refine wpList_store_row rfl 40 _ _ rfl w2.heap.size (blk .i64 F) rfl rfl 40 _ (heap_alloc_new w2 _) HSF.out HSZ.out (blk_one .i64 F) ?_; rw [← hX2]; clear hX2) | (refine wpList_load_row rfl 40 _ rfl w2.heap.size rfl 40 (blk .i64 F) (0, 0) _ HX2.out Try.underlying40 rfl HSF.out ?_))
    refine HRX.out.mono ?_
    rintro e w5 ⟨rfl, hb5⟩
    have HG9 := hide ((hb5.block _ (Nat.lt_trans hs2 hsX)).trans HGX.out)
    have HGx := hide ((hb5.block _ hsX).trans HX2.out)
    have HB9 := hide (HBX.out.trans (hb5.mono HBX.out.size))
    have hR5 := HR2.out.below hb5
    have HN := hide (noughts_yes a2 24 c2 0 24 R w5 (by unfold maxLen; decide) hR5.1 hR5.2.2.1 HRB.out (by decide))
    rw [List.drop_zero, List.take_of_length_le (by rw [HRN.out]; exact Nat.le_refl _), show ((0 : Nat) : Int) = 0 from rfl, show ((24 : Nat) : Int) = 24 from rfl] at HN
    clear hb5 hR5
    cases hy : zeroB R with
    | true =>
      rw [hy] at HN
      have HV : Hid (V = .tuple #[.agg (blk .i64 F), .bool true]) := by
        show V = _
        rw [HV0.out]
        unfold Pg.tellsF
        rw [HGOT.out, hy, if_pos rfl, HTOLD.out]
      clear hy
      go_wp2_with fail
      refine HN.out.mono ?_
      rintro e w6 ⟨rfl, hw6⟩
      obtain rfl := hw6.symm
      go_wp2_with (first | (refine wpList_load_row rfl 40 _ rfl w2.heap.size rfl 40 (blk .i64 F) (0, 0) _ HGx.out Try.underlying40 rfl HSF.out ?_) | (refine wpList_store_row rfl 40 _ _ rfl w.heap.size (blk .i64 F) rfl rfl 40 (blk .i64 Pg.nilF) HG9.out HSF.out HSZ.out (blk_one .i64 F) ?_))
      (try simp only [Exit.inBlock, Exit.then]); refine bodyPost_ret (results_row rfl Try.underlying40 _ _ w.heap.size (blk .i64 F) rfl (setRow_heap _ _ _ _ _ _ HG9.out) HSF.out) rfl ?_
      exact ⟨by rw [HV.out]; rfl, below_setRow HB9.out (Nat.le_refl _) _⟩
    | false =>
      rw [hy] at HN
      have HV : Hid (V = .tuple #[.agg (blk .i64 Pg.nilF), .bool false]) := by
        show V = _
        rw [HV0.out]
        unfold Pg.tellsF
        rw [HGOT.out, hy]
        rfl
      clear hy
      go_wp2_with fail
      refine HN.out.mono ?_
      rintro e w6 ⟨rfl, hw6⟩
      obtain rfl := hw6.symm
      go_wp2_with (refine wpList_store_row rfl 40 _ _ rfl w.heap.size #[Value.int .i64 0, Value.int .i64 0, Value.int .i64 0, Value.int .i64 0, Value.int .i64 0, Value.int .i64 0, Value.int .i64 0, Value.int .i64 0, Value.int .i64 0, Value.int .i64 0, Value.int .i64 0, Value.int .i64 0, Value.int .i64 0, Value.int .i64 0, Value.int .i64 0, Value.int .i64 0] rfl rfl 40 (blk .i64 Pg.nilF) HG9.out info_fan rfl (blk_one .i64 Pg.nilF) ?_)
      (try simp only [Exit.inBlock, Exit.then]); refine bodyPost_ret (results_row rfl Try.underlying40 _ _ w.heap.size #[Value.int .i64 0, Value.int .i64 0, Value.int .i64 0, Value.int .i64 0, Value.int .i64 0, Value.int .i64 0, Value.int .i64 0, Value.int .i64 0, Value.int .i64 0, Value.int .i64 0, Value.int .i64 0, Value.int .i64 0, Value.int .i64 0, Value.int .i64 0, Value.int .i64 0, Value.int .i64 0] rfl (setRow_heap _ _ _ _ _ _ HG9.out) info_fan) rfl ?_
      exact ⟨by rw [HV.out]; rfl, below_setRow HB9.out (Nat.le_refl _) _⟩
  | false =>
    rw [hq] at HRX HGOT
    rw [Bool.false_and] at HGOT
    clear hq
    have HV : Hid (V = .tuple #[.agg (blk .i64 Pg.nilF), .bool false]) := by
      show V = _
      rw [HV0.out]
      unfold Pg.tellsF
      rw [HGOT.out]
      rfl
    go_wp2_with (first | (refine wpList_store_row rfl 40 _ _ rfl w2.heap.size (blk .i64 F) rfl rfl 40 _ (heap_alloc_new w2 _) HSF.out HSZ.out (blk_one .i64 F) ?_; rw [← hX2]; clear hX2) | (refine wpList_load_row rfl 40 _ rfl w2.heap.size rfl 40 (blk .i64 F) (0, 0) _ HX2.out Try.underlying40 rfl HSF.out ?_))
    refine HRX.out.mono ?_
    rintro e w5 ⟨rfl, hb5⟩
    have HG9 := hide ((hb5.block _ (Nat.lt_trans hs2 hsX)).trans HGX.out)
    have HB9 := hide (HBX.out.trans (hb5.mono HBX.out.size))
    clear hb5
    go_wp2_with (refine wpList_store_row rfl 40 _ _ rfl w.heap.size #[Value.int .i64 0, Value.int .i64 0, Value.int .i64 0, Value.int .i64 0, Value.int .i64 0, Value.int .i64 0, Value.int .i64 0, Value.int .i64 0, Value.int .i64 0, Value.int .i64 0, Value.int .i64 0, Value.int .i64 0, Value.int .i64 0, Value.int .i64 0, Value.int .i64 0, Value.int .i64 0] rfl rfl 40 (blk .i64 Pg.nilF) HG9.out info_fan rfl (blk_one .i64 Pg.nilF) ?_)
    (try simp only [Exit.inBlock, Exit.then]); refine bodyPost_ret (results_row rfl Try.underlying40 _ _ w.heap.size #[Value.int .i64 0, Value.int .i64 0, Value.int .i64 0, Value.int .i64 0, Value.int .i64 0, Value.int .i64 0, Value.int .i64 0, Value.int .i64 0, Value.int .i64 0, Value.int .i64 0, Value.int .i64 0, Value.int .i64 0, Value.int .i64 0, Value.int .i64 0, Value.int .i64 0, Value.int .i64 0] rfl (setRow_heap _ _ _ _ _ _ HG9.out) info_fan) rfl ?_
    exact ⟨by rw [HV.out]; rfl, below_setRow HB9.out (Nat.le_refl _) _⟩

theorem getfan_any {w : World} {a : Option Addr} {len cap : Nat} {zs : List Int} (hA : Arg .u8 w a len cap zs) (hl : len ≤ 1000) :
    Calls Try.prog 16 #[.slice a len cap] w fun e w' => e = .returned (.tuple #[.agg (blk .i64 (Pg.tellsF zs)), .bool (Pg.gotF zs)]) ∧ Below w.heap.size w w' := by
  by_cases h : Bk.isB zs = true ∧ zs.getD 4 0 = 3 ∧ zs.getD 5 0 = 0
  · exact getfan_fan hA hl h.1 h.2.1 h.2.2
  · exact getfan_other hA hl h
end Go.Proofs.Ytjehcgkmapapbaa
