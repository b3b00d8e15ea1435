/-
  node.Get: what it answers.
-/
import Derived.Test.YtgckondfcmmklaaNdPE
import Derived.Test.YtgckondfcmmklaaNdMore
namespace Go.Proofs.Ytgckondfcmmklaa
set_option linter.unusedVariables false
set_option linter.unusedSimpArgs false
open Go.RowKit

set_option maxRecDepth 100000 in
set_option maxHeartbeats 2000000 in
theorem nget_other {w : World} {a : Option Addr} {len cap : Nat} {zs : List Int} (hA : Arg .u8 w a len cap zs) (hl : len ≤ 1000) (h : ¬ (Bk.isB zs = true ∧ zs.getD 4 0 = 1 ∧ zs.getD 5 0 ≤ 12)) :
    Calls Try.prog 11 #[.slice a len cap] w fun e w' => ∃ v, e = .returned (.tuple #[v, .bool (Nd.got zs)]) ∧ NodeV w' v (Nd.tells zs) ∧ Below w.heap.size w w' := by
  have hg : Nd.got zs = false := decide_eq_false fun e => h ⟨e.1, e.2.1, e.2.2.1⟩
  have ht : Nd.tells zs = Nd.zero := by unfold Nd.tells; rw [hg]; rfl
  rw [hg, ht]
  obtain ⟨W, hW⟩ : ∃ W, W = w.alloc (.cells #[.int .i64 0, .int .i64 0, .int .i64 0, .int .i64 0, .slice none 0 0] 28) := ⟨_, rfl⟩
  have hb0 : Below w.heap.size w W := by rw [hW]; exact (Below.refl _ _).alloc (Nat.le_refl _) _
  have hg0 : W.heap[w.heap.size]? = some (.cells #[.int .i64 0, .int .i64 0, .int .i64 0, .int .i64 0, .slice none 0 0] 28 (0, 0)) := by rw [hW]; exact heap_alloc_new w _
  have HB0 := hide hb0
  have HG0 := hide hg0
  have HBT : Hid (∀ i, 0 ≤ zs.getD i 0 ∧ zs.getD i 0 ≤ 255) := fun i => byte_at hA.bytes i
  by_cases hB : Bk.isB zs = true
  · have HO := hide (bopen_yes (hA.below hb0) hl hB)
    have hz4 : 0 ≤ zs.getD 4 0 ∧ zs.getD 4 0 ≤ 255 := HBT.out 4
    have hz5 : 0 ≤ zs.getD 5 0 ∧ zs.getD 5 0 ≤ 255 := HBT.out 5
    clear hA hg ht hb0 hg0
    by_cases h4 : zs.getD 4 0 = 1
    · have h5 : ¬ zs.getD 5 0 ≤ 12 := fun e => h ⟨hB, h4, e⟩
      rw [h4] at HO
      clear h hB h4
      generalize zs.getD 5 0 = t at *
      generalize zs.drop 8 = S at *
      go_enter Try.func11, Try.ntmps11
      go_wp2_with fail
      rw [← hW]
      refine HO.out.mono ?_
      rintro e w1 ⟨a', c', rfl, hA', hb1⟩
      have HG1 := hide ((hb1.block _ ((Array.getElem?_eq_some_iff.1 HG0.out).1)).trans HG0.out)
      have HB1 := hide (HB0.out.trans (hb1.mono HB0.out.size))
      clear hb1
      go_wp2_with (refine wpList_store_row rfl 28 _ _ rfl w.heap.size #[.int .i64 0, .int .i64 0, .int .i64 0, .int .i64 0, .slice none 0 0] rfl rfl 28 #[.int .i64 0, .int .i64 0, .int .i64 0, .int .i64 0, .slice none 0 0] HG1.out info_node rfl (node_one 0 0 0 0 none 0 0) ?_)
      (try simp only [Exit.inBlock, Exit.then]); refine bodyPost_ret (results_node rfl _ _ w.heap.size #[.int .i64 0, .int .i64 0, .int .i64 0, .int .i64 0, .slice none 0 0] rfl (setRow_heap _ _ _ _ _ _ HG1.out) rfl) rfl ?_
      exact ⟨_, rfl, nodeV_zero _, below_setRow HB1.out (Nat.le_refl _) _⟩
    · clear h hB
      generalize zs.getD 4 0 = k at *
      generalize zs.getD 5 0 = t at *
      generalize zs.drop 8 = S at *
      have hk1 : (k != 1) = true := by simpa using h4
      go_enter Try.func11, Try.ntmps11
      go_wp2_with fail
      rw [← hW]
      refine HO.out.mono ?_
      rintro e w1 ⟨a', c', rfl, hA', hb1⟩
      have HG1 := hide ((hb1.block _ ((Array.getElem?_eq_some_iff.1 HG0.out).1)).trans HG0.out)
      have HB1 := hide (HB0.out.trans (hb1.mono HB0.out.size))
      clear hb1
      go_wp2_with (refine wpList_store_row rfl 28 _ _ rfl w.heap.size #[.int .i64 0, .int .i64 0, .int .i64 0, .int .i64 0, .slice none 0 0] rfl rfl 28 #[.int .i64 0, .int .i64 0, .int .i64 0, .int .i64 0, .slice none 0 0] HG1.out info_node rfl (node_one 0 0 0 0 none 0 0) ?_)
      (try simp only [Exit.inBlock, Exit.then]); refine bodyPost_ret (results_node rfl _ _ w.heap.size #[.int .i64 0, .int .i64 0, .int .i64 0, .int .i64 0, .slice none 0 0] rfl (setRow_heap _ _ _ _ _ _ HG1.out) rfl) rfl ?_
      exact ⟨_, rfl, nodeV_zero _, below_setRow HB1.out (Nat.le_refl _) _⟩
  · have hBf : Bk.isB zs = false := by simpa using hB
    have HO := hide (bopen_no (hA.below hb0) hl hBf)
    clear hA hg ht hb0 hg0 h
    go_enter Try.func11, Try.ntmps11
    go_wp2_with fail
    rw [← hW]
    refine HO.out.mono ?_
    rintro e w1 ⟨rfl, hb1⟩
    have HG1 := hide ((hb1.block _ ((Array.getElem?_eq_some_iff.1 HG0.out).1)).trans HG0.out)
    have HB1 := hide (HB0.out.trans (hb1.mono HB0.out.size))
    clear hb1
    go_wp2_with (refine wpList_store_row rfl 28 _ _ rfl w.heap.size #[.int .i64 0, .int .i64 0, .int .i64 0, .int .i64 0, .slice none 0 0] rfl rfl 28 #[.int .i64 0, .int .i64 0, .int .i64 0, .int .i64 0, .slice none 0 0] HG1.out info_node rfl (node_one 0 0 0 0 none 0 0) ?_)
    (try simp only [Exit.inBlock, Exit.then]); refine bodyPost_ret (results_node rfl _ _ w.heap.size #[.int .i64 0, .int .i64 0, .int .i64 0, .int .i64 0, .slice none 0 0] rfl (setRow_heap _ _ _ _ _ _ HG1.out) rfl) rfl ?_
    exact ⟨_, rfl, nodeV_zero _, below_setRow HB1.out (Nat.le_refl _) _⟩

theorem parse_kids (s : List Int) (hz : Nums.Bytes s) (t : Nat) : Nd.parse s t = ⟨Nd.sgn (Nums.rd ((s.drop 16).take 4)), Nd.sgn (Nums.rd ((s.drop 20).take 4)), Nd.sgn (Nums.rd ((s.drop 0).take 8)), Nd.sgn (Nums.rd ((s.drop 8).take 8)), kidsTo s t⟩ := by
  rw [sgn_small (Nums.bytes_take (Nums.bytes_drop hz 16) 4) (by simp; omega), sgn_small (Nums.bytes_take (Nums.bytes_drop hz 20) 4) (by simp; omega), List.drop_zero]
  rfl

set_option maxRecDepth 100000 in
set_option maxHeartbeats 2000000 in
theorem nget_node {w : World} {a : Option Addr} {len cap : Nat} {zs : List Int} (hA : Arg .u8 w a len cap zs) (hl : len ≤ 1000) (hB : Bk.isB zs = true) (h4 : zs.getD 4 0 = 1) {t : Nat} (h5 : zs.getD 5 0 = (t : Int)) (ht : t ≤ 12) :
    Calls Try.prog 11 #[.slice a len cap] w fun e w' => ∃ v, e = .returned (.tuple #[v, .bool (Nd.got zs)]) ∧ NodeV w' v (Nd.tells zs) ∧ Below w.heap.size w w' := by
  have hz := hA.bytes
  have HGOT := hide (Nd.got_asked hz hB h4 h5 ht)
  have HTOLD : Hid (Nd.told zs = Nd.parse (zs.drop 8) t) := by show Nd.told zs = _; unfold Nd.told; rw [h5, Int.toNat_natCast]
  rw [parse_kids _ (Nums.bytes_drop hz 8) t] at HGOT HTOLD
  obtain ⟨W, hW⟩ : ∃ W, W = w.alloc (.cells #[.int .i64 0, .int .i64 0, .int .i64 0, .int .i64 0, .slice none 0 0] 28) := ⟨_, rfl⟩
  have hb0 : Below w.heap.size w W := by rw [hW]; exact (Below.refl _ _).alloc (Nat.le_refl _) _
  have hg0 : W.heap[w.heap.size]? = some (.cells #[.int .i64 0, .int .i64 0, .int .i64 0, .int .i64 0, .slice none 0 0] 28 (0, 0)) := by rw [hW]; exact heap_alloc_new w _
  have HB0 := hide hb0
  have HG0 := hide hg0
  have HO := hide (bopen_yes (hA.below hb0) hl hB)
  rw [h4, h5] at HO
  have HRD := hide (fun (W : World) (a : Option Addr) (c : Nat) (h : Arg .u8 W a 56 c (zs.drop 8)) => nread_any h t ht)
  have ht' : (t : Int) ≤ 12 := by omega
  have HT := hide ht
  have HKL := hide (kidsTo_length (zs.drop 8) t)
  obtain ⟨r, hr⟩ : ∃ r : Nat, 56 - (24 + 2 * t) = r := ⟨_, rfl⟩
  have HDL : Hid ((zs.drop 8).length = 56) := by show _ = _; have := (of_decide_eq_true hB).1; simp; omega
  have HRB := hide (Nums.bytes_drop (Nums.bytes_drop hz 8) (24 + 2 * t))
  have HRL : Hid (((zs.drop 8).drop (24 + 2 * t)).length = r) := by show _ = _; rw [List.length_drop, HDL.out, hr]
  have hr56 : r ≤ 56 := by omega
  rw [hr] at HRD
  have hrI : (r : Int) ≤ 56 := by omega
  clear hA hB h4 h5 hb0 hg0 hz ht hr
  generalize Nd.sgn (Nums.rd (((zs.drop 8).drop 16).take 4)) = x1 at *
  generalize Nd.sgn (Nums.rd (((zs.drop 8).drop 20).take 4)) = x2 at *
  generalize Nd.sgn (Nums.rd (((zs.drop 8).drop 0).take 8)) = x3 at *
  generalize Nd.sgn (Nums.rd (((zs.drop 8).drop 8).take 8)) = x4 at *
  generalize kidsTo (zs.drop 8) t = K at *
  generalize (zs.drop 8).drop (24 + 2 * t) = R at *
  generalize zs.drop 8 = S at *
  go_enter Try.func11, Try.ntmps11
  go_wp2_with fail
  rw [← hW]
  refine HO.out.mono ?_
  rintro e w1 ⟨a1, c1, rfl, hA1, hb1⟩
  have HG1 := hide ((hb1.block _ ((Array.getElem?_eq_some_iff.1 HG0.out).1)).trans HG0.out)
  have HB1 := hide (HB0.out.trans (hb1.mono HB0.out.size))
  have hs1 : w.heap.size < w1.heap.size := (Array.getElem?_eq_some_iff.1 HG1.out).1
  have HA1 := hide hA1
  clear hb1 hA1
  go_wp2_with fail
  refine (HRD.out _ _ _ HA1.out).mono ?_
  rintro e w2 ⟨gk, a2, c2, rfl, hK, hR2, hgk, hb2⟩
  have HG2 := hide ((hb2.block _ hs1).trans HG1.out)
  have HB2 := hide (HB1.out.trans (hb2.mono HB1.out.size))
  have hs2 : w.heap.size < w2.heap.size := (Array.getElem?_eq_some_iff.1 HG2.out).1
  have hcap2 : (r : Int) ≤ (c2 : Int) := by have := hR2.1; omega
  obtain ⟨W3, hW3⟩ : ∃ W3, W3 = w2.alloc (.cells #[.int .i64 x1, .int .i64 x2, .int .i64 x3, .int .i64 x4, .slice (some ⟨gk, 0, none⟩) t t] 28) := ⟨_, rfl⟩
  have hb3 : Below w2.heap.size w2 W3 := by rw [hW3]; exact (Below.refl _ _).alloc (Nat.le_refl _) _
  have hgn3 : W3.heap[w2.heap.size]? = some (.cells #[.int .i64 x1, .int .i64 x2, .int .i64 x3, .int .i64 x4, .slice (some ⟨gk, 0, none⟩) t t] 28 (0, 0)) := by rw [hW3]; exact heap_alloc_new w2 _
  have HG3 := hide ((hb3.block _ hs2).trans HG2.out)
  have HB3 := hide (HB2.out.trans (hb3.mono HB2.out.size))
  have hs3 : w2.heap.size < W3.heap.size := (Array.getElem?_eq_some_iff.1 hgn3).1
  have HRT := hide (nright_any x1 x2 x3 x4 K W3 (some ⟨gk, 0, none⟩) t t (hK.below hb3) (by have := HT.out; omega))
  have HK3 := hide (hK.below hb3)
  have HR3 := hide (hR2.below hb3)
  have HGN3 := hide hgn3
  have HGK : Hid (0 < t → ∀ x : Addr, (some ⟨gk, 0, none⟩ : Option Addr) = some x → w.heap.size ≠ x.block) := fun _ x hx => by cases hx; show w.heap.size ≠ gk; omega
  clear hb2 hK hR2 hb3 hgn3 HB2 HG2 hgk
  have HEND : Hid (∀ (q : Bool) w4, Below W3.heap.size W3 w4 → (Nd.right ⟨x1, x2, x3, x4, K⟩ && zeroB R) = q → q = false → Nd.got zs = false ∧ Nd.tells zs = Nd.zero) := fun q w4 _ e1 e2 => by
    have e : Nd.got zs = false := by rw [HGOT.out, e1, e2]
    exact ⟨e, by unfold Nd.tells; rw [e]; rfl⟩
  cases hq : Nd.right ⟨x1, x2, x3, x4, K⟩ with
  | true =>
    rw [hq] at HRT
    go_wp2_with fail
    rw [← hW3]
    refine HRT.out.mono ?_
    rintro e w4 ⟨rfl, hb4⟩
    have hs4 : w2.heap.size < w4.heap.size := Nat.lt_of_lt_of_le hs3 hb4.size
    have HN := hide (noughts_yes a2 r c2 0 r R w4 (by unfold maxLen; omega) (by omega) (HR3.out.below hb4).2.2.1 HRB.out (by omega))
    rw [List.drop_zero, List.take_of_length_le (by rw [HRL.out]; exact Nat.le_refl _), show ((0 : Nat) : Int) = 0 from rfl] at HN
    have HG4 := hide ((hb4.block _ (by omega)).trans HG3.out)
    have HGN4 := hide ((hb4.block _ hs3).trans HGN3.out)
    have HB4 := hide (HB3.out.trans (hb4.mono HB3.out.size))
    have HK4 := hide (HK3.out.below hb4)
    clear hb4
    clear hW3
    cases hy : zeroB R with
    | true =>
      rw [hy] at HN
      have HGT : Hid (Nd.got zs = true) := by show _ = _; rw [HGOT.out, hq, hy]; rfl
      have HTL : Hid (Nd.tells zs = ⟨x1, x2, x3, x4, K⟩) := by show _ = _; unfold Nd.tells; rw [HGT.out, if_pos rfl, HTOLD.out]
      clear hy hq
      go_wp2_with fail
      refine HN.out.mono ?_
      rintro e w5 ⟨rfl, hw5⟩
      obtain rfl := hw5.symm
      go_wp2_with (first | (refine wpList_load_row rfl 28 _ rfl w2.heap.size rfl 28 #[.int .i64 x1, .int .i64 x2, .int .i64 x3, .int .i64 x4, .slice (some ⟨gk, 0, none⟩) t t] (0, 0) _ HGN4.out Try.underlying28 rfl info_node ?_) | (refine wpList_store_row rfl 28 _ _ rfl w.heap.size #[.int .i64 x1, .int .i64 x2, .int .i64 x3, .int .i64 x4, .slice (some ⟨gk, 0, none⟩) t t] rfl rfl 28 #[.int .i64 0, .int .i64 0, .int .i64 0, .int .i64 0, .slice none 0 0] HG4.out info_node rfl (node_one x1 x2 x3 x4 _ t t) ?_))
      (try simp only [Exit.inBlock, Exit.then]); refine bodyPost_ret (results_node rfl _ _ w.heap.size #[.int .i64 x1, .int .i64 x2, .int .i64 x3, .int .i64 x4, .slice (some ⟨gk, 0, none⟩) t t] rfl (setRow_heap _ _ _ _ _ _ HG4.out) rfl) rfl ?_
      refine ⟨_, by rw [HGT.out]; rfl, ?_, below_setRow HB4.out (Nat.le_refl _) _⟩
      rw [HTL.out]
      refine ⟨some ⟨gk, 0, none⟩, t, by simp only; rw [HKL.out], ?_⟩
      simp only
      rw [HKL.out]
      exact arg_setRow HK4.out (fun h0 x hx => HGK.out h0 x hx) _
    | false =>
      rw [hy] at HN
      obtain ⟨hgf, htf⟩ := HEND.out false _ (Below.refl _ _) (by rw [hq, hy]; rfl) rfl
      have HGF := hide hgf
      have HTF := hide htf
      clear hy hq hgf htf
      go_wp2_with fail
      refine HN.out.mono ?_
      rintro e w5 ⟨rfl, hw5⟩
      obtain rfl := hw5.symm
      go_wp2_with (refine wpList_store_row rfl 28 _ _ rfl w.heap.size #[.int .i64 0, .int .i64 0, .int .i64 0, .int .i64 0, .slice none 0 0] rfl rfl 28 #[.int .i64 0, .int .i64 0, .int .i64 0, .int .i64 0, .slice none 0 0] HG4.out info_node rfl (node_one 0 0 0 0 none 0 0) ?_)
      (try simp only [Exit.inBlock, Exit.then]); refine bodyPost_ret (results_node rfl _ _ w.heap.size #[.int .i64 0, .int .i64 0, .int .i64 0, .int .i64 0, .slice none 0 0] rfl (setRow_heap _ _ _ _ _ _ HG4.out) rfl) rfl ?_
      exact ⟨_, by rw [HGF.out]; rfl, by rw [HTF.out]; exact nodeV_zero _, below_setRow HB4.out (Nat.le_refl _) _⟩
  | false =>
    rw [hq] at HRT
    obtain ⟨hgf, htf⟩ := HEND.out false _ (Below.refl _ _) (by rw [hq]; rfl) rfl
    have HGF := hide hgf
    have HTF := hide htf
    clear hq hgf htf
    go_wp2_with fail
    rw [← hW3]
    refine HRT.out.mono ?_
    rintro e w4 ⟨rfl, hb4⟩
    have HG4 := hide ((hb4.block _ (by omega)).trans HG3.out)
    have HB4 := hide (HB3.out.trans (hb4.mono HB3.out.size))
    clear hb4 hW3
    go_wp2_with (refine wpList_store_row rfl 28 _ _ rfl w.heap.size #[.int .i64 0, .int .i64 0, .int .i64 0, .int .i64 0, .slice none 0 0] rfl rfl 28 #[.int .i64 0, .int .i64 0, .int .i64 0, .int .i64 0, .slice none 0 0] HG4.out info_node rfl (node_one 0 0 0 0 none 0 0) ?_)
    (try simp only [Exit.inBlock, Exit.then]); refine bodyPost_ret (results_node rfl _ _ w.heap.size #[.int .i64 0, .int .i64 0, .int .i64 0, .int .i64 0, .slice none 0 0] rfl (setRow_heap _ _ _ _ _ _ HG4.out) rfl) rfl ?_
    exact ⟨_, by rw [HGF.out]; rfl, by rw [HTF.out]; exact nodeV_zero _, below_setRow HB4.out (Nat.le_refl _) _⟩

theorem nget_any {w : World} {a : Option Addr} {len cap : Nat} {zs : List Int} (hA : Arg .u8 w a len cap zs) (hl : len ≤ 1000) :
    Calls Try.prog 11 #[.slice a len cap] w fun e w' => ∃ v, e = .returned (.tuple #[v, .bool (Nd.got zs)]) ∧ NodeV w' v (Nd.tells zs) ∧ Below w.heap.size w w' := by
  by_cases h : Bk.isB zs = true ∧ zs.getD 4 0 = 1 ∧ zs.getD 5 0 ≤ 12
  · have := (byte_at hA.bytes 5).1
    exact nget_node hA hl h.1 h.2.1 (t := (zs.getD 5 0).toNat) (by omega) (by omega)
  · exact nget_other hA hl h
end Go.Proofs.Ytgckondfcmmklaa
