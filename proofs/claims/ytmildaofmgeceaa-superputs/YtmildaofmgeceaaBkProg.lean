/-
  block.Seal, block.whole, block.Open, block.Kind: what they answer, for all arguments.
-/
import Derived.Test.YtmildaofmgeceaaRefBkB
import Derived.Test.YtmildaofmgeceaaOcZ
namespace Go.Proofs.Ytmildaofmgeceaa
set_option linter.unusedVariables false
set_option linter.unusedSimpArgs false
open Go.RowKit

theorem four_zero (m : List Int) (v : Int) : splice (List.replicate 4 0 ++ m) 0 (Nums.lay v 4) = Nums.lay v 4 ++ m := by
  unfold splice
  rw [Nums.length_lay]
  simp [List.replicate_succ]

theorem mid_made (k t : Int) (zs : List Int) (h : zs.length ≤ 56) : splice (((List.replicate 64 0).set 4 k).set 5 t) 8 zs = List.replicate 4 0 ++ Bk.mid k t zs := by
  have e : ((List.replicate 64 (0 : Int)).set 4 k).set 5 t = [0, 0, 0, 0, k, t, 0, 0] ++ List.replicate 56 0 := by
    simp [List.replicate_succ]
  rw [e]
  unfold splice Bk.mid Bk.fill
  obtain ⟨n, hn⟩ : ∃ n, n = zs.length := ⟨_, rfl⟩
  rw [← hn] at h ⊢
  have e1 : List.take 8 ([0, 0, 0, 0, k, t, 0, 0] ++ List.replicate 56 (0 : Int)) = [0, 0, 0, 0, k, t, 0, 0] := rfl
  have e2 : List.drop (8 + n) ([0, 0, 0, 0, k, t, 0, 0] ++ List.replicate 56 (0 : Int)) = List.replicate (56 - n) 0 := by
    rw [← List.drop_drop, show List.drop 8 ([0, 0, 0, 0, k, t, 0, 0] ++ List.replicate 56 (0 : Int)) = List.replicate 56 0 from rfl, List.drop_replicate]
  rw [e1, e2]
  simp [List.replicate_succ]

/-- octets are a block, told as the program asks. -/
theorem isB_asked {zs : List Int} (hz : Nums.Bytes zs) (hl : zs.length = 64) : Bk.isB zs = (decide (zs.getD 4 0 ≠ 0) && zeroB ((zs.drop 6).take 2) && decide (Crc.sum (zs.drop 4) = (Nums.rd (zs.take 4)).toNat)) := by
  have h4l : (zs.take 4).length = 4 := by simp; omega
  have h4b := Nums.bytes_take hz 4
  have hrb := Nums.rd_bounds _ h4b
  have hd4 : zs.drop 4 = zs.getD 4 0 :: zs.getD 5 0 :: zs.getD 6 0 :: zs.getD 7 0 :: zs.drop 8 := by
    have e : ∀ i, i < 64 → zs.drop i = zs.getD i 0 :: zs.drop (i + 1) := fun i hi => by
      rw [List.drop_eq_getElem_cons (by omega), List.getD_eq_getElem?_getD, List.getElem?_eq_getElem (by omega)]
      rfl
    rw [e 4 (by decide), e 5 (by decide), e 6 (by decide), e 7 (by decide)]
  have hd6 : (zs.drop 6).take 2 = [zs.getD 6 0, zs.getD 7 0] := by
    have : zs.drop 6 = (zs.drop 4).drop 2 := by rw [List.drop_drop]
    rw [this, hd4]
    rfl
  have hm : Bk.mid (zs.getD 4 0) (zs.getD 5 0) (zs.drop 8) = zs.getD 4 0 :: zs.getD 5 0 :: 0 :: 0 :: zs.drop 8 := by
    unfold Bk.mid
    rw [Bk.fill_full (by simp; omega)]
    rfl
  rw [Bool.eq_iff_iff]
  simp only [Bk.isB, Bool.and_eq_true, decide_eq_true_eq, hd6]
  constructor
  · rintro ⟨_, h0, hs⟩
    have h8 := Bk.shut_four (zs.getD 4 0) (zs.getD 5 0) (zs.drop 8)
    have hh := Bk.shut_head (zs.getD 4 0) (zs.getD 5 0) (zs.drop 8)
    rw [hs, hm] at h8
    rw [hs, ← Bk.shut_four, hs] at hh
    refine ⟨⟨h0, ?_⟩, ?_⟩
    · rw [hd4] at h8
      simp only [List.cons.injEq, true_and] at h8
      unfold zeroB
      rw [h8.1, h8.2.1]
      rfl
    · rw [hh, Nums.rd_lay]
      have := sum_lt (zs.drop 4)
      omega
  · rintro ⟨⟨h0, hn⟩, hs⟩
    have hn' := zeroB_true.1 hn
    have h6 : zs.getD 6 0 = 0 := hn' _ (by simp)
    have h7 : zs.getD 7 0 = 0 := hn' _ (by simp)
    refine ⟨hl, h0, ?_⟩
    unfold Bk.shut
    rw [hm]
    rw [h6, h7] at hd4
    rw [← hd4, hs, Int.toNat_of_nonneg hrb.1]
    have hlr := Nums.lay_rd _ h4b
    rw [h4l] at hlr
    rw [hlr]
    exact List.take_append_drop 4 zs

set_option maxHeartbeats 1000000 in
theorem bseal_no (w : World) (a : Option Addr) (len cap : Nat) (k t : Int) (hk : (Lit.int .i64 k).wf = true) (ht : (Lit.int .i64 t).wf = true) (hl : len ≤ 1000) (h : k < 1 ∨ 255 < k ∨ t < 0 ∨ 255 < t ∨ 56 < len) :
    Calls Try.prog 21 #[.int .i64 k, .int .i64 t, .slice a len cap] w fun e w' => e = .returned (.tuple #[.slice none 0 0, .bool false]) ∧ Below w.heap.size w w' := by
  obtain ⟨hk0, hk1⟩ := bd_i64 hk
  obtain ⟨ht0, ht1⟩ := bd_i64 ht
  clear hk ht
  by_cases c1 : k < 1
  · go_enter Try.func21, Try.ntmps21
    go_wp2
    go_ret2
    exact ⟨rfl, Below.refl _ _⟩
  · by_cases c2 : 255 < k
    · go_enter Try.func21, Try.ntmps21
      go_wp2
      go_ret2
      exact ⟨rfl, Below.refl _ _⟩
    · by_cases c3 : t < 0
      · go_enter Try.func21, Try.ntmps21
        go_wp2
        go_ret2
        exact ⟨rfl, Below.refl _ _⟩
      · by_cases c4 : 255 < t
        · go_enter Try.func21, Try.ntmps21
          go_wp2
          go_ret2
          exact ⟨rfl, Below.refl _ _⟩
        · have c5 : (56 : Int) < (len : Int) := by omega
          go_enter Try.func21, Try.ntmps21
          go_wp2
          go_ret2
          exact ⟨rfl, Below.refl _ _⟩

set_option maxHeartbeats 1000000 in
theorem bseal_yes {w : World} {a : Option Addr} {len cap : Nat} {zs : List Int} (k t : Int) (hk : 1 ≤ k ∧ k ≤ 255) (ht : 0 ≤ t ∧ t ≤ 255) (hA : Arg .u8 w a len cap zs) (hl : len ≤ 56) :
    Calls Try.prog 21 #[.int .i64 k, .int .i64 t, .slice a len cap] w fun e w' => ∃ g c tail, e = .returned (.tuple #[.slice (some ⟨g, 0, none⟩) 64 c, .bool true]) ∧ 64 ≤ c ∧ c ≤ maxLen ∧ w.heap.size ≤ g ∧ w'.heap[g]? = some (.cells ((Bk.shut k t zs).map (Value.int .u8) ++ tail).toArray 5 (0, 0)) ∧ Below w.heap.size w w' := by
  obtain ⟨hk1, hk2⟩ := hk
  obtain ⟨ht1, ht2⟩ := ht
  have hmk := make_bytes 64 (by decide)
  rw [show ((64 : Nat) : Int) = 64 from rfl] at hmk
  have hzl := hA.2.2.1.1
  have hli : (len : Int) ≤ 56 := by omega
  obtain ⟨L, hL⟩ : ∃ L, L = List.replicate 64 (0 : Int) := ⟨_, rfl⟩
  rw [← hL] at hmk
  have hLl : L.length = 64 := by rw [hL]; simp
  have hget4 := blk_get .u8 L 4 (by omega)
  have hget5 : ((blk .u8 L).setIfInBounds 4 (.int .u8 k))[5]? = some (.int .u8 (L.getD 5 0)) := by
    rw [blk_set, blk_get _ _ _ (by simp; omega)]
    simp [List.getElem?_set]
  obtain ⟨M, hM⟩ : ∃ M, M = List.replicate 4 0 ++ Bk.mid k t zs := ⟨_, rfl⟩
  have hcp : (Builtin.copy_ #[30, 30] 3 #[.slice (some ⟨w.heap.size, 8, none⟩) 56 56, .slice a len cap]).run Try.prog (w.alloc (.cells (((blk .u8 L).setIfInBounds 4 (.int .u8 k)).setIfInBounds 5 (.int .u8 t)) 5)) = .ok (.int .i64 len) (w.alloc (.cells (blk .u8 M) 5)) := by
    rw [blk_set, blk_set]
    have hB : Below w.heap.size w (w.alloc (.cells (blk .u8 ((L.set 4 k).set 5 t)) 5)) := (Below.refl _ _).alloc (Nat.le_refl _) _
    rw [copy_over (zs := (L.set 4 k).set 5 t) 8 56 56 cap (hA.2.2.1.below hB) (heap_alloc_new w _) hl (by simp; omega), setRow_alloc, hL, mid_made k t zs (by omega), hM]
  have hb := hA.bytes
  have hmb : Nums.Bytes (Bk.mid k t zs) := Bk.mid_bytes ⟨by omega, hk2⟩ ⟨ht1, ht2⟩ hb
  have hml : (Bk.mid k t zs).length = 60 := Bk.mid_length (by omega)
  have hMl : M.length = 64 := by rw [hM, List.length_append, hml]; rfl
  have hMd : (M.drop 4).take 60 = Bk.mid k t zs := by
    rw [hM, List.drop_left' (by rfl)]
    exact List.take_of_length_le (by omega)
  obtain ⟨W, hW⟩ : ∃ W, W = w.alloc (.cells (blk .u8 M) 5) := ⟨_, rfl⟩
  have hgM : W.heap[w.heap.size]? = some (.cells (blk .u8 M) 5 (0, 0)) := by rw [hW]; exact heap_alloc_new w _
  have hWs : W.heap.size = w.heap.size + 1 := by rw [hW]; simp
  have hwW : Below w.heap.size w W := by rw [hW]; exact (Below.refl _ _).alloc (Nat.le_refl _) _
  have hRM := row_of_block hgM hMl
  have hRd : Row .u8 W (some ⟨w.heap.size, 4, none⟩) 60 (Bk.mid k t zs) := by
    obtain ⟨b', off', e, h⟩ := hRM.cut 4 60 (by decide) (by decide)
    cases e
    rw [hMd] at h
    exact h
  have hS := sum_one ⟨some ⟨w.heap.size, 4, none⟩, 60, 60, Bk.mid k t zs⟩ W ⟨by show 60 ≤ maxLen; unfold maxLen; decide, hRd, hmb⟩
  rw [hWs] at hS
  have hlt := sum_lt (Bk.mid k t zs)
  have HE : Hid (splice M 0 (Nums.lay (Crc.sum (Bk.mid k t zs) : Nat) 4) = Bk.shut k t zs) := by
    rw [hM]
    exact four_zero _ _
  have HP := hide (fun w1 (h : Below W.heap.size W w1) (hv : (Lit.int .u64 (Crc.sum (Bk.mid k t zs) : Nat)).wf = true) => put_yes (some ⟨w.heap.size, 0, none⟩) 64 64 0 4 (Crc.sum (Bk.mid k t zs) : Nat) M w1 (by decide) (Nat.le_refl _) (hRM.below h) hv (by decide) (by decide) (by decide))
  rw [hWs] at HP
  have HwW := hide hwW
  have HWs := hide hWs
  have HS := hide hS
  have hcp' := hcp
  rw [← hW] at hcp
  generalize hs : Crc.sum (Bk.mid k t zs) = s at *
  have hsw : (Lit.int .u64 (s : Int)).wf = true := by
    simp [Lit.wf, IntKind.min, IntKind.max, IntKind.signed, IntKind.bits]; omega
  have HSW := hide hsw
  clear hL hM hS hMd hgM hRM hRd hwW hWs hA hmb hml hb hs hsw hcp'
  go_enter Try.func21, Try.ntmps21
  rw [hW] at hcp
  go_wp2_with fail
  rw [← hW]
  refine HS.out.mono ?_
  rintro e w1 ⟨rfl, hb1⟩
  have HP1 := hide (HP.out w1 hb1 HSW.out)
  have HB1 := hide (HwW.out.trans (hb1.mono (by have := HWs.out; omega)))
  clear hb1 hcp hmk hget4 hget5
  go_wp2_with fail
  refine HP1.out.mono ?_
  rintro e w2 ⟨rfl, hb2, hg2⟩
  have HB2 := hide (HB1.out.trans (hb2.mono HB1.out.size))
  rw [HE.out] at hg2
  have HG := hide hg2
  clear hb2 hg2
  go_wp2_with fail
  go_ret2
  exact ⟨_, _, [], rfl, Nat.le_refl _, by unfold maxLen; decide, HB1.out.size, by rw [List.append_nil]; exact HG.out, HB2.out⟩

theorem isB_short {zs : List Int} (h : ¬ zs.length = 64) : Bk.isB zs = false := decide_eq_false fun e => h e.1

set_option maxHeartbeats 1000000 in
theorem whole_any {w : World} {a : Option Addr} {len cap : Nat} {zs : List Int} (hA : Arg .u8 w a len cap zs) (hl : len ≤ 1000) :
    Calls Try.prog 43 #[.slice a len cap] w fun e w' => e = .returned (.bool (Bk.isB zs)) ∧ Below w.heap.size w w' := by
  have hzl := hA.2.2.1.1
  by_cases hne : len = 64
  · subst hne
    have hz := hA.bytes
    have hr := hA.2.2.1
    have hcm := hA.2.1
    have hlc := hA.1
    unfold maxLen at hcm
    obtain ⟨b, off, rfl, hc⟩ : ∃ b off, a = some ⟨b, off, none⟩ ∧ ∀ i, i < 64 → w.cell? ⟨b, off + i, none⟩ = some (.int .u8 (zs.getD i 0)) := by
      obtain ⟨_, h0 | ⟨b', off', e, _, h⟩⟩ := hr
      · cases h0
      · exact ⟨b', off', e, h⟩
    have hE := isB_asked hz hzl
    have hbk : ∀ i, i < 64 → 0 ≤ zs.getD i 0 ∧ zs.getD i 0 ≤ 255 := fun i hi => by
      rw [List.getD_eq_getElem?_getD, List.getElem?_eq_getElem (by omega)]
      exact hz _ (List.getElem_mem _)
    have h4 := hc 4 (by decide)
    have h4b := hbk 4 (by decide)
    have hcap : (64 : Int) ≤ (cap : Int) := by omega
    have hN := hide (noughts_yes (some ⟨b, off, none⟩) 64 cap 6 2 zs w (by unfold maxLen; decide) hlc hr hz (by decide))
    have hr4 : Row .u8 w (some ⟨b, off, none⟩) 4 (zs.take 4) := by
      obtain ⟨b', off', e, h⟩ := hr.cut 0 4 (by decide) (by decide)
      cases e
      exact h
    have hRd := read_any (some ⟨b, off, none⟩) 4 cap (zs.take 4) w (by unfold maxLen; decide) hr4 (Nums.bytes_take hz 4)
    rw [List.take_take] at hRd
    have hrb := Nums.rd_bounds _ (Nums.bytes_take hz 4)
    rw [show (zs.take 4).length = 4 by simp; omega] at hrb
    have hr60 : Row .u8 w (some ⟨b, off + 4, none⟩) 60 (zs.drop 4) := by
      obtain ⟨b', off', e, h⟩ := hr.cut 4 60 (by decide) (by decide)
      cases e
      rw [List.take_of_length_le (by simp; omega)] at h
      exact h
    have hs1 := slices_one (s := ⟨some ⟨b, off + 4, none⟩, 60, cap - 4, zs.drop 4⟩) ⟨by show 60 ≤ maxLen; unfold maxLen; decide, hr60, Nums.bytes_drop hz 4⟩
    have hF := fun x => fits_any x _ 1 1 _ _ (by unfold maxLen; decide) hs1
    rw [flat_one] at hF
    obtain ⟨x, hx⟩ : ∃ x : Nat, Nums.rd (zs.take 4) = x := ⟨(Nums.rd (zs.take 4)).toNat, by omega⟩
    have hmin : zs.take (min 8 4) = zs.take 4 := rfl
    rw [hmin, hx] at hRd
    rw [hx, Int.toNat_natCast] at hE
    rw [hx] at hrb
    have hxl : x < 4294967296 := by omega
    have HR := hide hRd
    have HF := hide (hF x)
    have HB0 := hide ((Below.refl w.heap.size w).alloc (Nat.le_refl _) (.cells #[.slice (some ⟨b, off + 4, none⟩) 60 (cap - 4)] 30))
    rw [hE]
    clear hRd hF hs1 hr60 hr4 hc hA hr hz hE hbk hx hrb hmin
    generalize zeroB ((zs.drop 6).take 2) = q at *
    generalize hd : decide (Crc.sum (zs.drop 4) = x) = d at *
    generalize zs.getD 4 0 = z at *
    clear hd
    by_cases h0 : z = 0
    · subst h0
      go_enter Try.func43, Try.ntmps43
      go_wp2_with fail
      go_ret
      exact ⟨rfl, Below.refl _ _⟩
    · have hzb : (z == 0) = false := by simpa using h0
      rw [decide_eq_true h0, Bool.true_and]
      cases q with
      | false =>
        go_enter Try.func43, Try.ntmps43
        go_wp2_with fail
        refine hN.out.mono ?_
        rintro e w1 ⟨rfl, hw1⟩
        obtain rfl := hw1.symm
        go_wp2_with fail
        go_ret
        exact ⟨rfl, Below.refl _ _⟩
      | true =>
        rw [Bool.true_and]
        go_enter Try.func43, Try.ntmps43
        go_wp2_with fail
        refine hN.out.mono ?_
        rintro e w1 ⟨rfl, hw1⟩
        obtain rfl := hw1.symm
        go_wp2_with fail
        refine HR.out.mono ?_
        rintro e w1 ⟨rfl, hw1⟩
        obtain rfl := hw1.symm
        go_wp2_with fail
        refine HF.out.mono ?_
        rintro e w1 ⟨rfl, hb1⟩
        have HB := hide (HB0.out.trans (hb1.mono HB0.out.size))
        clear hb1
        go_wp2_with fail
        go_ret
        exact ⟨rfl, HB.out⟩
  · rw [isB_short (by omega)]
    have hI : ¬ (len : Int) = 64 := by omega
    have hbn : ((len : Int) != 64) = true := by simp [bne, hI]
    clear hA
    go_enter Try.func43, Try.ntmps43
    go_wp2_with fail
    go_ret
    exact ⟨rfl, Below.refl _ _⟩

theorem isB_len {zs : List Int} (h : Bk.isB zs = true) : zs.length = 64 := (of_decide_eq_true h).1


set_option maxHeartbeats 1000000 in
theorem bopen_no {w : World} {a : Option Addr} {len cap : Nat} {zs : List Int} (hA : Arg .u8 w a len cap zs) (hl : len ≤ 1000) (h : Bk.isB zs = false) :
    Calls Try.prog 29 #[.slice a len cap] w fun e w' => e = .returned (.tuple #[.int .i64 0, .int .i64 0, .slice none 0 0, .bool false]) ∧ Below w.heap.size w w' := by
  have HW := hide (whole_any hA hl)
  rw [h] at HW
  clear hA h
  go_enter Try.func29, Try.ntmps29
  go_wp2_with fail
  refine HW.out.mono ?_
  rintro e w1 ⟨rfl, hb1⟩
  have HB := hide hb1
  clear hb1
  go_wp2_with fail
  go_returns
  exact ⟨rfl, HB.out⟩

set_option maxHeartbeats 1000000 in
theorem bopen_yes {w : World} {a : Option Addr} {len cap : Nat} {zs : List Int} (hA : Arg .u8 w a len cap zs) (hl : len ≤ 1000) (h : Bk.isB zs = true) :
    Calls Try.prog 29 #[.slice a len cap] w fun e w' => ∃ a' c, e = .returned (.tuple #[.int .i64 (zs.getD 4 0), .int .i64 (zs.getD 5 0), .slice a' 56 c, .bool true]) ∧ Arg .u8 w' a' 56 c (zs.drop 8) ∧ Below w.heap.size w w' := by
  have HW := hide (whole_any hA hl)
  rw [h] at HW
  have hlen := isB_len h
  have hzl := hA.2.2.1.1
  obtain rfl : len = 64 := by omega
  have hz := hA.bytes
  have hbk : ∀ i, i < 64 → 0 ≤ zs.getD i 0 ∧ zs.getD i 0 ≤ 255 := fun i hi => by
    rw [List.getD_eq_getElem?_getD, List.getElem?_eq_getElem (by omega)]
    exact hz _ (List.getElem_mem _)
  have hb4 := hbk 4 (by decide)
  have hb5 := hbk 5 (by decide)
  have hlc := hA.1
  have hcm := hA.2.1
  unfold maxLen at hcm
  obtain ⟨b, off, rfl⟩ : ∃ b off, a = some ⟨b, off, none⟩ := by
    obtain h | h := hA.2.2.2.2
    · omega
    · exact h
  have HC : Hid (∀ w', Below w.heap.size w w' → Row .u8 w' (some ⟨b, off + 8, none⟩) 56 (zs.drop 8) ∧ w'.cell? ⟨b, off + 4, none⟩ = some (.int .u8 (zs.getD 4 0)) ∧ w'.cell? ⟨b, off + 5, none⟩ = some (.int .u8 (zs.getD 5 0))) := fun w' hb => by
    have hr := hA.2.2.1.below hb
    constructor
    · obtain ⟨b', off', e, h⟩ := hr.cut 8 56 (by decide) (by decide)
      cases e
      rw [List.take_of_length_le (by simp; omega)] at h
      exact h
    · obtain ⟨_, h0 | ⟨b', off', e, _, h⟩⟩ := hr
      · cases h0
      · cases e
        exact ⟨h 4 (by decide), h 5 (by decide)⟩
  have hmk := make_bytes 56 (by decide)
  rw [show ((56 : Nat) : Int) = 56 from rfl] at hmk
  obtain ⟨L, hL⟩ : ∃ L, L = List.replicate 56 (0 : Int) := ⟨_, rfl⟩
  rw [← hL] at hmk
  have HLl : Hid (L.length = 56) := by rw [hL]; rfl
  have HL : Hid ((zs.drop 8).length = 56 ∧ Nums.Bytes (zs.drop 8)) := ⟨by simp; omega, Nums.bytes_drop hz 8⟩
  have hcap : (64 : Int) ≤ (cap : Int) := by omega
  clear hA hz hzl hlen h hbk hL
  generalize zs.getD 4 0 = k at *
  generalize zs.getD 5 0 = t at *
  generalize zs.drop 8 = Z at *
  go_enter Try.func29, Try.ntmps29
  go_wp2_with fail
  refine HW.out.mono ?_
  rintro e w1 ⟨rfl, hb1⟩
  have hcp := copy_new (cap - 8) (HC.out w1 hb1).1 L HLl.out
  have HB2 := hide (hb1.alloc hb1.size (.cells (blk .u8 Z) 5))
  have h4 := (HC.out _ HB2.out).2.1
  have h5 := (HC.out _ HB2.out).2.2
  have HA : Hid (Arg .u8 (w1.alloc (.cells (blk .u8 Z) 5)) (some ⟨w1.heap.size, 0, none⟩) 56 56 Z) :=
    ⟨Nat.le_refl _, by unfold maxLen; decide, row_of_block (heap_alloc_new w1 _) HL.out.1, fun z hz => by have := HL.out.2 z hz; simpa [Lit.wf, IntKind.min, IntKind.max, IntKind.signed, IntKind.bits] using this, .inr ⟨_, _, rfl⟩⟩
  clear hb1
  go_wp2_with fail
  go_quiet (fail)
  go_wp2_with fail
  go_returns
  exact ⟨_, _, rfl, HA.out.below (bdrewN _ nq), HB2.out.trans ((bdrewN _ nq).mono HB2.out.size)⟩
end Go.Proofs.Ytmildaofmgeceaa
