/-
  The document's answers (layer 11): GetDir.
-/
import Derived.Test.YtkmndllomheegaaRefLbD
import Derived.Test.YtkmndllomheegaaRefBkB
namespace Go.Proofs.Ytkmndllomheegaa
set_option linter.unusedVariables false
set_option linter.unusedSimpArgs false
open Go.RowKit

theorem lbd_byte {zs : List Int} (hz : Nums.Bytes zs) (i : Nat) : 0 ≤ zs.getD i 0 ∧ zs.getD i 0 ≤ 255 := by
  rw [List.getD_eq_getElem?_getD]
  by_cases h : i < zs.length
  · rw [List.getElem?_eq_getElem h]
    exact hz _ (List.getElem_mem _)
  · rw [List.getElem?_eq_none (by omega)]
    decide
theorem arg_none (w : World) : Arg .i64 w none 0 0 [] := ⟨Nat.le_refl _, Nat.zero_le _, ⟨rfl, .inl rfl⟩, (fun z hz => by cases hz), .inl rfl⟩
theorem dir_num {s : List Int} (hz : Nums.Bytes s) (i : Nat) : 0 ≤ Nums.rd ((s.drop (2 * i)).take 2) ∧ Nums.rd ((s.drop (2 * i)).take 2) < 65536 := by
  have h := Nums.rd_bounds _ (Nums.bytes_take (Nums.bytes_drop hz (2 * i)) 2)
  have hq : (256 : Int) ^ ((s.drop (2 * i)).take 2).length ≤ 256 ^ 2 := by
    rw [show (256 : Int) ^ ((s.drop (2 * i)).take 2).length = ((256 ^ ((s.drop (2 * i)).take 2).length : Nat) : Int) from (Int.natCast_pow 256 _).symm, show (256 : Int) ^ 2 = ((256 ^ 2 : Nat) : Int) from rfl]
    exact Int.ofNat_le.2 (Nat.pow_le_pow_right (by decide) (by simp; omega))
  have e : (256 : Int) ^ 2 = 65536 := by decide
  omega
theorem dirOf_wf {s : List Int} (hz : Nums.Bytes s) (t : Nat) : ∀ x ∈ Lb.dirOf s t, (Lit.int .i64 x).wf = true := fun x hx => by
  obtain ⟨i, _, rfl⟩ := List.mem_map.1 hx
  have := dir_num hz i
  exact wf_of_bd ⟨by omega, by omega⟩

set_option maxRecDepth 100000 in
set_option maxHeartbeats 2000000 in
theorem rgetdir_other {w : World} {a : Option Addr} {len cap : Nat} {zs : List Int} (hA : Arg .u8 w a len cap zs) (hl : len ≤ 100000) (h : ¬ (Bk.isB zs = true ∧ zs.getD 4 0 = 6 ∧ zs.getD 5 0 ≤ 16)) :
    Calls Try.prog 19 #[.slice a len cap] w fun e w' => ∃ a' n c', e = .returned (.tuple #[.slice a' n c', .bool (Lb.gotD zs)]) ∧ Arg .i64 w' a' n c' (Lb.tellsD zs) ∧ Below w.heap.size w w' := by
  have hg : Lb.gotD zs = false := decide_eq_false fun e => h ⟨e.1, e.2.1, e.2.2.1⟩
  have ht : Lb.tellsD zs = [] := by unfold Lb.tellsD; rw [hg]; rfl
  rw [hg, ht]
  have HO := hide (ropen_any hA hl)
  have hb4 := lbd_byte hA.bytes 4
  have hb5 := lbd_byte hA.bytes 5
  clear hA hg ht
  by_cases hB : Bk.isB zs = true
  · rw [if_pos hB] at HO
    by_cases h4 : zs.getD 4 0 = 6
    · have h5 : (16 : Int) < zs.getD 5 0 := by
        have : ¬ zs.getD 5 0 ≤ 16 := fun e => h ⟨hB, h4, e⟩
        omega
      rw [h4] at HO
      clear h hB h4 hb4
      generalize zs.getD 5 0 = t at *
      generalize strOfNums (zs.drop 8) = S at *
      go_enter Try.func19, Try.ntmps19
      go_wp2_with fail
      refine HO.out.mono ?_
      rintro e w1 ⟨rfl, hb1⟩
      have HB := hide hb1
      clear hb1
      go_wp2_with fail
      go_ret2
      exact ⟨_, _, _, rfl, arg_none _, HB.out⟩
    · clear h hB
      generalize zs.getD 4 0 = k at *
      generalize zs.getD 5 0 = t at *
      generalize strOfNums (zs.drop 8) = S at *
      have hk1 : (k != 6) = true := by simpa using h4
      go_enter Try.func19, Try.ntmps19
      go_wp2_with fail
      refine HO.out.mono ?_
      rintro e w1 ⟨rfl, hb1⟩
      have HB := hide hb1
      clear hb1
      go_wp2_with fail
      go_ret2
      exact ⟨_, _, _, rfl, arg_none _, HB.out⟩
  · rw [if_neg hB] at HO
    clear h hB
    go_enter Try.func19, Try.ntmps19
    go_wp2_with fail
    refine HO.out.mono ?_
    rintro e w1 ⟨rfl, hb1⟩
    have HB := hide hb1
    clear hb1
    go_wp2_with fail
    go_ret2
    exact ⟨_, _, _, rfl, arg_none _, HB.out⟩

set_option maxRecDepth 100000 in
set_option maxHeartbeats 4000000 in
theorem rgetdir_dir {w : World} {a : Option Addr} {len cap : Nat} {zs : List Int} (hA : Arg .u8 w a len cap zs) (hl : len ≤ 100000) (hB : Bk.isB zs = true) (h4 : zs.getD 4 0 = 6) (h5 : zs.getD 5 0 ≤ 16) :
    Calls Try.prog 19 #[.slice a len cap] w fun e w' => ∃ a' n c', e = .returned (.tuple #[.slice a' n c', .bool (Lb.gotD zs)]) ∧ Arg .i64 w' a' n c' (Lb.tellsD zs) ∧ Below w.heap.size w w' := by
  have hz := hA.bytes
  have hzl : zs.length = 64 := (of_decide_eq_true hB).1
  have hb5 := lbd_byte hz 5
  obtain ⟨t, ht⟩ : ∃ t : Nat, zs.getD 5 0 = t := ⟨(zs.getD 5 0).toNat, by omega⟩
  have ht16 : t ≤ 16 := by omega
  obtain ⟨s, hs⟩ : ∃ s, s = zs.drop 8 := ⟨_, rfl⟩
  have hsz : Nums.Bytes s := by rw [hs]; exact Nums.bytes_drop hz 8
  have hsl : s.length = 56 := by rw [hs]; simp; omega
  have hO := ropen_any hA hl
  rw [if_pos hB, h4, ht, ← hs] at hO
  have HT : Hid (Lb.toldD zs = Lb.dirOf s t) := by
    show Lb.toldD zs = _
    unfold Lb.toldD
    rw [← hs, ht, Int.toNat_natCast]
  have HPK := hide (fun W j => piece W s hsz (2 * j) 2 (by decide))
  have hSz := size_str s
  rw [hsl] at hSz
  have HO := hide hO
  have HGG : Hid (Bk.isB zs = true ∧ zs.getD 4 0 = 6 ∧ zs.getD 5 0 ≤ 16) := ⟨hB, h4, h5⟩
  have HA := hide hA
  have HWF := hide (dirOf_wf hsz)
  have HSZ := hide hsz
  have ht' : ¬ (16 : Int) < (t : Int) := by omega
  obtain ⟨i0, hi, hz0, hz1, hz2⟩ := info_parts info_int64
  generalize strOfNums s = S at *
  clear hA hO hB h4 h5 hzl hs hsz hsl hz hb5 ht
  go_enter Try.func19, Try.ntmps19
  go_wp2_with fail
  refine HO.out.mono ?_
  rintro e w1 ⟨rfl, hb1⟩
  have HB1 := hide hb1
  clear hb1
  go_wp2_with fail
  obtain ⟨G, hG⟩ : ∃ G, G = w1.heap.size := ⟨_, rfl⟩
  have HG := hide hG
  go_loopw [8, 9] (fun v i wr => ∃ j : Nat, j ≤ t ∧ i = .int .i64 j ∧ wr.ownsRow G 3 1 v j ((Lb.dirOf s j).map (Value.int .i64)) ∧ Below G w1 wr) (fun _ i _ => t - (intOf i).toNat)
  case atStart => exact ⟨0, Nat.zero_le _, rfl, ⟨rfl, .inl ⟨rfl, rfl⟩⟩, by rw [hG]; exact Below.refl _ _⟩
  case round =>
    obtain ⟨j, hj, rfl, hown, hb⟩ := hrel
    have HBR := hide hb
    have HOW := hide hown
    have hGr : G ≤ wr.heap.size := by rw [hG]; exact hb.size
    by_cases hlt : j < t
    · have hjI : (j : Int) < (t : Int) := by omega
      have HKS := hide (Lb.dirOf_succ s j)
      have HPJ := hide (fun W => HPK.out W j)
      obtain ⟨xj, hxj⟩ : ∃ x, Nums.rd ((s.drop (2 * j)).take 2) = x := ⟨_, rfl⟩
      rw [hxj] at HKS HPJ
      obtain ⟨Sj, hSj⟩ : ∃ x, S.extract (2 * j) (2 * j + 2) = x := ⟨_, rfl⟩
      rw [hSj] at HPJ
      have w1' : IntKind.i64.wrap (2 * (j : Int)) = 2 * (j : Int) := by rw [IntKind.wrap_i64]; omega
      have w2' : IntKind.i64.wrap (2 * (j : Int) + 2) = 2 * (j : Int) + 2 := by rw [IntKind.wrap_i64]; omega
      have n1' : (2 * (j : Int)).toNat = 2 * j := by omega
      have n2' : (2 * (j : Int) + 2).toNat = 2 * j + 2 := by omega
      have p1' : (0 : Int) ≤ 2 * (j : Int) := by omega
      have q2' : (2 * (j : Int)) ≤ 2 * (j : Int) + 2 := by omega
      have q3' : (2 * (j : Int) + 2) ≤ 56 := by omega
      have q4' : 2 * j + 2 ≤ 56 := by omega
      clear hown hb hxj
      go_wp2_with fail
      refine (HPJ.out _).mono ?_
      rintro e w5 ⟨rfl, hw5⟩
      obtain rfl := hw5.symm
      go_wp2_with (at_builtin; refine wpList_append_own _ rfl _ _ 34 rfl G 3 i0 _ 1 8 Try.underlying34 hi hz0 hz1 hz2 rfl (by decide) u8 j ((Lb.dirOf s j).map (Value.int .i64)) rfl (HOW.out.alloc _) ⟨wr.heap.size, 0, none⟩ 1 1 [.int .i64 xj] rfl rfl (cell_one_new _ _ _) (by simp [Value.oneCell']) (by unfold maxLen; omega) (by omega) (by simp; omega) ?_; intro v' w6 hown2 hgrow hiff)
      have HON := hide hown2
      have HBN := hide (own_below (HOW.out.alloc _) hgrow (by simp; omega) (HBR.out.alloc hGr _) (Nat.le_refl _))
      clear hown2 hgrow hiff
      go_wp2_with fail
      go_roundw
      case rel => exact ⟨j + 1, by omega, by go_num, by rw [HKS.out, List.map_append]; exact HON.out, HBN.out⟩
      case measure => simp [intOf]; omega
    · have hjI : ¬ (j : Int) < (t : Int) := by omega
      obtain rfl : j = t := by omega
      have hKL := Lb.dirOf_length s j
      have hown' : wr.ownsRow G 3 1 u8 (Lb.dirOf s j).length ((Lb.dirOf s j).map (Value.int .i64)) := by rw [hKL]; exact hown
      obtain ⟨ka, kc, hv, hKA, _⟩ := arg_of_own hown' (HWF.out j)
      rw [hKL] at hv hKA
      subst hv
      have HBw : Hid (Below w.heap.size w wr) := HB1.out.trans (hb.mono (by rw [hG]; exact HB1.out.size))
      have HD := hide (rdir_any hKA (by omega))
      have HKA := hide hKA
      have hzz : (Lb.toldD zs) = Lb.dirOf s j := HT.out
      rw [← hzz] at HD HKA
      clear hown hown' hb hKA hzz
      generalize hFF : Lb.toldD zs = F at *
      go_wp2_with fail
      refine HD.out.mono ?_
      rintro e w5 ⟨rfl, hb5⟩
      have HB5 := hide (HBw.out.trans (hb5.mono HBw.out.size))
      have HK5 := hide (HKA.out.below hb5)
      have hcv := conv_bytes cap (HA.out.2.2.1.below HB5.out)
      clear hb5
      by_cases hr : Lb.rightD F = true
      · rw [hr, if_pos rfl]
        by_cases he : Lb.blockD F = zs
        · have HGOT : Hid (Lb.gotD zs = true) := decide_eq_true ⟨HGG.out.1, HGG.out.2.1, HGG.out.2.2, by rw [hFF]; exact hr, by rw [hFF]; exact he⟩
          have HTELL : Hid (Lb.tellsD zs = F) := by show Lb.tellsD zs = _; unfold Lb.tellsD; rw [HGOT.out, if_pos rfl, hFF]
          rw [he]
          clear he hr hFF
          generalize strOfNums zs = X at *
          go_wp2_with fail
          go_ret2
          exact ⟨_, _, _, by rw [HGOT.out]; rfl, by rw [HTELL.out]; exact HK5.out, HB5.out⟩
        · have hbeq := str_ne (s := strOfNums (Lb.blockD F)) (t := strOfNums zs) (fun e => he (str_inj (Lb.blockD_bytes hr) HA.out.bytes e))
          have HGOT : Hid (Lb.gotD zs = false) := decide_eq_false fun e => he (by have := e.2.2.2.2; rw [hFF] at this; exact this)
          have HTELL : Hid (Lb.tellsD zs = []) := by show Lb.tellsD zs = _; unfold Lb.tellsD; rw [HGOT.out]; rfl
          clear he hr hFF
          generalize strOfNums (Lb.blockD F) = Y at *
          generalize strOfNums zs = X at *
          go_wp2_with fail
          go_ret2
          exact ⟨_, _, _, by rw [HGOT.out]; rfl, by rw [HTELL.out]; exact arg_none _, HB5.out⟩
      · have hr' : Lb.rightD F = false := by simpa using hr
        have HGOT : Hid (Lb.gotD zs = false) := decide_eq_false fun e => hr (by have := e.2.2.2.1; rw [hFF] at this; exact this)
        have HTELL : Hid (Lb.tellsD zs = []) := by show Lb.tellsD zs = _; unfold Lb.tellsD; rw [HGOT.out]; rfl
        rw [hr']
        clear hr hr' hFF
        generalize strOfNums zs = X at *
        go_wp2_with fail
        go_ret2
        exact ⟨_, _, _, by rw [HGOT.out]; rfl, by rw [HTELL.out]; exact arg_none _, HB5.out⟩

theorem rgetdir_any {w : World} {a : Option Addr} {len cap : Nat} {zs : List Int} (hA : Arg .u8 w a len cap zs) (hl : len ≤ 100000) :
    Calls Try.prog 19 #[.slice a len cap] w fun e w' => ∃ a' n c', e = .returned (.tuple #[.slice a' n c', .bool (Lb.gotD zs)]) ∧ Arg .i64 w' a' n c' (Lb.tellsD zs) ∧ Below w.heap.size w w' := by
  by_cases h : Bk.isB zs = true ∧ zs.getD 4 0 = 6 ∧ zs.getD 5 0 ≤ 16
  · exact rgetdir_dir hA hl h.1 h.2.1 h.2.2
  · exact rgetdir_other hA hl h
end Go.Proofs.Ytkmndllomheegaa
