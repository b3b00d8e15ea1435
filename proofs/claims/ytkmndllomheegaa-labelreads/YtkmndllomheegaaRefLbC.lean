/-
  The document's answers (layer 11): Get, of a queue.
-/
import Derived.Test.YtkmndllomheegaaRefLbB
import Derived.Test.YtkmndllomheegaaRefNdC
import Derived.Laws.ResultCell
import Derived.Laws.Tables
namespace Go.Proofs.Ytkmndllomheegaa
set_option linter.unusedVariables false
set_option linter.unusedSimpArgs false
open Go.RowKit

theorem queueC_set (nm : List Int) (c : Int) (l : List Int) (j : Nat) (x : Int) : (queueC ⟨nm, c, l⟩).setIfInBounds (2 + j) (.int .i64 x) = queueC ⟨nm, c, l.set j x⟩ := by
  unfold queueC
  rw [show 2 + j = j + 1 + 1 by omega]
  simp
theorem lb_drew (W : World) : W.drew.heap = W.heap := rfl
theorem lb_byte {zs : List Int} (hz : Nums.Bytes zs) (i : Nat) : 0 ≤ zs.getD i 0 ∧ zs.getD i 0 ≤ 255 := by
  rw [List.getD_eq_getElem?_getD]
  by_cases h : i < zs.length
  · rw [List.getElem?_eq_getElem h]
    exact hz _ (List.getElem_mem _)
  · rw [List.getElem?_eq_none (by omega)]
    decide

set_option maxRecDepth 100000 in
set_option maxHeartbeats 2000000 in
theorem rgetq_other {w : World} {a : Option Addr} {len cap : Nat} {zs : List Int} (hA : Arg .u8 w a len cap zs) (hl : len ≤ 100000) (h : ¬ (Bk.isB zs = true ∧ zs.getD 4 0 = 5 ∧ zs.getD 5 0 ≤ 28)) :
    Calls Try.prog 18 #[.slice a len cap] w fun e w' => e = .returned (.tuple #[.agg (queueC (Lb.tellsQ zs)), .bool (Lb.gotQ zs)]) ∧ Below w.heap.size w w' := by
  have hg : Lb.gotQ zs = false := decide_eq_false fun e => h ⟨e.1, e.2.1, e.2.2.1⟩
  have ht : Lb.tellsQ zs = Lb.nilQ := by unfold Lb.tellsQ; rw [hg]; rfl
  obtain ⟨V, hV⟩ : ∃ V : Value, V = .tuple #[.agg (queueC (Lb.tellsQ zs)), .bool (Lb.gotQ zs)] := ⟨_, rfl⟩
  rw [← hV]
  rw [hg, ht] at hV
  have HV := hide hV
  obtain ⟨W, hW⟩ : ∃ W, W = w.alloc (.cells #[Value.string ⟨#[]⟩, Value.int .i64 0, Value.int .i64 0, Value.int .i64 0, Value.int .i64 0, Value.int .i64 0, Value.int .i64 0, Value.int .i64 0, Value.int .i64 0, Value.int .i64 0, Value.int .i64 0, Value.int .i64 0, Value.int .i64 0, Value.int .i64 0] 25) := ⟨_, rfl⟩
  have hb0 : Below w.heap.size w W := by rw [hW]; exact (Below.refl _ _).alloc (Nat.le_refl _) _
  have hg0 : W.heap[w.heap.size]? = some (.cells (queueC Lb.nilQ) 25 (0, 0)) := by rw [hW]; exact heap_alloc_new w _
  have HO := hide (ropen_any (hA.below hb0) hl)
  have HB0 := hide hb0
  have HG0 := hide hg0
  have hb4 := lb_byte hA.bytes 4
  have hb5 := lb_byte hA.bytes 5
  clear hA hg ht hb0 hg0 hV
  by_cases hB : Bk.isB zs = true
  · rw [if_pos hB] at HO
    by_cases h4 : zs.getD 4 0 = 5
    · have h5 : (28 : Int) < zs.getD 5 0 := by
        have : ¬ zs.getD 5 0 ≤ 28 := fun e => h ⟨hB, h4, e⟩
        omega
      rw [h4] at HO
      clear h hB h4 hb4
      generalize zs.getD 5 0 = t at *
      generalize strOfNums (zs.drop 8) = S at *
      go_enter Try.func18, Try.ntmps18
      go_wp2_with fail
      rw [← hW]
      refine HO.out.mono ?_
      rintro e w1 ⟨rfl, hb1⟩
      have HG9 := hide ((hb1.block _ ((Array.getElem?_eq_some_iff.1 HG0.out).1)).trans HG0.out)
      have HB9 := hide (HB0.out.trans (hb1.mono HB0.out.size))
      clear hb1 hW
      go_wp2_with (refine wpList_store_row rfl 25 _ _ rfl w.heap.size #[Value.string ⟨#[]⟩, Value.int .i64 0, Value.int .i64 0, Value.int .i64 0, Value.int .i64 0, Value.int .i64 0, Value.int .i64 0, Value.int .i64 0, Value.int .i64 0, Value.int .i64 0, Value.int .i64 0, Value.int .i64 0, Value.int .i64 0, Value.int .i64 0] rfl rfl 25 (queueC Lb.nilQ) HG9.out info_queue rfl (queueC_one Lb.nilQ) ?_)
      (try simp only [Exit.inBlock, Exit.then]); refine bodyPost_ret (results_row rfl Try.underlying25 _ _ w.heap.size #[Value.string ⟨#[]⟩, Value.int .i64 0, Value.int .i64 0, Value.int .i64 0, Value.int .i64 0, Value.int .i64 0, Value.int .i64 0, Value.int .i64 0, Value.int .i64 0, Value.int .i64 0, Value.int .i64 0, Value.int .i64 0, Value.int .i64 0, Value.int .i64 0] rfl (setRow_heap _ _ _ _ _ _ HG9.out) info_queue) rfl ?_
      exact ⟨by rw [HV.out]; rfl, below_setRow HB9.out (Nat.le_refl _) _⟩
    · clear h hB
      generalize zs.getD 4 0 = k at *
      generalize zs.getD 5 0 = t at *
      generalize strOfNums (zs.drop 8) = S at *
      have hk1 : (k != 5) = true := by simpa using h4
      go_enter Try.func18, Try.ntmps18
      go_wp2_with fail
      rw [← hW]
      refine HO.out.mono ?_
      rintro e w1 ⟨rfl, hb1⟩
      have HG9 := hide ((hb1.block _ ((Array.getElem?_eq_some_iff.1 HG0.out).1)).trans HG0.out)
      have HB9 := hide (HB0.out.trans (hb1.mono HB0.out.size))
      clear hb1 hW
      go_wp2_with (refine wpList_store_row rfl 25 _ _ rfl w.heap.size #[Value.string ⟨#[]⟩, Value.int .i64 0, Value.int .i64 0, Value.int .i64 0, Value.int .i64 0, Value.int .i64 0, Value.int .i64 0, Value.int .i64 0, Value.int .i64 0, Value.int .i64 0, Value.int .i64 0, Value.int .i64 0, Value.int .i64 0, Value.int .i64 0] rfl rfl 25 (queueC Lb.nilQ) HG9.out info_queue rfl (queueC_one Lb.nilQ) ?_)
      (try simp only [Exit.inBlock, Exit.then]); refine bodyPost_ret (results_row rfl Try.underlying25 _ _ w.heap.size #[Value.string ⟨#[]⟩, Value.int .i64 0, Value.int .i64 0, Value.int .i64 0, Value.int .i64 0, Value.int .i64 0, Value.int .i64 0, Value.int .i64 0, Value.int .i64 0, Value.int .i64 0, Value.int .i64 0, Value.int .i64 0, Value.int .i64 0, Value.int .i64 0] rfl (setRow_heap _ _ _ _ _ _ HG9.out) info_queue) rfl ?_
      exact ⟨by rw [HV.out]; rfl, below_setRow HB9.out (Nat.le_refl _) _⟩
  · rw [if_neg hB] at HO
    clear h hB
    go_enter Try.func18, Try.ntmps18
    go_wp2_with fail
    rw [← hW]
    refine HO.out.mono ?_
    rintro e w1 ⟨rfl, hb1⟩
    have HG9 := hide ((hb1.block _ ((Array.getElem?_eq_some_iff.1 HG0.out).1)).trans HG0.out)
    have HB9 := hide (HB0.out.trans (hb1.mono HB0.out.size))
    clear hb1 hW
    go_wp2_with (refine wpList_store_row rfl 25 _ _ rfl w.heap.size #[Value.string ⟨#[]⟩, Value.int .i64 0, Value.int .i64 0, Value.int .i64 0, Value.int .i64 0, Value.int .i64 0, Value.int .i64 0, Value.int .i64 0, Value.int .i64 0, Value.int .i64 0, Value.int .i64 0, Value.int .i64 0, Value.int .i64 0, Value.int .i64 0] rfl rfl 25 (queueC Lb.nilQ) HG9.out info_queue rfl (queueC_one Lb.nilQ) ?_)
    (try simp only [Exit.inBlock, Exit.then]); refine bodyPost_ret (results_row rfl Try.underlying25 _ _ w.heap.size #[Value.string ⟨#[]⟩, Value.int .i64 0, Value.int .i64 0, Value.int .i64 0, Value.int .i64 0, Value.int .i64 0, Value.int .i64 0, Value.int .i64 0, Value.int .i64 0, Value.int .i64 0, Value.int .i64 0, Value.int .i64 0, Value.int .i64 0, Value.int .i64 0] rfl (setRow_heap _ _ _ _ _ _ HG9.out) info_queue) rfl ?_
    exact ⟨by rw [HV.out]; rfl, below_setRow HB9.out (Nat.le_refl _) _⟩

set_option maxRecDepth 100000 in
set_option maxHeartbeats 4000000 in
theorem rgetq_queue {w : World} {a : Option Addr} {len cap : Nat} {zs : List Int} (hA : Arg .u8 w a len cap zs) (hl : len ≤ 100000) (hB : Bk.isB zs = true) (h4 : zs.getD 4 0 = 5) (h5 : zs.getD 5 0 ≤ 28) :
    Calls Try.prog 18 #[.slice a len cap] w fun e w' => e = .returned (.tuple #[.agg (queueC (Lb.tellsQ zs)), .bool (Lb.gotQ zs)]) ∧ Below w.heap.size w w' := by
  have hz := hA.bytes
  have hzl : zs.length = 64 := (of_decide_eq_true hB).1
  have hb5 := lb_byte hz 5
  obtain ⟨t, ht⟩ : ∃ t : Nat, zs.getD 5 0 = t := ⟨(zs.getD 5 0).toNat, by omega⟩
  have ht28 : t ≤ 28 := by omega
  obtain ⟨V, hV⟩ : ∃ V : Value, V = .tuple #[.agg (queueC (Lb.tellsQ zs)), .bool (Lb.gotQ zs)] := ⟨_, rfl⟩
  rw [← hV]
  have HV0 := hide hV
  obtain ⟨s, hs⟩ : ∃ s, s = zs.drop 8 := ⟨_, rfl⟩
  have hsz : Nums.Bytes s := by rw [hs]; exact Nums.bytes_drop hz 8
  have hsl : s.length = 56 := by rw [hs]; simp; omega
  obtain ⟨W, hW⟩ : ∃ W, W = w.alloc (.cells #[Value.string ⟨#[]⟩, Value.int .i64 0, Value.int .i64 0, Value.int .i64 0, Value.int .i64 0, Value.int .i64 0, Value.int .i64 0, Value.int .i64 0, Value.int .i64 0, Value.int .i64 0, Value.int .i64 0, Value.int .i64 0, Value.int .i64 0, Value.int .i64 0] 25) := ⟨_, rfl⟩
  have hb0 : Below w.heap.size w W := by rw [hW]; exact (Below.refl _ _).alloc (Nat.le_refl _) _
  have hg0 : W.heap[w.heap.size]? = some (.cells (queueC Lb.nilQ) 25 (0, 0)) := by rw [hW]; exact heap_alloc_new w _
  have hO := ropen_any (hA.below hb0) hl
  rw [if_pos hB, h4, ht, ← hs] at hO
  have HT : Hid (Lb.toldQ zs = Lb.parseQ s t) := by
    show Lb.toldQ zs = _
    unfold Lb.toldQ
    rw [← hs, ht, Int.toNat_natCast]
  have HP0 := hide (fun W => piece W s hsz 0 4 (by decide))
  have HPK := hide (fun W j => piece W s hsz (4 + 2 * j) 2 (by decide))
  have HNM : Hid ((strOfNums s).extract 28 (28 + t) = strOfNums ((s.drop 28).take t)) := by
    show _ = _
    rw [str_cut, Nat.add_sub_cancel_left]
  have hSz := size_str s
  rw [hsl] at hSz
  have HO := hide hO
  have HB0 := hide hb0
  have HG0 := hide hg0
  have HGG : Hid (Bk.isB zs = true ∧ zs.getD 4 0 = 5 ∧ zs.getD 5 0 ≤ 28) := ⟨hB, h4, h5⟩
  have HA := hide hA
  have HSZ := hide hsz
  generalize hSS : strOfNums s = S at *
  have HSS := hide hSS
  obtain ⟨S0, hS0⟩ : ∃ x, S.extract 0 (0 + 4) = x := ⟨_, rfl⟩
  rw [hS0] at HP0
  have hs0 : S.extract 0 4 = S0 := hS0
  obtain ⟨x0, hx0⟩ : ∃ x, Nums.rd ((s.drop 0).take 4) = x := ⟨_, rfl⟩
  rw [hx0] at HP0
  obtain ⟨N, hN⟩ : ∃ x, S.extract 28 (28 + t) = x := ⟨_, rfl⟩
  rw [hN] at HNM
  have ht' : ¬ (28 : Int) < (t : Int) := by omega
  have ht2 : (28 : Int) + (t : Int) ≤ 56 := by omega
  have hX0 := hide hx0
  clear hA hO hb0 hg0 hB h4 h5 hzl hs hsz hsl hz hV hb5 ht hS0 hx0 hSS
  go_enter Try.func18, Try.ntmps18
  go_wp2_with fail
  rw [← hW]
  refine HO.out.mono ?_
  rintro e w1 ⟨rfl, hb1⟩
  have HG1 := hide ((hb1.block _ ((Array.getElem?_eq_some_iff.1 HG0.out).1)).trans HG0.out)
  have HB1 := hide (HB0.out.trans (hb1.mono HB0.out.size))
  clear hb1 hW
  have w28 : IntKind.i64.wrap (28 + (t : Int)) = 28 + (t : Int) := by rw [IntKind.wrap_i64]; omega
  have n28 : (28 + (t : Int)).toNat = 28 + t := by omega
  have t0 : (28 : Int) ≤ 28 + (t : Int) := by omega
  have t1 : 28 + t ≤ 56 := by omega
  have HP1 := hide (fun W => HP0.out W)
  go_wp2_with fail
  go_region_held3 (fun _ => True) (exact trivial) ((go_at_call 37; refine (HP1.out _).mono ?_; rintro e w' ⟨rfl, hw'⟩; obtain rfl := hw'.symm))
  all_goals
    have HQ0 : Hid (#[Value.string N, Value.int .i64 x0, Value.int .i64 0, Value.int .i64 0, Value.int .i64 0, Value.int .i64 0, Value.int .i64 0, Value.int .i64 0, Value.int .i64 0, Value.int .i64 0, Value.int .i64 0, Value.int .i64 0, Value.int .i64 0, Value.int .i64 0] = queueC ⟨(s.drop 28).take t, x0, List.replicate 12 0⟩) := by
      show _ = _
      rw [HNM.out]
      rfl
    obtain ⟨X, hX⟩ : ∃ X, X = (w1.alloc (.cells #[Value.string N, Value.int .i64 x0, Value.int .i64 0, Value.int .i64 0, Value.int .i64 0, Value.int .i64 0, Value.int .i64 0, Value.int .i64 0, Value.int .i64 0, Value.int .i64 0, Value.int .i64 0, Value.int .i64 0, Value.int .i64 0, Value.int .i64 0] 25)).drew := ⟨_, rfl⟩
    obtain ⟨G, hG⟩ : ∃ G, G = w1.heap.size := ⟨_, rfl⟩
    have hgX : X.heap[G]? = some (.cells (queueC ⟨(s.drop 28).take t, x0, Lb.rootsOf s 0 ++ List.replicate 12 0⟩) 25 (0, 0)) := by
      rw [hX, lb_drew, hG, heap_alloc_new, HQ0.out]
      rfl
    have hbX : Below G w1 X := by rw [hX, hG]; exact ((Below.refl _ _).alloc (Nat.le_refl _) _).drew
    have HGW : Hid (w.heap.size < G) := by show _ < _; rw [hG]; exact (Array.getElem?_eq_some_iff.1 HG1.out).1
    have HGX := hide hgX
    have HBX := hide hbX
    clear w28 n28 t0 t1 HP1 HP0 hgX hbX hs0 hN
    go_wp2_with fail
    rw [← hX]
    rw [← hG]
    clear hX hG
    go_loopw [9] (fun i wr => ∃ j : Nat, j ≤ 12 ∧ i = .int .i64 j ∧ wr.heap[G]? = some (.cells (queueC ⟨(s.drop 28).take t, x0, Lb.rootsOf s j ++ List.replicate (12 - j) 0⟩) 25 (0, 0)) ∧ Below G w1 wr) (fun i _ => 12 - (intOf i).toNat)
    case atStart => exact ⟨0, Nat.zero_le _, rfl, HGX.out, HBX.out⟩
    case round =>
      obtain ⟨j, hj, rfl, hgr, hbr⟩ := hrel
      have HGR := hide hgr
      have HBR := hide hbr
      have hGlt : G < wr.heap.size := (Array.getElem?_eq_some_iff.1 hgr).1
      by_cases hlt : j < 12
      · have hjI : (j : Int) < 12 := by omega
        have cj := (boxed_queue hgr).2.2 j (by simp [Lb.rootsOf]; omega)
        have fj : wr.frozen? ⟨G, 2 + j, none⟩ = false := by simp [World.frozen?, hgr]
        have HPJ := hide (HPK.out wr j)
        have HFS := hide (Lb.rootsOf_succ s j)
        obtain ⟨xj, hxj⟩ : ∃ x, Nums.rd ((s.drop (4 + 2 * j)).take 2) = x := ⟨_, rfl⟩
        rw [hxj] at HPJ HFS
        obtain ⟨Sj, hSj⟩ : ∃ x, S.extract (4 + 2 * j) (4 + 2 * j + 2) = x := ⟨_, rfl⟩
        rw [hSj] at HPJ
        have hSj' : S.extract (4 + 2 * j) (6 + 2 * j) = Sj := by rw [show 6 + 2 * j = 4 + 2 * j + 2 by omega]; exact hSj
        have w1' : IntKind.i64.wrap (2 * (j : Int)) = 2 * (j : Int) := by rw [IntKind.wrap_i64]; omega
        have w2' : IntKind.i64.wrap (4 + 2 * (j : Int)) = 4 + 2 * (j : Int) := by rw [IntKind.wrap_i64]; omega
        have w3' : IntKind.i64.wrap (6 + 2 * (j : Int)) = 6 + 2 * (j : Int) := by rw [IntKind.wrap_i64]; omega
        have n1' : (4 + 2 * (j : Int)).toNat = 4 + 2 * j := by omega
        have n2' : (6 + 2 * (j : Int)).toNat = 6 + 2 * j := by omega
        have p1' : (0 : Int) ≤ 4 + 2 * (j : Int) := by omega
        have q2' : (4 + 2 * (j : Int)) ≤ 6 + 2 * (j : Int) := by omega
        have q3' : (6 + 2 * (j : Int)) ≤ 56 := by omega
        have q4' : 6 + 2 * j ≤ 56 := by omega
        have HST : Hid ((Lb.rootsOf s j ++ List.replicate (12 - j) 0).set j xj = Lb.rootsOf s (j + 1) ++ List.replicate (12 - (j + 1)) 0) := by
          show _ = _
          rw [HFS.out]
          obtain ⟨m, hm⟩ : ∃ m, 12 - j = m + 1 := ⟨12 - j - 1, by omega⟩
          rw [hm, show 12 - (j + 1) = m by omega, List.replicate_succ]
          have hlj : (Lb.rootsOf s j).length = j := by simp [Lb.rootsOf]
          rw [List.set_append_right _ _ (by omega), hlj]
          simp
        generalize (Lb.rootsOf s j ++ List.replicate (12 - j) 0).getD j 0 = old at cj
        clear hgr hbr hxj hSj
        go_wp2_with fail
        refine HPJ.out.mono ?_
        rintro e w5 ⟨rfl, hw5⟩
        obtain rfl := hw5.symm
        go_wp2_with fail
        go_roundw
        case rel => exact ⟨j + 1, by omega, by go_num, by rw [heap_set HGR.out, queueC_set, HST.out], HBR.out.setCell (p := ⟨G, 2 + j, none⟩) (Nat.le_refl G) _⟩
        case measure => simp [intOf]; omega
      · have hjI : ¬ (j : Int) < 12 := by omega
        obtain rfl : j = 12 := by omega
        have HPQ : Hid (Lb.parseQ s t = ⟨(s.drop 28).take t, x0, Lb.rootsOf s 12⟩) := by
          show _ = _
          rw [← hX0.out, List.drop_zero]
          rfl
        have hgF : wr.heap[G]? = some (.cells (queueC (Lb.parseQ s t)) 25 (0, 0)) := by
          rw [HPQ.out]
          have := hgr
          rw [Nat.sub_self, List.replicate_zero, List.append_nil] at this
          exact this
        have hwf := Lb.parse_wf HSZ.out t
        have HGx0 := hide hgF
        have HGN : Hid (wr.heap[w.heap.size]? = some (.cells (queueC Lb.nilQ) 25 (0, 0))) := (hbr.block _ HGW.out).trans HG1.out
        have HBw : Hid (Below w.heap.size w wr) := HB1.out.trans (hbr.mono (Nat.le_of_lt HGW.out))
        have hws : w.heap.size < wr.heap.size := Nat.lt_trans HGW.out hGlt
        have hne := later_some wr
        have hcv := fun x : Later wr => conv_bytes cap ((HA.out.2.2.1.below HBw.out).below x.property)
        have hx0b : (Lit.int .i64 (Lb.parseQ s t).count).wf = true := by
          have h := Nums.rd_bounds _ (Nums.bytes_take HSZ.out 4)
          have hq : (256 : Int) ^ (s.take 4).length ≤ 256 ^ 4 := by
            rw [show (256 : Int) ^ (s.take 4).length = ((256 ^ (s.take 4).length : Nat) : Int) from (Int.natCast_pow 256 _).symm, show (256 : Int) ^ 4 = ((256 ^ 4 : Nat) : Int) from rfl]
            exact Int.ofNat_le.2 (Nat.pow_le_pow_right (by decide) (by simp; omega))
          have e : (256 : Int) ^ 4 = 4294967296 := by decide
          exact wf_of_bd ⟨by show -9223372036854775808 ≤ Nums.rd (s.take 4); omega, by show Nums.rd (s.take 4) ≤ 9223372036854775807; omega⟩
        have hnl : (Lb.parseQ s t).name.length ≤ 1000000 := by
          show ((s.drop 28).take t).length ≤ 1000000
          rw [List.length_take]
          omega
        have HRT := hide (fun x : Later wr => rlbright_any (Lb.parseQ s t) x.val hwf hnl hx0b)
        have HPT := hide (fun (hr : Lb.rightQ (Lb.parseQ s t) = true) (x : Later wr) => rlbput_any (Lb.parseQ s t) x.val hwf hr)
        have HSF := hide (queue_size hwf)
        have HSQ : Hid ((queueC Lb.nilQ).size = (queueC (Lb.parseQ s t)).size) := by show _ = _; rw [queueC_size, queueC_size, hwf.2]; rfl
        have HWF := hide hwf
        have hgf : ∀ X, (∃ x : Later wr, X = x.val) → X.heap[G]? = some (.cells (queueC (Lb.parseQ s t)) 25 (0, 0)) := fun X hx => by
          obtain ⟨x, rfl⟩ := hx
          exact (x.property.block _ hGlt).trans HGx0.out
        have HGF := hide hgf
        rw [← HT.out] at *
        clear hgr hbr hgF hgf hwf hx0b hnl HPQ
        generalize hFF : Lb.toldQ zs = F at *
        by_cases hr : Lb.rightQ F = true
        · have HPU := hide (HPT.out hr)
          rw [hr] at HRT
          by_cases he : Lb.blockQ F = zs
          · rw [he] at HPU
            have HV : Hid (V = .tuple #[.agg (queueC F), .bool true]) := by
              have hgot : Lb.gotQ zs = true := decide_eq_true ⟨HGG.out.1, HGG.out.2.1, HGG.out.2.2, by rw [hFF]; exact hr, by rw [hFF]; exact he⟩
              show V = _
              rw [HV0.out]
              unfold Lb.tellsQ
              rw [hgot, if_pos rfl, hFF]
            clear he hr HPT hFF
            generalize strOfNums zs = Y at *
            go_wp2_with fail
            refine wp_region_later (by kernel_rfl) (by kernel_rfl) ?_
            repeat (first
              | (refine wpQuiet_load_row_on (by rfl) 25 _ rfl G rfl 25 _ (0, 0) _ HGF.out Try.underlying25 rfl HSF.out ?_; simp only [Act.put, List.setIfInBounds_toArray, List.set_cons_zero, List.set_cons_succ])
              | go_big_quiet_step (first | rfl | (go_at_call 9; refine calls_later (HRT.out _)) | (go_at_call 12; refine calls_later (HPU.out _))))
            refine wpQuiet_nil ?_
            intro w9 hw9
            obtain ⟨⟨w9', hb9⟩, rfl⟩ := hw9
            have HG9 := hide ((hb9.block _ hws).trans HGN.out)
            have HB9 := hide (HBw.out.trans (hb9.mono HBw.out.size))
            have HGx := hide ((hb9.block _ hGlt).trans HGx0.out)
            clear hb9 hne hcv
            go_wp2_with (first | (refine wpList_load_row rfl 25 _ rfl G rfl 25 (queueC F) (0, 0) _ HGx.out Try.underlying25 rfl HSF.out ?_) | (refine wpList_store_row rfl 25 _ _ rfl w.heap.size (queueC F) rfl rfl 25 (queueC Lb.nilQ) HG9.out HSF.out HSQ.out (queueC_one F) ?_))
            (try simp only [Exit.inBlock, Exit.then]); refine bodyPost_ret (results_row rfl Try.underlying25 _ _ w.heap.size (queueC F) rfl (setRow_heap _ _ _ _ _ _ HG9.out) HSF.out) rfl ?_
            exact ⟨by rw [HV.out]; rfl, below_setRow HB9.out (Nat.le_refl _) _⟩
          · have hbeq := str_ne (s := strOfNums (Lb.blockQ F)) (t := strOfNums zs) (fun e => he (str_inj (Lb.block_bytes HWF.out hr) HA.out.bytes e))
            have HV : Hid (V = .tuple #[.agg (queueC Lb.nilQ), .bool false]) := by
              have hgot : Lb.gotQ zs = false := decide_eq_false fun e => he (by have := e.2.2.2.2; rw [hFF] at this; exact this)
              show V = _
              rw [HV0.out]
              unfold Lb.tellsQ
              rw [hgot]
              rfl
            clear he hr HPT hFF
            generalize strOfNums (Lb.blockQ F) = Z at *
            generalize strOfNums zs = Y at *
            go_wp2_with fail
            refine wp_region_later (by kernel_rfl) (by kernel_rfl) ?_
            repeat (first
              | (refine wpQuiet_load_row_on (by rfl) 25 _ rfl G rfl 25 _ (0, 0) _ HGF.out Try.underlying25 rfl HSF.out ?_; simp only [Act.put, List.setIfInBounds_toArray, List.set_cons_zero, List.set_cons_succ])
              | go_big_quiet_step (first | rfl | (go_at_call 9; refine calls_later (HRT.out _)) | (go_at_call 12; refine calls_later (HPU.out _))))
            refine wpQuiet_nil ?_
            intro w9 hw9
            obtain ⟨⟨w9', hb9⟩, rfl⟩ := hw9
            have HG9 := hide ((hb9.block _ hws).trans HGN.out)
            have HB9 := hide (HBw.out.trans (hb9.mono HBw.out.size))
            have HGx := hide ((hb9.block _ hGlt).trans HGx0.out)
            clear hb9 hne hcv
            go_wp2_with (refine wpList_store_row rfl 25 _ _ rfl w.heap.size #[Value.string ⟨#[]⟩, Value.int .i64 0, Value.int .i64 0, Value.int .i64 0, Value.int .i64 0, Value.int .i64 0, Value.int .i64 0, Value.int .i64 0, Value.int .i64 0, Value.int .i64 0, Value.int .i64 0, Value.int .i64 0, Value.int .i64 0, Value.int .i64 0] rfl rfl 25 (queueC Lb.nilQ) HG9.out info_queue rfl (queueC_one Lb.nilQ) ?_)
            (try simp only [Exit.inBlock, Exit.then]); refine bodyPost_ret (results_row rfl Try.underlying25 _ _ w.heap.size #[Value.string ⟨#[]⟩, Value.int .i64 0, Value.int .i64 0, Value.int .i64 0, Value.int .i64 0, Value.int .i64 0, Value.int .i64 0, Value.int .i64 0, Value.int .i64 0, Value.int .i64 0, Value.int .i64 0, Value.int .i64 0, Value.int .i64 0, Value.int .i64 0] rfl (setRow_heap _ _ _ _ _ _ HG9.out) info_queue) rfl ?_
            exact ⟨by rw [HV.out]; rfl, below_setRow HB9.out (Nat.le_refl _) _⟩
        · have hr' : Lb.rightQ F = false := by simpa using hr
          have HV : Hid (V = .tuple #[.agg (queueC Lb.nilQ), .bool false]) := by
            have hgot : Lb.gotQ zs = false := decide_eq_false fun e => hr (by have := e.2.2.2.1; rw [hFF] at this; exact this)
            show V = _
            rw [HV0.out]
            unfold Lb.tellsQ
            rw [hgot]
            rfl
          rw [hr'] at HRT
          have HPU : Hid (∀ x : Later wr, True) := fun _ => trivial
          clear hr hr' HPT hFF
          generalize strOfNums zs = Y at *
          go_wp2_with fail
          refine wp_region_later (by kernel_rfl) (by kernel_rfl) ?_
          repeat (first
            | (refine wpQuiet_load_row_on (by rfl) 25 _ rfl G rfl 25 _ (0, 0) _ HGF.out Try.underlying25 rfl HSF.out ?_; simp only [Act.put, List.setIfInBounds_toArray, List.set_cons_zero, List.set_cons_succ])
            | go_big_quiet_step (first | rfl | (go_at_call 9; refine calls_later (HRT.out _))))
          refine wpQuiet_nil ?_
          intro w9 hw9
          obtain ⟨⟨w9', hb9⟩, rfl⟩ := hw9
          have HG9 := hide ((hb9.block _ hws).trans HGN.out)
          have HB9 := hide (HBw.out.trans (hb9.mono HBw.out.size))
          have HGx := hide ((hb9.block _ hGlt).trans HGx0.out)
          clear hb9 hne hcv
          go_wp2_with (refine wpList_store_row rfl 25 _ _ rfl w.heap.size #[Value.string ⟨#[]⟩, Value.int .i64 0, Value.int .i64 0, Value.int .i64 0, Value.int .i64 0, Value.int .i64 0, Value.int .i64 0, Value.int .i64 0, Value.int .i64 0, Value.int .i64 0, Value.int .i64 0, Value.int .i64 0, Value.int .i64 0, Value.int .i64 0] rfl rfl 25 (queueC Lb.nilQ) HG9.out info_queue rfl (queueC_one Lb.nilQ) ?_)
          (try simp only [Exit.inBlock, Exit.then]); refine bodyPost_ret (results_row rfl Try.underlying25 _ _ w.heap.size #[Value.string ⟨#[]⟩, Value.int .i64 0, Value.int .i64 0, Value.int .i64 0, Value.int .i64 0, Value.int .i64 0, Value.int .i64 0, Value.int .i64 0, Value.int .i64 0, Value.int .i64 0, Value.int .i64 0, Value.int .i64 0, Value.int .i64 0, Value.int .i64 0] rfl (setRow_heap _ _ _ _ _ _ HG9.out) info_queue) rfl ?_
          exact ⟨by rw [HV.out]; rfl, below_setRow HB9.out (Nat.le_refl _) _⟩

theorem rgetq_any {w : World} {a : Option Addr} {len cap : Nat} {zs : List Int} (hA : Arg .u8 w a len cap zs) (hl : len ≤ 100000) :
    Calls Try.prog 18 #[.slice a len cap] w fun e w' => e = .returned (.tuple #[.agg (queueC (Lb.tellsQ zs)), .bool (Lb.gotQ zs)]) ∧ Below w.heap.size w w' := by
  by_cases h : Bk.isB zs = true ∧ zs.getD 4 0 = 5 ∧ zs.getD 5 0 ≤ 28
  · exact rgetq_queue hA hl h.1 h.2.1 h.2.2
  · exact rgetq_other hA hl h
end Go.Proofs.Ytkmndllomheegaa
