/-
  fate.spread, fate.All.
-/
import Derived.Test.YtnaenokegomoeaaFtC
import Derived.Test.YtnaenokegomoeaaPmPlain
import Derived.Test.YtnaenokegomoeaaOcQ
namespace Go.Proofs.Ytnaenokegomoeaa
set_option linter.unusedVariables false
set_option linter.unusedSimpArgs false
open Go.RowKit

theorem info_bytes : (Try.prog.info? 38).map (fun i => (i.zero, i.size, i.bytes)) = some (some (.slice none 0 0), 1, 24) := by kernel_rfl

/-- images: a slice of one's own, of slices of octets. -/
def Imgs (w : World) (B : Nat) (v : Value) (LL : List (List Int)) : Prop := ∃ ss : List Value, w.ownsRow B 38 1 v LL.length ss ∧
  ∀ (i : Nat) (L : List Int), LL[i]? = some L → ∃ g : Nat, ss[i]? = some (Value.slice (some ⟨g, 0, none⟩) (8 * L.length) (8 * L.length)) ∧ w.heap[g]? = some (Obj.cells (blk .u8 (octs L)) 5 (0, 0))
theorem Imgs.below {w w' : World} {B : Nat} {v : Value} {LL : List (List Int)} (h : Imgs w B v LL) (hb : Below w.heap.size w w') : Imgs w' B v LL := by
  obtain ⟨ss, h1, h2⟩ := h
  refine ⟨ss, own_kept h1 hb, fun i L hi => ?_⟩
  obtain ⟨g, e, hg⟩ := h2 i L hi
  exact ⟨g, e, (hb.block g (heap_lt hg)).trans hg⟩
theorem Imgs.base {w : World} {B B' : Nat} {v : Value} {LL : List (List Int)} (h : Imgs w B v LL) (hB : B' ≤ B) : Imgs w B' v LL := by
  obtain ⟨ss, h1, h2⟩ := h
  exact ⟨ss, own_base h1 hB, h2⟩
theorem Imgs.form {w : World} {B : Nat} {v : Value} {LL : List (List Int)} (h : Imgs w B v LL) : ∃ a cap, v = .slice a LL.length cap := by
  obtain ⟨ss, h1, _⟩ := h
  exact own_len h1
/-- one of them, read. -/
theorem Imgs.at {w : World} {B : Nat} {v : Value} {LL : List (List Int)} (h : Imgs w B v LL) {i : Nat} {L : List Int} (hi : LL[i]? = some L) :
    ∃ ga cap g, v = .slice (some ⟨ga, 0, none⟩) LL.length cap ∧ ga < w.heap.size ∧ w.cell? ⟨ga, i, none⟩ = some (.slice (some ⟨g, 0, none⟩) (8 * L.length) (8 * L.length)) ∧ w.heap[g]? = some (Obj.cells (blk .u8 (octs L)) 5 (0, 0)) := by
  obtain ⟨ss, h1, h2⟩ := h
  have hlt := (List.getElem?_eq_some_iff.1 hi).1
  obtain ⟨g, e, hg⟩ := h2 i L hi
  rcases h1.2 with ⟨_, h0⟩ | ⟨ga, cap, cur, hv, hB, hga, hle, _, hcs, htake⟩
  · omega
  · refine ⟨ga, cap, g, hv, heap_lt hga, ?_, hg⟩
    have h3 : (cur.toList.take (LL.length * 1))[i]? = ss[i]? := by rw [htake]
    rw [List.getElem?_take, if_pos (by omega), e] at h3
    have h4 : cur[i]? = some (.slice (some ⟨g, 0, none⟩) (8 * L.length) (8 * L.length)) := by simpa using h3
    simp [World.cell?, hga, h4]
/-- behind append(out, next). -/
theorem Imgs.grown {w w2 : World} {B : Nat} {v v' : Value} {LL : List (List Int)} {L : List Int} {g : Nat} {ss : List Value} (h : w.ownsRow B 38 1 v LL.length ss)
    (h2 : ∀ (i : Nat) (L : List Int), LL[i]? = some L → ∃ g : Nat, ss[i]? = some (Value.slice (some ⟨g, 0, none⟩) (8 * L.length) (8 * L.length)) ∧ w.heap[g]? = some (Obj.cells (blk .u8 (octs L)) 5 (0, 0)))
    (hg : w.heap[g]? = some (Obj.cells (blk .u8 (octs L)) 5 (0, 0))) {o : Obj} (hgrow : (w.alloc o).grownBy w2 v.ownBlock) (hown : w2.ownsRow B 38 1 v' (LL.length + 1) (ss ++ [.slice (some ⟨g, 0, none⟩) (8 * L.length) (8 * L.length)])) : Imgs w2 B v' (LL ++ [L]) := by
  have hkeep : ∀ (q : Nat) (M : List Int), w.heap[q]? = some (.cells (blk .u8 (octs M)) 5 (0, 0)) → w2.heap[q]? = some (.cells (blk .u8 (octs M)) 5 (0, 0)) := fun q M hq => by
    have e : (w.alloc o).heap[q]? = w.heap[q]? := Below.heap_alloc _ _ _ (heap_lt hq)
    rw [hgrow.block q (by simp; have := heap_lt hq; omega) (fun e' => ?_), e]
    · exact hq
    · rcases h.2 with ⟨rfl, _⟩ | ⟨ga, cap, cur, rfl, hB, hga, _⟩
      · simp [Value.ownBlock] at e'
      · simp [Value.ownBlock] at e'
        subst e'
        rw [hq] at hga
        have := Option.some.inj hga
        injection this with _ ht
        exact absurd ht (by decide)
  have hsl : ss.length = LL.length := by have := h.1; omega
  refine ⟨_, by rw [List.length_append]; exact hown, fun i M hi => ?_⟩
  by_cases hlt : i < LL.length
  · rw [List.getElem?_append_left hlt] at hi
    obtain ⟨q, e, hq⟩ := h2 i M hi
    exact ⟨q, by rw [List.getElem?_append_left (by omega)]; exact e, hkeep q M hq⟩
  · have hi' : i = LL.length := by
      have := (List.getElem?_eq_some_iff.1 hi).1
      simp at this
      omega
    subst hi'
    rw [List.getElem?_append_right (Nat.le_refl _)] at hi
    simp at hi
    subst hi
    exact ⟨g, by rw [List.getElem?_append_right (by omega), hsl]; simp, hkeep g _ hg⟩

set_option maxRecDepth 100000 in
set_option maxHeartbeats 4000000 in
theorem spread_any {w : World} {B0 : Nat} {v0 : Value} {LL : List (List Int)} (hI : Imgs w B0 v0 LL) {N p : Nat} (hLN : ∀ L ∈ LL, L.length = N) (hp : p < N) (hN : N ≤ 40000) (hLL : LL.length ≤ 64)
    {a : Option Addr} {n cap : Nat} {vs : List Int} (hr : Row .u64 w a n vs) (hn : n ≤ 3) (hwf : ∀ v ∈ vs, (Lit.int .u64 v).wf = true) :
    Calls Try.prog 41 #[v0, .int .i64 p, .slice a n cap] w fun e w' => ∃ v, e = .returned v ∧ Imgs w' w.heap.size v (Pm.spreadL LL p vs) ∧ Below w.heap.size w w' := by
  obtain ⟨i0, hi, hz0, hz1, hz2⟩ := info_parts info_bytes
  have HI := hide hI
  have HR := hide hr
  have HWF := hide hwf
  have HLN := hide hLN
  obtain ⟨xa, xc, rfl⟩ := hI.form
  have hSL : ∀ k, k ≤ LL.length → (Pm.spreadL (LL.take k) p vs).length ≤ 192 := fun k hk => by
    rw [Pm.spreadL_length, hr.1, List.length_take]
    have : min k LL.length ≤ 64 := by omega
    exact Nat.le_trans (Nat.mul_le_mul this hn) (by decide)
  have HSL := hide hSL
  clear hI hr hwf hLN hSL
  obtain ⟨nl, hnl⟩ : ∃ nl, LL.length = nl := ⟨_, rfl⟩
  rw [hnl] at hLL ⊢
  have HNL := hide hnl
  clear hnl
  have hpi : (p : Int) < (N : Int) := by omega
  go_enter Try.func41, Try.ntmps41
  go_wp2_with fail
  go_loopw [7, 16] (fun u i wr => ∃ k : Nat, k ≤ nl ∧ i = .int .i64 k ∧ Imgs wr w.heap.size u (Pm.spreadL (LL.take k) p vs) ∧ Below w.heap.size w wr) (fun _ i _ => nl - (intOf i).toNat)
  case atStart => exact ⟨0, Nat.zero_le _, rfl, ⟨[], ⟨rfl, .inl ⟨rfl, rfl⟩⟩, fun i L h => by simp [Pm.spreadL] at h⟩, Below.refl _ _⟩
  case round =>
    obtain ⟨k, hk, rfl, him, hb⟩ := hrel
    have HIM := hide him
    have HB := hide hb
    by_cases hlt : k < nl
    · have hkn : (k : Int) < (nl : Int) := by omega
      obtain ⟨L, hL⟩ : ∃ L, LL[k]? = some L := ⟨_, List.getElem?_eq_getElem (by rw [HNL.out]; exact hlt)⟩
      obtain ⟨ga, cc, g, hv, hgaw, hcell, hgc⟩ := HI.out.at hL
      cases hv
      have hLl := HLN.out L (List.mem_of_getElem? hL)
      rw [hLl] at hcell
      have hc1 := (hb.cell (p := ⟨ga, k, none⟩) hgaw).trans hcell
      have HGC := hide hgc
      have HST := hide (Pm.spreadL_step p vs hL)
      have HLl := hide hLl
      have hpre := HSL.out k (by rw [HNL.out]; omega)
      clear hcell hgc hL him hb
      obtain ⟨pre, hpr⟩ : ∃ pre, Pm.spreadL (LL.take k) p vs = pre := ⟨_, rfl⟩
      rw [hpr] at HIM HST hpre
      clear hpr
      obtain ⟨wo, hwo⟩ : ∃ wo, wo = wr := ⟨_, rfl⟩
      subst hwo
      have hppI : (p : Int) * 8 ≤ 8 * (N : Int) := by omega
      have hpw : IntKind.i64.wrap ((p : Int) * 8) = (p : Int) * 8 := by rw [IntKind.wrap_i64]; omega
      go_wp2_with fail
      go_loopw [7, 22] (fun u i wx => ∃ j : Nat, j ≤ n ∧ i = .int .i64 j ∧ Imgs wx w.heap.size u (pre ++ (vs.take j).map fun v => L.set p v) ∧ Below w.heap.size w wx) (fun _ i _ => n - (intOf i).toNat)
      case atStart => exact ⟨0, Nat.zero_le _, rfl, by simpa using HIM.out, HB.out⟩
      case round =>
        obtain ⟨j, hj, rfl, himx, hbx⟩ := hrel
        have HIX := hide himx
        have HBX := hide hbx
        by_cases hjl : j < n
        · have hjn : (j : Int) < (n : Int) := by omega
          obtain ⟨hvl, h0 | ⟨rb, ro, rfl, hrw, hrc⟩⟩ := HR.out.below hbx
          · omega
          have hck := hrc j hjl
          have hzm : vs.getD j 0 ∈ vs := by
            rw [List.getD_eq_getElem?_getD, List.getElem?_eq_getElem (by omega)]
            exact List.getElem_mem _
          have hzw := HWF.out _ hzm
          have HNX : Hid (pre ++ (vs.take (j + 1)).map (fun v => L.set p v) = (pre ++ (vs.take j).map fun v => L.set p v) ++ [L.set p (vs.getD j 0)]) := by
            show _ = _
            have e : vs.take (j + 1) = vs.take j ++ [vs.getD j 0] := by
              rw [List.take_add_one, List.getD_eq_getElem?_getD, List.getElem?_eq_getElem (by omega)]
              rfl
            rw [e, List.map_append, List.append_assoc]
            rfl
          have hgx : wr.heap[g]? = some (Obj.cells (blk .u8 (octs L)) 5 (0, 0)) := (hbx.block g (heap_lt HGC.out)).trans HGC.out
          have hput := put_yes (some ⟨g, 0, none⟩) (8 * N) (8 * N) (8 * p) 8 (vs.getD j 0) (octs L) wr (by omega) (Nat.le_refl _) (row_of_block hgx (by rw [octs_length, HLl.out])) hzw (by decide) (by decide) (by omega)
          rw [show ((8 * p : Nat) : Int) = (p : Int) * 8 by omega, octs_set _ (by rw [HLl.out]; exact hp)] at hput
          have HPUT := hide hput
          have hlen : (pre ++ (vs.take j).map fun v => L.set p v).length ≤ 195 := by
            rw [List.length_append, List.length_map, List.length_take]
            omega
          clear hrc hzm hzw hgx hput himx hbx hvl
          generalize vs.getD j 0 = z at *
          obtain ⟨acc, hacc⟩ : ∃ acc, (pre ++ (vs.take j).map fun v => L.set p v) = acc := ⟨_, rfl⟩
          rw [hacc] at HIX HNX hlen
          clear hacc
          have hsz := HBX.out.size
          go_wp2_with fail
          refine HPUT.out.mono ?_
          rintro e w5 ⟨rfl, hb5, hg5⟩
          obtain ⟨ss, hown, hev⟩ := HIX.out.below hb5
          have HOWN := hide hown
          have HEV := hide hev
          have HG5 := hide hg5
          have HB5 := hide (HBX.out.trans (hb5.mono HBX.out.size))
          have hs5 := hb5.size
          clear hown hev hg5 hb5 hck
          obtain ⟨gn, hgn⟩ : ∃ gn, wr.heap.size = gn := ⟨_, rfl⟩
          rw [hgn] at HG5 ⊢
          clear hgn
          go_wp2_with (at_builtin; refine wpList_append_own _ rfl _ _ 50 rfl w.heap.size 38 i0 _ 1 24 Try.underlying50 hi hz0 hz1 hz2 rfl (by decide) u7 acc.length ss rfl (HOWN.out.alloc _) ⟨w5.heap.size, 0, none⟩ 1 1 [.slice (some ⟨gn, 0, none⟩) (8 * N) (8 * N)] rfl rfl (cell_one_new _ _ _) (by simp [Value.oneCell']) (by unfold maxLen; omega) (by omega) (by simp; omega) ?_; intro v' w6 hown6 hgrow hiff)
          have hLs : (L.set p z).length = N := by rw [List.length_set, HLl.out]
          have HIN : Hid (Imgs w6 w.heap.size v' (acc ++ [L.set p z])) := Imgs.grown HOWN.out HEV.out HG5.out hgrow (by rw [hLs]; exact hown6)
          have HB6 : Hid (Below w.heap.size w w6) := by
            refine (HB5.out.alloc (by omega) _).grown hgrow (by simp; omega) (fun q hq => (HOWN.out.lt q hq).1)
          clear hown6 hgrow hiff hLs
          go_wp2_with fail
          go_roundw
          case rel => exact ⟨j + 1, by omega, by go_num, by rw [HNX.out]; exact HIN.out, HB6.out⟩
          case measure => simp [intOf]; omega
        · have hjn : ¬ (j : Int) < (n : Int) := by omega
          obtain rfl : j = n := by omega
          have HT : Hid (vs.take j = vs) := List.take_of_length_le (by rw [HR.out.1]; exact Nat.le_refl _)
          rw [HT.out, ← HST.out] at HIX
          clear himx hbx
          go_wp2_with fail
          go_roundw
          case rel => exact ⟨k + 1, by omega, by go_num, HIX.out, HBX.out⟩
          case measure => simp [intOf]; omega
    · have hkn : ¬ (k : Int) < (nl : Int) := by omega
      obtain rfl : k = nl := by omega
      have HT : Hid (LL.take k = LL) := List.take_of_length_le (by rw [HNL.out]; exact Nat.le_refl _)
      rw [HT.out] at HIM
      clear him hb
      go_wp2_with fail
      go_ret
      exact ⟨_, rfl, HIM.out, HB.out⟩

theorem counted_few {fs : List Pm.F} (h : Pm.counted fs ≤ 64) : Pm.prod (fs.map fun f => f.vals.length) ≤ 64 := by
  unfold Pm.counted at h
  omega

set_option maxRecDepth 100000 in
set_option maxHeartbeats 1000000 in
theorem fall_many {w : World} {b : Nat} {s : Pm.D} {F : Nat → Prop} (h : PDev w b s F) (hm : s.ws.length ≤ 40000) (most : Int) (hc : most < Pm.counted (Pm.fates s) ∨ 64 < Pm.counted (Pm.fates s)) :
    Calls Try.prog 22 #[.pointer (some ⟨b, 0, none⟩), .int .i64 most] w fun e w' => e = .returned (.slice none 0 0) ∧ Below w.heap.size w w' := by
  have HC := hide (fcount_any h hm)
  clear h
  generalize Pm.counted (Pm.fates s) = c at *
  by_cases h64 : most ≤ 64
  · have hgt : most < (c : Int) := by omega
    have hmin : min most 64 = most := by omega
    clear hc
    go_enter Try.func22, Try.ntmps22
    go_wp2_with fail
    refine HC.out.mono ?_
    rintro e w1 ⟨rfl, hb⟩
    have HB := hide hb
    clear hb
    go_wp2_with fail
    go_ret
    exact ⟨rfl, HB.out⟩
  · have hgt : (64 : Int) < (c : Int) := by omega
    have hmin : min most 64 = 64 := by omega
    clear hc
    go_enter Try.func22, Try.ntmps22
    go_wp2_with fail
    refine HC.out.mono ?_
    rintro e w1 ⟨rfl, hb⟩
    have HB := hide hb
    clear hb
    go_wp2_with fail
    go_ret
    exact ⟨rfl, HB.out⟩

theorem imgs_one {w : World} {B g : Nat} {L : List Int} (hg : w.heap[g]? = some (Obj.cells (blk .u8 (octs L)) 5 (0, 0))) (hB : B ≤ w.heap.size) : Imgs (w.alloc (.cells #[.slice (some ⟨g, 0, none⟩) (8 * L.length) (8 * L.length)] 38)) B (.slice (some ⟨w.heap.size, 0, none⟩) 1 1) [L] := by
  refine ⟨[.slice (some ⟨g, 0, none⟩) (8 * L.length) (8 * L.length)], ⟨rfl, .inr ⟨w.heap.size, 1, #[.slice (some ⟨g, 0, none⟩) (8 * L.length) (8 * L.length)], rfl, hB, heap_alloc_new w _, Nat.le_refl _, by decide, rfl, rfl⟩⟩, fun i M hi => ?_⟩
  cases i with
  | zero =>
    simp at hi
    subst hi
    exact ⟨g, rfl, by rw [Below.heap_alloc _ _ _ (heap_lt hg)]; exact hg⟩
  | succ i => simp at hi

set_option maxRecDepth 100000 in
set_option maxHeartbeats 8000000 in
theorem fall_few {w : World} {b : Nat} {s : Pm.D} {F : Nat → Prop} (h : PDev w b s F) (hm : s.ws.length ≤ 40000) (most : Int) (hc1 : (Pm.counted (Pm.fates s) : Int) ≤ most) (hc2 : Pm.counted (Pm.fates s) ≤ 64) :
    Calls Try.prog 22 #[.pointer (some ⟨b, 0, none⟩), .int .i64 most] w fun e w' => ∃ v, e = .returned v ∧ Imgs w' w.heap.size v (Pm.images s.ws) ∧ Below w.heap.size w w' := by
  have HC := hide (fcount_any h hm)
  have HFEW := hide (counted_few hc2)
  have HP := hide h
  have HALL := hide (Pm.spreadAll_all s)
  have HOK := hide (fate_ok h.ok.ws 0)
  clear h
  obtain ⟨N, hN⟩ : ∃ N, s.ws.length = N := ⟨_, rfl⟩
  have HN := hide hN
  rw [hN] at hm
  clear hN
  generalize Pm.counted (Pm.fates s) = c at *
  have hgt : ¬ most < (c : Int) := by omega
  have hgt' : ¬ (64 : Int) < (c : Int) := by omega
  clear hc1 hc2
  by_cases h64 : most ≤ 64
  all_goals
    go_enter Try.func22, Try.ntmps22
    go_wp2_with fail
    refine HC.out.mono ?_
    rintro e w1 ⟨rfl, hb1⟩
    have HB1 := hide hb1
    have HP1 := hide (HP.out.kept hb1.size (fun k _ hk => hb1.block k hk))
    clear hb1
    go_wp2_with fail
    refine (pimage_new HP1.out (by rw [HN.out]; exact hm)).mono ?_
    rintro e w2 ⟨g, rfl, hgB, hg, hb2⟩
    rw [HN.out]
    have HP2 := hide (HP1.out.kept hb2.size (fun k _ hk => hb2.block k hk))
    have HB2 := hide (HB1.out.trans (hb2.mono HB1.out.size))
    obtain ⟨W3, hW3⟩ : ∃ W3, W3 = w2.alloc (.cells #[.slice (some ⟨g, 0, none⟩) (8 * N) (8 * N)] 38) := ⟨_, rfl⟩
    have him : Imgs W3 w.heap.size (.slice (some ⟨w2.heap.size, 0, none⟩) 1 1) [Pm.lastL s.ws] := by
      have := imgs_one (B := w.heap.size) hg HB2.out.size
      rw [lastL_len, HN.out, ← hW3] at this
      exact this
    have hb3 : Below w2.heap.size w2 W3 := by rw [hW3]; exact (Below.refl _ _).alloc (Nat.le_refl _) _
    have HP3 := hide (HP2.out.kept hb3.size (fun k _ hk => hb3.block k hk))
    have HB3 := hide (HB2.out.trans (hb3.mono HB2.out.size))
    have HIM3 := hide him
    clear hb2 hg hgB him hb3 HP1 HP2 HB1 HB2 HP
    go_wp2_with fail
    rw [← hW3]
    refine (pfates_own HP3.out (by rw [HN.out]; exact hm)).mono ?_
    rintro e w4 ⟨v, rfl, hown, hb4⟩
    have HOW := hide hown
    have HB4 := hide (HB3.out.trans (hb4.mono HB3.out.size))
    have HIM4 := hide (HIM3.out.below hb4)
    clear hown hb4 HB3 HP3 HIM3 hW3
    obtain ⟨xa, cp, rfl⟩ := own_len HOW.out
    have HFL := hide (fates_length s.ws 0)
    have HFLb : Hid ((Pm.fates s).length ≤ 40000) := Nat.le_trans HFL.out (by rw [HN.out]; exact hm)
    have hflb := HFLb.out
    generalize hnf : (Pm.fates s).length = nf at hflb ⊢
    have HNF := hide hnf
    clear hnf HFLb HFL
    generalize w2.heap.size = z2 at *
    go_wp2_with fail
    go_loopw [5, 24] (fun u i wr => ∃ k : Nat, k ≤ nf ∧ i = .int .i64 k ∧ Imgs wr w.heap.size u (Pm.spreadAll ((Pm.fates s).take k) [Pm.lastL s.ws]) ∧ Below w4.heap.size w4 wr) (fun _ i _ => nf - (intOf i).toNat)
    case atStart => exact ⟨0, Nat.zero_le _, rfl, HIM4.out, Below.refl _ _⟩
    case round =>
      obtain ⟨k, hk, rfl, him, hb⟩ := hrel
      have HIM := hide him
      have HB := hide hb
      clear him hb
      by_cases hlt : k < nf
      · have hkn : (k : Int) < (nf : Int) := by omega
        obtain ⟨f, hf⟩ : ∃ f, (Pm.fates s)[k]? = some f := ⟨_, List.getElem?_eq_getElem (by rw [HNF.out]; exact hlt)⟩
        obtain ⟨gg, cpp, hxa, hcp, hgB, hggw, hcells⟩ := fates_row HOW.out (by rw [HNF.out]; omega)
        cases hxa
        obtain ⟨q0, q1, q2, q3, q4⟩ := hcells k f hf
        have r0 := (HB.out.cell (p := ⟨gg, k * 5, none⟩) hggw).trans q0
        have r1 := (HB.out.cell (p := ⟨gg, k * 5 + 1, none⟩) hggw).trans q1
        have r2 := (HB.out.cell (p := ⟨gg, k * 5 + 2, none⟩) hggw).trans q2
        have r3 := (HB.out.cell (p := ⟨gg, k * 5 + 3, none⟩) hggw).trans q3
        have r4 := (HB.out.cell (p := ⟨gg, k * 5 + 4, none⟩) hggw).trans q4
        have hfm := List.mem_of_getElem? hf
        have hfa : f.at' < N := by
          obtain ⟨j, x, hx, _, rfl⟩ := Pm.mem_fates.1 hfm
          have := (List.getElem?_eq_some_iff.1 hx).1
          rw [HN.out] at this
          show 0 + j < N
          omega
        obtain ⟨o0, o1, o2⟩ := HOK.out f hfm
        have HVW : Hid (∀ v ∈ f.vals, (Lit.int .u64 v).wf = true) := fun v hv => by
          have := Pm.vals_bd (bd_u64 o0) (bd_u64 o1) (bd_u64 o2) v hv
          exact wf_u64 this.1 this.2
        have HVS := hide (fun W => values_any f W)
        have HSTEP := hide (Pm.spreadAll_step [Pm.lastL s.ws] hf)
        have HONE : Hid (f.vals.length ≤ 1 → Pm.spreadAll ((Pm.fates s).take (k + 1)) [Pm.lastL s.ws] = Pm.spreadAll ((Pm.fates s).take k) [Pm.lastL s.ws]) := fun h1 => Pm.spread_one hf h1
        have hLL : (Pm.spreadAll ((Pm.fates s).take k) [Pm.lastL s.ws]).length ≤ 64 := by
          rw [Pm.spreadAll_length]
          have := Pm.prod_take_le (fs := Pm.fates s) k
          have := HFEW.out
          simp only [List.length_singleton, Nat.one_mul]
          omega
        have HLEN : Hid (∀ L ∈ Pm.spreadAll ((Pm.fates s).take k) [Pm.lastL s.ws], L.length = N) := Pm.spreadAll_len (fun L hL => by rw [List.mem_singleton.1 hL, lastL_len, HN.out])
        have hvl : f.vals.length ≤ 3 := Pm.vals3_le _ _ _
        have hgn : gg < wr.heap.size := Nat.lt_of_lt_of_le hggw HB.out.size
        clear q0 q1 q2 q3 q4 hcells hf hfm o0 o1 o2
        obtain ⟨fa, fl, ff, fs, ft⟩ := f
        simp only at r0 r1 r2 r3 r4 hfa HSTEP
        obtain ⟨V, hV⟩ : ∃ V, Pm.F.vals ⟨fa, fl, ff, fs, ft⟩ = V := ⟨_, rfl⟩
        rw [hV] at HVW HSTEP HONE hvl
        rw [hV] at HVS
        have HVV := hide hV
        clear hV
        obtain ⟨acc, hacc⟩ : ∃ acc, Pm.spreadAll ((Pm.fates s).take k) [Pm.lastL s.ws] = acc := ⟨_, rfl⟩
        rw [hacc] at HIM HSTEP HONE hLL HLEN
        clear hacc
        obtain ⟨W, hW⟩ : ∃ W, W = wr.alloc (.cells #[.int .i64 fa, .int .u64 fl, .bool ff, .int .u64 fs, .int .u64 ft] 24) := ⟨_, rfl⟩
        have hnew : W.heap[wr.heap.size]? = some (.cells #[.int .i64 fa, .int .u64 fl, .bool ff, .int .u64 fs, .int .u64 ft] 24 (0, 0)) := by rw [hW]; exact heap_alloc_new _ _
        have t0 : W.cell? ⟨wr.heap.size, 0, none⟩ = some (.int .i64 fa) := by simp [World.cell?, hnew]
        have HBW : Hid (Below wr.heap.size wr W) := by
          show Below _ _ _
          rw [hW]
          exact (Below.refl _ _).alloc (Nat.le_refl _) _
        have hWs : wr.heap.size < W.heap.size := by rw [hW]; simp
        clear hnew
        go_wp2_with fail
        rw [← hW]
        refine (HVS.out _).mono ?_
        rintro e w5 ⟨v5, rfl, hown5, hb5⟩
        obtain ⟨ya, yc, rfl, _, _, _, hrow⟩ := row_of_own hown5
        have HROW := hide hrow
        have p0 := (hb5.cell (p := ⟨wr.heap.size, 0, none⟩) hWs).trans t0
        have hb5' : Below wr.heap.size wr w5 := HBW.out.trans (hb5.mono HBW.out.size)
        have HB5 := hide hb5'
        have HIM5 := hide (HIM.out.below hb5')
        clear hown5 hrow hb5 hb5' t0 hW r0 r1 r2 r3 r4
        have HBA := hide (HB.out.trans (HB5.out.mono HB.out.size))
        generalize wr.heap.size = zr at p0 HB5 HBW hWs hgn ⊢
        by_cases h1 : V.length ≤ 1
        · have h1' : ¬ (1 : Int) < (V.length : Int) := by omega
          have HE := hide (HONE.out h1)
          have HBN := hide HBA.out
          go_wp2_with fail
          go_roundw
          case rel => exact ⟨k + 1, by omega, by go_num, by rw [HE.out]; exact HIM5.out, HBN.out⟩
          case measure => simp [intOf]; omega
        · have h1' : (1 : Int) < (V.length : Int) := by omega
          have HSP := hide (spread_any HIM5.out HLEN.out hfa (by omega) hLL (cap := yc) HROW.out hvl HVW.out)
          go_wp2_with fail
          refine HSP.out.mono ?_
          rintro e w6 ⟨v6, rfl, him6, hb6⟩
          rw [← HSTEP.out] at him6
          have HIM6 := hide (him6.base (Nat.le_trans HB4.out.size HBA.out.size))
          have HBN := hide (HBA.out.trans (hb6.mono HBA.out.size))
          clear him6 hb6
          go_wp2_with fail
          go_roundw
          case rel => exact ⟨k + 1, by omega, by go_num, HIM6.out, HBN.out⟩
          case measure => simp [intOf]; omega
      · have hkn : ¬ (k : Int) < (nf : Int) := by omega
        obtain rfl : k = nf := by omega
        have HE : Hid ((Pm.fates s).take k = Pm.fates s) := List.take_of_length_le (by rw [HNF.out]; exact Nat.le_refl _)
        rw [HE.out, HALL.out] at HIM
        go_wp2_with fail
        go_ret
        exact ⟨_, rfl, HIM.out, HB4.out.trans (HB.out.mono HB4.out.size)⟩
end Go.Proofs.Ytnaenokegomoeaa
