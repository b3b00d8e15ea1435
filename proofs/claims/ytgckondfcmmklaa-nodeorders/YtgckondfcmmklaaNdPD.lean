/-
  node.Put: what it answers.
-/
import Derived.Test.YtgckondfcmmklaaNdPC
namespace Go.Proofs.Ytgckondfcmmklaa
set_option linter.unusedVariables false
set_option linter.unusedSimpArgs false
open Go.RowKit

theorem wf_wrap_u64 (v : Int) : (Lit.int .u64 (IntKind.u64.wrap v)).wf = true := by
  have : 0 ≤ IntKind.u64.wrap v ∧ IntKind.u64.wrap v ≤ 18446744073709551615 := by rw [IntKind.wrap_u64]; omega
  simpa [Lit.wf, IntKind.min, IntKind.max, IntKind.signed, IntKind.bits] using this

set_option maxRecDepth 100000 in
set_option maxHeartbeats 2000000 in
theorem nlay_any (v K : Int) (n m : Nat) (hK : IntKind.u64.wrap v = K) (hn : 1 ≤ n) (hn8 : n ≤ 8) (hm : m ≤ 1000) (w : World) (gb : Nat) (cv : Value) (ys : List Int) (hcv : w.heap[gb]? = some (.cells #[cv] 30 (0, 0))) (hown : w.ownsRow (gb + 1) 5 1 cv m (ys.map (Value.int .u8))) :
    Calls Try.prog 18 #[.int .i64 v, .int .i64 n, .pointer (some ⟨gb, 0, none⟩)] w fun e w' => e = .returned (.tuple #[]) ∧ ∃ cv', w'.heap[gb]? = some (.cells #[cv'] 30 (0, 0)) ∧ w'.ownsRow (gb + 1) 5 1 cv' (m + n) ((ys ++ Nums.lay K n).map (Value.int .u8)) ∧ Below gb w w' := by
  have hKw : (Lit.int .u64 K).wf = true := by rw [← hK]; exact wf_wrap_u64 v
  obtain ⟨i0, hi, hz0, hz1, hz2⟩ := info_parts info_u8
  have hlt : gb < w.heap.size := (Array.getElem?_eq_some_iff.1 hcv).1
  have c0 : w.cell? ⟨gb, 0, none⟩ = some cv := by simp [World.cell?, hcv]
  have f0 : w.frozen? ⟨gb, 0, none⟩ = false := by simp [World.frozen?, hcv]
  have ag := own_block_ne hown (Nat.lt_succ_self gb)
  have HL := hide (fun W => lay_yes K n W hKw hn8)
  have HOW := hide hown
  have HCV := hide hcv
  have hlen : (Nums.lay K n).length = n := Nums.length_lay n K
  generalize Nums.lay K n = Z at *
  have F0 : ((w.drew).alloc (.cells (blk .u8 Z) 5)).frozen? ⟨gb, 0, none⟩ = false := (Below.frozen ((Below.refl w.heap.size w).drew.alloc (Nat.le_refl _) _) hlt).trans f0
  have C0 : ((w.drew).alloc (.cells (blk .u8 Z) 5)).cell? ⟨gb, 0, none⟩ = some cv := (Below.cell ((Below.refl w.heap.size w).drew.alloc (Nat.le_refl _) _) hlt).trans c0
  clear hown hcv hKw
  go_enter Try.func18, Try.ntmps18
  go_wp2_with fail
  go_region_law (first
      | (refine step_call2 rfl 19 Try.call19 _ _ _ rfl (.int .u64 K) (.int .i64 n) (by go_simp) (by go_simp) (HL.out _) ?_; rintro e w' ⟨rfl, rfl⟩; refine ⟨_, rfl, ?_⟩)
      | (refine step_append_lies _ (by rfl) _ _ _ (by rfl) (gb + 1) 5 i0 _ 1 1 Try.underlying30 hi hz0 hz1 hz2 rfl (by omega) cv m (ys.map (Value.int .u8)) (by rfl) ((HOW.out.drew).alloc _) ⟨w.heap.size, 0, none⟩ n n (Z.map (Value.int .u8)) (by rfl) (by simp [hlen]) (fun j u hu => World.news_of_block (cs := blk .u8 Z) (t := 5) (fr := (0, 0)) (heap_alloc_new w.drew _) j u (by simpa [blk] using hu)) (oneCells _ _) (by omega) (by unfold maxLen; omega) (by omega) (by simp; omega) (w.heap.size + 1) (by simp) ?_; intro gg cp w5 hown1 hgrow hat hlt1; have f5 := (hgrow.frozen_far ⟨gb, 0, none⟩ (by simp; omega) (Ne.symm ag)).trans F0; have c5 := (hgrow.cell_far ⟨gb, 0, none⟩ (by simp; omega) (Ne.symm ag)).trans C0))
  all_goals
    have hgb : w5.heap[gb]? = some (.cells #[cv] 30 (0, 0)) := by
      rw [hgrow.block gb (by simp; omega) (Ne.symm ag)]
      exact (Below.heap_alloc w.drew _ gb hlt).trans HCV.out
    have HGB := hide hgb
    have HON : Hid ((w5.setCell ⟨gb, 0, none⟩ (.slice (some ⟨gg, 0, none⟩) (m + n) cp)).ownsRow (gb + 1) 5 1 (.slice (some ⟨gg, 0, none⟩) (m + n) cp) (m + n) ((ys ++ Z).map (Value.int .u8))) := by
      refine own_set (w := w5) (g := gb) ?_ (Nat.lt_succ_self gb)
      rw [List.map_append]
      exact hown1
    have HBN : Hid (Below gb w (w5.setCell ⟨gb, 0, none⟩ (.slice (some ⟨gg, 0, none⟩) (m + n) cp))) := by
      exact Below.setCell (own_below ((HOW.out.drew).alloc _) hgrow (by simp; omega) (((Below.refl gb w).drew).alloc (Nat.le_of_lt hlt) _) (Nat.le_succ gb)) (Nat.le_refl gb) _
    clear hown1 hgrow hat hlt1 f5 c5 hgb
    go_wp2_with fail
    go_end0
    exact ⟨rfl, _, by rw [heap_set HGB.out]; rfl, HON.out, HBN.out⟩

/-- what was laid so far, in memory of its own. -/
def Laid (w0 : World) (gb : Nat) (ys : List Int) (w : World) : Prop := ∃ cv, w.heap[gb]? = some (.cells #[cv] 30 (0, 0)) ∧ w.ownsRow (gb + 1) 5 1 cv ys.length (ys.map (Value.int .u8)) ∧ Below gb w0 w
theorem laid_more {w0 w : World} {gb : Nat} {ys : List Int} (v K : Int) (n : Nat) (hK : IntKind.u64.wrap v = K) (hn : 1 ≤ n) (hn8 : n ≤ 8) (hm : ys.length ≤ 1000) (h : Laid w0 gb ys w) :
    Calls Try.prog 18 #[.int .i64 v, .int .i64 n, .pointer (some ⟨gb, 0, none⟩)] w fun e w' => e = .returned (.tuple #[]) ∧ Laid w0 gb (ys ++ Nums.lay K n) w' := by
  obtain ⟨cv, h1, h2, h3⟩ := h
  refine (nlay_any v K n ys.length hK hn hn8 hm w gb cv ys h1 h2).mono ?_
  rintro e w' ⟨rfl, cv', h4, h5, h6⟩
  refine ⟨rfl, cv', h4, ?_, h3.trans h6⟩
  rw [List.length_append, Nums.length_lay]
  exact h5
theorem Laid.arg {w0 w : World} {gb : Nat} {ys : List Int} (h : Laid w0 gb ys w) (hb : Nums.Bytes ys) : ∃ a cap, w.cell? ⟨gb, 0, none⟩ = some (.slice a ys.length cap) ∧ Arg .u8 w a ys.length cap ys := by
  obtain ⟨cv, h1, h2, _⟩ := h
  obtain ⟨a, cap, hv, hle, hmax, hl, hrow⟩ := row_of_own h2
  have hc : w.cell? ⟨gb, 0, none⟩ = some cv := by simp [World.cell?, h1]
  rw [hv] at hc
  refine ⟨a, cap, hc, hle, hmax, hrow, fun z hz => ?_, ?_⟩
  · have := hb z hz
    simpa [Lit.wf, IntKind.min, IntKind.max, IntKind.signed, IntKind.bits] using this
  · rcases h2.2 with ⟨e, _⟩ | ⟨g, c, cur, e, _⟩
    · rw [hv] at e
      injection e with _ _ e3
      exact .inl e3
    · rw [hv] at e
      injection e with e1
      exact .inr ⟨g, 0, e1⟩

set_option maxRecDepth 100000 in
set_option maxHeartbeats 1000000 in
theorem nput_no (s g k v : Int) (l : List Int) (w : World) (a : Option Addr) (len cap : Nat) (hA : Arg .i64 w a len cap l) (hl : len ≤ 1000000) (hr : Nd.right ⟨s, g, k, v, l⟩ = false) :
    Calls Try.prog 8 #[.agg #[.int .i64 s, .int .i64 g, .int .i64 k, .int .i64 v, .slice a len cap]] w fun e w' => e = .returned (.tuple #[.slice none 0 0, .bool false]) ∧ Below w.heap.size w w' := by
  obtain ⟨X, hX⟩ : ∃ X, X = w.alloc (.cells #[.int .i64 s, .int .i64 g, .int .i64 k, .int .i64 v, .slice a len cap] 28) := ⟨_, rfl⟩
  have hBX : Below w.heap.size w X := by rw [hX]; exact (Below.refl w.heap.size w).alloc (Nat.le_refl _) _
  have HBX := hide hBX
  have hR := nright_any s g k v l X a len cap (hA.below hBX) hl
  rw [hr] at hR
  have HR := hide hR
  clear hA hBX hR hr
  go_enter Try.func8, Try.ntmps8
  go_wp2_with fail
  rw [← hX]
  refine HR.out.mono ?_
  rintro e w1 ⟨rfl, hb1⟩
  have HB := hide (HBX.out.trans (hb1.mono HBX.out.size))
  clear hb1
  go_wp2_with fail
  go_ret2
  exact ⟨rfl, HB.out⟩

set_option maxRecDepth 100000 in
set_option maxHeartbeats 2000000 in
theorem nput_yes (s g k v : Int) (l : List Int) (w : World) (a : Option Addr) (len cap : Nat) (hA : Arg .i64 w a len cap l) (hr : Nd.right ⟨s, g, k, v, l⟩ = true) (hw : Nd.wf ⟨s, g, k, v, l⟩) :
    Calls Try.prog 8 #[.agg #[.int .i64 s, .int .i64 g, .int .i64 k, .int .i64 v, .slice a len cap]] w fun e w' => ∃ h c tail, e = .returned (.tuple #[.slice (some ⟨h, 0, none⟩) 64 c, .bool true]) ∧ 64 ≤ c ∧ c ≤ maxLen ∧ w.heap.size ≤ h ∧ w'.heap[h]? = some (.cells ((Nd.block ⟨s, g, k, v, l⟩).map (Value.int .u8) ++ tail).toArray 5 (0, 0)) ∧ Below w.heap.size w w' := by
  have hh := Nd.right_head hr
  have hkk := Nd.right_kids hr
  simp only at hh hkk
  obtain ⟨h1, h2, h3, h4, h5⟩ := hh
  have hzl := hA.2.2.1.1
  have hl12 : len ≤ 12 := by omega
  obtain ⟨X, hX⟩ : ∃ X, X = w.alloc (.cells #[.int .i64 s, .int .i64 g, .int .i64 k, .int .i64 v, .slice a len cap] 28) := ⟨_, rfl⟩
  have hBX : Below w.heap.size w X := by rw [hX]; exact (Below.refl w.heap.size w).alloc (Nat.le_refl _) _
  have hgN : X.heap[w.heap.size]? = some (.cells #[.int .i64 s, .int .i64 g, .int .i64 k, .int .i64 v, .slice a len cap] 28 (0, 0)) := by rw [hX]; exact heap_alloc_new w _
  have hXs : X.heap.size = w.heap.size + 1 := by rw [hX]; simp
  have hR := nright_any s g k v l X a len cap (hA.below hBX) (by omega)
  rw [hr] at hR
  have HR := hide hR
  have hsw : IntKind.u64.wrap s = s := by rw [IntKind.wrap_u64]; omega
  have hgw : IntKind.u64.wrap g = g := by rw [IntKind.wrap_u64]; omega
  obtain ⟨P, hP⟩ : ∃ P, P = Nums.lay k 8 ++ Nums.lay v 8 ++ Nums.lay s 4 ++ Nums.lay g 4 := ⟨_, rfl⟩
  have hPl : P.length = 24 := by rw [hP]; simp [Nums.length_lay]
  have HP : Hid ([] ++ Nums.lay (IntKind.u64.wrap k) 8 ++ Nums.lay (IntKind.u64.wrap v) 8 ++ Nums.lay s 4 ++ Nums.lay g 4 = P ++ Nd.kidsB (l.take 0)) := by
    show _ = _
    rw [hP, lay8_wrap, lay8_wrap]
    simp [Nd.kidsB]
  have HBD : Hid (Nd.block ⟨s, g, k, v, l⟩ = Bk.shut 1 len (P ++ Nd.kidsB l)) := by
    show Nd.block _ = _
    unfold Nd.block Nd.body
    dsimp only
    rw [hzl, hP]
  have HBB : Hid (Nums.Bytes (P ++ Nd.kidsB l) ∧ (P ++ Nd.kidsB l).length ≤ 56) := by
    have hbb := Nd.body_bytes ⟨s, g, k, v, l⟩
    have hbs := Nd.body_short hr
    unfold Nd.body at hbb hbs
    dsimp only at hbb hbs
    rw [← hP] at hbb hbs
    exact ⟨hbb, hbs⟩
  have HSN : Hid (∀ j, j < len → P ++ Nd.kidsB (l.take j) ++ Nums.lay (l.getD j 0) 2 = P ++ Nd.kidsB (l.take (j + 1))) := fun j hj => by
    rw [List.take_succ_eq_append_getElem (by omega), Nd.kidsB_snoc, List.getD_eq_getElem?_getD, List.getElem?_eq_getElem (by omega), List.append_assoc]
    rfl
  have HSL : Hid (∀ j, j ≤ len → (P ++ Nd.kidsB (l.take j)).length ≤ 1000) := fun j hj => by
    simp only [List.length_append, hPl, Nd.kidsB_length, List.length_take]
    omega
  have HALL : Hid (Nd.kidsB (l.take len) = Nd.kidsB l) := by show _ = _; rw [List.take_of_length_le (by omega)]
  have HKK := hide hkk
  have HRW := hide (hA.2.2.1.below hBX)
  have HBX := hide hBX
  have HGN := hide hgN
  rw [HBD.out]
  have hl8 : ∀ x : Int, (Nums.lay x 8).length = 8 := fun x => Nums.length_lay 8 x
  have hl4 : ∀ x : Int, (Nums.lay x 4).length = 4 := fun x => Nums.length_lay 4 x
  have Y1 := hide (fun (w0 : World) gb W (h : Laid w0 gb [] W) => laid_more k _ 8 rfl (by decide) (by decide) (by decide) h)
  have Y2 := hide (fun (w0 : World) gb W (h : Laid w0 gb ([] ++ Nums.lay (IntKind.u64.wrap k) 8) W) => laid_more v _ 8 rfl (by decide) (by decide) (by simp [hl8]) h)
  have Y3 := hide (fun (w0 : World) gb W (h : Laid w0 gb ([] ++ Nums.lay (IntKind.u64.wrap k) 8 ++ Nums.lay (IntKind.u64.wrap v) 8) W) => laid_more s s 4 hsw (by decide) (by decide) (by simp [hl8]) h)
  have Y4 := hide (fun (w0 : World) gb W (h : Laid w0 gb ([] ++ Nums.lay (IntKind.u64.wrap k) 8 ++ Nums.lay (IntKind.u64.wrap v) 8 ++ Nums.lay s 4) W) => laid_more g g 4 hgw (by decide) (by decide) (by simp [hl8, hl4]) h)
  rw [show ((8 : Nat) : Int) = 8 from rfl] at Y1 Y2
  rw [show ((4 : Nat) : Int) = 4 from rfl] at Y3 Y4
  clear hkk hA hBX hgN hr hzl HBD hw hP hR hsw hgw hl8 hl4
  generalize Nums.lay (IntKind.u64.wrap k) 8 = lk at *
  generalize Nums.lay (IntKind.u64.wrap v) 8 = lv at *
  generalize Nums.lay s 4 = ls at *
  generalize Nums.lay g 4 = lg at *
  go_enter Try.func8, Try.ntmps8
  go_wp2_with fail
  rw [← hX]
  refine HR.out.mono ?_
  rintro e w1 ⟨rfl, hb1⟩
  clear hX
  obtain ⟨G, hG⟩ : ∃ G, G = w1.heap.size := ⟨_, rfl⟩
  have hwG : w.heap.size < G := by have := hb1.size; omega
  have hb1' : Below w.heap.size w w1 := HBX.out.trans (hb1.mono HBX.out.size)
  have HB1 := hide hb1'
  have HC : Hid (∀ W, Below G w1 W → W.cell? ⟨w.heap.size, 0, none⟩ = some (.int .i64 s) ∧ W.cell? ⟨w.heap.size, 1, none⟩ = some (.int .i64 g) ∧ W.cell? ⟨w.heap.size, 2, none⟩ = some (.int .i64 k) ∧ W.cell? ⟨w.heap.size, 3, none⟩ = some (.int .i64 v) ∧ W.cell? ⟨w.heap.size, 4, none⟩ = some (.slice a len cap)) := fun W hW => by
    have e : W.heap[w.heap.size]? = some (.cells #[.int .i64 s, .int .i64 g, .int .i64 k, .int .i64 v, .slice a len cap] 28 (0, 0)) := ((hW.block _ hwG).trans (hb1.block _ (by omega))).trans HGN.out
    simp [World.cell?, e]
  have HRW1 := hide (HRW.out.below hb1)
  have hL0 : Laid w1 G [] (w1.alloc (.cells #[.slice none 0 0] 30)) := ⟨.slice none 0 0, by rw [hG]; exact heap_alloc_new w1 _, ⟨rfl, .inl ⟨rfl, rfl⟩⟩, by rw [hG]; exact (Below.refl _ _).alloc (Nat.le_refl _) _⟩
  have HL0 := hide hL0
  obtain ⟨_, _, q2, _, _⟩ := HC.out _ hL0.choose_spec.2.2
  clear hb1 hb1' hL0
  have HG := hide hG
  go_wp2_with fail
  rw [← hG]
  clear hG
  refine (Y1.out _ _ _ HL0.out).mono ?_
  rintro e w2 ⟨rfl, hL2⟩
  have HL2 := hide hL2
  obtain ⟨_, _, _, q3, _⟩ := HC.out _ hL2.choose_spec.2.2
  clear hL2 q2
  go_wp2_with fail
  refine (Y2.out _ _ _ HL2.out).mono ?_
  rintro e w3 ⟨rfl, hL3⟩
  have HL3 := hide hL3
  obtain ⟨q0, _, _, _, _⟩ := HC.out _ hL3.choose_spec.2.2
  clear hL3 q3
  go_wp2_with fail
  refine (Y3.out _ _ _ HL3.out).mono ?_
  rintro e w4 ⟨rfl, hL4⟩
  have HL4 := hide hL4
  obtain ⟨_, q1, _, _, _⟩ := HC.out _ hL4.choose_spec.2.2
  clear hL4 q0
  go_wp2_with fail
  refine (Y4.out _ _ _ HL4.out).mono ?_
  rintro e w5 ⟨rfl, hL5⟩
  rw [HP.out] at hL5
  have HL5 := hide hL5
  obtain ⟨_, _, _, _, q4⟩ := HC.out _ hL5.choose_spec.2.2
  clear hL5 q1
  go_wp2_with fail
  go_loopw [37] (fun i wr => ∃ j : Nat, j ≤ len ∧ i = .int .i64 j ∧ Laid w1 G (P ++ Nd.kidsB (l.take j)) wr) (fun i _ => len - (intOf i).toNat)
  case atStart => exact ⟨0, Nat.zero_le _, rfl, HL5.out⟩
  case round =>
    obtain ⟨j, hj, rfl, hLr⟩ := hrel
    have HLR := hide hLr
    have hbr : Below G w1 wr := hLr.choose_spec.2.2
    have HBR := hide hbr
    by_cases hlt : j < len
    · have hjI : (j : Int) < (len : Int) := by omega
      have hzk := HKK.out (l.getD j 0) (by
        have := HRW1.out.1
        rw [List.getD_eq_getElem?_getD, List.getElem?_eq_getElem (by omega)]
        exact List.getElem_mem _)
      obtain ⟨hL, h0 | ⟨b, off, rfl, hbw, hc⟩⟩ := HRW1.out.below (by rw [← HG.out]; exact hbr)
      · omega
      have hck := hc j hlt
      have HN := hide (HSN.out j hlt)
      have HM := hide (HSL.out j hj)
      clear hc hbw hbr hLr q4
      generalize l.getD j 0 = z at *
      have hzw : IntKind.u64.wrap z = z := by rw [IntKind.wrap_u64]; omega
      have HY := hide (laid_more z z 2 hzw (by decide) (by decide) HM.out HLR.out)
      rw [show ((2 : Nat) : Int) = 2 from rfl] at HY
      clear hzw
      go_wp2_with fail
      refine HY.out.mono ?_
      rintro e w6 ⟨rfl, hL6⟩
      rw [HN.out] at hL6
      have HL6 := hide hL6
      clear hL6
      go_wp2_with fail
      go_roundw
      case rel => exact ⟨j + 1, by omega, by go_num, HL6.out⟩
      case measure => simp [intOf]; omega
    · have hjI : ¬ (j : Int) < (len : Int) := by omega
      obtain rfl : j = len := by omega
      rw [HALL.out] at hLr
      obtain ⟨ba, bc, hbc, hbA⟩ := hLr.arg HBB.out.1
      obtain ⟨_, _, _, _, q4'⟩ := HC.out _ hbr
      have HS := hide (bseal_yes 1 j (by decide) (by omega) hbA HBB.out.2)
      clear hLr hbr hbA q4
      generalize (P ++ Nd.kidsB l).length = bl at *
      go_wp2_with fail
      refine HS.out.mono ?_
      rintro e w6 ⟨g6, c6, t6, rfl, h64, hcm, hg6, hh6, hb6⟩
      have hGr : G ≤ wr.heap.size := by have := HBR.out.size; have := HG.out; omega
      have HB6 := hide (HB1.out.trans ((HBR.out.trans (hb6.mono hGr)).mono (Nat.le_of_lt hwG)))
      have HH6 := hide hh6
      have HZ6 : Hid (w.heap.size ≤ g6) := by show w.heap.size ≤ g6; omega
      clear hb6 hh6 hg6
      go_wp2_with fail
      go_ret2
      exact ⟨_, _, _, rfl, h64, hcm, HZ6.out, HH6.out, HB6.out⟩
end Go.Proofs.Ytgckondfcmmklaa
