/-
  chart.Put, List, Count: what they answer.
-/
import Derived.Test.YtilnimdliebfnaaChPB
namespace Go.Proofs.Ytilnimdliebfnaa
set_option linter.unusedVariables false
set_option linter.unusedSimpArgs false
open Go.RowKit

theorem step_call_three {P : Program} {ops : Array Oper} {o : Oper} {a : Act} {w : World} {K : Act → World → Prop} {Q : Exit → Act → World → Prop} {E : Prop}
    (hgd : o.guard = none) (f : FuncId) (hcf : ∀ args w, (callFunc f args).run P w = .ok (.enter f args) w) (x y z : Operand) (tys : Array TypeId) (hop : o.op = .call { callee := .value (.func f), args := #[x, y, z], argTypes := tys })
    (t u v : Value) (hx : a.eval x = t) (hy : a.eval y = u) (hz : a.eval z = v) {R : Ending → World → Prop} (hc : Calls P f #[t, u, v] w R)
    (h : ∀ e w', R e w' → ∃ v, e = .returned v ∧ K (a.put o.dst v) w') :
    if Region.wanted o (yielded ops a.tmps) = true then Oper.wp P o a w K Q else E :=
  step_call hgd f hcf #[x, y, z] tys hop #[t, u, v] (by simp [hx, hy, hz]) hc h

set_option maxRecDepth 100000 in
set_option maxHeartbeats 1000000 in
theorem cput_no (p : Int) (l : List Int) (w : World) (hl : l.length = 48) (hp : Ch.right p = false) :
    Calls Try.prog 8 #[.agg (chartC p l)] w fun e w' => e = .returned (.tuple #[.slice none 0 0, .bool false]) ∧ Below w.heap.size w w' := by
  obtain ⟨X, hX⟩ : ∃ X, X = w.alloc (.cells (chartC p l) 24) := ⟨_, rfl⟩
  have hb0 : Below w.heap.size w X := by rw [hX]; exact (Below.refl _ _).alloc (Nat.le_refl _) _
  have HB0 := hide hb0
  have HSF := hide (chart_size p hl)
  have HR := hide (pchright_any p l X)
  rw [hp] at HR
  clear hb0 hp
  go_enter Try.func8, Try.ntmps8
  go_wp2_with (refine wpList_load_row_on (by rfl) 24 _ rfl w.heap.size rfl 24 _ (0, 0) _ (heap_alloc_new w _) Try.underlying24 rfl HSF.out ?_)
  rw [← hX]
  clear hX
  refine HR.out.mono ?_
  rintro e w2 ⟨rfl, hb2⟩
  have HB2 := hide (HB0.out.trans (hb2.mono HB0.out.size))
  clear hb2
  go_wp2_with fail
  go_returns
  exact ⟨rfl, HB2.out⟩

set_option maxRecDepth 100000 in
set_option maxHeartbeats 1000000 in
theorem cput_yes (p : Int) (l : List Int) (w : World) (hl : l.length = 48) (hz : Nums.Bytes l) (hp : Ch.right p = true) :
    Calls Try.prog 8 #[.agg (chartC p l)] w fun e w' => ∃ h c tail, e = .returned (.tuple #[.slice (some ⟨h, 0, none⟩) 64 c, .bool true]) ∧ 64 ≤ c ∧ c ≤ maxLen ∧ w.heap.size ≤ h ∧ w'.heap[h]? = some (.cells ((Ch.block p l).map (Value.int .u8) ++ tail).toArray 5 (0, 0)) ∧ Below w.heap.size w w' := by
  obtain ⟨X, hX⟩ : ∃ X, X = w.alloc (.cells (chartC p l) 24) := ⟨_, rfl⟩
  have hb0 : Below w.heap.size w X := by rw [hX]; exact (Below.refl _ _).alloc (Nat.le_refl _) _
  have hg0 : X.heap[w.heap.size]? = some (.cells (chartC p l) 24 (0, 0)) := by rw [hX]; exact heap_alloc_new w _
  have HG0 := hide hg0
  have HB0 := hide hb0
  have hlt0 : w.heap.size < X.heap.size := (Array.getElem?_eq_some_iff.1 hg0).1
  have HSF := hide (chart_size p hl)
  have HR := hide (pchright_any p l X)
  have hp' := of_decide_eq_true hp
  have HBK : Hid (Bk.shut 4 p l = Ch.block p l) := rfl
  rw [hp] at HR
  clear hb0 hp hg0
  go_enter Try.func8, Try.ntmps8
  go_wp2_with (refine wpList_load_row_on (by rfl) 24 _ rfl w.heap.size rfl 24 _ (0, 0) _ (heap_alloc_new w _) Try.underlying24 rfl HSF.out ?_)
  rw [← hX]
  clear hX
  refine HR.out.mono ?_
  rintro e w2 ⟨rfl, hb2⟩
  have hg2 := (hb2.block _ hlt0).trans HG0.out
  have HB2 := hide (HB0.out.trans (hb2.mono HB0.out.size))
  have c0 := (boxed_chart hg2).1
  have hA : Arg .u8 w2 (some ⟨w.heap.size, 1, none⟩) 48 48 l := ⟨by decide, by unfold maxLen; decide, row_chart hg2 hl, fun z hm => by have := hz z hm; simpa [Lit.wf, IntKind.min, IntKind.max, IntKind.signed, IntKind.bits] using this, .inr ⟨_, _, rfl⟩⟩
  have HS : Hid (∀ W, Below w2.heap.size w2 W → Calls Try.prog 23 #[.int .i64 4, .int .i64 p, .slice (some ⟨w.heap.size, 1, none⟩) 48 48] W fun e w' => ∃ g c tail, e = .returned (.tuple #[.slice (some ⟨g, 0, none⟩) 64 c, .bool true]) ∧ 64 ≤ c ∧ c ≤ maxLen ∧ W.heap.size ≤ g ∧ w'.heap[g]? = some (.cells ((Ch.block p l).map (Value.int .u8) ++ tail).toArray 5 (0, 0)) ∧ Below W.heap.size W w') := fun W hb => bseal_yes 4 p (by decide) (by omega) (hA.below hb) (by decide)
  have HBd : Hid (Below w2.heap.size w2 w2.drew) := (Below.refl _ _).drew
  clear hb2 hg2 hA
  go_wp2_with fail
  go_region_law (refine step_call_three rfl 23 Try.call23 _ _ _ _ rfl (.int .i64 4) (.int .i64 p) (.slice (some ⟨w.heap.size, 1, none⟩) 48 48) rfl rfl rfl (HS.out _ HBd.out) ?_; rintro e w6 ⟨g6, c6, t6, rfl, h64, hcm, hg6, hh6, hb6⟩; refine ⟨_, rfl, ?_⟩; have HH6 := hide hh6; have HB6 := hide hb6; have HZ6 := hide hg6; clear hh6 hb6 hg6)
  go_wp2_with fail
  go_returns
  exact ⟨_, _, _, rfl, h64, hcm, Nat.le_trans HB2.out.size HZ6.out, HH6.out, HB2.out.trans ((HBd.out.trans (HB6.out.mono HBd.out.size)).mono HB2.out.size)⟩

theorem wrap_wf (x : Int) : (Lit.int .i64 (IntKind.i64.wrap x)).wf = true := by
  simp [Lit.wf, IntKind.min, IntKind.max, IntKind.signed, IntKind.bits]
  rw [IntKind.wrap_i64]
  omega

set_option maxRecDepth 100000 in
set_option maxHeartbeats 2000000 in
theorem clist_wrong {w : World} (p : Int) (l : List Int) (hl : l.length = 48) (hp : Ch.right p = false) :
    Calls Try.prog 16 #[.agg (chartC p l)] w fun e w' => ∃ a n cap, e = .returned (.slice a n cap) ∧ Arg .i64 w' a n cap [] ∧ Below w.heap.size w w' := by
  obtain ⟨X, hX⟩ : ∃ X, X = w.alloc (.cells (chartC p l) 24) := ⟨_, rfl⟩
  have hb0 : Below w.heap.size w X := by rw [hX]; exact (Below.refl _ _).alloc (Nat.le_refl _) _
  have hg0 : X.heap[w.heap.size]? = some (.cells (chartC p l) 24 (0, 0)) := by rw [hX]; exact heap_alloc_new w _
  have hlt0 : w.heap.size < X.heap.size := (Array.getElem?_eq_some_iff.1 hg0).1
  have HG0 := hide hg0
  have HB0 := hide hb0
  have HSF := hide (chart_size p hl)
  have HF := hide (fun W => pchfirst_any p l W _ rfl)
  have HH := hide (fun at' W (h : (Lit.int .i64 at').wf = true) => chas_no p l at' W hl h (by unfold markP; rw [hp]; rfl))
  generalize IntKind.i64.wrap (p * 384) = F at *
  clear hg0 hb0 hp
  go_enter Try.func16, Try.ntmps16
  go_wp2_with fail
  rw [← hX]
  clear hX
  go_loopw [3, 6] (fun out i wr => ∃ j : Nat, j ≤ 384 ∧ i = .int .i64 j ∧ out = .slice none 0 0 ∧ Below X.heap.size X wr) (fun _ i _ => 384 - (intOf i).toNat)
  case atStart => exact ⟨0, Nat.zero_le _, rfl, rfl, Below.refl _ _⟩
  case round =>
    obtain ⟨j, hj, rfl, rfl, hb⟩ := hrel
    have HGR := hide ((hb.block _ hlt0).trans HG0.out)
    have HB := hide hb
    have hsr : w.heap.size < wr.heap.size := Nat.lt_of_lt_of_le hlt0 hb.size
    clear hb
    by_cases hlt : j < 384
    · have hjI : (j : Int) < 384 := by omega
      have HZW := hide (wrap_wf (F + (j : Int)))
      obtain ⟨Z, hZ⟩ : ∃ Z, IntKind.i64.wrap (F + (j : Int)) = Z := ⟨_, rfl⟩
      rw [hZ] at HZW
      go_wp2_with (refine wpList_load_row_on (by rfl) 24 _ rfl w.heap.size rfl 24 _ (0, 0) _ HGR.out Try.underlying24 rfl HSF.out ?_)
      refine (HF.out wr).mono ?_
      rintro e w2 ⟨rfl, hb2⟩
      have HG2 := hide ((hb2.block _ hsr).trans HGR.out)
      have HB2 := hide (HB.out.trans (hb2.mono HB.out.size))
      clear hb2
      go_wp2_with (refine wpList_load_row_on (by rfl) 24 _ rfl w.heap.size rfl 24 _ (0, 0) _ HG2.out Try.underlying24 rfl HSF.out ?_)
      refine (HH.out Z w2 HZW.out).mono ?_
      rintro e w3 ⟨rfl, hb3⟩
      have HB3 := hide (HB2.out.trans (hb3.mono HB2.out.size))
      clear hb3
      go_wp2_with fail
      go_roundw
      case rel => exact ⟨j + 1, by omega, by go_num, rfl, HB3.out⟩
      case measure => simp [intOf]; omega
    · have hjI : ¬ (j : Int) < 384 := by omega
      go_wp2_with fail
      go_returns
      exact ⟨none, 0, 0, rfl, ⟨Nat.le_refl _, by unfold maxLen; decide, ⟨rfl, .inl rfl⟩, fun z hm => by simp at hm, .inl rfl⟩, HB0.out.trans (HB.out.mono HB0.out.size)⟩

set_option maxRecDepth 100000 in
set_option maxHeartbeats 2000000 in
theorem clist_right {w : World} (p : Int) (l : List Int) (hl : l.length = 48) (hz : Nums.Bytes l) (hp : Ch.right p = true) :
    Calls Try.prog 16 #[.agg (chartC p l)] w fun e w' => ∃ a n cap, e = .returned (.slice a n cap) ∧ Arg .i64 w' a n cap (Ch.listTo p l 384) ∧ Below w.heap.size w w' := by
  have hp' := of_decide_eq_true hp
  obtain ⟨X, hX⟩ : ∃ X, X = w.alloc (.cells (chartC p l) 24) := ⟨_, rfl⟩
  have hb0 : Below w.heap.size w X := by rw [hX]; exact (Below.refl _ _).alloc (Nat.le_refl _) _
  have hg0 : X.heap[w.heap.size]? = some (.cells (chartC p l) 24 (0, 0)) := by rw [hX]; exact heap_alloc_new w _
  have hlt0 : w.heap.size < X.heap.size := (Array.getElem?_eq_some_iff.1 hg0).1
  have HG0 := hide hg0
  have HB0 := hide hb0
  have HSF := hide (chart_size p hl)
  have HF := hide (fun W => pchfirst_any p l W (384 * p) (by rw [IntKind.wrap_i64]; omega))
  have HH := hide (fun k W (h : k < 384) => chas_yes p l k W hl hz hp h)
  have HPW : Hid (∀ k : Nat, k < 384 → IntKind.i64.wrap (384 * p + (k : Int)) = 384 * p + (k : Int)) := fun k hk => by rw [IntKind.wrap_i64]; omega
  obtain ⟨F, hF⟩ : ∃ F : Int, 384 * p = F := ⟨_, rfl⟩
  have HFP := hide hF
  rw [hF] at HF HH HPW
  clear hg0 hb0 hp hF
  go_enter Try.func16, Try.ntmps16
  go_wp2_with fail
  rw [← hX]
  clear hX
  go_loopw [3, 6] (fun out i wr => ∃ j : Nat, j ≤ 384 ∧ i = .int .i64 j ∧ wr.ownsRow X.heap.size 3 1 out (Ch.listTo p l j).length ((Ch.listTo p l j).map (Value.int .i64)) ∧ Below X.heap.size X wr) (fun _ i _ => 384 - (intOf i).toNat)
  case atStart => exact ⟨0, Nat.zero_le _, rfl, ⟨rfl, .inl ⟨rfl, rfl⟩⟩, Below.refl _ _⟩
  case round =>
    obtain ⟨j, hj, rfl, hown, hb⟩ := hrel
    have HGR := hide ((hb.block _ hlt0).trans HG0.out)
    have HOW := hide hown
    have HB := hide hb
    have hsr : w.heap.size < wr.heap.size := Nat.lt_of_lt_of_le hlt0 hb.size
    clear hb hown
    by_cases hlt : j < 384
    · have hjI : (j : Int) < 384 := by omega
      have hwz := HPW.out j hlt
      have HSU := hide (Ch.list_succ p l j)
      have HHj := hide (fun W => HH.out j W hlt)
      have hzw : (Lit.int .i64 (F + (j : Int))).wf = true := by rw [← hwz]; exact wrap_wf _
      have HZW := hide hzw
      have hLl := Ch.list_length p l j
      rw [HFP.out] at HSU
      obtain ⟨Z, hZ⟩ : ∃ Z, F + (j : Int) = Z := ⟨_, rfl⟩
      rw [hZ] at HSU HHj HZW
      have hwz' : IntKind.i64.wrap (F + (j : Int)) = Z := by rw [hwz, hZ]
      clear hwz hZ
      obtain ⟨L, hL⟩ : ∃ L, Ch.listTo p l j = L := ⟨_, rfl⟩
      rw [hL] at HOW HSU hLl
      clear hL hzw
      go_wp2_with (refine wpList_load_row_on (by rfl) 24 _ rfl w.heap.size rfl 24 _ (0, 0) _ HGR.out Try.underlying24 rfl HSF.out ?_)
      refine (HF.out wr).mono ?_
      rintro e w2 ⟨rfl, hb2⟩
      have HG2 := hide ((hb2.block _ hsr).trans HGR.out)
      have HB2 := hide (HB.out.trans (hb2.mono HB.out.size))
      have HO2 := hide (own_kept HOW.out hb2)
      clear hb2
      go_wp2_with (refine wpList_load_row_on (by rfl) 24 _ rfl w.heap.size rfl 24 _ (0, 0) _ HG2.out Try.underlying24 rfl HSF.out ?_)
      refine (HHj.out w2).mono ?_
      rintro e w3 ⟨rfl, hb3⟩
      have HB3 := hide (HB2.out.trans (hb3.mono HB2.out.size))
      have HO3 := hide (own_kept HO2.out hb3)
      have hsz := HB3.out.size
      clear hb3
      cases hbt : Ch.bitB l j with
      | true =>
        rw [hbt, if_pos rfl] at HSU
        obtain ⟨i0, hi0, hz0, hz1, hz2⟩ := info_parts info_int64
        clear hbt
        go_wp2_with (at_builtin; refine wpList_append_own _ rfl _ _ 34 rfl X.heap.size 3 i0 _ 1 8 Try.underlying34 hi0 hz0 hz1 hz2 rfl (by decide) u3 L.length (L.map (Value.int .i64)) rfl (HO3.out.alloc _) ⟨w3.heap.size, 0, none⟩ 1 1 [.int .i64 Z] rfl rfl (cell_one_new _ _ _) (by simp [Value.oneCell']) (by unfold maxLen; omega) (by omega) (by simp; omega) ?_; intro v' w5 hown2 hgrow hiff)
        have HON := hide hown2
        have HBN := hide (own_below (HO3.out.alloc _) hgrow (by simp; omega) (HB3.out.alloc hsz _) (Nat.le_refl _))
        clear hown2 hgrow hiff
        go_wp2_with fail
        go_roundw
        case rel => exact ⟨j + 1, by omega, by go_num, by rw [HSU.out, List.length_append, List.map_append]; exact HON.out, HBN.out⟩
        case measure => simp [intOf]; omega
      | false =>
        rw [hbt, if_neg (by decide), List.append_nil] at HSU
        clear hbt
        go_wp2_with fail
        go_roundw
        case rel => exact ⟨j + 1, by omega, by go_num, by rw [HSU.out]; exact HO3.out, HB3.out⟩
        case measure => simp [intOf]; omega
    · have hjI : ¬ (j : Int) < 384 := by omega
      obtain rfl : j = 384 := by omega
      have hw : ∀ x ∈ Ch.listTo p l 384, (Lit.int .i64 x).wf = true := fun x hx => by
        unfold Ch.listTo at hx
        obtain ⟨i, hi, rfl⟩ := List.mem_map.1 hx
        have := List.mem_range.1 (List.mem_filter.1 hi).1
        rw [show (Lit.int .i64 (384 * p + (i : Int))).wf = true ↔ True from ⟨fun _ => trivial, fun _ => by simp [Lit.wf, IntKind.min, IntKind.max, IntKind.signed, IntKind.bits]; omega⟩]
        trivial
      obtain ⟨a, cap, rfl, hA, _⟩ := arg_of_own HOW.out hw
      have HA := hide hA
      clear hA hw HOW
      go_wp2_with fail
      go_returns
      exact ⟨_, _, _, rfl, HA.out, HB0.out.trans (HB.out.mono HB0.out.size)⟩

theorem clist_any (p : Int) (l : List Int) (w : World) (hl : l.length = 48) (hz : Nums.Bytes l) :
    Calls Try.prog 16 #[.agg (chartC p l)] w fun e w' => ∃ a n cap, e = .returned (.slice a n cap) ∧ Arg .i64 w' a n cap (Ch.list p l) ∧ Below w.heap.size w w' := by
  cases hp : Ch.right p with
  | true =>
    rw [show Ch.list p l = Ch.listTo p l 384 from if_pos hp]
    exact clist_right p l hl hz hp
  | false =>
    rw [show Ch.list p l = [] from if_neg (by rw [hp]; decide)]
    exact clist_wrong p l hl hp

set_option maxRecDepth 100000 in
set_option maxHeartbeats 1000000 in
theorem ccount_any (p : Int) (l : List Int) (w : World) (hl : l.length = 48) (hz : Nums.Bytes l) :
    Calls Try.prog 17 #[.agg (chartC p l)] w fun e w' => e = .returned (.int .i64 (Ch.list p l).length) ∧ Below w.heap.size w w' := by
  obtain ⟨X, hX⟩ : ∃ X, X = w.alloc (.cells (chartC p l) 24) := ⟨_, rfl⟩
  have hb0 : Below w.heap.size w X := by rw [hX]; exact (Below.refl _ _).alloc (Nat.le_refl _) _
  have HB0 := hide hb0
  have HSF := hide (chart_size p hl)
  have HL := hide (clist_any p l X hl hz)
  generalize Ch.list p l = L at *
  clear hb0
  go_enter Try.func17, Try.ntmps17
  go_wp2_with (refine wpList_load_row_on (by rfl) 24 _ rfl w.heap.size rfl 24 _ (0, 0) _ (heap_alloc_new w _) Try.underlying24 rfl HSF.out ?_)
  rw [← hX]
  clear hX
  refine HL.out.mono ?_
  rintro e w2 ⟨a, n, cap, rfl, hA, hb2⟩
  have HB2 := hide (HB0.out.trans (hb2.mono HB0.out.size))
  have hn : n = L.length := hA.2.2.1.1.symm
  subst hn
  clear hb2 hA
  go_wp2_with fail
  go_ret
  exact ⟨rfl, HB2.out⟩
end Go.Proofs.Ytilnimdliebfnaa
