/-
  The document's answers (layer 10): List.
-/
import Derived.Test.YtilnimdliebfnaaRefChB
namespace Go.Proofs.Ytilnimdliebfnaa
set_option linter.unusedVariables false
set_option linter.unusedSimpArgs false
open Go.RowKit

theorem bit_at {l : List Int} {j i y : Nat} (hy : l.getD j 0 = (y : Int)) (hi : i < 8) : Ch.bitB l (8 * j + i) = decide (y / 2 ^ i % 2 = 1) := by
  unfold Ch.bitB
  rw [show (8 * j + i) / 8 = j by omega, show (8 * j + i) % 8 = i by omega, hy, Int.toNat_natCast, Nat.testBit_eq_decide_div_mod_eq]
theorem half_wrap {x : Nat} (h : x < 256) : IntKind.i64.wrap ((x : Int).tdiv 2) = ((x / 2 : Nat) : Int) ∧ IntKind.i64.wrap ((x : Int) / 2) = ((x / 2 : Nat) : Int) ∧ wrap64 ((x : Int) / 2) = ((x / 2 : Nat) : Int) := by
  have e : (x : Int).tdiv 2 = (x : Int) / 2 := Int.tdiv_eq_ediv_of_nonneg (by omega)
  have h4 : IntKind.i64.wrap ((x : Int) / 2) = ((x / 2 : Nat) : Int) := by rw [IntKind.wrap_i64]; omega
  exact ⟨by rw [e]; exact h4, h4, by unfold wrap64; omega⟩
theorem rem_two (x : Nat) : (x : Int).tmod 2 = ((x % 2 : Nat) : Int) := by
  rw [Int.tmod_eq_emod_of_nonneg (by omega)]
  omega
theorem num_wraps {p : Int} (hp : 0 ≤ p ∧ p ≤ 7) {j i : Nat} (hj : j < 48) (hi : i < 8) : IntKind.i64.wrap (384 * p) = 384 * p ∧ IntKind.i64.wrap (8 * (j : Int)) = 8 * (j : Int) ∧ IntKind.i64.wrap (384 * p + 8 * (j : Int)) = 384 * p + 8 * (j : Int) ∧ IntKind.i64.wrap (384 * p + 8 * (j : Int) + (i : Int)) = 384 * p + ((8 * j + i : Nat) : Int) := by
  refine ⟨?_, ?_, ?_, ?_⟩ <;> rw [IntKind.wrap_i64] <;> omega

set_option maxRecDepth 100000 in
set_option maxHeartbeats 2000000 in
theorem rchlist_right {w : World} (p : Int) (l : List Int) (hl : l.length = 48) (hz : Nums.Bytes l) (hp : Ch.right p = true) :
    Calls Try.prog 13 #[.agg (chartC p l)] w fun e w' => ∃ a n cap, e = .returned (.slice a n cap) ∧ Arg .i64 w' a n cap (Ch.listTo p l 384) ∧ Below w.heap.size w w' := by
  have hp' := of_decide_eq_true hp
  obtain ⟨X, hX⟩ : ∃ X, X = w.alloc (.cells (chartC p l) 24) := ⟨_, rfl⟩
  have hb0 : Below w.heap.size w X := by rw [hX]; exact (Below.refl _ _).alloc (Nat.le_refl _) _
  have hg0 : X.heap[w.heap.size]? = some (.cells (chartC p l) 24 (0, 0)) := by rw [hX]; exact heap_alloc_new w _
  have hlt0 : w.heap.size < X.heap.size := (Array.getElem?_eq_some_iff.1 hg0).1
  have HG0 := hide hg0
  have HB0 := hide hb0
  have HSF := hide (chart_size p hl)
  have HR := hide (fun W => rchright_any p l W hl)
  rw [hp] at HR
  clear hg0 hb0
  go_enter Try.func13, Try.ntmps13
  go_wp2_with fail
  rw [← hX]
  clear hX
  go_loopw [3, 4] (fun out i wr => ∃ j : Nat, j ≤ 48 ∧ i = .int .i64 j ∧ wr.ownsRow X.heap.size 3 1 out (Ch.listTo p l (8 * j)).length ((Ch.listTo p l (8 * j)).map (Value.int .i64)) ∧ Below X.heap.size X wr) (fun _ i _ => 48 - (intOf i).toNat)
  case atStart => exact ⟨0, Nat.zero_le _, rfl, ⟨rfl, .inl ⟨rfl, rfl⟩⟩, Below.refl _ _⟩
  case round =>
    obtain ⟨j, hj, rfl, hown, hb⟩ := hrel
    by_cases hlt : j < 48
    · have hjI : (j : Int) < 48 := by omega
      have HGR := hide ((hb.block _ hlt0).trans HG0.out)
      have HOW := hide hown
      have HB := hide hb
      have hsr : w.heap.size < wr.heap.size := Nat.lt_of_lt_of_le hlt0 hb.size
      clear hown hb
      go_wp2_with (refine wpList_load_row_on (by rfl) 24 _ rfl w.heap.size rfl 24 _ (0, 0) _ HGR.out Try.underlying24 rfl HSF.out ?_)
      refine (HR.out wr).mono ?_
      rintro e w2 ⟨rfl, hb2⟩
      have hg2 := (hb2.block _ hsr).trans HGR.out
      have HG2 := hide hg2
      have HB2 := hide (HB.out.trans (hb2.mono HB.out.size))
      have HO2 := hide (own_kept HOW.out hb2)
      obtain ⟨y, hy⟩ : ∃ y : Nat, l.getD j 0 = (y : Int) := ⟨(l.getD j 0).toNat, by have := Ch.byte_at hz j; omega⟩
      have hy256 : y < 256 := by have := Ch.byte_at hz j; omega
      have c0 : w2.cell? ⟨w.heap.size, 1 + j, none⟩ = some (.int .u8 (y : Int)) := by rw [← hy, Nat.add_comm 1 j]; exact (boxed_chart hg2).2 j (by omega)
      have hyw : IntKind.i64.wrap (y : Int) = (y : Int) := by rw [IntKind.wrap_i64]; omega
      clear hb2 hg2
      go_wp2_with fail
      obtain ⟨wq, hwq⟩ : ∃ x, x = wr := ⟨_, rfl⟩
      subst hwq
      go_loopw [3, 5, 6] (fun out x k wr' => ∃ i : Nat, i ≤ 8 ∧ k = .int .i64 i ∧ x = .int .i64 (y / 2 ^ i : Nat) ∧ wr'.ownsRow X.heap.size 3 1 out (Ch.listTo p l (8 * j + i)).length ((Ch.listTo p l (8 * j + i)).map (Value.int .i64)) ∧ Below X.heap.size X wr') (fun _ _ k _ => 8 - (intOf k).toNat)
      case atStart => exact ⟨0, Nat.zero_le _, rfl, by rw [Nat.pow_zero, Nat.div_one], HO2.out, HB2.out⟩
      case round =>
        obtain ⟨i, hi, rfl, rfl, hown, hb⟩ := hrel
        by_cases hlt8 : i < 8
        · have hiI : (i : Int) < 8 := by omega
          have HBIT := hide (bit_at hy hlt8)
          have HSU := hide (Ch.list_succ p l (8 * j + i))
          have HN := hide (num_wraps hp' hlt hlt8)
          have HDV : Hid (y / 2 ^ (i + 1) = y / 2 ^ i / 2) := by show _ = _; rw [Nat.pow_succ, Nat.div_div_eq_div_mul]
          obtain ⟨x, hx⟩ : ∃ x : Nat, y / 2 ^ i = x := ⟨_, rfl⟩
          have hx256 : x < 256 := by rw [← hx]; exact Nat.lt_of_le_of_lt (Nat.div_le_self _ _) hy256
          rw [hx] at HBIT HDV ⊢
          have hxI : (x : Int) < 256 := by omega
          have HRT := hide (rem_two x)
          have HG2' := hide ((hb.block _ hlt0).trans HG0.out)
          have c1 : wr.cell? ⟨w.heap.size, 0, none⟩ = some (.int .i64 p) := (boxed_chart HG2'.out).1
          have HOWN := hide hown
          have HBB := hide hb
          clear hx hx256 hown hb c0
          by_cases hbt : x % 2 = 1
          · have hr1 : (x : Int).tmod 2 = 1 := by rw [HRT.out, hbt]; rfl
            rw [decide_eq_true hbt] at HBIT
            rw [HBIT.out, if_pos rfl] at HSU
            clear hbt
            have hLl := Ch.list_length p l (8 * j + i)
            obtain ⟨L, hL⟩ : ∃ L, Ch.listTo p l (8 * j + i) = L := ⟨_, rfl⟩
            obtain ⟨V, hV⟩ : ∃ V : Int, 384 * p + ((8 * j + i : Nat) : Int) = V := ⟨_, rfl⟩
            rw [hL, hV] at HSU
            rw [hL] at HOWN hLl
            rw [hV] at HN
            obtain ⟨i0, hi0, hz0, hz1, hz2⟩ := info_parts info_int64
            have hsz := HBB.out.size
            clear hL hV HBIT
            obtain ⟨n1, n2, n3, n4⟩ := HN.out
            go_wp2_with (at_builtin; refine wpList_append_own _ rfl _ _ 34 rfl X.heap.size 3 i0 _ 1 8 Try.underlying34 hi0 hz0 hz1 hz2 rfl (by decide) u3 L.length (L.map (Value.int .i64)) rfl (HOWN.out.alloc _) ⟨wr.heap.size, 0, none⟩ 1 1 [.int .i64 V] rfl rfl (cell_one_new _ _ _) (by simp [Value.oneCell']) (by unfold maxLen; omega) (by omega) (by simp; omega) ?_; intro v' w5 hown2 hgrow hiff)
            have HON := hide hown2
            have HBN := hide (own_below (HOWN.out.alloc _) hgrow (by simp; omega) (HBB.out.alloc hsz _) (Nat.le_refl _))
            clear hown2 hgrow hiff n1 n2 n3 n4
            go_wp2_with fail
            go_roundw
            case rel => exact ⟨i + 1, by omega, by go_num, by rw [HDV.out, Int.natCast_ediv]; rfl, by rw [← Nat.add_assoc, HSU.out, List.length_append, List.map_append]; exact HON.out, HBN.out⟩
            case measure => simp [intOf]; omega
          · have hr0 : (x : Int).tmod 2 = 0 := by rw [HRT.out, show x % 2 = 0 by omega]; rfl
            rw [decide_eq_false hbt] at HBIT
            rw [HBIT.out, if_neg (by decide), List.append_nil] at HSU
            clear hbt
            go_wp2_with fail
            go_roundw
            case rel => exact ⟨i + 1, by omega, by go_num, by rw [HDV.out, Int.natCast_ediv]; rfl, by rw [← Nat.add_assoc, HSU.out]; exact HOWN.out, HBB.out⟩
            case measure => simp [intOf]; omega
        · have hiI : ¬ (i : Int) < 8 := by omega
          obtain rfl : i = 8 := by omega
          have HOWN := hide hown
          have HBB := hide hb
          clear hown hb c0
          go_wp2_with fail
          go_roundw
          case rel => exact ⟨j + 1, by omega, by go_num, by rw [show 8 * (j + 1) = 8 * j + 8 by omega]; exact HOWN.out, HBB.out⟩
          case measure => simp [intOf]; omega
    · have hjI : ¬ (j : Int) < 48 := by omega
      obtain rfl : j = 48 := by omega
      obtain ⟨a, cap, hv, hA, _⟩ := arg_of_own hown (fun x hx => by
        obtain ⟨i, hi, rfl⟩ := List.mem_map.1 hx
        have := List.mem_range.1 (List.mem_filter.1 hi).1
        exact wf_of_bd ⟨by omega, by omega⟩)
      subst hv
      have HA := hide hA
      have HBE := hide (HB0.out.trans (hb.mono HB0.out.size))
      clear hown hb hA
      go_wp2_with fail
      go_ret
      exact ⟨_, _, _, rfl, HA.out, HBE.out⟩

set_option maxRecDepth 100000 in
set_option maxHeartbeats 2000000 in
theorem rchlist_wrong {w : World} (p : Int) (l : List Int) (hl : l.length = 48) (hp : Ch.right p = false) :
    Calls Try.prog 13 #[.agg (chartC p l)] w fun e w' => e = .returned (.slice none 0 0) ∧ Below w.heap.size w w' := by
  obtain ⟨X, hX⟩ : ∃ X, X = w.alloc (.cells (chartC p l) 24) := ⟨_, rfl⟩
  have hb0 : Below w.heap.size w X := by rw [hX]; exact (Below.refl _ _).alloc (Nat.le_refl _) _
  have hg0 : X.heap[w.heap.size]? = some (.cells (chartC p l) 24 (0, 0)) := by rw [hX]; exact heap_alloc_new w _
  have HG0 := hide hg0
  have HB0 := hide hb0
  have HSF := hide (chart_size p hl)
  have HR := hide (fun W => rchright_any p l W hl)
  rw [hp] at HR
  clear hg0 hb0 hp
  go_enter Try.func13, Try.ntmps13
  go_wp2_with fail
  rw [← hX]
  clear hX
  go_loopw [3, 4] (fun out i wr => i = .int .i64 0 ∧ out = .slice none 0 0 ∧ wr = X) (fun _ i _ => 48 - (intOf i).toNat)
  case atStart => exact ⟨rfl, rfl, rfl⟩
  case round =>
    obtain ⟨rfl, rfl, rfl⟩ := hrel
    go_wp2_with (refine wpList_load_row_on (by rfl) 24 _ rfl w.heap.size rfl 24 _ (0, 0) _ HG0.out Try.underlying24 rfl HSF.out ?_)
    refine (HR.out _).mono ?_
    rintro e w2 ⟨rfl, hb2⟩
    have HB2 := hide (HB0.out.trans (hb2.mono HB0.out.size))
    clear hb2
    go_wp2_with fail
    go_ret
    exact ⟨rfl, HB2.out⟩

theorem rchlist_any {w : World} (p : Int) (l : List Int) (hl : l.length = 48) (hz : Nums.Bytes l) :
    Calls Try.prog 13 #[.agg (chartC p l)] w fun e w' => ∃ a n cap, e = .returned (.slice a n cap) ∧ Arg .i64 w' a n cap (Ch.list p l) ∧ Below w.heap.size w w' := by
  cases hp : Ch.right p with
  | true =>
    have h := rchlist_right (w := w) p l hl hz hp
    unfold Ch.list
    rw [hp, if_pos rfl]
    exact h
  | false =>
    refine (rchlist_wrong (w := w) p l hl hp).mono ?_
    rintro e w' ⟨rfl, hb⟩
    refine ⟨none, 0, 0, rfl, ?_, hb⟩
    unfold Ch.list
    rw [hp]
    exact arg_of (.inl ⟨rfl, rfl, rfl, rfl⟩)
end Go.Proofs.Ytilnimdliebfnaa
