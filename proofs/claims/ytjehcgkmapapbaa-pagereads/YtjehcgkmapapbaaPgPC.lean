/-
  page.PutLeaf: what it answers.
-/
import Derived.Test.YtjehcgkmapapbaaPgPB
import Derived.Test.YtjehcgkmapapbaaOcG
import Derived.Test.YtjehcgkmapapbaaClone
import Derived.Deep.AppendLies
import Derived.Laws.BitsAllLaws
namespace Go.Proofs.Ytjehcgkmapapbaa
set_option linter.unusedVariables false
set_option linter.unusedSimpArgs false
open Go.RowKit

theorem arg_of_own8 {w : World} {B : Nat} {v : Value} {n : Nat} {L : List Int} (h : w.ownsRow B 5 1 v n (L.map (Value.int .u8))) (hw : Nums.Bytes L) : ∃ a cap, v = .slice a n cap ∧ Arg .u8 w a n cap L := by
  obtain ⟨a, cap, hv, hle, hmax, hl, hrow⟩ := row_of_own h
  refine ⟨a, cap, hv, hle, hmax, hrow, fun z hz => ?_, ?_⟩
  · have := hw z hz
    simpa [Lit.wf, IntKind.min, IntKind.max, IntKind.signed, IntKind.bits] using this
  · rcases h.2 with ⟨e, _⟩ | ⟨g, c, cur, e, _⟩
    · rw [hv] at e
      injection e with _ _ e3
      exact .inl e3
    · rw [hv] at e
      injection e with e1
      exact .inr ⟨g, 0, e1⟩
theorem own_lt {w : World} {B : Nat} {e : TypeId} {z n : Nat} {v : Value} {xs : List Value} (h : w.ownsRow B e z v n xs) {g : Nat} (hg : v.ownBlock = some g) : g < w.heap.size := by
  rcases h.2 with ⟨rfl, _⟩ | ⟨k, c, cur, rfl, hk, hb, _⟩
  · simp [Value.ownBlock] at hg
  · simp [Value.ownBlock] at hg
    subst hg
    exact (Array.getElem?_eq_some_iff.1 hb).1
theorem or_pow_i64 (c j : Nat) (h : c < 2 ^ j) (hj : j < 60) : bits .or .i64 (c : Int) (wrap64 ((2 : Int) ^ j)) = ((c + 2 ^ j : Nat) : Int) := by
  have hp : (2 : Nat) ^ j < 2 ^ 60 := Nat.pow_lt_pow_right (by decide) hj
  have h1 : wrap64 ((2 : Int) ^ j) = ((2 ^ j : Nat) : Int) := by
    rw [show ((2 : Int) ^ j) = ((2 ^ j : Nat) : Int) from (Int.natCast_pow 2 j).symm]
    generalize (2 : Nat) ^ j = m at *
    exact wrap64_small (by omega) (by omega)
  have ho : c ||| 2 ^ j = c + 2 ^ j := by
    have := Nat.two_pow_add_eq_or_of_lt h 1
    rw [Nat.mul_one] at this
    rw [Nat.or_comm, ← this, Nat.add_comm]
  rw [h1]
  show IntKind.i64.wrap ((BitVec.ofInt 64 (c : Int) ||| BitVec.ofInt 64 ((2 ^ j : Nat) : Int)).toNat : Int) = _
  rw [BitVec.toNat_or, ofInt_u64 c (by omega), ofInt_u64 (2 ^ j) (by omega), ho, IntKind.wrap_i64]
  generalize (2 : Nat) ^ j = m at *
  omega

set_option maxRecDepth 100000 in
set_option maxHeartbeats 1000000 in
theorem putleaf_no (l : List Pg.Seat) (w : World) (hl : l.length = 7) (hr : Pg.leafR l = false) :
    Calls Try.prog 10 #[.agg (leafC l)] w fun e w' => e = .returned (.tuple #[.slice none 0 0, .bool false]) ∧ Below w.heap.size w w' := by
  obtain ⟨W, hW⟩ : ∃ W, W = w.alloc (.cells (leafC l) 26) := ⟨_, rfl⟩
  have hB0 : Below w.heap.size w W := by rw [hW]; exact (Below.refl _ _).alloc (Nat.le_refl _) _
  have hg0 : W.heap[w.heap.size]? = some (.cells (leafC l) 26 (0, 0)) := by rw [hW]; exact heap_alloc_new w _
  have HB0 := hide hB0
  have HG0 := hide hg0
  have HSZ : Hid ((Try.prog.info? 26).map (·.size) = some (leafC l).size) := leaf_size hl
  have HR := hide (prightleaf_any l W hl)
  rw [hr] at HR
  clear hB0 hg0 hr
  go_enter Try.func10, Try.ntmps10
  go_wp2_with (refine wpList_load_row rfl 26 _ rfl w.heap.size rfl 26 (leafC l) (0, 0) _ (heap_alloc_new w _) Try.underlying26 rfl HSZ.out ?_)
  rw [← hW]
  clear hW
  refine HR.out.mono ?_
  rintro e w1 ⟨rfl, hb1⟩
  have HB1 := hide (HB0.out.trans (hb1.mono HB0.out.size))
  clear hb1
  go_wp2_with fail
  go_ret2
  exact ⟨rfl, HB1.out⟩

set_option maxRecDepth 100000 in
set_option maxHeartbeats 2000000 in
theorem putleaf_yes (l : List Pg.Seat) (w : World) (hl : l.length = 7) (hr : Pg.leafR l = true) :
    Calls Try.prog 10 #[.agg (leafC l)] w fun e w' => ∃ h c tail, e = .returned (.tuple #[.slice (some ⟨h, 0, none⟩) 64 c, .bool true]) ∧ 64 ≤ c ∧ c ≤ maxLen ∧ w.heap.size ≤ h ∧ w'.heap[h]? = some (.cells ((Pg.leaf l).map (Value.int .u8) ++ tail).toArray 5 (0, 0)) ∧ Below w.heap.size w w' := by
  obtain ⟨W, hW⟩ : ∃ W, W = w.alloc (.cells (leafC l) 26) := ⟨_, rfl⟩
  have hB0 : Below w.heap.size w W := by rw [hW]; exact (Below.refl _ _).alloc (Nat.le_refl _) _
  have hg0 : W.heap[w.heap.size]? = some (.cells (leafC l) 26 (0, 0)) := by rw [hW]; exact heap_alloc_new w _
  have HB0 := hide hB0
  have HG0 := hide hg0
  have HSZ : Hid ((Try.prog.info? 26).map (·.size) = some (leafC l).size) := leaf_size hl
  have HSA : Hid ((Try.prog.info? 24).map (·.size) = some (leafC l).size) := by show _ = _; rw [leafC_size, hl]; kernel_rfl
  have HR := hide (prightleaf_any l W hl)
  rw [hr] at HR
  have hlt0 : w.heap.size < W.heap.size := (Array.getElem?_eq_some_iff.1 hg0).1
  clear hB0 hg0
  go_enter Try.func10, Try.ntmps10
  go_wp2_with (refine wpList_load_row rfl 26 _ rfl w.heap.size rfl 26 (leafC l) (0, 0) _ (heap_alloc_new w _) Try.underlying26 rfl HSZ.out ?_)
  rw [← hW]
  clear hW
  refine HR.out.mono ?_
  rintro e w1 ⟨rfl, hb1⟩
  have HG1 := hide ((hb1.block _ hlt0).trans HG0.out)
  have HB1 := hide (HB0.out.trans (hb1.mono HB0.out.size))
  clear hb1
  go_wp2_with (refine wpList_load_row rfl 24 _ rfl w.heap.size rfl 26 (leafC l) (0, 0) _ HG1.out Try.underlying24 rfl HSA.out ?_)
  obtain ⟨G, hG⟩ : ∃ G, G = w1.heap.size := ⟨_, rfl⟩
  obtain ⟨i0, hi, hz0, hz1, hz2⟩ := info_parts info_u8
  go_loopw [4, 5, 13] (fun t v i wr => ∃ j : Nat, j ≤ 7 ∧ i = .int .i64 j ∧ t = .int .i64 (Pg.tag (l.take j) : Nat) ∧ wr.ownsRow G 5 1 v (8 * j) ((Pg.seatsB (l.take j)).map (Value.int .u8)) ∧ Below G w1 wr) (fun _ _ i _ => 7 - (intOf i).toNat)
  case atStart => exact ⟨0, Nat.zero_le _, rfl, rfl, ⟨rfl, .inl ⟨rfl, rfl⟩⟩, by rw [hG]; exact Below.refl _ _⟩
  case round =>
    obtain ⟨j, hj, rfl, rfl, hown, hbr⟩ := hrel
    have HBR := hide hbr
    have HOW := hide hown
    have hGr : G ≤ wr.heap.size := by rw [hG]; exact hbr.size
    by_cases hlt : j < 7
    · have hjI : (j : Int) < 7 := by omega
      obtain ⟨x, hx⟩ : ∃ x, l.getD j ⟨false, 0, 0⟩ = x := ⟨_, rfl⟩
      have hlj : l[j]'(by omega) = x := by rw [← hx, List.getD_eq_getElem?_getD, List.getElem?_eq_getElem (by omega)]; rfl
      have hxr : Pg.seatB x = true := List.all_eq_true.1 hr x (by rw [← hlj]; exact List.getElem_mem _)
      have HTK : Hid (l.take (j + 1) = l.take j ++ [x]) := by
        show _ = _
        rw [List.take_succ_eq_append_getElem (by omega), hlj]
      have HSB : Hid (Pg.seatsB (l.take (j + 1)) = Pg.seatsB (l.take j) ++ Nums.lay x.gen 4 ++ Nums.lay x.next 4) := by show _ = _; rw [HTK.out, Pg.seatsB_snoc]
      have HTG : Hid (Pg.tag (l.take (j + 1)) = Pg.tag (l.take j) + 2 ^ j * Pg.bit x) := by
        show _ = _
        rw [HTK.out, Pg.tag_snoc, List.length_take, Nat.min_eq_left (by omega)]
      have htl : Pg.tag (l.take j) < 2 ^ j := by
        have := Pg.tag_lt (l.take j)
        rwa [List.length_take, Nat.min_eq_left (by omega)] at this
      obtain ⟨hbg, hbn⟩ := Pg.seat_bounds hxr
      obtain ⟨b, g, n⟩ := x
      simp only at hbg hbn HSB
      have hix := fun W => run_index_leaf l hl j hlt _ hx W
      have hwg : IntKind.u64.wrap g = g := by rw [IntKind.wrap_u64]; omega
      have hwn : IntKind.u64.wrap n = n := by rw [IntKind.wrap_u64]; omega
      have HL1 := hide (fun W => lay_yes g 4 W (by simp [Lit.wf, IntKind.min, IntKind.max, IntKind.signed, IntKind.bits]; omega) (by decide))
      have HL2 := hide (fun W => lay_yes n 4 W (by simp [Lit.wf, IntKind.min, IntKind.max, IntKind.signed, IntKind.bits]; omega) (by decide))
      rw [show ((4 : Nat) : Int) = 4 from rfl] at HL1 HL2
      have hl1 : (Nums.lay g 4).length = 4 := Nums.length_lay 4 g
      have hl2 : (Nums.lay n 4).length = 4 := Nums.length_lay 4 n
      generalize Nums.lay g 4 = Z1 at *
      generalize Nums.lay n 4 = Z2 at *
      obtain ⟨X, hX⟩ : ∃ X, X = wr.alloc (.cells #[.bool b, .int .i64 g, .int .i64 n] 23) := ⟨_, rfl⟩
      have hBX : Below wr.heap.size wr X := by rw [hX]; exact (Below.refl _ _).alloc (Nat.le_refl _) _
      have hgX : X.heap[wr.heap.size]? = some (.cells #[.bool b, .int .i64 g, .int .i64 n] 23 (0, 0)) := by rw [hX]; exact heap_alloc_new wr _
      have hOX := own_kept hown hBX
      have hOXL := hOX.alloc (.cells (blk .u8 Z1) 5)
      have hXs : X.heap.size = wr.heap.size + 1 := by rw [hX]; simp
      have HOXL : Hid ((X.alloc (.cells (blk .u8 Z1) 5)).ownsRow G 5 1 u5 (8 * j) ((Pg.seatsB (l.take j)).map (Value.int .u8))) := hOXL
      have HGX : Hid ((X.alloc (.cells (blk .u8 Z1) 5)).heap[wr.heap.size]? = some (.cells #[.bool b, .int .i64 g, .int .i64 n] 23 (0, 0))) := (Below.heap_alloc X _ _ (by omega)).trans hgX
      have HBX : Hid (Below G w1 (X.alloc (.cells (blk .u8 Z1) 5))) := (HBR.out.trans (hBX.mono hGr)).alloc (by have := hBX.size; omega) _
      have hne : u5.ownBlock ≠ some wr.heap.size := fun e => Nat.lt_irrefl _ (own_lt HOW.out e)
      have hor := or_pow_i64 (Pg.tag (l.take j)) j htl (by omega)
      have HSBL : Hid ((Pg.seatsB (l.take j)).length = 8 * j) := by show _ = _; rw [Pg.seatsB_length, List.length_take, Nat.min_eq_left (by omega)]
      generalize Pg.seatsB (l.take j) = SB at *
      have hc0 : Pg.tag (l.take j) = Pg.tag (l.take j) + 2 ^ j * Pg.bit ⟨false, g, n⟩ := by simp [Pg.bit]
      generalize Pg.tag (l.take j) = ct at *
      have hc1 : ct + 2 ^ j = ct + 2 ^ j * Pg.bit ⟨true, g, n⟩ := by simp [Pg.bit]
      obtain ⟨c1, hc⟩ : ∃ c, ct + 2 ^ j = c := ⟨_, rfl⟩
      rw [hc] at hor hc1
      have HC1 := hide hc1
      have HC0 := hide hc0
      clear hc htl hc0 hc1
      clear hown hbr hx hlj hxr HTK hOXL hBX hgX hOX
      have HREL : Hid (∀ (t : Nat), t = (if b = true then c1 else ct) → t = Pg.tag (l.take (j + 1))) := by
        intro t ht
        rw [ht, HTG.out]
        cases b with
        | true => exact HC1.out
        | false => exact HC0.out
      clear HTG HC1 HC0
      cases b
      all_goals
        go_wp2_with fail
        rw [← hX]
        clear hX
        refine (HL1.out _).mono ?_
        rintro e w' ⟨rfl, rfl⟩
        go_wp2_with (refine wpList_append_lies _ rfl _ _ _ rfl G 5 i0 _ 1 1 Try.underlying29 hi hz0 hz1 hz2 rfl (by omega) u5 (8 * j) (SB.map (Value.int .u8)) rfl HOXL.out ⟨wr.heap.size + 1, 0, none⟩ 4 4 (Z1.map (Value.int .u8)) rfl (by simp [hl1]) (fun j u hu => World.news_of_block (cs := blk .u8 Z1) (t := 5) (fr := (0, 0)) (by rw [← hXs]; exact heap_alloc_new X _) j u (by simpa [blk] using hu)) (oneCells _ _) (by omega) (by unfold maxLen; omega) (by omega) (by simp; omega) (wr.heap.size + 2) (by simp [hXs]) ?_; intro gg cp w5 hown1 hgrow hat hlt1; have hx5 := (hgrow.block wr.heap.size (by simp; omega) (Ne.symm hne)).trans HGX.out; have c2 : w5.cell? ⟨wr.heap.size, 2, none⟩ = some (.int .i64 n) := (by simp [World.cell?, hx5]); have HB5 := hide (own_below HOXL.out hgrow (by simp; omega) HBX.out (Nat.le_refl _)); have HO5 := hide hown1; clear hgrow hat hlt1 hown1 hx5)
        have hG5 : G ≤ w5.heap.size := by
          have h1 : w1.heap.size ≤ w5.heap.size := HB5.out.size
          omega
        have hO5 : Hid ((w5.alloc (.cells (blk .u8 Z2) 5)).ownsRow G 5 1 (.slice (some ⟨gg, 0, none⟩) (8 * j + 4) cp) (8 * j + 4) (SB.map (Value.int .u8) ++ Z1.map (Value.int .u8))) := HO5.out.alloc _
        refine (HL2.out _).mono ?_
        rintro e w' ⟨rfl, rfl⟩
        go_wp2_with (refine wpList_append_lies _ rfl _ _ _ rfl G 5 i0 _ 1 1 Try.underlying29 hi hz0 hz1 hz2 rfl (by omega) (.slice (some ⟨gg, 0, none⟩) (8 * j + 4) cp) (8 * j + 4) (SB.map (Value.int .u8) ++ Z1.map (Value.int .u8)) rfl hO5.out ⟨w5.heap.size, 0, none⟩ 4 4 (Z2.map (Value.int .u8)) rfl (by simp [hl2]) (fun j u hu => World.news_of_block (cs := blk .u8 Z2) (t := 5) (fr := (0, 0)) (heap_alloc_new w5 _) j u (by simpa [blk] using hu)) (oneCells _ _) (by omega) (by unfold maxLen; omega) (by omega) (by simp; omega) (w5.heap.size + 1) (by simp) ?_; intro gh cq w6 hown2 hgrow hat hlt1; have HB6 := hide (own_below hO5.out hgrow (by simp; omega) (HB5.out.alloc hG5 _) (Nat.le_refl _)); have HO6 := hide hown2; clear hgrow hat hlt1 hown2 c2)
        go_roundw
        case rel =>
          refine ⟨j + 1, by omega, by go_num, ?_, ?_, HB6.out⟩
          · rw [← HREL.out _ rfl]; rfl
          · rw [HSB.out]
            have := HO6.out
            rw [show 8 * j + 4 + 4 = 8 * (j + 1) by omega, ← List.map_append, ← List.map_append] at this
            exact this
        case measure => simp [intOf]; omega
    · have hjI : ¬ (j : Int) < 7 := by omega
      obtain rfl : j = 7 := by omega
      have hta : l.take 7 = l := List.take_of_length_le (by omega)
      rw [hta] at hown ⊢
      obtain ⟨ba, bc, rfl, hbA⟩ := arg_of_own8 hown (Pg.seatsB_bytes l)
      have HS := hide (bseal_yes 2 (Pg.tag l : Nat) (by decide) (Pg.tag_byte hl) hbA (by decide))
      have HLF : Hid (Bk.shut 2 (Pg.tag l : Nat) (Pg.seatsB l) = Pg.leaf l) := rfl
      rw [HLF.out] at HS
      clear hown hbA HOW hta
      generalize Pg.tag l = tg at *
      go_wp2_with fail
      refine HS.out.mono ?_
      rintro e w6 ⟨g6, c6, t6, rfl, h64, hcm, hg6, hh6, hb6⟩
      have HB6 := hide (HB1.out.trans ((HBR.out.trans (hb6.mono hGr)).mono (by rw [hG]; exact HB1.out.size)))
      have HH6 := hide hh6
      have HZ6 : Hid (w.heap.size ≤ g6) := by show w.heap.size ≤ g6; have := HB1.out.size; omega
      clear hb6 hh6 hg6
      go_wp2_with fail
      go_ret2
      exact ⟨_, _, _, rfl, h64, hcm, HZ6.out, HH6.out, HB6.out⟩
end Go.Proofs.Ytjehcgkmapapbaa
