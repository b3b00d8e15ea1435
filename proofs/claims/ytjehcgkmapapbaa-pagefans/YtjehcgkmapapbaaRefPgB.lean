/-
  The document's answers (layer 9): Leaf.
-/
import Derived.Test.YtjehcgkmapapbaaRefPgA
import Derived.Test.YtjehcgkmapapbaaRegs
namespace Go.Proofs.Ytjehcgkmapapbaa
set_option linter.unusedVariables false
set_option linter.unusedSimpArgs false
open Go.RowKit

theorem wrap64_small {x : Int} (h0 : 0 ≤ x) (h1 : x < 9223372036854775808) : wrap64 x = x := by
  unfold wrap64
  omega
theorem tag_wrap {ct j : Nat} (h : ct < 2 ^ j) (hj : j < 7) : wrap64 ((2 : Int) ^ j) = ((2 ^ j : Nat) : Int) ∧ wrap64 ((ct : Int) + ((2 ^ j : Nat) : Int)) = ((ct + 2 ^ j : Nat) : Int) := by
  have hcp : ((2 : Int) ^ j) = ((2 ^ j : Nat) : Int) := (Int.natCast_pow 2 j).symm
  have hpw : (2 : Nat) ^ j ≤ 2 ^ 6 := Nat.pow_le_pow_right (by decide) (by omega)
  have hpw' : (2 : Nat) ^ j ≤ 64 := hpw
  refine ⟨?_, ?_⟩
  · rw [hcp]
    exact wrap64_small (by omega) (by omega)
  · have : ((ct : Int) + ((2 ^ j : Nat) : Int)) = ((ct + 2 ^ j : Nat) : Int) := (Int.natCast_add ct (2 ^ j)).symm
    rw [this]
    exact wrap64_small (by omega) (by omega)

/-- the cells of a leaf. -/
def seatC (x : Pg.Seat) : List Value := [.bool x.live, .int .i64 x.gen, .int .i64 x.next]
def leafC (l : List Pg.Seat) : Array Value := (l.flatMap seatC).toArray
theorem leafC_length : ∀ l : List Pg.Seat, (l.flatMap seatC).length = 3 * l.length
  | [] => rfl
  | x :: r => by
    have := leafC_length r
    simp only [List.flatMap_cons, List.length_append, this, seatC, List.length_cons, List.length_nil]
    omega
theorem leafC_size (l : List Pg.Seat) : (leafC l).size = 3 * l.length := by
  rw [← leafC_length l]
  rfl
theorem leafC_at : ∀ (l : List Pg.Seat) (j r : Nat) (hj : j < l.length) (hr : r < 3), (l.flatMap seatC)[j * 3 + r]? = (seatC l[j])[r]?
  | [], j, r, hj, _ => by simp at hj
  | x :: t, 0, r, _, hr => by
    rw [List.flatMap_cons, List.getElem?_append_left (by simp [seatC]; omega)]
    simp
  | x :: t, j + 1, r, hj, hr => by
    rw [List.flatMap_cons, List.getElem?_append_right (by simp [seatC]; omega)]
    have := leafC_at t j r (by simpa using hj) hr
    have e : (j + 1) * 3 + r - (seatC x).length = j * 3 + r := by simp [seatC]; omega
    rw [e, this, List.getElem_cons_succ]
theorem boxed_leaf {X : World} {B : Nat} {l : List Pg.Seat} {T : TypeId} (h : X.heap[B]? = some (.cells (leafC l) T (0, 0))) {j : Nat} (hj : j < l.length) :
    X.cell? ⟨B, j * 3, none⟩ = some (.bool l[j].live) ∧ X.cell? ⟨B, j * 3 + 1, none⟩ = some (.int .i64 l[j].gen) ∧ X.cell? ⟨B, j * 3 + 2, none⟩ = some (.int .i64 l[j].next) := by
  have e0 := leafC_at l j 0 hj (by decide)
  have e1 := leafC_at l j 1 hj (by decide)
  have e2 := leafC_at l j 2 hj (by decide)
  simp only [Nat.add_zero, seatC] at e0 e1 e2
  refine ⟨?_, ?_, ?_⟩
  · simp [World.cell?, h, leafC, e0]
  · simp [World.cell?, h, leafC, e1]
  · simp [World.cell?, h, leafC, e2]

set_option maxRecDepth 100000 in
set_option maxHeartbeats 2000000 in
theorem rleaf_any (l : List Pg.Seat) (w : World) (hl : l.length = 7) :
    Calls Try.prog 11 #[.agg (leafC l)] w fun e w' => e = .returned (.tuple #[.string (if Pg.leafR l = true then strOfNums (Pg.leaf l) else ⟨#[]⟩), .bool (Pg.leafR l)]) ∧ Below w.heap.size w w' := by
  obtain ⟨W, hW⟩ : ∃ W, W = w.alloc (.cells (leafC l) 26) := ⟨_, rfl⟩
  have hB0 : Below w.heap.size w W := by rw [hW]; exact (Below.refl _ _).alloc (Nat.le_refl _) _
  have hg0 : W.heap[w.heap.size]? = some (.cells (leafC l) 26 (0, 0)) := by rw [hW]; exact heap_alloc_new w _
  have HB0 := hide hB0
  have HG0 := hide hg0
  have hlt0 : w.heap.size < W.heap.size := (Array.getElem?_eq_some_iff.1 hg0).1
  have htb := Pg.tag_byte hl
  have HSL : Hid (∀ W, Calls Try.prog 27 #[.int .i64 2, .int .i64 (Pg.tag l : Nat), .string (strOfNums (Pg.seatsB l))] W fun e w' => e = .returned (.string (strOfNums (Pg.leaf l))) ∧ Below W.heap.size W w') := fun W => rseal_any 2 (Pg.tag l : Nat) (Pg.seatsB l) W (by decide) htb (Pg.seatsB_bytes l) (by rw [Pg.seatsB_length]; omega)
  have HLL := hide hl
  obtain ⟨V, hV⟩ : ∃ V : Value, V = .tuple #[.string (if Pg.leafR l = true then strOfNums (Pg.leaf l) else ⟨#[]⟩), .bool (Pg.leafR l)] := ⟨_, rfl⟩
  rw [← hV]
  have HV := hide hV
  clear hB0 hg0 hV htb
  go_enter Try.func11, Try.ntmps11
  go_wp2_with fail
  rw [← hW]
  go_loopw [4, 5, 6] (fun t tg i wr => ∃ j : Nat, j ≤ 7 ∧ i = .int .i64 j ∧ t = .string (strOfNums (Pg.seatsB (l.take j))) ∧ tg = .int .i64 (Pg.tag (l.take j) : Nat) ∧ Pg.leafR (l.take j) = true ∧ Below W.heap.size W wr) (fun _ _ i _ => 7 - (intOf i).toNat)
  case atStart => exact ⟨0, Nat.zero_le _, rfl, rfl, rfl, rfl, Below.refl _ _⟩
  case round =>
    obtain ⟨j, hj, rfl, rfl, rfl, hok, hb⟩ := hrel
    have HB := hide hb
    have HOK := hide hok
    have hll := HLL.out
    have hsz : (strOfNums (Pg.seatsB (l.take j))).size = 8 * j := by
      rw [size_str, Pg.seatsB_length, List.length_take]
      omega
    by_cases hlt : j < 7
    · have hjI : (j : Int) < 7 := by omega
      obtain ⟨c0, c1, c2⟩ := boxed_leaf ((hb.block _ hlt0).trans HG0.out) (j := j) (by omega)
      have hjl : j < l.length := by omega
      have HTK : Hid (l.take (j + 1) = l.take j ++ [l[j]]) := List.take_succ_eq_append_getElem hjl
      obtain ⟨x, hx⟩ : ∃ x, l[j] = x := ⟨_, rfl⟩
      have HMEM : Hid (x ∈ l) := by show x ∈ l; rw [← hx]; exact List.getElem_mem _
      rw [hx] at HTK c0 c1 c2
      have htl := Pg.tag_lt (l.take j)
      rw [List.length_take, Nat.min_eq_left (by omega)] at htl
      have HTW := hide (tag_wrap htl hlt)
      clear htl
      have HSN : Hid (strOfNums (Pg.seatsB (l.take j)) ++ strOfNums (Nums.lay x.gen 4) ++ strOfNums (Nums.lay x.next 4) = strOfNums (Pg.seatsB (l.take (j + 1)))) := by
        show _ = _
        rw [HTK.out, Pg.seatsB_snoc, str_append, str_append]
      have HTG : Hid (Pg.tag (l.take (j + 1)) = Pg.tag (l.take j) + 2 ^ j * Pg.bit x) := by
        show _ = _
        rw [HTK.out, Pg.tag_snoc, List.length_take, Nat.min_eq_left (by omega)]
      have HRN : Hid (Pg.seatB x = true → Pg.leafR (l.take (j + 1)) = true) := fun e => by
        rw [HTK.out]
        unfold Pg.leafR at *
        rw [List.all_append, HOK.out, List.all_cons, e]
        rfl
      have HRF : Hid (Pg.seatB x = false → Pg.leafR l = false) := fun e => by
        unfold Pg.leafR
        rw [List.all_eq_false]
        exact ⟨x, HMEM.out, by rw [e]; decide⟩
      clear hok hb hx hjl
      obtain ⟨b, g, n⟩ := x
      dsimp only at c0 c1 c2 HSN
      have HSE := hide (rseat_any b g n (wr.alloc (.cells #[.bool b, .int .i64 g, .int .i64 n] 23)))
      have HBX : Hid (Below W.heap.size W (wr.alloc (.cells #[.bool b, .int .i64 g, .int .i64 n] 23))) := HB.out.alloc HB.out.size _
      have HGX : Hid ((wr.alloc (.cells #[.bool b, .int .i64 g, .int .i64 n] 23)).heap[wr.heap.size]? = some (.cells #[.bool b, .int .i64 g, .int .i64 n] 23 (0, 0))) := heap_alloc_new wr _
      by_cases hr : Pg.seatB ⟨b, g, n⟩ = true
      · have hbd := Pg.seat_bounds hr
        have HRN' := hide (HRN.out hr)
        rw [hr] at HSE
        clear HRN HRF hr
        dsimp only at hbd
        go_wp2_with fail
        refine HSE.out.mono ?_
        rintro e w4 ⟨rfl, hb4⟩
        have hg4 := (hb4.block wr.heap.size (by simp)).trans HGX.out
        have HB4 := hide (HBX.out.trans (hb4.mono HBX.out.size))
        have hb5 : ∀ x : Later w4, x.val.heap[wr.heap.size]? = some (.cells #[.bool b, .int .i64 g, .int .i64 n] 23 (0, 0)) := fun x => (x.property.block _ (Array.getElem?_eq_some_iff.1 hg4).1).trans hg4
        have d0 : w4.cell? ⟨wr.heap.size, 0, none⟩ = some (.bool b) := by simp [World.cell?, hg4]
        have d1 : ∀ x : Later w4, x.val.cell? ⟨wr.heap.size, 1, none⟩ = some (.int .i64 g) := fun x => by simp [World.cell?, hb5 x]
        have d2 : ∀ x : Later w4, x.val.cell? ⟨wr.heap.size, 2, none⟩ = some (.int .i64 n) := fun x => by simp [World.cell?, hb5 x]
        have HLg := hide (fun W => reflay_any g 4 W hbd.1.1 (by omega) (by decide))
        have HLn := hide (fun W => reflay_any n 4 W hbd.2.1 (by omega) (by decide))
        have z1 := size_str (Nums.lay g 4)
        have z2 := size_str (Nums.lay n 4)
        rw [Nums.length_lay] at z1 z2
        have z3 : (strOfNums (Pg.seatsB (l.take j)) ++ strOfNums (Nums.lay g 4)).size = 8 * j + 4 := by
          rw [str_append, size_str, List.length_append, Nums.length_lay, Pg.seatsB_length, List.length_take]
          omega
        have hgw : IntKind.u64.wrap g = g := by rw [IntKind.wrap_u64]; omega
        have hnw : IntKind.u64.wrap n = n := by rw [IntKind.wrap_u64]; omega
        generalize strOfNums (Pg.seatsB (l.take j)) = T at *
        generalize strOfNums (Nums.lay g 4) = Z1 at *
        generalize strOfNums (Nums.lay n 4) = Z2 at *
        obtain ⟨TZ, hTZ⟩ : ∃ X, T ++ Z1 = X := ⟨_, rfl⟩
        rw [hTZ] at HSN z3
        have q1 : ¬ 9223372036854775807 < T.size + Z1.size := by omega
        have q2 : ¬ 9223372036854775807 < TZ.size + Z2.size := by omega
        have hne := later_some w4
        generalize hct : Pg.tag (l.take j) = ct at *
        clear hb4 hb5 hg4 hct
        cases b with
        | true =>
          have HTG' : Hid ((Pg.tag (l.take (j + 1)) : Nat) = ct + 2 ^ j) := by
            show _ = _
            rw [HTG.out]
            simp [Pg.bit]
          obtain ⟨hw1, hw2⟩ := HTW.out
          have HW2 := hide hw2
          clear HTG hw2
          generalize (2 : Nat) ^ j = pw at *
          go_wp2_with fail
          refine wp_region_later (by kernel_rfl) (by kernel_rfl) ?_
          repeat (go_big_quiet_step (first | (go_at_call_of 26 (Value.int .u64 g); refine calls_later (HLg.out _)) | (go_at_call_of 26 (Value.int .u64 n); refine calls_later (HLn.out _))))
          refine wpQuiet_nil ?_
          intro w9 hw9
          obtain ⟨⟨w9', hb9⟩, rfl⟩ := hw9
          have HB9 := hide (HB4.out.trans (hb9.mono HB4.out.size))
          clear d0 d1 d2 hne hb9
          go_wp2_with fail
          go_roundw
          case rel => exact ⟨j + 1, by omega, by go_num, by rw [← HSN.out], by rw [HTG'.out, HW2.out], HRN'.out, HB9.out⟩
          case measure => simp [intOf]; omega
        | false =>
          have HTG' : Hid ((Pg.tag (l.take (j + 1)) : Nat) = ct) := by
            show _ = _
            rw [HTG.out]
            simp [Pg.bit]
          clear HTG
          go_wp2_with fail
          refine wp_region_later (by kernel_rfl) (by kernel_rfl) ?_
          repeat (go_big_quiet_step (first | (go_at_call_of 26 (Value.int .u64 g); refine calls_later (HLg.out _)) | (go_at_call_of 26 (Value.int .u64 n); refine calls_later (HLn.out _))))
          refine wpQuiet_nil ?_
          intro w9 hw9
          obtain ⟨⟨w9', hb9⟩, rfl⟩ := hw9
          have HB9 := hide (HB4.out.trans (hb9.mono HB4.out.size))
          clear d0 d1 d2 hne hb9
          go_wp2_with fail
          go_roundw
          case rel => exact ⟨j + 1, by omega, by go_num, by rw [← HSN.out], by rw [HTG'.out], HRN'.out, HB9.out⟩
          case measure => simp [intOf]; omega
      · have hr' : Pg.seatB ⟨b, g, n⟩ = false := by simpa using hr
        have HRF' := hide (HRF.out hr')
        rw [hr'] at HSE
        clear HRN HRF hr hr'
        go_wp2_with fail
        refine HSE.out.mono ?_
        rintro e w4 ⟨rfl, hb4⟩
        have HB4 := hide (HB0.out.trans ((HBX.out.trans (hb4.mono HBX.out.size)).mono HB0.out.size))
        clear hb4
        go_wp2_with fail
        go_ret2
        exact ⟨by rw [HV.out, HRF'.out]; rfl, HB4.out⟩
    · have hjI : ¬ (j : Int) < 7 := by omega
      obtain rfl : j = 7 := by omega
      have hta : l.take 7 = l := List.take_of_length_le (by omega)
      rw [hta] at HOK ⊢
      have HS := hide (HSL.out wr)
      clear hb hok hsz hta
      generalize strOfNums (Pg.seatsB l) = T at *
      generalize Pg.tag l = tg at *
      generalize strOfNums (Pg.leaf l) = Y at *
      go_wp2_with fail
      refine HS.out.mono ?_
      rintro e w5 ⟨rfl, hb5⟩
      have HB5 := hide (HB0.out.trans ((HB.out.trans (hb5.mono HB.out.size)).mono HB0.out.size))
      clear hb5
      go_wp2_with fail
      go_ret2
      exact ⟨by rw [HV.out, HOK.out]; rfl, HB5.out⟩
end Go.Proofs.Ytjehcgkmapapbaa
