/-
  The document's answers (layer 8): Put.
-/
import Derived.Test.YtgckondfcmmklaaRefNdA
namespace Go.Proofs.Ytgckondfcmmklaa
set_option linter.unusedVariables false
set_option linter.unusedSimpArgs false
open Go.RowKit

theorem lay8_wrap (v : Int) : Nums.lay (IntKind.u64.wrap v) 8 = Nums.lay v 8 := by
  rw [IntKind.wrap_u64]
  exact Nd.lay_mod v 8

set_option maxRecDepth 100000 in
set_option maxHeartbeats 2000000 in
theorem rput_any (s g k v : Int) (l : List Int) (w : World) (a : Option Addr) (len cap : Nat) (hA : Arg .i64 w a len cap l) (hr : Nd.right ⟨s, g, k, v, l⟩ = true) (hw : Nd.wf ⟨s, g, k, v, l⟩) :
    Calls Try.prog 12 #[.agg #[.int .i64 s, .int .i64 g, .int .i64 k, .int .i64 v, .slice a len cap]] w fun e w' => e = .returned (.string (strOfNums (Nd.block ⟨s, g, k, v, l⟩))) ∧ Below w.heap.size w w' := by
  have hh := Nd.right_head hr
  have hkk := Nd.right_kids hr
  obtain ⟨hw1, hw2⟩ := hw
  simp only at hh hkk hw1 hw2
  obtain ⟨h1, h2, h3, h4, h5⟩ := hh
  have hzl := hA.2.2.1.1
  have hu : ∀ x : Int, 0 ≤ IntKind.u64.wrap x ∧ IntKind.u64.wrap x ≤ 18446744073709551615 := fun x => by rw [IntKind.wrap_u64]; omega
  have HK := hide (fun W => reflay_any (IntKind.u64.wrap k) 8 W (hu k).1 (hu k).2 (by decide))
  have HV := hide (fun W => reflay_any (IntKind.u64.wrap v) 8 W (hu v).1 (hu v).2 (by decide))
  have HS := hide (fun W => reflay_any s 4 W h1 (by omega) (by decide))
  have HG := hide (fun W => reflay_any g 4 W (by omega) (by omega) (by decide))
  rw [lay8_wrap] at HK HV
  have hkw : ∃ K, IntKind.u64.wrap k = K := ⟨_, rfl⟩
  have hvw : ∃ V, IntKind.u64.wrap v = V := ⟨_, rfl⟩
  obtain ⟨K, hkw⟩ := hkw
  obtain ⟨V, hvw⟩ := hvw
  rw [hkw] at HK
  rw [hvw] at HV
  have hsw : IntKind.u64.wrap s = s := by rw [IntKind.wrap_u64]; omega
  have hgw : IntKind.u64.wrap g = g := by rw [IntKind.wrap_u64]; omega
  obtain ⟨X1, hX1⟩ : ∃ X, X = ((w.alloc (.cells #[.int .i64 s, .int .i64 g, .int .i64 k, .int .i64 v, .slice a len cap] 28)).alloc (.cells #[.int .i64 s, .int .i64 g, .int .i64 k, .int .i64 v] 25)) := ⟨_, rfl⟩
  have hBX : Below w.heap.size w X1 := by rw [hX1]; exact ((Below.refl w.heap.size w).alloc (Nat.le_refl _) _).alloc (by simp) _
  have hgE : X1.heap[w.heap.size + 1]? = some (.cells #[.int .i64 s, .int .i64 g, .int .i64 k, .int .i64 v] 25 (0, 0)) := by
    rw [hX1]
    have := heap_alloc_new (w.alloc (.cells #[.int .i64 s, .int .i64 g, .int .i64 k, .int .i64 v, .slice a len cap] 28)) (.cells #[.int .i64 s, .int .i64 g, .int .i64 k, .int .i64 v] 25)
    simpa using this
  have hgN : X1.heap[w.heap.size]? = some (.cells #[.int .i64 s, .int .i64 g, .int .i64 k, .int .i64 v, .slice a len cap] 28 (0, 0)) := by
    rw [hX1, Below.heap_alloc _ _ _ (by simp)]
    exact heap_alloc_new w _
  have hXs : X1.heap.size = w.heap.size + 2 := by rw [hX1]; simp
  have hgE' : ∀ x : Later X1, x.val.heap[w.heap.size + 1]? = some (.cells #[.int .i64 s, .int .i64 g, .int .i64 k, .int .i64 v] 25 (0, 0)) := fun x => (x.property.block _ (by omega)).trans hgE
  have c0 : ∀ x : Later X1, x.val.cell? ⟨w.heap.size + 1, 0, none⟩ = some (.int .i64 s) := fun x => by simp [World.cell?, hgE' x]
  have c1 : ∀ x : Later X1, x.val.cell? ⟨w.heap.size + 1, 1, none⟩ = some (.int .i64 g) := fun x => by simp [World.cell?, hgE' x]
  have c2 : ∀ x : Later X1, x.val.cell? ⟨w.heap.size + 1, 2, none⟩ = some (.int .i64 k) := fun x => by simp [World.cell?, hgE' x]
  have c3 : ∀ x : Later X1, x.val.cell? ⟨w.heap.size + 1, 3, none⟩ = some (.int .i64 v) := fun x => by simp [World.cell?, hgE' x]
  have hne := later_some X1
  clear hgE' hgE hXs
  have z1 := size_str (Nums.lay k 8)
  have z2 := size_str (Nums.lay v 8)
  have z3 := size_str (Nums.lay s 4)
  have z4 := size_str (Nums.lay g 4)
  rw [Nums.length_lay] at z1 z2 z3 z4
  have e12 : strOfNums (Nums.lay k 8) ++ strOfNums (Nums.lay v 8) = strOfNums (Nums.lay k 8 ++ Nums.lay v 8) := str_append _ _
  have e123 : strOfNums (Nums.lay k 8 ++ Nums.lay v 8) ++ strOfNums (Nums.lay s 4) = strOfNums (Nums.lay k 8 ++ Nums.lay v 8 ++ Nums.lay s 4) := str_append _ _
  have e1234 : strOfNums (Nums.lay k 8 ++ Nums.lay v 8 ++ Nums.lay s 4) ++ strOfNums (Nums.lay g 4) = strOfNums (Nums.lay k 8 ++ Nums.lay v 8 ++ Nums.lay s 4 ++ Nums.lay g 4) := str_append _ _
  have z12 := size_str (Nums.lay k 8 ++ Nums.lay v 8)
  have z123 := size_str (Nums.lay k 8 ++ Nums.lay v 8 ++ Nums.lay s 4)
  simp only [List.length_append, Nums.length_lay] at z12 z123
  have HE : Hid (strOfNums (Nums.lay k 8 ++ Nums.lay v 8 ++ Nums.lay s 4 ++ Nums.lay g 4) = strOfNums (Nums.lay k 8 ++ Nums.lay v 8 ++ Nums.lay s 4 ++ Nums.lay g 4 ++ Nd.kidsB (l.take 0))) := by show _ = _; simp [Nd.kidsB]
  have HBD : Hid (Nd.block ⟨s, g, k, v, l⟩ = Bk.shut 1 len (Nums.lay k 8 ++ Nums.lay v 8 ++ Nums.lay s 4 ++ Nums.lay g 4 ++ Nd.kidsB l)) := by
    show Nd.block _ = _
    unfold Nd.block Nd.body
    dsimp only
    rw [hzl]
  have hbb := Nd.body_bytes ⟨s, g, k, v, l⟩
  have hbs := Nd.body_short hr
  unfold Nd.body at hbb hbs
  dsimp only at hbb hbs
  have HSL := hide (fun W => rseal_any 1 len (Nums.lay k 8 ++ Nums.lay v 8 ++ Nums.lay s 4 ++ Nums.lay g 4 ++ Nd.kidsB l) W (by decide) (by omega) hbb hbs)
  clear hbb hbs
  have HSZ : Hid (∀ j, j ≤ len → (strOfNums (Nums.lay k 8 ++ Nums.lay v 8 ++ Nums.lay s 4 ++ Nums.lay g 4 ++ Nd.kidsB (l.take j))).size = 24 + 2 * j) := fun j hj => by
    rw [size_str]
    simp only [List.length_append, Nums.length_lay, Nd.kidsB_length, List.length_take]
    omega
  have HSN : Hid (∀ j, j < len → strOfNums (Nums.lay k 8 ++ Nums.lay v 8 ++ Nums.lay s 4 ++ Nums.lay g 4 ++ Nd.kidsB (l.take j)) ++ strOfNums (Nums.lay (l.getD j 0) 2) = strOfNums (Nums.lay k 8 ++ Nums.lay v 8 ++ Nums.lay s 4 ++ Nums.lay g 4 ++ Nd.kidsB (l.take (j + 1)))) := fun j hj => by
    rw [str_append, List.take_succ_eq_append_getElem (by omega), Nd.kidsB_snoc, List.getD_eq_getElem?_getD, List.getElem?_eq_getElem (by omega)]
    simp
  have HALL : Hid (Nd.kidsB (l.take len) = Nd.kidsB l) := by show _ = _; rw [List.take_of_length_le (by omega)]
  rw [HBD.out]
  generalize Nums.lay k 8 = lk at *
  generalize Nums.lay v 8 = lv at *
  generalize Nums.lay s 4 = ls at *
  generalize Nums.lay g 4 = lg at *
  have HKK := hide hkk
  have HR := hide hA.2.2.1
  have HX1 := hide hX1
  have HBX := hide hBX
  have HGN := hide hgN
  clear hkk hA hBX hgN hu hr hzl HBD
  obtain ⟨A1, hA1⟩ : ∃ A, strOfNums lk = A := ⟨_, rfl⟩
  obtain ⟨A2, hA2⟩ : ∃ A, strOfNums lv = A := ⟨_, rfl⟩
  obtain ⟨A3, hA3⟩ : ∃ A, strOfNums ls = A := ⟨_, rfl⟩
  obtain ⟨A4, hA4⟩ : ∃ A, strOfNums lg = A := ⟨_, rfl⟩
  obtain ⟨A12, hA12⟩ : ∃ A, strOfNums (lk ++ lv) = A := ⟨_, rfl⟩
  obtain ⟨A123, hA123⟩ : ∃ A, strOfNums (lk ++ lv ++ ls) = A := ⟨_, rfl⟩
  rw [hA1] at HK z1 e12
  rw [hA2] at HV z2 e12
  rw [hA3] at HS z3 e123
  rw [hA4] at HG z4 e1234
  rw [hA12] at e12 e123 z12
  rw [hA123] at e123 e1234 z123
  generalize hpre : lk ++ lv ++ ls ++ lg = pre at *
  obtain ⟨P0, hP0⟩ : ∃ A, strOfNums pre = A := ⟨_, rfl⟩
  rw [hP0] at e1234 HE
  clear hpre hP0
  have q1 : ¬ 9223372036854775807 < A1.size + A2.size := by omega
  have q2 : ¬ 9223372036854775807 < A12.size + A3.size := by omega
  have q3 : ¬ 9223372036854775807 < A123.size + A4.size := by omega
  clear hA1 hA2 hA3 hA4 hA12 hA123 z1 z2 z3 z4 z12 z123
  go_enter Try.func12, Try.ntmps12
  go_wp2_with fail
  rw [← hX1]
  clear hX1
  refine wp_region_later (by kernel_rfl) (by kernel_rfl) ?_
  repeat (go_big_quiet_step (first | (go_at_call_of 26 (Value.int .u64 K); refine calls_later (HK.out _)) | (go_at_call_of 26 (Value.int .u64 V); refine calls_later (HV.out _)) | (go_at_call_of 26 (Value.int .u64 s); refine calls_later (HS.out _)) | (go_at_call_of 26 (Value.int .u64 g); refine calls_later (HG.out _))))
  refine wpQuiet_nil ?_
  intro w2 hw2
  obtain ⟨⟨w2', hb2⟩, rfl⟩ := hw2
  have HB2 := hide hb2
  clear c0 c1 c2 c3 hne hb2 e12 e123 e1234 q1 q2 q3
  go_wp2_with fail
  go_loopw [4, 5] (fun t i wr => ∃ j : Nat, j ≤ len ∧ i = .int .i64 j ∧ t = .string (strOfNums (pre ++ Nd.kidsB (l.take j))) ∧ Below X1.heap.size X1 wr) (fun _ i _ => len - (intOf i).toNat)
  case atStart => exact ⟨0, Nat.zero_le _, rfl, congrArg Value.string HE.out, HB2.out⟩
  case round =>
    obtain ⟨j, hj, rfl, rfl, hb⟩ := hrel
    have HB := hide hb
    have hc4 : wr.cell? ⟨w.heap.size, 4, none⟩ = some (.slice a len cap) := by
      rw [hb.cell (show w.heap.size < X1.heap.size from (Array.getElem?_eq_some_iff.1 HGN.out).1)]
      simp [World.cell?, HGN.out]
    have hsz := HSZ.out j hj
    have HSN' := hide (HSN.out j)
    by_cases hlt : j < len
    · have hjI : (j : Int) < (len : Int) := by omega
      have hzk := HKK.out (l.getD j 0) (by
        have := HR.out.1
        rw [List.getD_eq_getElem?_getD, List.getElem?_eq_getElem (by omega)]
        exact List.getElem_mem _)
      obtain ⟨hL, h0 | ⟨b, off, rfl, hbw, hc⟩⟩ := (HR.out.below HBX.out).below hb
      · omega
      have hck := hc j hlt
      clear hc hbw hb
      have HN := hide (HSN'.out hlt)
      have hz2 := size_str (Nums.lay (l.getD j 0) 2)
      rw [Nums.length_lay] at hz2
      generalize l.getD j 0 = z at *
      have HL := hide (reflay_any z 2 wr (by omega) (by omega) (by decide))
      generalize strOfNums (pre ++ Nd.kidsB (l.take j)) = T at *
      generalize strOfNums (Nums.lay z 2) = Z at *
      have hzq : ¬ 9223372036854775807 < T.size + Z.size := by omega
      go_wp2_with fail
      refine HL.out.mono ?_
      rintro e w5 ⟨rfl, hb5⟩
      have HB5 := hide (HB.out.trans (hb5.mono HB.out.size))
      clear hb5
      go_wp2_with fail
      go_roundw
      case rel => exact ⟨j + 1, by omega, by go_num, by rw [← HN.out], HB5.out⟩
      case measure => simp [intOf]; omega
    · have hjI : ¬ (j : Int) < (len : Int) := by omega
      obtain rfl : j = len := by omega
      rw [HALL.out]
      clear hb hsz
      have HSW := hide (HSL.out wr)
      generalize strOfNums (pre ++ Nd.kidsB l) = T at *
      go_wp2_with fail
      refine HSW.out.mono ?_
      rintro e w5 ⟨rfl, hb5⟩
      have HB5 := hide (HBX.out.trans ((HB.out.trans (hb5.mono HB.out.size)).mono HBX.out.size))
      clear hb5
      go_wp2_with fail
      go_ret
      exact ⟨rfl, HB5.out⟩
end Go.Proofs.Ytgckondfcmmklaa
