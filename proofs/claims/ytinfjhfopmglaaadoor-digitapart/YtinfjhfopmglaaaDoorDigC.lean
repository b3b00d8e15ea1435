/-
  digit.Read, ShowHandle and ReadHandle: what each answers, for all arguments.
-/
import Derived.Test.YtinfjhfopmglaaaDoorDigCa
import Derived.Lib.IndexLaws
namespace Go.Proofs.YtinfjhfopmglaaaDoor
set_option linter.unusedVariables false
set_option linter.unusedSimpArgs false
open Go.RowKit

theorem read_any (l : List Int) (w : World) (ht : Tabs w) (hz : Nums.Bytes l) (hm : l.length ≤ 1000) :
    Calls Tryd.prog 10 #[.string (strOfNums l)] w fun e w' => e = .returned (.tuple #[.int .i64 (Dig.read l).1, .bool (Dig.read l).2]) ∧ Below w.heap.size w w' := by
  clear ht
  by_cases hl : ∃ r, l = 45 :: r
  · obtain ⟨r, rfl⟩ := hl
    have HC := hide (cut_minus r w)
    have HN := hide (negated_any r w (fun z h => hz z (by simp [h])) (by simp at hm; omega))
    have HR := hide (Dig.read_minus r)
    clear hz hm
    generalize strOfNums (45 :: r) = S at *
    generalize strOfNums r = T at *
    obtain ⟨v, ok, hv⟩ : ∃ v ok, Dig.nread r = (v, ok) := ⟨_, _, rfl⟩
    rw [hv] at HN HR
    clear hv
    by_cases h0 : v = 0
    · subst h0
      cases ok
      all_goals
        go_enter Tryd.func10, Tryd.ntmps10
        go_wp2_with fail
        refine HC.out.mono ?_
        rintro e w1 ⟨rfl, hw⟩
        obtain rfl := hw.symm
        go_wp2_with fail
        refine HN.out.mono ?_
        rintro e w1 ⟨rfl, hb⟩
        have HB := hide hb
        clear hb
        go_wp2_with fail
        go_ret2
        exact ⟨by rw [HR.out]; rfl, HB.out⟩
    · have q : (v == 0) = false := by rw [beq_eq_false_iff_ne]; exact h0
      have q2 : decide (v ≠ 0) = true := by simpa using h0
      have HQ : Hid ((v != 0) = true) := by show _ = _; rw [bne_iff_ne]; exact h0
      rw [q2] at HR
      clear q2 h0
      cases ok
      all_goals
        go_enter Tryd.func10, Tryd.ntmps10
        go_wp2_with fail
        refine HC.out.mono ?_
        rintro e w1 ⟨rfl, hw⟩
        obtain rfl := hw.symm
        go_wp2_with fail
        refine HN.out.mono ?_
        rintro e w1 ⟨rfl, hb⟩
        have HB := hide hb
        clear hb
        go_wp2_with fail
        go_ret2
        exact ⟨by rw [HR.out]; first | rfl | exact congrArg (fun x => Ending.returned (.tuple #[.int .i64 v, .bool x])) HQ.out, HB.out⟩
  · have hl' : ∀ r, l ≠ 45 :: r := fun r e => hl ⟨r, e⟩
    have HC := hide (cut_plain l hz hl' w)
    have HN := hide (negated_any l w hz hm)
    have HR := hide (Dig.read_plain hl')
    have hfit : -9223372036854775808 ≤ (Dig.nread l).1 ∧ (Dig.nread l).1 ≤ 0 := by
      rcases Dig.nread_cases l with ⟨m, h1, _, e⟩ | ⟨_, e⟩
      · rw [e]; simp only; omega
      · rw [e]; decide
    clear hz hm hl hl'
    generalize strOfNums l = S at *
    obtain ⟨v, ok, hv⟩ : ∃ v ok, Dig.nread l = (v, ok) := ⟨_, _, rfl⟩
    rw [hv] at HN HR hfit
    simp only at hfit
    clear hv
    by_cases h0 : v = -9223372036854775808
    · subst h0
      rw [if_pos rfl] at HR
      go_enter Tryd.func10, Tryd.ntmps10
      go_wp2_with fail
      refine HC.out.mono ?_
      rintro e w1 ⟨rfl, hw⟩
      obtain rfl := hw.symm
      go_wp2_with fail
      refine HN.out.mono ?_
      rintro e w1 ⟨rfl, hb⟩
      have HB := hide hb
      clear hb
      go_wp2_with fail
      go_ret2
      exact ⟨by rw [HR.out]; rfl, HB.out⟩
    · rw [if_neg h0] at HR
      have q : (v == -9223372036854775808) = false := by rw [beq_eq_false_iff_ne]; exact h0
      go_enter Tryd.func10, Tryd.ntmps10
      go_wp2_with fail
      refine HC.out.mono ?_
      rintro e w1 ⟨rfl, hw⟩
      obtain rfl := hw.symm
      go_wp2_with fail
      refine HN.out.mono ?_
      rintro e w1 ⟨rfl, hb⟩
      have HB := hide hb
      clear hb
      go_wp2_with fail
      go_ret2
      exact ⟨by rw [HR.out]; rfl, HB.out⟩

set_option maxHeartbeats 1000000 in
theorem show_handle_any (a b : Int) (w : World) (ht : Tabs w) (ha : Dig.fits a) (hb : Dig.fits b) :
    Calls Tryd.prog 13 #[.agg #[.int .i64 a, .int .i64 b]] w fun e w' => e = .returned (.string (strOfNums (Dig.htext a b))) ∧ Below w.heap.size w w' := by
  by_cases h1 : a < 0
  · have HT := hide (Dig.htext_neg (a := a) (b := b) (.inl h1))
    go_enter Tryd.func13, Tryd.ntmps13
    go_wp2
    go_ret
    exact ⟨by rw [HT.out]; rfl, (Below.refl _ _).alloc (Nat.le_refl _) _⟩
  · by_cases h2 : b < 0
    · have HT := hide (Dig.htext_neg (a := a) (b := b) (.inr h2))
      go_enter Tryd.func13, Tryd.ntmps13
      go_wp2
      go_ret
      exact ⟨by rw [HT.out]; rfl, (Below.refl _ _).alloc (Nat.le_refl _) _⟩
    · obtain ⟨W, hW⟩ : ∃ W, W = w.alloc (.cells #[.int .i64 a, .int .i64 b] 29) := ⟨_, rfl⟩
      have HBW : Hid (Below w.heap.size w W) := by show Below _ _ _; rw [hW]; exact (Below.refl _ _).alloc (Nat.le_refl _) _
      have hg : w.heap.size < W.heap.size := by rw [hW]; simp
      have c0 : W.cell? ⟨w.heap.size, 0, none⟩ = some (.int .i64 a) := by rw [hW]; simp
      have c1 : W.cell? ⟨w.heap.size, 1, none⟩ = some (.int .i64 b) := by rw [hW]; simp
      have k0 := fun x : Later W => (x.property.cell (p := ⟨w.heap.size, 0, none⟩) hg).trans c0
      have k1 := fun x : Later W => (x.property.cell (p := ⟨w.heap.size, 1, none⟩) hg).trans c1
      have HTW : Tabs W := ht.below HBW.out
      have HA := hide (fun x : Later W => show_any a x.val (HTW.below x.property) ha)
      have HB := hide (fun x : Later W => show_any b x.val (HTW.below x.property) hb)
      clear HTW ht
      have HT : Hid (strOfNums (Dig.text a) ++ ⟨#[46]⟩ ++ strOfNums (Dig.text b) = strOfNums (Dig.htext a b)) := by
        show _ = _
        rw [show (⟨#[46]⟩ : ByteArray) = strOfNums [46] from rfl, str_append, str_append, Dig.htext_pos (by omega) (by omega), List.append_assoc]
        rfl
      have s1 := size_str (Dig.text a)
      have s2 := size_str (Dig.text b)
      have s3 : (Dig.text a).length ≤ 20 := Dig.text_length
      have s4 : (Dig.text b).length ≤ 20 := Dig.text_length
      have s5 : (⟨#[46]⟩ : ByteArray).size = 1 := rfl
      have hla := later_some W
      go_enter Tryd.func13, Tryd.ntmps13
      go_wp2_with fail
      rw [← hW]
      clear hW
      generalize strOfNums (Dig.text a) = A at *
      generalize strOfNums (Dig.text b) = B at *
      have q1 : ¬ 9223372036854775807 < A.size + 1 := by omega
      have q2 : ¬ 9223372036854775807 < A.size + 1 + B.size := by omega
      clear c0 c1 s1 s2 s3 s4
      refine wp_region_later (by kernel_rfl) (by kernel_rfl) ?_
      repeat (quiet_step (first | (go_at_call_of 9 (Value.int .i64 a); refine calls_later (HA.out _)) | (go_at_call_of 9 (Value.int .i64 b); refine calls_later (HB.out _))))
      refine wpQuiet_nil ?_
      intro w9 hw9
      obtain ⟨⟨w9', hb9⟩, rfl⟩ := hw9
      clear k0 k1
      go_wp2
      go_ret
      exact ⟨congrArg (fun x => Ending.returned (Value.string x)) HT.out, HBW.out.trans (hb9.mono HBW.out.size)⟩

/-- the place of the first full stop. -/
theorem index_stop : ∀ (l : List Int), Nums.Bytes l → (Lib.indexByte (l.map fun n : Int => UInt8.ofNat n.toNat) 46 = -1 ∧ Dig.cut l = none) ∨
    ∃ i : Nat, i < l.length ∧ Lib.indexByte (l.map fun n : Int => UInt8.ofNat n.toNat) 46 = i ∧ Dig.cut l = some (l.take i, l.drop (i + 1))
  | [], _ => .inl ⟨rfl, rfl⟩
  | z :: l, hz => by
    have hb := hz z (by simp)
    by_cases h : z = 46
    · subst h
      exact .inr ⟨0, by simp, rfl, by simp [Dig.cut]⟩
    · have hne : (UInt8.ofNat z.toNat == 46) = false := by
        rw [beq_eq_false_iff_ne]
        intro e
        have e2 : UInt8.toNat (UInt8.ofNat z.toNat) = UInt8.toNat 46 := by rw [e]
        simp at e2
        omega
      have ih := index_stop l (fun y hy => hz y (by simp [hy]))
      rw [List.map_cons, Lib.indexByte, hne, Dig.cut, if_neg h]
      rcases ih with ⟨h1, h2⟩ | ⟨i, h0, h1, h2⟩
      · left
        rw [h1, h2]
        exact ⟨rfl, rfl⟩
      · right
        refine ⟨i + 1, by simp; omega, ?_, ?_⟩
        · rw [h1]
          simp
        · rw [h2]
          rfl

set_option maxHeartbeats 1000000 in
theorem lite_cut_any (l : List Int) (w : World) (hz : Nums.Bytes l) (hm : l.length ≤ 1000) :
    Calls Tryd.prog 24 #[.string (strOfNums l), .string ⟨#[46]⟩] w fun e w' =>
      ((Dig.cut l = none ∧ e = .returned (.tuple #[.string (strOfNums l), .string (strOfNums []), .bool false])) ∨
       ∃ p q, Dig.cut l = some (p, q) ∧ e = .returned (.tuple #[.string (strOfNums p), .string (strOfNums q), .bool true])) ∧ Below w.heap.size w w' := by
  have HI := hide (Tryd.stringslite_Index_one (strOfNums l) 46 w)
  rw [strOfNums_data] at HI
  have hsz := size_str l
  rcases index_stop l hz with ⟨h1, h2⟩ | ⟨i, h0, h1, h2⟩
  · rw [h1] at HI
    have HC := hide h2
    clear h1 h2
    generalize strOfNums l = S at *
    go_enter Tryd.func24, Tryd.ntmps24
    go_wp2_with fail
    refine HI.out.mono ?_
    rintro e w1 ⟨rfl, hw⟩
    obtain rfl := hw.symm
    go_wp2_with fail
    go_ret3
    exact ⟨.inl ⟨HC.out, rfl⟩, Below.refl _ _⟩
  · rw [h1] at HI
    have HC := hide h2
    clear h1 h2
    have E1 : Hid ((strOfNums l).extract 0 i = strOfNums (l.take i)) := by
      show _ = _
      rw [str_cut, List.drop_zero, Nat.sub_zero]
    have E2 : Hid ((strOfNums l).extract (i + 1) l.length = strOfNums (l.drop (i + 1))) := by
      show _ = _
      rw [str_cut, List.take_of_length_le (by simp)]
    generalize strOfNums l = S at *
    have c1 : (0 : Int) ≤ (i : Int) := by omega
    have c2 : (i : Int) ≤ (S.size : Int) := by omega
    have c3 : (0 : Int) ≤ (i : Int) + 1 := by omega
    have c4 : (i : Int) + 1 ≤ (S.size : Int) := by omega
    go_enter Tryd.func24, Tryd.ntmps24
    go_wp2_with fail
    refine HI.out.mono ?_
    rintro e w1 ⟨rfl, hw⟩
    obtain rfl := hw.symm
    go_wp2_with fail
    go_region
    go_wp2
    go_ret3
    refine ⟨.inr ⟨_, _, HC.out, ?_⟩, ?_⟩
    · rw [← E1.out, ← E2.out]
      rfl
    · exact (Below.refl _ _).drew

/-- the two parts at the first full stop; without one: all of it, and nothing. -/
def parts (l : List Int) : List Int × List Int := (Dig.cut l).getD (l, [])
theorem cut_any (l : List Int) (w : World) (hz : Nums.Bytes l) (hm : l.length ≤ 1000) :
    Calls Tryd.prog 20 #[.string (strOfNums l), .string ⟨#[46]⟩] w fun e w' =>
      ∃ f, e = .returned (.tuple #[.string (strOfNums (parts l).1), .string (strOfNums (parts l).2), .bool f]) ∧ Below w.heap.size w w' := by
  have HC := hide (lite_cut_any l w hz hm)
  have HP1 := hide (show Dig.cut l = none → parts l = (l, []) from fun h => by unfold parts; rw [h]; rfl)
  have HP2 := hide (show ∀ p q, Dig.cut l = some (p, q) → parts l = (p, q) from fun p q h => by unfold parts; rw [h]; rfl)
  go_enter Tryd.func20, Tryd.ntmps20
  go_wp2_with fail
  refine HC.out.mono ?_
  rintro e w1 ⟨he, hb⟩
  have HB := hide hb
  clear hb
  rcases he with ⟨h1, rfl⟩ | ⟨p, q, h1, rfl⟩
  · have HP := hide (HP1.out h1)
    clear h1
    go_wp2_with fail
    go_ret3
    exact ⟨_, by rw [HP.out]; rfl, HB.out⟩
  · have HP := hide (HP2.out p q h1)
    clear h1
    go_wp2_with fail
    go_ret3
    exact ⟨_, by rw [HP.out]; rfl, HB.out⟩

theorem parts_bytes {l : List Int} (hz : Nums.Bytes l) : Nums.Bytes (parts l).1 ∧ Nums.Bytes (parts l).2 ∧ (parts l).1.length ≤ l.length ∧ (parts l).2.length ≤ l.length := by
  unfold parts
  cases h : Dig.cut l with
  | none => exact ⟨hz, Nums.bytes_nil, Nat.le_refl _, Nat.zero_le _⟩
  | some pq =>
    obtain ⟨p, q⟩ := pq
    obtain ⟨e, _⟩ := Dig.cut_spec h
    rw [e] at hz
    refine ⟨fun z h => hz z (by simp [show z ∈ p from h]), fun z h => hz z (by simp [show z ∈ q from h]), ?_, ?_⟩ <;> rw [e] <;> simp
    omega
theorem read_nil : Dig.read [] = (0, false) := Dig.read_none fun n hn e => Dig.text_some hn e.symm
theorem hread_parts (l : List Int) : Dig.hread l = if (Dig.read (parts l).1).2 = true ∧ (Dig.read (parts l).2).2 = true ∧ 0 ≤ (Dig.read (parts l).1).1 ∧ 0 ≤ (Dig.read (parts l).2).1 then (((Dig.read (parts l).1).1, (Dig.read (parts l).2).1), true) else ((0, 0), false) := by
  unfold Dig.hread parts
  cases h : Dig.cut l with
  | none =>
    simp only [Option.getD_none]
    rw [if_neg]
    rw [read_nil]
    rintro ⟨_, h2, _⟩
    cases h2
  | some pq =>
    obtain ⟨p, q⟩ := pq
    obtain ⟨e, _⟩ := Dig.cut_spec h
    simp only [Option.getD_some]
    by_cases ho : (Dig.read p).2 = true ∧ (Dig.read q).2 = true
    · have e1 := (Dig.read_true (l := p) (n := (Dig.read p).1) (by rw [← ho.1])).1
      have e2 := (Dig.read_true (l := q) (n := (Dig.read q).1) (by rw [← ho.2])).1
      by_cases hs : 0 ≤ (Dig.read p).1 ∧ 0 ≤ (Dig.read q).1
      · rw [if_pos ⟨ho.1, ho.2, by rw [Dig.htext_pos hs.1 hs.2, ← e1, ← e2, e]⟩, if_pos ⟨ho.1, ho.2, hs.1, hs.2⟩]
      · have h3 : ¬ ((Dig.read p).2 = true ∧ (Dig.read q).2 = true ∧ Dig.htext (Dig.read p).1 (Dig.read q).1 = l) := by
          rintro ⟨_, _, x⟩
          rw [Dig.htext_neg (by omega), e] at x
          simp at x
        rw [if_neg h3, if_neg (fun x => hs x.2.2)]
    · rw [if_neg (fun x => ho ⟨x.1, x.2.1⟩), if_neg (fun x => ho ⟨x.1, x.2.1⟩)]

set_option maxHeartbeats 2000000 in
theorem read_handle_any (l : List Int) (w : World) (ht : Tabs w) (hz : Nums.Bytes l) (hm : l.length ≤ 1000) :
    Calls Tryd.prog 14 #[.string (strOfNums l)] w fun e w' => e = .returned (.tuple #[.agg #[.int .i64 (Dig.hread l).1.1, .int .i64 (Dig.hread l).1.2], .bool (Dig.hread l).2]) ∧ Below w.heap.size w w' := by
  obtain ⟨hb1, hb2, hl1, hl2⟩ := parts_bytes hz
  have HC := hide (fun W => cut_any l W hz hm)
  have HH := hide (hread_parts l)
  have HTB := hide ht
  clear ht
  have HR1 := hide (fun W (hW : Tabs W) => read_any (parts l).1 W hW hb1 (by omega))
  have HR2 := hide (fun W (hW : Tabs W) => read_any (parts l).2 W hW hb2 (by omega))
  clear hz hm hb1 hb2 hl1 hl2
  generalize strOfNums l = S at *
  generalize (parts l).1 = p at *
  generalize (parts l).2 = q at *
  generalize strOfNums p = P at *
  generalize strOfNums q = Q at *
  generalize Dig.read p = xo at *
  generalize Dig.read q = yo at *
  obtain ⟨x, o1⟩ := xo
  obtain ⟨y, o2⟩ := yo
  simp only at HH HR1 HR2
  have hW0 : Hid (Below w.heap.size w (w.alloc (.cells #[.int .i64 0, .int .i64 0] 29))) := (Below.refl _ _).alloc (Nat.le_refl _) _
  go_enter Tryd.func14, Tryd.ntmps14
  go_wp2_with fail
  refine (HC.out _).mono ?_
  rintro e w1 ⟨f, rfl, hb1⟩
  have g1 : w1.heap[w.heap.size]? = some (.cells #[.int .i64 0, .int .i64 0] 29 (0, 0)) := (hb1.block _ (by simp)).trans (heap_alloc_new w _)
  have HB1 := hide (hW0.out.trans (hb1.mono (by simp)))
  have hg1 : w.heap.size < w1.heap.size := Nat.lt_of_lt_of_le (by simp) hb1.size
  clear hb1
  go_wp2_with fail
  refine (HR1.out _ (HTB.out.below HB1.out)).mono ?_
  rintro e w2 ⟨rfl, hb2⟩
  have g2 := (hb2.block _ hg1).trans g1
  have HB2 := hide (HB1.out.trans (hb2.mono HB1.out.size))
  have hg2 : w.heap.size < w2.heap.size := Nat.lt_of_lt_of_le hg1 hb2.size
  clear hb2 g1
  go_wp2_with fail
  refine (HR2.out _ (HTB.out.below HB2.out)).mono ?_
  rintro e w3 ⟨rfl, hb3⟩
  have HG3 := hide ((hb3.block _ hg2).trans g2)
  have HB3 := hide (HB2.out.trans (hb3.mono HB2.out.size))
  clear hb3 g2
  by_cases hgood : (o1 = true ∧ o2 = true) ∧ 0 ≤ x ∧ 0 ≤ y
  · obtain ⟨⟨rfl, rfl⟩, hx, hy⟩ := hgood
    rw [if_pos ⟨rfl, rfl, hx, hy⟩] at HH
    have q1 : ¬ x < 0 := by omega
    have q2 : ¬ y < 0 := by omega
    go_wp2_with (refine wpList_store_row rfl 29 _ _ rfl w.heap.size #[.int .i64 x, .int .i64 y] rfl rfl 29 #[.int .i64 0, .int .i64 0] HG3.out info_handle rfl (blk_one .i64 [x, y]) ?_)
    (try simp only [Exit.inBlock, Exit.then]); refine bodyPost_ret (results_handle rfl _ _ w.heap.size #[.int .i64 x, .int .i64 y] rfl (setRow_heap _ _ _ _ _ _ HG3.out) rfl) rfl ?_
    exact ⟨by rw [HH.out]; rfl, below_setRow HB3.out (Nat.le_refl _) _⟩
  · rw [if_neg (fun h => hgood ⟨⟨h.1, h.2.1⟩, h.2.2⟩)] at HH
    have hc : o1 = false ∨ (o1 = true ∧ o2 = false) ∨ (o1 = true ∧ o2 = true ∧ x < 0) ∨ (o1 = true ∧ o2 = true ∧ ¬ x < 0 ∧ y < 0) := by
      cases o1 with
      | false => exact .inl rfl
      | true =>
        cases o2 with
        | false => exact .inr (.inl ⟨rfl, rfl⟩)
        | true =>
          by_cases h1 : x < 0
          · exact .inr (.inr (.inl ⟨rfl, rfl, h1⟩))
          · exact .inr (.inr (.inr ⟨rfl, rfl, h1, Int.not_le.1 fun h2 => hgood ⟨⟨rfl, rfl⟩, by omega, h2⟩⟩))
    clear hgood
    rcases hc with rfl | ⟨rfl, rfl⟩ | ⟨rfl, rfl, q1⟩ | ⟨rfl, rfl, q1, q2⟩
    all_goals
      go_wp2_with (refine wpList_store_row rfl 29 _ _ rfl w.heap.size #[.int .i64 0, .int .i64 0] rfl rfl 29 #[.int .i64 0, .int .i64 0] HG3.out info_handle rfl (blk_one .i64 [0, 0]) ?_)
      (try simp only [Exit.inBlock, Exit.then]); refine bodyPost_ret (results_handle rfl _ _ w.heap.size #[.int .i64 0, .int .i64 0] rfl (setRow_heap _ _ _ _ _ _ HG3.out) rfl) rfl ?_
      exact ⟨by rw [HH.out]; rfl, below_setRow HB3.out (Nat.le_refl _) _⟩
end Go.Proofs.YtinfjhfopmglaaaDoor
