/-
  Layer 11's statements: LabelDirs.
-/
import Derived.Test.YtkmndllomheegaaLbLawD
import Derived.Test.YtkmndllomheegaaClones
namespace Go.Proofs.Ytkmndllomheegaa
set_option linter.unusedVariables false
set_option linter.unusedSimpArgs false
open Go.RowKit

theorem arg_of_clone {w : World} {g len cap : Nat} {L : List Int} {tail : List Value} (hl : L.length = len) (hw : ∀ x ∈ L, (Lit.int .i64 x).wf = true) (hg : w.heap[g]? = some (.cells (L.map (Value.int .i64) ++ tail).toArray 3 (0, 0))) (hle : len ≤ cap) (hmax : cap ≤ maxLen) : Arg .i64 w (some ⟨g, 0, none⟩) len cap L :=
  ⟨hle, hmax, ⟨hl, .inr ⟨g, 0, rfl, (Array.getElem?_eq_some_iff.1 hg).1, fun i hi => by
    have h1 : i < L.length := by omega
    simp only [World.cell?, hg, Option.map_some, Nat.zero_add]
    simp [List.getElem?_append_left, h1]⟩⟩, hw, .inr ⟨g, 0, rfl⟩⟩
theorem lb_nil8 (w : World) : Arg .u8 w none 0 0 [] := arg_of (.inl ⟨rfl, rfl, rfl, rfl⟩)
theorem gotD_nil : Lb.gotD [] = false := decide_eq_false fun e => by have := (of_decide_eq_true e.1).1; simp at this
theorem tellsD_nil : Lb.tellsD [] = [] := by unfold Lb.tellsD; rw [gotD_nil]; rfl

set_option maxRecDepth 100000 in
set_option maxHeartbeats 2000000 in
theorem labeldirs_great {w : World} {a : Option Addr} {len cap : Nat} {L : List Int} (hA : Arg .i64 w a len cap L) (hl : 60 < len) :
    Calls Try.prog 4 #[.agg #[.slice a len cap]] w fun e w' => e = .returned (.bool true) ∧ Below w.heap.size w w' := by
  obtain ⟨W, hW⟩ : ∃ W, W = w.alloc (.cells #[Value.slice a len cap] 36) := ⟨_, rfl⟩
  have hB0 : Below w.heap.size w W := by rw [hW]; exact (Below.refl _ _).alloc (Nat.le_refl _) _
  have hg0 : W.heap[w.heap.size]? = some (.cells #[Value.slice a len cap] 36 (0, 0)) := by rw [hW]; exact heap_alloc_new w _
  have HB0 := hide hB0
  have HG0 := hide hg0
  have hlt0 : w.heap.size < W.heap.size := (Array.getElem?_eq_some_iff.1 hg0).1
  have HAW := hide (fun X => lbawake_any X)
  have h1 : (60 : Int) < (len : Int) := by omega
  clear hA hB0 hg0
  go_enter Try.func4, Try.ntmps4
  go_wp2_with fail
  rw [← hW]
  refine (HAW.out _).mono ?_
  rintro e w1 ⟨rfl, hb1⟩
  have HB1 := hide (HB0.out.trans (hb1.mono HB0.out.size))
  have hg1 := (hb1.block _ hlt0).trans HG0.out
  have c0 : w1.cell? ⟨w.heap.size, 0, none⟩ = some (.slice a len cap) := by simp [World.cell?, hg1]
  clear hb1 hW hg1
  go_wp2_with fail
  refine (HAW.out _).mono ?_
  rintro e w2 ⟨rfl, hb2⟩
  have HB2 := hide (HB1.out.trans (hb2.mono HB1.out.size))
  clear hb2
  go_wp2_with fail
  go_ret
  exact ⟨rfl, HB2.out⟩

set_option maxRecDepth 100000 in
set_option maxHeartbeats 4000000 in
theorem labeldirs_small {w : World} {a : Option Addr} {len cap : Nat} {L : List Int} (hA : Arg .i64 w a len cap L) (hl : len ≤ 60) :
    Calls Try.prog 4 #[.agg #[.slice a len cap]] w fun e w' => e = .returned (.bool true) ∧ Below w.heap.size w w' := by
  obtain ⟨W, hW⟩ : ∃ W, W = w.alloc (.cells #[Value.slice a len cap] 36) := ⟨_, rfl⟩
  have hB0 : Below w.heap.size w W := by rw [hW]; exact (Below.refl _ _).alloc (Nat.le_refl _) _
  have hg0 : W.heap[w.heap.size]? = some (.cells #[Value.slice a len cap] 36 (0, 0)) := by rw [hW]; exact heap_alloc_new w _
  have HB0 := hide hB0
  have HG0 := hide hg0
  have hlt0 : w.heap.size < W.heap.size := (Array.getElem?_eq_some_iff.1 hg0).1
  have HAW := hide (fun X => lbawake_any X)
  have h1 : ¬ (60 : Int) < (len : Int) := by omega
  have HA := hide hA
  clear hB0 hg0 hA
  go_enter Try.func4, Try.ntmps4
  go_wp2_with fail
  rw [← hW]
  refine (HAW.out _).mono ?_
  rintro e w1 ⟨rfl, hb1⟩
  have HB1 := hide (HB0.out.trans (hb1.mono HB0.out.size))
  have HG1 := hide ((hb1.block _ hlt0).trans HG0.out)
  have c0 : w1.cell? ⟨w.heap.size, 0, none⟩ = some (.slice a len cap) := by simp [World.cell?, HG1.out]
  have HA1 := hide (HA.out.below HB1.out)
  obtain ⟨X1, hX1⟩ : ∃ X1, X1 = w1.alloc (.cells #[] 3) := ⟨_, rfl⟩
  have hbX : Below w1.heap.size w1 X1 := by rw [hX1]; exact (Below.refl _ _).alloc (Nat.le_refl _) _
  have hgX : X1.heap[w1.heap.size]? = some (.cells #[] 3 (0, 0)) := by rw [hX1]; exact heap_alloc_new w1 _
  have HAX := hide (HA1.out.below hbX)
  have c1 : (w1.alloc (.cells #[] 3)).cell? ⟨w.heap.size, 0, none⟩ = some (.slice a len cap) := (hbX.cell (p := ⟨w.heap.size, 0, none⟩) (Array.getElem?_eq_some_iff.1 HG1.out).1 |> fun h => by rw [hX1] at h; exact h.trans c0)
  have HBX := hide hbX
  rw [hX1] at HAX HBX
  have hzl := HA.out.2.2.1.1
  clear hb1 hW hbX hgX hX1
  go_wp2_with (at_builtin; refine wpList_clone_int rfl _ _ rfl w1.heap.size rfl (heap_alloc_new w1 _) w1.heap.size w1 HBX.out (Nat.le_refl _) a len cap L rfl HAX.out (by omega) ?_; intro g5 cap5 tail5 w5 hb5 hg5 hbk5 hle5 hmax5; have hc5 := hb5.cell (p := ⟨w.heap.size, 0, none⟩) (Array.getElem?_eq_some_iff.1 HG1.out).1; rw [c0] at hc5)
  have HB5 := hide (HB1.out.trans (hb5.mono HB1.out.size))
  have HG5 := hide ((hb5.block _ (Array.getElem?_eq_some_iff.1 HG1.out).1).trans HG1.out)
  have HA5 := hide (HA1.out.below hb5)
  have HI5 := hide (arg_of_clone hzl HA.out.2.2.2.1 hbk5 hle5 hmax5)
  clear hb5 hg5 hbk5 hc5 c0 c1
  by_cases hr : Lb.rightD L = true
  · have HP := hide (lbputd_yes HA5.out hr)
    have HBL := hide (Lb.blockD_length hr)
    have HBB := hide (Lb.blockD_bytes hr)
    have HTL := hide (Lb.tellsD_block hr)
    have HGB := hide (Lb.gotD_block hr)
    have HR := hide hr
    clear hr
    refine HP.out.mono ?_
    rintro e w6 ⟨h, c, tail, rfl, hc6, hcm, hh, hblk, hb6⟩
    have HB6 := hide (HB5.out.trans (hb6.mono HB5.out.size))
    have HG6 := hide ((hb6.block _ (Array.getElem?_eq_some_iff.1 HG5.out).1).trans HG5.out)
    have HA6 := hide (HA5.out.below hb6)
    have HI6 := hide (HI5.out.below hb6)
    have HK6 := hide (arg_tail hblk HBB.out HBL.out hc6 hcm)
    have HD := hide (rdir_any HI6.out (by omega))
    rw [HR.out, if_pos rfl] at HD
    clear hb6 hh hblk
    go_wp2_with fail
    refine HD.out.mono ?_
    rintro e w7 ⟨rfl, hb7⟩
    have HB7 := hide (HB6.out.trans (hb7.mono HB6.out.size))
    have HG7 := hide ((hb7.block _ (Array.getElem?_eq_some_iff.1 HG6.out).1).trans HG6.out)
    have HA7 := hide (HA6.out.below hb7)
    have HI7 := hide (HI6.out.below hb7)
    have HK7 := hide (HK6.out.below hb7)
    have HGD := hide (lbgetd_any HK7.out (by decide))
    rw [HTL.out, HGB.out] at HGD
    clear hb7
    go_wp2_with fail
    refine HGD.out.mono ?_
    rintro e w8 ⟨ea, en, ec, rfl, hEA, hb8⟩
    have hen : en = len := hEA.2.2.1.1.symm.trans hzl
    subst hen
    obtain ⟨X8, hX8⟩ : ∃ X8, X8 = w8.alloc (.cells #[Value.slice ea en ec] 36) := ⟨_, rfl⟩
    have hbX : Below w8.heap.size w8 X8 := by rw [hX8]; exact (Below.refl _ _).alloc (Nat.le_refl _) _
    have hgX : X8.heap[w8.heap.size]? = some (.cells #[Value.slice ea en ec] 36 (0, 0)) := by rw [hX8]; exact heap_alloc_new w8 _
    have hb8' := hb8.trans (hbX.mono hb8.size)
    have HB8 := hide (HB7.out.trans (hb8'.mono HB7.out.size))
    have hg8 := (hb8'.block _ (Array.getElem?_eq_some_iff.1 HG7.out).1).trans HG7.out
    have HA8 := hide (HA7.out.below hb8')
    have HI8 := hide (HI7.out.below hb8')
    have HK8 := hide (HK7.out.below hb8')
    have HE8 := hide (hEA.below hbX)
    have k0 : ∀ x : Later X8, x.val.cell? ⟨w.heap.size, 0, none⟩ = some (.slice a en cap) := fun x => by
      have := (x.property.block _ (Array.getElem?_eq_some_iff.1 hg8).1).trans hg8
      simp [World.cell?, this]
    have k1 : ∀ x : Later X8, x.val.cell? ⟨w8.heap.size, 0, none⟩ = some (.slice ea en ec) := fun x => by
      have := (x.property.block _ (Array.getElem?_eq_some_iff.1 hgX).1).trans hgX
      simp [World.cell?, this]
    have hcv := conv_bytes c HK8.out.2.2.1
    rw [hX8] at hcv
    have HRX := hide (lbrightd_any HA8.out (by omega))
    rw [HR.out] at HRX
    have kk := k0 ⟨X8, Below.refl _ _⟩
    rw [hX8] at kk
    dsimp only at kk
    clear hb8 hb8' hbX hgX hg8 hEA
    generalize strOfNums (Lb.blockD L) = Y at *
    go_wp2_with fail
    rw [← hX8]
    clear hX8 hcv kk
    refine HRX.out.mono ?_
    rintro e w9 ⟨rfl, hb9⟩
    have HB9 := hide (HB8.out.trans (hb9.mono HB8.out.size))
    have kk1 := k1 ⟨w9, hb9⟩
    dsimp only at kk1
    have HN1 := hide (ints_any (cap := ec) (cap' := cap5) (by omega) (by omega) (HE8.out.below hb9).2.2.1 (HI8.out.below hb9).2.2.1)
    rw [decide_eq_true (rfl : L = L)] at HN1
    have HBY := hide hb9
    clear hb9
    go_wp2_with fail
    refine HN1.out.mono ?_
    rintro e w10 ⟨rfl, hb10⟩
    have hb10' := HBY.out.trans (hb10.mono HBY.out.size)
    have HB10 := hide (HB9.out.trans (hb10.mono HB9.out.size))
    have kk0 := k0 ⟨w10, hb10'⟩
    dsimp only at kk0
    have HN2 := hide (ints_any (cap := cap) (cap' := cap5) (by omega) (by omega) (HA8.out.below hb10').2.2.1 (HI8.out.below hb10').2.2.1)
    rw [decide_eq_true (rfl : L = L)] at HN2
    clear hb10 hb10' kk1 k0 k1
    go_wp2_with fail
    refine HN2.out.mono ?_
    rintro e w11 ⟨rfl, hb11⟩
    have HB11 := hide (HB10.out.trans (hb11.mono HB10.out.size))
    clear hb11
    go_wp2_with fail
    go_ret
    exact ⟨rfl, HB11.out⟩
  · have hr' : Lb.rightD L = false := by simpa using hr
    have HP := hide (lbputd_no HA5.out (by omega) hr')
    have HR := hide hr'
    clear hr hr'
    refine HP.out.mono ?_
    rintro e w6 ⟨rfl, hb6⟩
    have HB6 := hide (HB5.out.trans (hb6.mono HB5.out.size))
    have HG6 := hide ((hb6.block _ (Array.getElem?_eq_some_iff.1 HG5.out).1).trans HG5.out)
    have HA6 := hide (HA5.out.below hb6)
    have HI6 := hide (HI5.out.below hb6)
    have HD := hide (rdir_any HI6.out (by omega))
    rw [HR.out, if_neg (by decide)] at HD
    clear hb6
    go_wp2_with fail
    refine HD.out.mono ?_
    rintro e w7 ⟨rfl, hb7⟩
    have HB7 := hide (HB6.out.trans (hb7.mono HB6.out.size))
    have HG7 := hide ((hb7.block _ (Array.getElem?_eq_some_iff.1 HG6.out).1).trans HG6.out)
    have HA7 := hide (HA6.out.below hb7)
    have HI7 := hide (HI6.out.below hb7)
    have HGD := hide (lbgetd_any (lb_nil8 w7) (by decide))
    rw [tellsD_nil, gotD_nil] at HGD
    clear hb7
    go_wp2_with fail
    refine HGD.out.mono ?_
    rintro e w8 ⟨ea, en, ec, rfl, hEA, hb8⟩
    obtain ⟨X8, hX8⟩ : ∃ X8, X8 = w8.alloc (.cells #[Value.slice ea en ec] 36) := ⟨_, rfl⟩
    have hbX : Below w8.heap.size w8 X8 := by rw [hX8]; exact (Below.refl _ _).alloc (Nat.le_refl _) _
    have hb8' := hb8.trans (hbX.mono hb8.size)
    have HB8 := hide (HB7.out.trans (hb8'.mono HB7.out.size))
    have hg8 := (hb8'.block _ (Array.getElem?_eq_some_iff.1 HG7.out).1).trans HG7.out
    have HA8 := hide (HA7.out.below hb8')
    have HI8 := hide (HI7.out.below hb8')
    have k0 : ∀ x : Later X8, x.val.cell? ⟨w.heap.size, 0, none⟩ = some (.slice a len cap) := fun x => by
      have := (x.property.block _ (Array.getElem?_eq_some_iff.1 hg8).1).trans hg8
      simp [World.cell?, this]
    have hcv : (convert 27 9 (.slice none 0 0)).run Try.prog X8 = .ok (.string ⟨#[]⟩) X8 := conv_bytes 0 (lb_nil8 X8).2.2.1
    rw [hX8] at hcv
    have HRX := hide (lbrightd_any HA8.out (by omega))
    rw [HR.out] at HRX
    have kk := k0 ⟨X8, Below.refl _ _⟩
    rw [hX8] at kk
    dsimp only at kk
    clear hb8 hb8' hbX hg8 hEA
    go_wp2_with fail
    rw [← hX8]
    clear hX8 hcv kk
    refine HRX.out.mono ?_
    rintro e w9 ⟨rfl, hb9⟩
    have HB9 := hide (HB8.out.trans (hb9.mono HB8.out.size))
    have kk0 := k0 ⟨w9, hb9⟩
    dsimp only at kk0
    have HN2 := hide (ints_any (cap := cap) (cap' := cap5) (by omega) (by omega) (HA8.out.below hb9).2.2.1 (HI8.out.below hb9).2.2.1)
    rw [decide_eq_true (rfl : L = L)] at HN2
    clear hb9 k0
    go_wp2_with fail
    refine HN2.out.mono ?_
    rintro e w11 ⟨rfl, hb11⟩
    have HB11 := hide (HB9.out.trans (hb11.mono HB9.out.size))
    clear hb11
    go_wp2_with fail
    go_ret
    exact ⟨rfl, HB11.out⟩

theorem labeldirs_own {w : World} {a : Option Addr} {len cap : Nat} {L : List Int} (hA : Arg .i64 w a len cap L) :
    Calls Try.prog 4 #[.agg #[.slice a len cap]] w fun e w' => e = .returned (.bool true) ∧ Below w.heap.size w w' := by
  by_cases h : len ≤ 60
  · exact labeldirs_small hA h
  · exact labeldirs_great hA (by omega)
end Go.Proofs.Ytkmndllomheegaa
