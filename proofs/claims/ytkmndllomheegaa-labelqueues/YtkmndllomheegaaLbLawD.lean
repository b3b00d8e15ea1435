/-
  Layer 11's statements: LabelReads.
-/
import Derived.Test.YtkmndllomheegaaLbLawC
namespace Go.Proofs.Ytkmndllomheegaa
set_option linter.unusedVariables false
set_option linter.unusedSimpArgs false
open Go.RowKit

set_option maxRecDepth 100000 in
set_option maxHeartbeats 2000000 in
theorem labelreads_great {w : World} {a : Option Addr} {len cap : Nat} {zs : List Int} (hA : Arg .u8 w a len cap zs) (hl : 200 < len) :
    Calls Try.prog 5 #[.slice a len cap] w fun e w' => e = .returned (.bool true) ∧ Below w.heap.size w w' := by
  have HAW := hide (fun X => lbawake_any X)
  have h1 : (200 : Int) < (len : Int) := by omega
  clear hA
  go_enter Try.func5, Try.ntmps5
  go_wp2_with fail
  refine (HAW.out _).mono ?_
  rintro e w1 ⟨rfl, hb1⟩
  have HB1 := hide hb1
  clear hb1
  go_wp2_with fail
  refine (HAW.out _).mono ?_
  rintro e w2 ⟨rfl, hb2⟩
  have HB2 := hide (HB1.out.trans (hb2.mono HB1.out.size))
  clear hb2
  go_wp2_with fail
  go_ret
  exact ⟨rfl, HB2.out⟩

set_option maxRecDepth 100000 in
set_option maxHeartbeats 4000000 in
theorem labelreads_small {w : World} {a : Option Addr} {len cap : Nat} {zs : List Int} (hA : Arg .u8 w a len cap zs) (hl : len ≤ 200) :
    Calls Try.prog 5 #[.slice a len cap] w fun e w' => e = .returned (.bool true) ∧ Below w.heap.size w w' := by
  have HAW := hide (fun X => lbawake_any X)
  have hle : ¬ (200 : Int) < (len : Int) := by omega
  have HA := hide hA
  have h1 : Hid (len ≤ 1000) := by show _ ≤ _; omega
  have h2 : Hid (len ≤ 100000) := by show _ ≤ _; omega
  have hwf := Lb.tells_wf hA.bytes
  have HSF := hide (queue_size hwf)
  have HSZ : Hid ((#[Value.string ⟨#[]⟩, Value.int .i64 0, Value.int .i64 0, Value.int .i64 0, Value.int .i64 0, Value.int .i64 0, Value.int .i64 0, Value.int .i64 0, Value.int .i64 0, Value.int .i64 0, Value.int .i64 0, Value.int .i64 0, Value.int .i64 0, Value.int .i64 0] : Array Value).size = (queueC (Lb.tellsQ zs)).size) := by show _ = _; rw [queueC_size, hwf.2]; rfl
  have HEQ := hide (fun W => run_eql_queue (Lb.tellsQ zs) hwf W)
  have hdl : (Lb.tellsD zs).length ≤ 16 := by
    unfold Lb.tellsD
    split
    · rename_i h
      have := (Lb.rightD_parts (of_decide_eq_true h).2.2.2.1).1
      omega
    · exact Nat.zero_le _
  generalize hL : Lb.tellsQ zs = L at *
  generalize hF : Lb.tellsD zs = F at *
  have HL := hide hL
  have HF := hide hF
  clear hL hF hA hl hwf
  generalize hp : Lb.gotQ zs = p at *
  generalize hq : Lb.gotD zs = q at *
  have HP := hide hp
  have HQ := hide hq
  clear hp hq
  have hpp : (p == p) = true := by simp
  have hqq : (q == q) = true := by simp
  go_enter Try.func5, Try.ntmps5
  go_wp2_with fail
  refine (HAW.out _).mono ?_
  rintro e w1 ⟨rfl, hb1⟩
  have HB1 := hide hb1
  have HG := hide (lbget_any (HA.out.below hb1) h1.out)
  rw [HL.out, HP.out] at HG
  clear hb1
  go_wp2_with fail
  refine HG.out.mono ?_
  rintro e w2 ⟨rfl, hb2⟩
  obtain ⟨X2, hX2⟩ : ∃ X2, X2 = (w2.alloc (.cells #[Value.string ⟨#[]⟩, Value.int .i64 0, Value.int .i64 0, Value.int .i64 0, Value.int .i64 0, Value.int .i64 0, Value.int .i64 0, Value.int .i64 0, Value.int .i64 0, Value.int .i64 0, Value.int .i64 0, Value.int .i64 0, Value.int .i64 0, Value.int .i64 0] 25)).setRow w2.heap.size (queueC L) := ⟨_, rfl⟩
  have hbX : Below w2.heap.size w2 X2 := by rw [hX2]; exact below_setRow ((Below.refl _ _).alloc (Nat.le_refl _) _) (Nat.le_refl _) _
  have HX2 : Hid (X2.heap[w2.heap.size]? = some (.cells (queueC L) 25 (0, 0))) := by show _ = _; rw [hX2]; exact setRow_heap _ _ _ _ _ _ (heap_alloc_new w2 _)
  have hb2' := hb2.trans (hbX.mono hb2.size)
  have HB2 := hide (HB1.out.trans (hb2'.mono HB1.out.size))
  have HG2 := hide (rgetq_any (HA.out.below HB2.out) h2.out)
  rw [HL.out, HP.out] at HG2
  clear hb2 hbX hb2'
  go_wp2_with (refine wpList_store_row rfl 25 _ _ rfl w2.heap.size (queueC L) rfl rfl 25 _ (heap_alloc_new w2 _) HSF.out HSZ.out (queueC_one _) ?_)
  rw [← hX2]
  clear hX2
  refine HG2.out.mono ?_
  rintro e w3 ⟨rfl, hb3⟩
  obtain ⟨X3, hX3⟩ : ∃ X3, X3 = (w3.alloc (.cells #[Value.string ⟨#[]⟩, Value.int .i64 0, Value.int .i64 0, Value.int .i64 0, Value.int .i64 0, Value.int .i64 0, Value.int .i64 0, Value.int .i64 0, Value.int .i64 0, Value.int .i64 0, Value.int .i64 0, Value.int .i64 0, Value.int .i64 0, Value.int .i64 0] 25)).setRow w3.heap.size (queueC L) := ⟨_, rfl⟩
  have hbX : Below w3.heap.size w3 X3 := by rw [hX3]; exact below_setRow ((Below.refl _ _).alloc (Nat.le_refl _) _) (Nat.le_refl _) _
  have HX3 : Hid (X3.heap[w3.heap.size]? = some (.cells (queueC L) 25 (0, 0))) := by show _ = _; rw [hX3]; exact setRow_heap _ _ _ _ _ _ (heap_alloc_new w3 _)
  have hb3' := hb3.trans (hbX.mono hb3.size)
  have HB3 := hide (HB2.out.trans (hb3'.mono HB2.out.size))
  have HY3 := hide ((hb3'.block _ (Array.getElem?_eq_some_iff.1 HX2.out).1).trans HX2.out)
  have HG3 := hide (lbgetd_any (HA.out.below HB3.out) h1.out)
  rw [HF.out, HQ.out] at HG3
  clear hb3 hbX hb3'
  go_wp2_with (refine wpList_store_row rfl 25 _ _ rfl w3.heap.size (queueC L) rfl rfl 25 _ (heap_alloc_new w3 _) HSF.out HSZ.out (queueC_one _) ?_)
  rw [← hX3]
  clear hX3
  refine HG3.out.mono ?_
  rintro e w4 ⟨da, dn, dc, rfl, hDA, hb4⟩
  have HB4 := hide (HB3.out.trans (hb4.mono HB3.out.size))
  have HY4 := hide ((hb4.block _ (Array.getElem?_eq_some_iff.1 HY3.out).1).trans HY3.out)
  have HX4 := hide ((hb4.block _ (Array.getElem?_eq_some_iff.1 HX3.out).1).trans HX3.out)
  have HDA := hide hDA
  clear hb4 hDA
  obtain ⟨X4, hX4⟩ : ∃ X4, X4 = w4.alloc (.cells #[Value.slice da dn dc] 36) := ⟨_, rfl⟩
  have hbX : Below w4.heap.size w4 X4 := by rw [hX4]; exact (Below.refl _ _).alloc (Nat.le_refl _) _
  have hgd : X4.heap[w4.heap.size]? = some (.cells #[Value.slice da dn dc] 36 (0, 0)) := by rw [hX4]; exact heap_alloc_new w4 _
  have HB5 := hide (HB4.out.trans (hbX.mono HB4.out.size))
  have HY5 := hide ((hbX.block _ (Array.getElem?_eq_some_iff.1 HY4.out).1).trans HY4.out)
  have HX5 := hide ((hbX.block _ (Array.getElem?_eq_some_iff.1 HX4.out).1).trans HX4.out)
  have HD5 := hide (HDA.out.below hbX)
  have HGD := hide hgd
  have HG4 := hide (rgetdir_any (HA.out.below HB5.out) h2.out)
  rw [HF.out, HQ.out] at HG4
  clear hbX hgd
  go_wp2_with fail
  rw [← hX4]
  clear hX4
  refine HG4.out.mono ?_
  rintro e w6 ⟨ea, en, ec, rfl, hEA, hb6⟩
  have hen : en = F.length := hEA.2.2.1.1.symm
  have hdn : dn = F.length := HD5.out.2.2.1.1.symm
  have HB6 := hide (HB5.out.trans (hb6.mono HB5.out.size))
  have HY6 := hide ((hb6.block _ (Array.getElem?_eq_some_iff.1 HY5.out).1).trans HY5.out)
  have HX6 := hide ((hb6.block _ (Array.getElem?_eq_some_iff.1 HX5.out).1).trans HX5.out)
  have HD6 := hide (HD5.out.below hb6)
  have HGD6 := hide ((hb6.block _ (Array.getElem?_eq_some_iff.1 HGD.out).1).trans HGD.out)
  have HE6 := hide hEA
  have HNT := hide (ints_any (cap := dc) (cap' := ec) (by omega) (by omega) HD6.out.2.2.1 HE6.out.2.2.1)
  rw [decide_eq_true (rfl : F = F)] at HNT
  have hEQ := fun W => HEQ.out W
  have k0 : w6.cell? ⟨w4.heap.size, 0, none⟩ = some (.slice da dn dc) := by simp [World.cell?, HGD6.out]
  clear hb6 hEA hdl
  subst hen hdn
  generalize F.length = fl at *
  go_wp2_with (first
    | (refine wpList_load_row_on (by rfl) 25 _ rfl w2.heap.size rfl 25 (queueC L) (0, 0) _ HY6.out Try.underlying25 rfl HSF.out ?_)
    | (refine wpList_load_row_on (by rfl) 25 _ rfl w3.heap.size rfl 25 (queueC L) (0, 0) _ HX6.out Try.underlying25 rfl HSF.out ?_))
  refine HNT.out.mono ?_
  rintro e w7 ⟨rfl, hb7⟩
  have HB7 := hide (HB6.out.trans (hb7.mono HB6.out.size))
  clear hb7
  go_wp2_with fail
  go_ret
  exact ⟨rfl, HB7.out⟩

theorem labelreads_own {w : World} {a : Option Addr} {len cap : Nat} {zs : List Int} (hA : Arg .u8 w a len cap zs) :
    Calls Try.prog 5 #[.slice a len cap] w fun e w' => e = .returned (.bool true) ∧ Below w.heap.size w w' := by
  by_cases h : len ≤ 200
  · exact labelreads_small hA h
  · exact labelreads_great hA (by omega)
end Go.Proofs.Ytkmndllomheegaa
