/-
  Layer 8's statements: NodeGets, NodeSames.
-/
import Derived.Test.YtgckondfcmmklaaNdLawC
namespace Go.Proofs.Ytgckondfcmmklaa
set_option linter.unusedVariables false
set_option linter.unusedSimpArgs false
open Go.RowKit

set_option maxRecDepth 100000 in
set_option maxHeartbeats 1000000 in
theorem nodegets_great {w : World} {a : Option Addr} {len cap : Nat} (hl : len ≤ maxLen) (h : 200 < len) :
    Calls Try.prog 4 #[.slice a len cap] w fun e w' => e = .returned (.bool true) ∧ Below w.heap.size w w' := by
  have HAW := hide (fun X => nawake_any X)
  have hI : (200 : Int) < (len : Int) := by omega
  go_enter Try.func4, Try.ntmps4
  go_wp2_with fail
  refine (HAW.out _).mono ?_
  rintro e w1 ⟨rfl, hb1⟩
  have HB1 := hide hb1
  clear hb1
  go_wp2_with fail
  refine (HAW.out _).mono ?_
  rintro e w2 ⟨rfl, hb2⟩
  have HB2 := hide (HB1.out.trans (hb2.mono HB1.out.size))
  clear hb2
  go_wp2_with fail
  go_ret
  exact ⟨rfl, HB2.out⟩

theorem right_zero : Nd.right Nd.zero = false := by decide
theorem tells_got {zs : List Int} (h : Nd.got zs = true) : Nd.tells zs = Nd.told zs := by unfold Nd.tells; rw [if_pos h]
theorem tells_not {zs : List Int} (h : Nd.got zs = false) : Nd.tells zs = Nd.zero := by unfold Nd.tells; rw [h]; rfl
/-- what is told is short. -/
theorem tells_short {zs : List Int} : (Nd.tells zs).kids.length ≤ 12 := by
  cases h : Nd.got zs with
  | true => rw [tells_got h]; exact (Nd.right_head (Nd.got_right h).1).2.2.2.2
  | false => rw [tells_not h]; decide

set_option maxRecDepth 100000 in
set_option maxHeartbeats 4000000 in
theorem nodegets_small {w : World} {a : Option Addr} {len cap : Nat} {zs : List Int} (hA : Arg .u8 w a len cap zs) (h : len ≤ 200) :
    Calls Try.prog 4 #[.slice a len cap] w fun e w' => e = .returned (.bool true) ∧ Below w.heap.size w w' := by
  have HAW := hide (fun X => nawake_any X)
  have hI : ¬ (200 : Int) < (len : Int) := by omega
  have HA := hide hA
  have hsh := tells_short (zs := zs)
  have HRN : Hid (Nd.got zs = true → Nd.right (Nd.tells zs) = true ∧ Nd.wf (Nd.tells zs) ∧ Nd.block (Nd.tells zs) = zs) := fun hg => by
    rw [tells_got hg]
    exact ⟨(Nd.got_right hg).1, Nd.told_wf hA.bytes, (Nd.got_right hg).2⟩
  have HRZ : Hid (Nd.got zs = false → Nd.right (Nd.tells zs) = false) := fun hg => by rw [tells_not hg]; exact right_zero
  have HGT := hide (fun X (hb : Below w.heap.size w X) => nget_any (hA.below hb) (by omega))
  have HRG := hide (fun X (hb : Below w.heap.size w X) => rget_any (hA.below hb) (by omega))
  have HBY := hide hA.bytes
  clear hA
  generalize Nd.tells zs = nd at *
  obtain ⟨s, g, k, v, l⟩ := nd
  generalize hq : Nd.got zs = q at *
  clear hq
  dsimp only at hsh
  go_enter Try.func4, Try.ntmps4
  go_wp2_with fail
  refine (HAW.out _).mono ?_
  rintro e w1 ⟨rfl, hb1⟩
  have HB1 := hide hb1
  clear hb1
  go_wp2_with fail
  refine (HGT.out _ HB1.out).mono ?_
  rintro e w2 ⟨x, rfl, ⟨ka, kc, rfl, hKA⟩, hb2⟩
  dsimp only at hKA ⊢
  obtain ⟨n, hn⟩ : ∃ n, l.length = n := ⟨_, rfl⟩
  rw [hn] at hKA hsh ⊢
  obtain ⟨X2, hX2⟩ : ∃ X, X = w2.alloc (.cells #[.int .i64 s, .int .i64 g, .int .i64 k, .int .i64 v, .slice ka n kc] 28) := ⟨_, rfl⟩
  have hbX2 : Below w2.heap.size w2 X2 := by rw [hX2]; exact (Below.refl _ _).alloc (Nat.le_refl _) _
  have hgn : X2.heap[w2.heap.size]? = some (.cells #[.int .i64 s, .int .i64 g, .int .i64 k, .int .i64 v, .slice ka n kc] 28 (0, 0)) := by rw [hX2]; exact heap_alloc_new w2 _
  have hbw2 := HB1.out.trans (hb2.mono HB1.out.size)
  have HB2 := hide (hbw2.trans (hbX2.mono hbw2.size))
  have HK2 := hide (hKA.below hbX2)
  have HC2 : Hid (∀ X, Below X2.heap.size X2 X → X.cell? ⟨w2.heap.size, 0, none⟩ = some (.int .i64 s) ∧ X.cell? ⟨w2.heap.size, 1, none⟩ = some (.int .i64 g) ∧ X.cell? ⟨w2.heap.size, 2, none⟩ = some (.int .i64 k) ∧ X.cell? ⟨w2.heap.size, 3, none⟩ = some (.int .i64 v) ∧ X.cell? ⟨w2.heap.size, 4, none⟩ = some (.slice ka n kc)) := fun X hb => boxed_cells ((hb.block _ (Array.getElem?_eq_some_iff.1 hgn).1).trans hgn)
  clear hKA hb2 hbX2 hgn hbw2
  go_wp2_with fail
  rw [← hX2]
  refine (HRG.out _ HB2.out).mono ?_
  rintro e w3 ⟨x, rfl, ⟨ma, mc, rfl, hMA⟩, hb3⟩
  dsimp only at hMA ⊢
  rw [hn] at hMA ⊢
  obtain ⟨X3, hX3⟩ : ∃ X, X = w3.alloc (.cells #[.int .i64 s, .int .i64 g, .int .i64 k, .int .i64 v, .slice ma n mc] 28) := ⟨_, rfl⟩
  have hbX3 : Below w3.heap.size w3 X3 := by rw [hX3]; exact (Below.refl _ _).alloc (Nat.le_refl _) _
  have hgm : X3.heap[w3.heap.size]? = some (.cells #[.int .i64 s, .int .i64 g, .int .i64 k, .int .i64 v, .slice ma n mc] 28 (0, 0)) := by rw [hX3]; exact heap_alloc_new w3 _
  have hb23 : Below X2.heap.size X2 X3 := hb3.trans (hbX3.mono hb3.size)
  have HB23 := hide hb23
  have HB3 := hide (HB2.out.trans (hb23.mono HB2.out.size))
  have HM3 := hide (hMA.below hbX3)
  obtain ⟨n0, n1, n2, n3, n4⟩ := HC2.out _ hb3
  have hlt3 : w2.heap.size < w3.heap.size := World.block_lt_of_cell? w3 _ n0
  have hne3 : ¬ w2.heap.size = w3.heap.size := by omega
  have hne3' : ¬ w3.heap.size = w2.heap.size := by omega
  have HSM := hide (rsame_any s g k v s g k v l l X3 ka ma n kc n mc (HK2.out.below hb23) (by omega) HM3.out (by omega))
  rw [Nd.same_iff.2 rfl] at HSM
  have hneq : (q != q) = false := by simp
  have heq : (q == q) = true := by simp
  clear hMA hb3 hbX3 hgm hb23
  go_wp2_with fail
  rw [← hX3]
  refine HSM.out.mono ?_
  rintro e w4 ⟨rfl, hb4⟩
  have h24 := HB23.out.trans (hb4.mono HB23.out.size)
  have HB4 := hide (HB3.out.trans (hb4.mono HB3.out.size))
  clear n0 n1 n2 n3 n4 hlt3 hne3 hne3'
  obtain ⟨n0, n1, n2, n3, n4⟩ := HC2.out _ h24
  have HK4 := hide (HK2.out.below h24)
  clear hb4 h24
  cases q with
  | true =>
    obtain ⟨hr, hwf, hbl⟩ := HRN.out rfl
    have HPU := hide (nput_yes s g k v l w4 ka n kc HK4.out hr hwf)
    rw [hbl] at HPU
    have HLB : Hid (zs.length = 64) := by show zs.length = 64; rw [← hbl]; exact Nd.block_length hr
    clear HRN HRZ hr hwf hbl hneq heq
    go_wp2_with fail
    refine HPU.out.mono ?_
    rintro e w5 ⟨hh, c, tail, rfl, hc, hcm, hhh, hblk, hb5⟩
    have HB5 := hide (HB4.out.trans (hb5.mono HB4.out.size))
    have hcv1 := conv_bytes c (arg_tail hblk HBY.out HLB.out hc hcm).2.2.1
    have hcv2 := conv_bytes cap (HA.out.2.2.1.below HB5.out)
    clear n0 n1 n2 n3 n4 hblk hb5
    generalize strOfNums zs = T at *
    go_wp2_with fail
    go_ret
    exact ⟨rfl, HB5.out⟩
  | false =>
    have hr := HRZ.out rfl
    have HPU := hide (nput_no s g k v l w4 ka n kc HK4.out (by omega) hr)
    clear HRN HRZ hr hneq heq
    go_wp2_with fail
    refine HPU.out.mono ?_
    rintro e w5 ⟨rfl, hb5⟩
    have HB5 := hide (HB4.out.trans (hb5.mono HB4.out.size))
    clear n0 n1 n2 n3 n4 hb5
    go_wp2_with fail
    go_ret
    exact ⟨rfl, HB5.out⟩

theorem nodegets_own {w : World} {a : Option Addr} {len cap : Nat} {zs : List Int} (hA : Arg .u8 w a len cap zs) :
    Calls Try.prog 4 #[.slice a len cap] w fun e w' => e = .returned (.bool true) ∧ Below w.heap.size w w' := by
  by_cases h : len ≤ 200
  · exact nodegets_small hA h
  · exact nodegets_great (Nat.le_trans hA.1 hA.2.1) (by omega)
end Go.Proofs.Ytgckondfcmmklaa
