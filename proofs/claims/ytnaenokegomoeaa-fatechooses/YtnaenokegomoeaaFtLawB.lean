/-
  Layer 6's statements: FateValues, FateCounts.
-/
import Derived.Test.YtnaenokegomoeaaFtLawA
import Derived.Test.YtnaenokegomoeaaRefText
namespace Go.Proofs.Ytnaenokegomoeaa
set_option linter.unusedVariables false
set_option linter.unusedSimpArgs false
open Go.RowKit

set_option maxRecDepth 100000 in
set_option maxHeartbeats 2000000 in
theorem fatevalues_any (A fl : Int) (ff : Bool) (fs ft : Int) (w : World) (w0 : (Lit.int .u64 fl).wf = true) (w1 : (Lit.int .u64 fs).wf = true) (w2 : (Lit.int .u64 ft).wf = true) :
    Calls Try.prog 3 #[.agg #[.int .i64 A, .int .u64 fl, .bool ff, .int .u64 fs, .int .u64 ft]] w fun e w' => e = .returned (.bool true) ∧ Below w.heap.size w w' := by
  have HV : Hid (∀ W, Calls Try.prog 9 #[.agg #[.int .i64 A, .int .u64 fl, .bool ff, .int .u64 fs, .int .u64 ft]] W fun e w' => ∃ v, e = .returned v ∧ w'.ownsRow W.heap.size 22 1 v (Pm.F.vals ⟨0, fl, ff, fs, ft⟩).length ((Pm.F.vals ⟨0, fl, ff, fs, ft⟩).map (Value.int .u64)) ∧ Below W.heap.size W w') := fun W => values_at A ⟨0, fl, ff, fs, ft⟩ W
  have HM : Hid (∀ W, Calls Try.prog 10 #[.agg #[.int .i64 A, .int .u64 fl, .bool ff, .int .u64 fs, .int .u64 ft]] W fun e w' => ∃ v, e = .returned v ∧ w'.ownsRow W.heap.size 22 1 v (Pm.F.vals ⟨0, fl, ff, fs, ft⟩).length ((Pm.F.vals ⟨0, fl, ff, fs, ft⟩).map (Value.int .u64)) ∧ Below W.heap.size W w') := fun W => rvalues_at A ⟨0, fl, ff, fs, ft⟩ W w0 w1 w2
  have HVB : Hid (∀ v ∈ Pm.F.vals ⟨0, fl, ff, fs, ft⟩, 0 ≤ v ∧ v ≤ 18446744073709551615) := Pm.vals_bd (bd_u64 w0) (bd_u64 w1) (bd_u64 w2)
  have hvl : (Pm.F.vals ⟨0, fl, ff, fs, ft⟩).length ≤ 3 := Pm.vals3_le _ _ _
  generalize Pm.F.vals ⟨0, fl, ff, fs, ft⟩ = V at *
  have HAW := hide (fun W => fawake_any W)
  obtain ⟨W, hW⟩ : ∃ W, W = w.alloc (.cells #[.int .i64 A, .int .u64 fl, .bool ff, .int .u64 fs, .int .u64 ft] 24) := ⟨_, rfl⟩
  have hnew : W.heap[w.heap.size]? = some (.cells #[.int .i64 A, .int .u64 fl, .bool ff, .int .u64 fs, .int .u64 ft] 24 (0, 0)) := by rw [hW]; exact heap_alloc_new _ _
  have hbW : Below w.heap.size w W := by rw [hW]; exact (Below.refl _ _).alloc (Nat.le_refl _) _
  have hszW : w.heap.size < W.heap.size := by rw [hW]; simp
  have HBW := hide hbW
  have HNEW := hide hnew
  clear hnew hbW w0 w1 w2
  go_enter Try.func3, Try.ntmps3
  go_wp2_with fail
  rw [← hW]
  clear hW
  refine (HAW.out _).mono ?_
  rintro e w1 ⟨rfl, hb1⟩
  have hblk := (hb1.block w.heap.size hszW).trans HNEW.out
  have t0 : w1.cell? ⟨w.heap.size, 0, none⟩ = some (.int .i64 A) := by simp [World.cell?, hblk]
  have t1 : w1.cell? ⟨w.heap.size, 1, none⟩ = some (.int .u64 fl) := by simp [World.cell?, hblk]
  have t2 : w1.cell? ⟨w.heap.size, 2, none⟩ = some (.bool ff) := by simp [World.cell?, hblk]
  have t3 : w1.cell? ⟨w.heap.size, 3, none⟩ = some (.int .u64 fs) := by simp [World.cell?, hblk]
  have t4 : w1.cell? ⟨w.heap.size, 4, none⟩ = some (.int .u64 ft) := by simp [World.cell?, hblk]
  have HB1 := hide (HBW.out.trans (hb1.mono HBW.out.size))
  have hlt1 : w.heap.size < w1.heap.size := Nat.lt_of_lt_of_le hszW hb1.size
  clear hb1 hblk
  obtain ⟨B, hB⟩ : ∃ B, w.heap.size = B := ⟨_, rfl⟩
  rw [hB] at t0 t1 t2 t3 t4 hlt1 ⊢
  have HBB := hide hB
  clear hB
  go_wp2_with fail
  go_region_held3 (fun w' => w'.cell? ⟨B, 0, none⟩ = some (.int .i64 A) ∧ w'.cell? ⟨B, 1, none⟩ = some (.int .u64 fl) ∧ w'.cell? ⟨B, 2, none⟩ = some (.bool ff) ∧ w'.cell? ⟨B, 3, none⟩ = some (.int .u64 fs) ∧ w'.cell? ⟨B, 4, none⟩ = some (.int .u64 ft))
    (first
      | go_keep
      | exact ⟨(hb2.cell hlt1).trans t0, (hb2.cell hlt1).trans t1, (hb2.cell hlt1).trans t2, (hb2.cell hlt1).trans t3, (hb2.cell hlt1).trans t4⟩
      | exact ⟨(hb3.cell hlt1).trans t0, (hb3.cell hlt1).trans t1, (hb3.cell hlt1).trans t2, (hb3.cell hlt1).trans t3, (hb3.cell hlt1).trans t4⟩)
    (first
      | (go_at_call 9; refine (HV.out _).mono ?_; rintro e w2 ⟨v2, rfl, ho2, hb2'⟩; have hb2 : Below w1.heap.size w1 w2 := Below.trans (b := w1.drew) ⟨rfl, rfl, rfl, Nat.le_refl _, fun _ _ => rfl⟩ hb2'; clear hb2')
      | (go_at_call 10; refine (HM.out _).mono ?_; rintro e w3 ⟨v3, rfl, ho3, hb3'⟩; have hb3 : Below w1.heap.size w1 w3 := hb2.trans (hb3'.mono hb2.size)))
  obtain ⟨a2, c2, rfl, _, _, _, r2⟩ := row_of_own ho2
  obtain ⟨a3, c3, rfl, _, _, _, r3⟩ := row_of_own ho3
  have HR2 := hide (r2.below hb3')
  have HR3 := hide r3
  have HB3 := hide (HB1.out.trans (hb3.mono HB1.out.size))
  clear ho2 ho3 r2 r3 hb2 hb3 hb3' t0 t1 t2 t3 t4
  go_wp2_with fail
  refine (rtext_any HR2.out HVB.out (by omega)).mono ?_
  rintro e w4 ⟨rfl, hb4⟩
  have HR4 := hide (HR3.out.below hb4)
  have HB4 := hide (HB3.out.trans (hb4.mono HB3.out.size))
  clear hb4
  go_wp2_with fail
  refine (rtext_any HR4.out HVB.out (by omega)).mono ?_
  rintro e w5 ⟨rfl, hb5⟩
  have HB5 := hide (HB4.out.trans (hb5.mono HB4.out.size))
  clear hb5
  generalize strOfNums (octs V) = T at *
  go_wp2_with fail
  go_ret
  exact ⟨rfl, HB5.out⟩

set_option maxRecDepth 100000 in
set_option maxHeartbeats 1000000 in
theorem fatecounts_any {w : World} (l : Nat) (hl : l ≤ 255) {a : Option Addr} {len cap : Nat} {xs : List Ac} (hA : Acts w a len cap xs) :
    Calls Try.prog 4 #[.int .u8 l, .slice a len cap] w fun e w' => e = .returned (.bool true) ∧ Below w.heap.size w w' := by
  have HA := hide hA
  have HAW := hide (fun W => fawake_any W)
  have HXL : Hid (smallB xs 40 = true → (madeD (l % 4) xs).ws.length = 8 * (l % 4)) := fun h => madeD_len (fun x hx => by
    rw [(HA.out.2.2.2.1 x hx).2.2.2.2.2.1.1]
    unfold smallB at h
    have : xs.length ≤ 40 ∧ ∀ x ∈ xs, x.len ≤ 40 := by simpa using h
    exact this.2 x hx)
  clear hA
  cases h : smallB xs 40 with
  | false =>
    go_enter Try.func4, Try.ntmps4
    go_wp2_with fail
    refine (HAW.out _).mono ?_
    rintro e w1 ⟨rfl, hb1⟩
    have HB1 := hide hb1
    clear hb1
    go_wp2_with fail
    refine (made_no l hl (HA.out.below HB1.out) h).mono ?_
    rintro e w2 ⟨rfl, hb2⟩
    have HB2 := hide (HB1.out.trans (hb2.mono HB1.out.size))
    clear hb2
    go_wp2_with fail
    go_ret
    exact ⟨rfl, HB2.out⟩
  | true =>
    have hln := HXL.out h
    go_enter Try.func4, Try.ntmps4
    go_wp2_with fail
    refine (HAW.out _).mono ?_
    rintro e w1 ⟨rfl, hb1⟩
    have HB1 := hide hb1
    clear hb1
    go_wp2_with fail
    refine (made_yes l hl (HA.out.below HB1.out) h).mono ?_
    rintro e w2 ⟨b, c, rfl, hbo, hb2⟩
    have HB2 := hide (HB1.out.trans (hb2.mono HB1.out.size))
    obtain ⟨F, G, g0, g1, g2, g3, pa, pc, hP, hR, _, _, _⟩ := hbo
    have HC := hide (fcount_any hP (by omega))
    have HR := hide hR
    have hs40 : (madeD (l % 4) xs).ws.length ≤ 40000 := by omega
    have HS40 := hide hs40
    clear hb2 hP hR hln hs40
    go_wp2_with fail
    refine HC.out.mono ?_
    rintro e w3 ⟨rfl, hb3⟩
    have HD := hide (rcount_any (HR.out.kept hb3.size (fun k _ hk => hb3.block k hk)) HS40.out)
    have HB3 := hide (HB2.out.trans (hb3.mono HB2.out.size))
    clear hb3
    generalize Pm.counted (Pm.fates (madeD (l % 4) xs)) = q at *
    go_wp2_with fail
    refine HD.out.mono ?_
    rintro e w4 ⟨rfl, hb4⟩
    have HB4 := hide (HB3.out.trans (hb4.mono HB3.out.size))
    clear hb4
    go_wp2_with fail
    go_ret
    exact ⟨rfl, HB4.out⟩
end Go.Proofs.Ytnaenokegomoeaa
