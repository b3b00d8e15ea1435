/-
  The document's answers (layer 7): Open.
-/
import Derived.Test.YtmildaofmgeceaaRefBkA
import Derived.Test.YtmildaofmgeceaaRegs
import Derived.Handy
import Derived.BigQuiet
namespace Go.Proofs.Ytmildaofmgeceaa
set_option linter.unusedVariables false
set_option linter.unusedSimpArgs false
open Go.RowKit

theorem bdrewN (w : World) (n : Nat) : Below w.heap.size w (w.drewN n) := by
  induction n with
  | zero => exact Below.refl _ _
  | succ n ih => exact ih.drew

set_option maxRecDepth 100000 in
set_option maxHeartbeats 2000000 in
theorem ropen_short (a : Option Addr) (len cap : Nat) (w : World) (hne : ¬ len = 64) (hl : len ≤ 100000) :
    Calls Try.prog 35 #[.slice a len cap] w fun e w' => e = .returned (.tuple #[.int .i64 0, .int .i64 0, .string ⟨#[]⟩, .bool false]) ∧ Below w.heap.size w w' := by
  have hI : ¬ (len : Int) = 64 := by omega
  have hbn : ((len : Int) != 64) = true := by simp [bne, hI]
  go_enter Try.func35, Try.ntmps35
  go_wp2_with fail
  go_big_quiet (fail)
  go_wp2_with fail
  go_returns
  exact ⟨rfl, bdrewN w nq⟩

set_option maxRecDepth 100000 in
set_option maxHeartbeats 2000000 in
theorem ropen_zero (b off cap : Nat) (w : World) (h4 : w.cell? ⟨b, off + 4, none⟩ = some (.int .u8 0)) :
    Calls Try.prog 35 #[.slice (some ⟨b, off, none⟩) 64 cap] w fun e w' => e = .returned (.tuple #[.int .i64 0, .int .i64 0, .string ⟨#[]⟩, .bool false]) ∧ Below w.heap.size w w' := by
  go_enter Try.func35, Try.ntmps35
  go_wp2_with fail
  go_big_quiet (fail)
  go_wp2_with fail
  go_returns
  exact ⟨rfl, bdrewN w nq⟩

set_option maxRecDepth 100000 in
set_option maxHeartbeats 4000000 in
theorem ropen_full (b off cap : Nat) (zs : List Int) (w : World) (hr : Row .u8 w (some ⟨b, off, none⟩) 64 zs) (hz : Nums.Bytes zs) (hc : 64 ≤ cap) (h0 : ¬ zs.getD 4 0 = 0) :
    Calls Try.prog 35 #[.slice (some ⟨b, off, none⟩) 64 cap] w fun e w' => e = .returned (if Bk.isB zs = true then .tuple #[.int .i64 (zs.getD 4 0), .int .i64 (zs.getD 5 0), .string (strOfNums (zs.drop 8)), .bool true] else .tuple #[.int .i64 0, .int .i64 0, .string ⟨#[]⟩, .bool false]) ∧ Below w.heap.size w w' := by
  have hl := hr.1
  have hbk : ∀ i, i < 64 → 0 ≤ zs.getD i 0 ∧ zs.getD i 0 ≤ 255 := fun i hi => by
    rw [List.getD_eq_getElem?_getD, List.getElem?_eq_getElem (by omega)]
    exact hz _ (List.getElem_mem _)
  have hcut : Row .u8 w (some ⟨b, off + 8, none⟩) 56 (zs.drop 8) := by
    obtain ⟨b', off', e, h⟩ := hr.cut 8 56 (by decide) (by decide)
    cases e
    rw [List.take_of_length_le (by simp; omega)] at h
    exact h
  have HS := hide (fun W => rseal_any (zs.getD 4 0) (zs.getD 5 0) (zs.drop 8) W (hbk 4 (by decide)) (hbk 5 (by decide)) (Nums.bytes_drop hz 8) (by simp; omega))
  have hcv1 := fun x : Later w => conv_bytes cap (hr.below x.property)
  have hcv2 := fun x : Later w => conv_bytes (cap - 8) (hcut.below x.property)
  have hbw : b < w.heap.size := by
    obtain ⟨_, h0 | ⟨b', off', e, h, _⟩⟩ := hr
    · cases h0
    · cases e
      exact h
  have hcells : ∀ i, i < 64 → ∀ x : Later w, x.val.cell? ⟨b, off + i, none⟩ = some (.int .u8 (zs.getD i 0)) := fun i hi x => by
    obtain ⟨_, h0 | ⟨b', off', e, _, h⟩⟩ := hr.below x.property
    · cases h0
    · cases e
      exact h i hi
  have h4 := hcells 4 (by decide)
  have h5 := hcells 5 (by decide)
  have hE : Bk.isB zs = decide (Bk.shut (zs.getD 4 0) (zs.getD 5 0) (zs.drop 8) = zs) := by
    unfold Bk.isB
    exact decide_eq_decide.2 ⟨fun h => h.2.2, fun h => ⟨hl, h0, h⟩⟩
  have HNE : Hid (¬ Bk.shut (zs.getD 4 0) (zs.getD 5 0) (zs.drop 8) = zs → ¬ strOfNums (Bk.shut (zs.getD 4 0) (zs.getD 5 0) (zs.drop 8)) = strOfNums zs) := fun h e => h (str_inj (Bk.shut_bytes (hbk 4 (by decide)) (hbk 5 (by decide)) (Nums.bytes_drop hz 8)) hz e)
  have hk := hbk 4 (by decide)
  have ht := hbk 5 (by decide)
  have hne := later_some w
  have hcap : (8 : Int) ≤ (cap : Int) := by omega
  have hcap' : ¬ cap = 8 := by omega
  have HCV2 := hide (fun W (hb : Below w.heap.size w W) => conv_bytes (cap - 8) (hcut.below hb))
  have HC45 := hide (fun W (hb : Below w.heap.size w W) => And.intro (hcells 4 (by decide) ⟨W, hb⟩) (hcells 5 (by decide) ⟨W, hb⟩))
  rw [hE]
  clear hr hcut hcells hbk hE
  by_cases heq : Bk.shut (zs.getD 4 0) (zs.getD 5 0) (zs.drop 8) = zs
  · rw [heq] at HS
    rw [if_pos (decide_eq_true heq)]
    generalize strOfNums (zs.drop 8) = X at *
    generalize strOfNums zs = T at *
    generalize zs.getD 4 0 = k at *
    generalize zs.getD 5 0 = t at *
    have hkb : (k == 0) = false := by simpa using h0
    clear HNE heq
    go_enter Try.func35, Try.ntmps35
    go_wp2_with fail
    refine wp_region_later (by kernel_rfl) (by kernel_rfl) ?_
    repeat (go_big_quiet_step ((go_at_call 33; refine calls_later (HS.out _))))
    refine wpQuiet_nil ?_
    intro w9 hw9
    obtain ⟨⟨w9', hb9⟩, rfl⟩ := hw9
    have HB9 := hide hb9
    clear hcv1 hcv2 h4 h5 hne
    have hcv2 := fun x : Later w9 => HCV2.out x.val (hb9.trans (x.property.mono hb9.size))
    have h4 := fun x : Later w9 => (HC45.out x.val (hb9.trans (x.property.mono hb9.size))).1
    have h5 := fun x : Later w9 => (HC45.out x.val (hb9.trans (x.property.mono hb9.size))).2
    have hne := later_some w9
    clear hb9
    go_wp2_with fail
    refine wp_region_later (by kernel_rfl) (by kernel_rfl) ?_
    repeat (go_big_quiet_step (fail))
    refine wpQuiet_nil ?_
    intro w10 hw10
    obtain ⟨⟨w10', hb10⟩, rfl⟩ := hw10
    have HB10 := hide (HB9.out.trans (hb10.mono HB9.out.size))
    clear hcv2 h4 h5 hne hb10
    go_wp2_with fail
    go_returns
    exact ⟨rfl, HB10.out⟩
  · have hbeq := str_ne (HNE.out heq)
    rw [if_neg (by rw [decide_eq_false heq]; decide)]
    generalize strOfNums (Bk.shut (zs.getD 4 0) (zs.getD 5 0) (zs.drop 8)) = Y at *
    generalize strOfNums (zs.drop 8) = X at *
    generalize strOfNums zs = T at *
    generalize zs.getD 4 0 = k at *
    generalize zs.getD 5 0 = t at *
    have hkb : (k == 0) = false := by simpa using h0
    clear HNE heq
    go_enter Try.func35, Try.ntmps35
    go_wp2_with fail
    refine wp_region_later (by kernel_rfl) (by kernel_rfl) ?_
    repeat (go_big_quiet_step ((go_at_call 33; refine calls_later (HS.out _))))
    refine wpQuiet_nil ?_
    intro w9 hw9
    obtain ⟨⟨w9', hb9⟩, rfl⟩ := hw9
    clear hcv1 hcv2 h4 h5 hne
    go_wp2_with fail
    go_returns
    exact ⟨rfl, hb9⟩

theorem ropen_any {a : Option Addr} {len cap : Nat} {zs : List Int} {w : World} (hA : Arg .u8 w a len cap zs) (hl : len ≤ 100000) :
    Calls Try.prog 35 #[.slice a len cap] w fun e w' => e = .returned (if Bk.isB zs = true then .tuple #[.int .i64 (zs.getD 4 0), .int .i64 (zs.getD 5 0), .string (strOfNums (zs.drop 8)), .bool true] else .tuple #[.int .i64 0, .int .i64 0, .string ⟨#[]⟩, .bool false]) ∧ Below w.heap.size w w' := by
  have hzl := hA.2.2.1.1
  by_cases h64 : len = 64
  · subst h64
    obtain ⟨_, h0 | ⟨b, off, rfl, hb, hc⟩⟩ := hA.2.2.1
    · cases h0
    · by_cases hk : zs.getD 4 0 = 0
      · have hn : Bk.isB zs = false := decide_eq_false fun h => h.2.1 hk
        rw [if_neg (by rw [hn]; decide)]
        have h4 := hc 4 (by decide)
        rw [hk] at h4
        exact ropen_zero b off cap w h4
      · exact ropen_full b off cap zs w hA.2.2.1 hA.bytes hA.1 hk
  · have hn : Bk.isB zs = false := decide_eq_false fun h => h64 (by rw [← hzl]; exact h.1)
    rw [if_neg (by rw [hn]; decide)]
    exact ropen_short a len cap w h64 hl
end Go.Proofs.Ytmildaofmgeceaa
