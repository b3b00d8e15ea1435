/-
  crc.More: what it answers, for all arguments.
-/
import Derived.Test.YtmildaofmgeceaaCrcB
namespace Go.Proofs.Ytmildaofmgeceaa
set_option linter.unusedVariables false
set_option linter.unusedSimpArgs false
open Go.RowKit

theorem tk_lt {ts : List Nat} (hl : ts.length = 16) (ht : ∀ t ∈ ts, t < 4294967296) {x z : Nat} (hx : x < 4294967296) (hz : z < 256) : tk ts x z < 4294967296 := by
  have hy := xor32 hx (show z < 4294967296 by omega)
  have h1 := getD_lt hl ht ((x ^^^ z) % 16)
  have hy2 := xor32 (show (x ^^^ z) / 16 < 4294967296 by omega) h1
  have h2 := getD_lt hl ht (((x ^^^ z) / 16 ^^^ ts.getD ((x ^^^ z) % 16) 0) % 16)
  exact xor32 (by omega) h2

/-- the register behind octets, by a table. -/
def rg (ts : List Nat) (x : Nat) (zs : List Int) : Nat := zs.foldl (fun r z => tk ts r z.toNat) x
theorem rg_lt {ts : List Nat} (hl : ts.length = 16) (ht : ∀ t ∈ ts, t < 4294967296) : ∀ (zs : List Int) {x : Nat}, Nums.Bytes zs → x < 4294967296 → rg ts x zs < 4294967296
  | [], _, _, h => h
  | z :: zs, x, hz, h => rg_lt hl ht zs (Nums.bytes_cons hz).2 (tk_lt hl ht h (by have := (Nums.bytes_cons hz).1; omega))
theorem rg_snoc (ts : List Nat) (x : Nat) (zs : List Int) (z : Int) : rg ts x (zs ++ [z]) = tk ts (rg ts x zs) z.toNat := by simp [rg]
theorem rg_tab (x : Nat) (zs : List Int) : rg tab x zs = Crc.reg x zs := by
  unfold rg Crc.reg
  congr 1
  funext r z
  exact tk_tab r z.toNat
theorem rg_take (ts : List Nat) (x : Nat) (zs : List Int) (k : Nat) (h : k < zs.length) : tk ts (rg ts x (zs.take k)) (zs.getD k 0).toNat = rg ts x (zs.take (k + 1)) := by
  rw [List.take_succ_eq_append_getElem h, rg_snoc]
  simp [h]

theorem flip32 {x : Nat} (h : x < 4294967296) : bits .xor .u32 IntKind.u32.max (x : Int) = ((4294967295 - x : Nat) : Int) := by
  have e := u32_xor_nat 4294967295 x (by decide) h
  rw [← Crc.turn_eq h] at e
  exact e

set_option maxHeartbeats 1000000 in
theorem more_any (ts : List Nat) (s : Nat) (a : Option Addr) (len cap : Nat) (zs : List Int) (w : World) (hl : ts.length = 16) (ht : ∀ t ∈ ts, t < 4294967296) (hs : s < 4294967296) (hm : len ≤ maxLen) (hr : Row .u8 w a len zs) (hz : Nums.Bytes zs) :
    Calls Try.prog 53 #[.agg (blk .u32 (ts.map Int.ofNat)), .int .u32 s, .slice a len cap] w fun e w' => e = .returned (.int .u32 (4294967295 - rg ts (4294967295 - s) zs : Nat)) ∧ Below w.heap.size w w' := by
  unfold maxLen at hm
  have HTab := hide (tab_blk hl (heap_alloc_new w (.cells (blk .u32 (ts.map Int.ofNat)) 75)))
  have hr' := hr.below ((Below.refl w.heap.size w).alloc (Nat.le_refl _) (.cells (blk .u32 (ts.map Int.ofNat)) 75))
  obtain ⟨hlen, hr'⟩ := hr'
  have HR := hide hr'
  clear hr hr'
  have HT := hide ht
  clear ht
  have hf := flip32 hs
  have hq2 : 4294967295 - s < 4294967296 := by omega
  generalize 4294967295 - s = q at *
  generalize blk .u32 (ts.map Int.ofNat) = B at *
  go_enter Try.func53, Try.ntmps53
  go_wp2_with fail
  clear hf
  go_loop [7, 9, 14] (fun v _ i => ∃ k : Nat, k ≤ len ∧ i = .int .i64 k ∧ v = .int .u32 (rg ts q (zs.take k))) (fun _ _ i => len - (intOf i).toNat)
  case atStart => exact ⟨0, Nat.zero_le _, rfl, rfl⟩
  case round =>
    obtain ⟨k, hk, rfl, rfl⟩ := hrel
    have hlt := rg_lt hl HT.out (zs.take k) (Nums.bytes_take hz k) hq2
    by_cases hkl : k < len
    · have hi : (k : Int) < (len : Int) := by omega
      rcases HR.out with h0 | ⟨b, off, rfl, hbw, hc⟩
      · omega
      · have hck := hc k hkl
        have HS := hide (rg_take ts q zs k (by omega))
        have hzb : 0 ≤ zs.getD k 0 ∧ zs.getD k 0 ≤ 255 := by
          rw [List.getD_eq_getElem?_getD, List.getElem?_eq_getElem (by omega)]
          exact hz _ (List.getElem_mem _)
        obtain ⟨z, hzz⟩ : ∃ z : Nat, zs.getD k 0 = z := ⟨(zs.getD k 0).toNat, by omega⟩
        rw [hzz] at hck hzb
        have hS := HS.out
        rw [hzz, Int.toNat_natCast] at hS
        have HS := hide hS
        clear hc hS hzz
        generalize rg ts q (zs.take k) = y at *
        go_wp2_with fail
        refine (taken_any ts y z w.heap.size _ hlt (by omega) hl HT.out HTab.out).mono ?_
        rintro e w1 ⟨rfl, hw1⟩
        obtain rfl := hw1.symm
        rw [HS.out]
        go_wp2_with fail
        go_round
        case rel => exact ⟨k + 1, by omega, by go_num, rfl⟩
        case measure => simp [intOf]; omega
    · have hi : ¬ (k : Int) < (len : Int) := by omega
      obtain rfl : k = len := by omega
      have hf := flip32 hlt
      rw [List.take_of_length_le (by omega)] at hf ⊢
      generalize hy : rg ts q zs = y at *
      have HY := hide hy
      clear hy
      go_wp2_with fail
      go_ret
      exact ⟨by rw [HY.out]; rfl, (Below.refl _ _).alloc (Nat.le_refl _) _⟩
end Go.Proofs.Ytmildaofmgeceaa
