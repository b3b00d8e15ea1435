/-
  CrcMore's walk.
-/
import Derived.Test.YthdbpnahjbnalaaCrcE
import Derived.Test.YthdbpnahjbnalaaRegs
namespace Go.Proofs.Ythdbpnahjbnalaa
set_option linter.unusedVariables false
set_option linter.unusedSimpArgs false
open Go.RowKit

theorem more_walk_great (ts : List Nat) (s : Nat) (a : Option Addr) (len cap : Nat) (w : World) (hm : len ≤ maxLen) (hl : 300 < len) :
    Calls Try.prog 5 #[.agg (blk .u32 (ts.map Int.ofNat)), .int .u32 s, .slice a len cap] w fun e w' => e = .returned (.bool true) ∧ Below w.heap.size w w' := by
  unfold maxLen at hm
  have h1 : (300 : Int) < (len : Int) := by omega
  clear hl
  generalize blk .u32 (ts.map Int.ofNat) = B at *
  go_enter Try.func5, Try.ntmps5
  go_wp2_with fail
  refine (awake_any _).mono ?_
  rintro e w1 ⟨rfl, hb1⟩
  have HB1 := hide hb1
  clear hb1
  go_wp2_with fail
  refine (awake_any w1).mono ?_
  rintro e w2 ⟨rfl, hb2⟩
  have HB2 := hide (HB1.out.trans (hb2.mono HB1.out.size))
  clear hb2
  go_wp2_with fail
  go_ret
  exact ⟨rfl, ((Below.refl _ _).alloc (Nat.le_refl _) _).trans (HB2.out.mono (by simp))⟩

set_option maxHeartbeats 1000000 in
theorem more_walk_small (ts : List Nat) (s : Nat) (a : Option Addr) (len cap : Nat) (zs : List Int) (w : World) (hl : ts.length = 16) (ht : ∀ t ∈ ts, t < 4294967296) (hs : s < 4294967296) (hm : len ≤ 300) (hr : Row .u8 w a len zs) (hz : Nums.Bytes zs) :
    Calls Try.prog 5 #[.agg (blk .u32 (ts.map Int.ofNat)), .int .u32 s, .slice a len cap] w fun e w' => e = .returned (.bool true) ∧ Below w.heap.size w w' := by
  have h1 : ¬ (300 : Int) < (len : Int) := by omega
  have HT := hide ht
  clear ht
  have HR := hide hr
  clear hr
  have HL := hide hl
  have hBl : (blk .u32 (ts.map Int.ofNat)).size = 16 := by rw [size_blk]; simpa using hl
  generalize hBB : blk .u32 (ts.map Int.ofNat) = B at *
  have HBB := hide hBB
  have HI : Hid ((Try.prog.info? 31).map (·.size) = some B.size) := by show _ = _; rw [hBl]; exact info_tab
  clear hBB hl
  have hq : (4294967295 : Int) - (s : Int) = ((4294967295 - s : Nat) : Int) := by omega
  go_enter Try.func5, Try.ntmps5
  go_wp2_with fail
  refine (awake_any _).mono ?_
  rintro e w1 ⟨rfl, hb1⟩
  have HB1 : Hid (Below w.heap.size w w1) := ((Below.refl _ _).alloc (Nat.le_refl _) _).trans (hb1.mono (by simp))
  have HG1 : Hid (w1.heap[w.heap.size]? = some (.cells B 31 (0, 0))) := (hb1.block w.heap.size (by simp)).trans (heap_alloc_new w _)
  have HGL : Hid (w.heap.size < w1.heap.size) := Nat.lt_of_lt_of_le (by simp) hb1.size
  clear hb1
  go_wp2_with fail
  have HRx := hide (HR.out.below HB1.out)
  clear HR
  obtain ⟨g, hgg⟩ : ∃ g, g = w.heap.size := ⟨_, rfl⟩
  rw [← hgg] at HG1 HGL ⊢
  have HGG := hide hgg
  clear hgg
  have hq2 : 4294967295 - s < 4294967296 := by omega
  generalize hqq : 4294967295 - s = q at *
  have HQ := hide hqq
  clear hqq
  go_loopw [7, 8] (fun v i wr => ∃ k : Nat, k ≤ len ∧ i = .int .i64 k ∧ v = .int .u32 (rg ts q (zs.take k) : Nat) ∧ Below w1.heap.size w1 wr) (fun _ i _ => len - (intOf i).toNat)
  case atStart => exact ⟨0, Nat.zero_le _, rfl, rfl, Below.refl _ _⟩
  case round =>
    obtain ⟨k, hk, rfl, rfl, hbr⟩ := hrel
    have HBr := hide hbr
    have HRr := hide (HRx.out.below hbr)
    clear hbr
    have hlen := HRr.out.1
    have hlt := rg_lt HL.out HT.out (zs.take k) (Nums.bytes_take hz k) hq2
    by_cases hkl : k < len
    · have hi : (k : Int) < (len : Int) := by omega
      rcases HRr.out.2 with h0 | ⟨b, off, rfl, hbw, hc⟩
      · omega
      · have HS := hide (rg_take ts q zs k (by omega))
        have hzb : 0 ≤ zs.getD k 0 ∧ zs.getD k 0 ≤ 255 := by
          rw [List.getD_eq_getElem?_getD, List.getElem?_eq_getElem (by omega)]
          exact hz _ (List.getElem_mem _)
        obtain ⟨z, hzz⟩ : ∃ z : Nat, zs.getD k 0 = z := ⟨(zs.getD k 0).toNat, by omega⟩
        have hck0 := hc k hkl
        rw [hzz] at hck0 hzb
        have hck := fun x : Later wr => (x.property.cell (p := ⟨b, off + k, none⟩) hbw).trans hck0
        have hS := HS.out
        rw [hzz, Int.toNat_natCast] at hS
        have HS := hide hS
        clear hc hS hzz hck0
        have HGr : Hid (∀ x : Later wr, x.val.heap[g]? = some (.cells B 31 (0, 0))) := fun x => (x.property.block _ (Nat.lt_of_lt_of_le HGL.out HBr.out.size)).trans ((HBr.out.block _ HGL.out).trans HG1.out)
        generalize rg ts q (zs.take k) = y at *
        have HTk := hide (fun x : Later wr => ref_take_any ts y z x.val hlt (by omega) HL.out HT.out)
        rw [HBB.out, HS.out] at HTk
        have hlater := later_some wr
        go_wp2_with fail
        refine wp_region_later (by kernel_rfl) (by kernel_rfl) ?_
        refine wpQuiet_load_row rfl 31 _ rfl g rfl 31 B (0, 0) _ (by rintro _ ⟨x, rfl⟩; exact HGr.out x) Try.underlying31 rfl HI.out ?_
        repeat (quiet_step ((go_at_call 16; refine calls_later (HTk.out _))))
        refine wpQuiet_nil ?_
        intro w9 hw9
        obtain ⟨⟨w9', hb9⟩, rfl⟩ := hw9
        clear hck
        go_wp2_with fail
        go_roundw
        case rel => exact ⟨k + 1, by omega, by go_num, rfl, HBr.out.trans (hb9.mono HBr.out.size)⟩
        case measure => simp [intOf]; omega
    · have hi : ¬ (k : Int) < (len : Int) := by omega
      obtain rfl : k = len := by omega
      rw [List.take_of_length_le (by omega)] at hlt ⊢
      have HM := hide (more_any ts s a k cap zs wr HL.out HT.out hs (by unfold maxLen; omega) HRr.out hz)
      rw [HQ.out, HBB.out] at HM
      have HGr : Hid (wr.heap[g]? = some (.cells B 31 (0, 0))) := (HBr.out.block _ HGL.out).trans HG1.out
      have hE : (4294967295 : Int) - (rg ts q zs : Nat) = ((4294967295 - rg ts q zs : Nat) : Int) := by omega
      generalize rg ts q zs = y at *
      generalize 4294967295 - y = y' at *
      go_wp2_with (refine wpList_load_row rfl 31 _ rfl g rfl 31 B (0, 0) _ HGr.out Try.underlying31 rfl HI.out ?_)
      refine HM.out.mono ?_
      rintro e w2 ⟨rfl, hb2⟩
      have HB2 := hide (HB1.out.trans ((HBr.out.trans (hb2.mono HBr.out.size)).mono HB1.out.size))
      clear hb2
      go_wp2_with fail
      go_ret
      exact ⟨rfl, HB2.out⟩

theorem more_walk (xs : List Int) (s : Int) (a : Option Addr) (len cap : Nat) (zs : List Int) (w : World) (hl : xs.length = 16) (hx : ∀ x ∈ xs, (Lit.int .u32 x).wf = true) (hs : (Lit.int .u32 s).wf = true) (hA : Arg .u8 w a len cap zs) :
    Calls Try.prog 5 #[.agg (xs.map (Value.int .u32)).toArray, .int .u32 s, .slice a len cap] w fun e w' => e = .returned (.bool true) ∧ Below w.heap.size w w' := by
  have hmx := Nat.le_trans hA.1 hA.2.1
  obtain ⟨hs0, hs1⟩ := bd_u32 hs
  obtain ⟨n, rfl⟩ : ∃ n : Nat, s = n := ⟨s.toNat, by omega⟩
  have e : xs = (xs.map Int.toNat).map Int.ofNat := by
    rw [List.map_map]
    conv => lhs; rw [← List.map_id xs]
    refine List.map_congr_left fun x hx' => ?_
    have := (bd_u32 (hx x hx')).1
    show x = ((x.toNat : Nat) : Int)
    omega
  have hlt : ∀ t ∈ xs.map Int.toNat, t < 4294967296 := fun t ht => by
    obtain ⟨x, hx', rfl⟩ := List.mem_map.1 ht
    have := bd_u32 (hx x hx')
    omega
  have hlen : (xs.map Int.toNat).length = 16 := by simpa using hl
  generalize xs.map Int.toNat = ts at *
  subst e
  by_cases h : len ≤ 300
  · exact more_walk_small ts n a len cap zs w hlen hlt (by omega) h hA.2.2.1 hA.bytes
  · exact more_walk_great ts n a len cap w hmx (by omega)
end Go.Proofs.Ythdbpnahjbnalaa
