/-
  crc.Sum, crc.Fits, and the document's Sum: what each answers, for all arguments.
-/
import Derived.Test.YtmildaofmgeceaaCrcC
namespace Go.Proofs.Ytmildaofmgeceaa
set_option linter.unusedVariables false
set_option linter.unusedSimpArgs false
open Go.RowKit

/-- a slice of octets: where it lies, and what it holds. -/
structure Sl where
  a : Option Addr
  len : Nat
  cap : Nat
  zs : List Int
def Sl.val (s : Sl) : Value := .slice s.a s.len s.cap
def Sl.ok (w : World) (s : Sl) : Prop := s.len ≤ maxLen ∧ Row .u8 w s.a s.len s.zs ∧ Nums.Bytes s.zs
theorem Sl.ok.below {w w' : World} {s : Sl} (h : s.ok w) (hb : Below w.heap.size w w') : s.ok w' := ⟨h.1, h.2.1.below hb, h.2.2⟩

/-- lists of octets that lie in memory one behind the other. -/
def Slices (w : World) (a : Option Addr) (n : Nat) (bs : List Sl) : Prop :=
  bs.length = n ∧ (n = 0 ∨ ∃ b off, a = some ⟨b, off, none⟩ ∧ b < w.heap.size ∧ ∀ i s, bs[i]? = some s → w.cell? ⟨b, off + i, none⟩ = some (.slice s.a s.len s.cap)) ∧ ∀ s ∈ bs, s.ok w
theorem Slices.below {w w' : World} {a : Option Addr} {n : Nat} {bs : List Sl} (h : Slices w a n bs) (hb : Below w.heap.size w w') : Slices w' a n bs := by
  obtain ⟨h1, h2, h3⟩ := h
  refine ⟨h1, ?_, fun s hs => (h3 s hs).below hb⟩
  rcases h2 with h2 | ⟨b, off, e, hlt, hc⟩
  · exact .inl h2
  · exact .inr ⟨b, off, e, Nat.lt_of_lt_of_le hlt hb.size, fun i s hi => (hb.cell (p := ⟨b, off + i, none⟩) hlt).trans (hc i s hi)⟩

/-- all octets of lists. -/
def flat (bs : List Sl) : List Int := bs.flatMap Sl.zs
theorem flat_bytes {w : World} {bs : List Sl} (h : ∀ s ∈ bs, s.ok w) : Nums.Bytes (flat bs) := fun z hz => by
  obtain ⟨s, hs, hz'⟩ := List.mem_flatMap.1 hz
  exact (h s hs).2.2 z hz'
theorem flat_take (bs : List Sl) (k : Nat) (s : Sl) (h : bs[k]? = some s) : flat (bs.take (k + 1)) = flat (bs.take k) ++ s.zs := by
  obtain ⟨hk, hs⟩ := List.getElem?_eq_some_iff.1 h
  rw [List.take_succ_eq_append_getElem hk, hs]
  simp [flat]
theorem sum_lt (l : List Int) : Crc.sum l < 4294967296 := by unfold Crc.sum; omega
theorem turn_back (c x : Nat) (h : x < c + 1) : c - (c - x) = x := Nat.sub_sub_self (Nat.le_of_lt_succ h)
theorem on_of (c x y : Nat) (l m : List Int) (hx : c - (c - x) = x) (h : rg tab x m = y) : c - rg tab (c - (c - x)) m = c - y := by rw [hx, h]
theorem sum_on (l m : List Int) (h : Nums.Bytes l) : 4294967295 - rg tab (4294967295 - Crc.sum l) m = Crc.sum (l ++ m) :=
  on_of 4294967295 (Crc.reg 4294967295 l) (Crc.reg 4294967295 (l ++ m)) l m (turn_back _ _ (Crc.reg_lt l (x := 4294967295) h (by decide))) ((rg_tab _ m).trans (Crc.reg_append _ l m).symm)

theorem sum_none (bs : List Sl) : Crc.sum (flat (bs.take 0)) = 0 := by
  rw [List.take_zero]
  simp [flat, Crc.sum, Crc.reg]

set_option maxHeartbeats 1000000 in
theorem sum_any (a : Option Addr) (n cap : Nat) (bs : List Sl) (w : World) (hn : n ≤ maxLen) (h : Slices w a n bs) :
    Calls Try.prog 38 #[.slice a n cap] w fun e w' => e = .returned (.int .u32 (Crc.sum (flat bs) : Nat)) ∧ Below w.heap.size w w' := by
  unfold maxLen at hn
  have HS := hide h
  clear h
  go_enter Try.func38, Try.ntmps38
  go_wp2_with fail
  refine (table_any w).mono ?_
  rintro e w1 ⟨rfl, hb1⟩
  have HB := hide hb1
  clear hb1
  have hB : (blk .u32 (tab.map Int.ofNat)).size = 16 := rfl
  have HO := hide (blk_one .u32 (tab.map Int.ofNat))
  generalize hBB : blk .u32 (tab.map Int.ofNat) = B at *
  have HBB := hide hBB
  clear hBB
  have HI : Hid ((Try.prog.info? 75).map (·.size) = some B.size) := by show _ = _; rw [hB]; exact info_tab
  have hA : (blk .u32 (List.replicate 16 0)).size = 16 := rfl
  go_wp2_with (refine wpList_store_row rfl 75 _ _ rfl w1.heap.size B rfl rfl 75 (blk .u32 (List.replicate 16 0)) (heap_alloc_new w1 _) HI.out (by omega) HO.out ?_)
  rw [World.setRow_alloc_new]
  obtain ⟨W, HWd⟩ : ∃ W, Hid (W = w1.alloc (.cells B 75)) := ⟨_, rfl⟩
  have HBW : Hid (Below w.heap.size w W) := by
    show Below _ _ _
    rw [HWd.out]
    exact HB.out.alloc HB.out.size _
  have HSW : Hid (Slices W a n bs) := HS.out.below HBW.out
  have HG : Hid (W.heap[w1.heap.size]? = some (.cells B 75 (0, 0))) := by
    show _ = _
    rw [HWd.out]
    exact heap_alloc_new w1 _
  have HGL : Hid (w1.heap.size < W.heap.size) := by
    show _ < _
    rw [HWd.out]
    simp
  rw [← HWd.out]
  clear HWd HS HB
  generalize w1.heap.size = g at *
  clear w1
  go_loopw [4, 6, 10] (fun v _ i wr => ∃ k : Nat, k ≤ n ∧ i = .int .i64 k ∧ v = .int .u32 (Crc.sum (flat (bs.take k)) : Nat) ∧ Below W.heap.size W wr) (fun _ _ i _ => n - (intOf i).toNat)
  case atStart => exact ⟨0, Nat.zero_le _, rfl, by rw [sum_none]; rfl, Below.refl _ _⟩
  case round =>
    obtain ⟨k, hk, rfl, rfl, hbr⟩ := hrel
    have HBr := hide hbr
    clear hbr
    by_cases hkn : k < n
    · have hi : (k : Int) < (n : Int) := by omega
      have hS := HSW.out.below HBr.out
      obtain ⟨hbl, h0 | ⟨b, off, rfl, hbw, hc⟩, hok⟩ := hS
      · omega
      · obtain ⟨s, hs⟩ : ∃ s, bs[k]? = some s := ⟨_, List.getElem?_eq_getElem (by omega)⟩
        have hck := hc k s hs
        have hmem : s ∈ bs := List.mem_of_getElem? hs
        have HM := hide (fun y hy => more_any tab y s.a s.len s.cap s.zs wr tab_length tab_lt hy (hok s hmem).1 (hok s hmem).2.1 (hok s hmem).2.2)
        have HE := hide (sum_on (flat (bs.take k)) s.zs (flat_bytes (fun x hx => hok x (List.mem_of_mem_take hx))))
        rw [← flat_take bs k s hs] at HE
        have HGr := hide ((HBr.out.block _ HGL.out).trans HG.out)
        have hlt := sum_lt (flat (bs.take k))
        clear hc hok hs hmem
        generalize Crc.sum (flat (bs.take k)) = y at *
        have HM := hide (HM.out y hlt)
        rw [HE.out] at HM
        clear HE
        rw [HBB.out] at HM
        go_wp2_with (refine wpList_load_row rfl 75 _ rfl g rfl 75 B (0, 0) _ HGr.out Try.underlying75 rfl HI.out ?_)
        refine HM.out.mono ?_
        rintro e w2 ⟨rfl, hb2⟩
        have HB2 : Hid (Below W.heap.size W w2) := HBr.out.trans (hb2.mono HBr.out.size)
        clear hb2
        go_wp2_with fail
        go_roundw
        case rel => exact ⟨k + 1, by omega, by go_num, rfl, HB2.out⟩
        case measure => simp [intOf]; omega
    · have hi : ¬ (k : Int) < (n : Int) := by omega
      obtain rfl : k = n := by omega
      have hbl := HSW.out.1
      rw [List.take_of_length_le (by omega)]
      generalize hy : Crc.sum (flat bs) = y at *
      have HY := hide hy
      clear hy
      go_wp2_with fail
      go_ret
      exact ⟨by rw [HY.out]; rfl, HBW.out.trans (HBr.out.mono HBW.out.size)⟩
end Go.Proofs.Ytmildaofmgeceaa
