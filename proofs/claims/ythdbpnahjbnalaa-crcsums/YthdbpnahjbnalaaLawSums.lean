/-
  CrcSums' walk.
-/
import Derived.Test.YthdbpnahjbnalaaLawLinear
import Derived.Test.YthdbpnahjbnalaaClone
import Derived.Deep.Matrix
namespace Go.Proofs.Ythdbpnahjbnalaa
set_option linter.unusedVariables false
set_option linter.unusedSimpArgs false
open Go.RowKit

/-- what is known of a slice of slices of octets that came in. -/
def SArg (w : World) (a : Option Addr) (len cap : Nat) (bs : List Sl) : Prop := len ≤ cap ∧ cap ≤ maxLen ∧ Slices w a len bs ∧ ∀ s ∈ bs, Arg .u8 w s.a s.len s.cap s.zs
theorem SArg.below {w w' : World} {a : Option Addr} {len cap : Nat} {bs : List Sl} (h : SArg w a len cap bs) (hb : Below w.heap.size w w') : SArg w' a len cap bs :=
  ⟨h.1, h.2.1, h.2.2.1.below hb, fun s hs => (h.2.2.2 s hs).below hb⟩

theorem sarg_of {H : Type} {enc : TypeId × Value → H} {P : Program} {w : World} {base : Nat} {held : Bool} {t e q : TypeId} {fuel : Nat} {x : DataW H × List MemPlace} (ht : P.underlying t = some (.slice e)) (he : P.underlying e = some (.slice q)) (hq : P.underlying q = some (.int .u8))
    (ce : P.cellsOf e = 1) (cq : P.cellsOf q = 1) {a : Option Addr} {len cap : Nat} (h : DataW.trod enc P w base (fun _ => true) held fuel t (Value.slice a len cap).cells.toList = some x) : ∃ bs, SArg w a len cap bs := by
  rcases Go.Deep.open_int_rows ht he hq ce cq h with ⟨hcs, _⟩ | ⟨x', l, c, A, L, C, Z, hcs, _, hl, hm, _, hr⟩
  · simp [Value.cells] at hcs
    obtain ⟨rfl, rfl, rfl⟩ := hcs
    exact ⟨[], Nat.le_refl _, Nat.zero_le _, ⟨rfl, .inl rfl, by simp⟩, by simp⟩
  · simp [Value.cells] at hcs
    obtain ⟨rfl, rfl, rfl⟩ := hcs
    have hA : ∀ r, r < cap → Arg .u8 w (A r) (L r) (C r) ((Z r).take (L r)) := fun r hr' => by
      obtain ⟨_, h1, h2, h3, h4, h5, h6⟩ := hr r hr'
      refine arg_of (zs := Z r) ?_
      cases hq : A r with
      | none =>
        have h0 := h5 hq
        exact .inl ⟨rfl, by omega, h0, List.eq_nil_of_length_eq_zero (by omega)⟩
      | some y => exact .inr ⟨y, rfl, h1, h2, h3, fun i hi => (h6 y hq).2 i (by omega), h4⟩
    refine ⟨(List.range len).map fun r => ⟨A r, L r, C r, (Z r).take (L r)⟩, hl, hm, ⟨by simp, ?_, ?_⟩, ?_⟩
    · by_cases h0 : len = 0
      · exact .inl h0
      · obtain ⟨b, off, spot⟩ := x'
        have hc0 := (hr 0 (by omega)).1
        have hs : spot = none := by simpa [Addr.add] using World.cell?_spot hc0
        subst hs
        refine .inr ⟨b, off, rfl, by simpa [Addr.add] using World.block_lt_of_cell? w _ hc0, fun i s hi => ?_⟩
        rw [List.getElem?_map] at hi
        obtain ⟨r, hr1, rfl⟩ := Option.map_eq_some_iff.1 hi
        obtain ⟨hlt, hr2⟩ := List.getElem?_eq_some_iff.1 hr1
        rw [List.getElem_range] at hr2
        subst hr2
        have hlt' : i < len := by simpa using hlt
        have := (hr i (by omega)).1
        have e : (⟨b, off, none⟩ : Addr).add i = ⟨b, off + i, none⟩ := by unfold Addr.add; split <;> simp_all
        rw [e] at this
        exact this
    · intro s hs
      obtain ⟨r, hr1, rfl⟩ := List.mem_map.1 hs
      have hr2 := hA r (by have := List.mem_range.1 hr1; omega)
      exact ⟨Nat.le_trans hr2.1 hr2.2.1, hr2.2.2.1, hr2.bytes⟩
    · intro s hs
      obtain ⟨r, hr1, rfl⟩ := List.mem_map.1 hs
      exact hA r (by have := List.mem_range.1 hr1; omega)

/-- what lies in memory of one's own is a list. -/
theorem own_sl {w : World} {B n : Nat} {v : Value} {zs : List Int} (h : w.ownsRow B 5 1 v n (zs.map (Value.int .u8))) (hz : Nums.Bytes zs) (hn : n ≤ maxLen) : ∃ A c, v = .slice A n c ∧ (Sl.mk A n c zs).ok w := by
  obtain ⟨hl, h1⟩ := h
  have hl' : zs.length = n := by simpa using hl
  rcases h1 with ⟨rfl, rfl⟩ | ⟨g, c, cur, rfl, _, hg, hle, hm, hsz, htake⟩
  · exact ⟨none, 0, rfl, Nat.zero_le _, ⟨hl', .inl rfl⟩, hz⟩
  · refine ⟨some ⟨g, 0, none⟩, c, rfl, hn, ⟨hl', .inr ⟨g, 0, rfl, (Array.getElem?_eq_some_iff.1 hg).1, fun i hi => ?_⟩⟩, hz⟩
    have hi' : i < n := hi
    have e : cur[i]? = (zs.map (Value.int .u8))[i]? := by
      have h2 : (cur.toList.take (n * 1))[i]? = (zs.map (Value.int .u8))[i]? := by rw [htake]
      rw [List.getElem?_take, if_pos (by omega)] at h2
      simpa using h2
    simp [World.cell?, hg, e]
    rw [List.getElem?_eq_getElem (by omega)]
    rfl

set_option maxHeartbeats 400000 in
theorem sums_walk_great (a : Option Addr) (len cap : Nat) (w : World) (hm : len ≤ maxLen) (h : 20 < len) :
    Calls Try.prog 3 #[.slice a len cap] w fun e w' => e = .returned (.bool true) ∧ Below w.heap.size w w' := by
  unfold maxLen at hm
  have h1 : (20 : Int) < (len : Int) := by omega
  go_enter Try.func3, Try.ntmps3
  go_wp2_with fail
  refine (awake_any _).mono ?_
  rintro e w1 ⟨rfl, hb1⟩
  have HB1 := hide hb1
  clear hb1
  go_wp2_with fail
  refine (awake_any w1).mono ?_
  rintro e w2 ⟨rfl, hb2⟩
  have HB2 := hide (HB1.out.trans (hb2.mono HB1.out.size))
  clear hb2
  go_wp2_with fail
  go_ret
  exact ⟨rfl, HB2.out⟩

theorem xor_one_ne (y : Nat) : ¬ y = y ^^^ 1 := by
  intro h
  have h1 : y ^^^ y = y ^^^ (y ^^^ 1) := by rw [← h]
  rw [Nat.xor_self, ← Nat.xor_assoc, Nat.xor_self, Nat.zero_xor] at h1
  exact absurd h1 (by decide)

set_option maxHeartbeats 4000000 in
theorem sums_walk_small (a : Option Addr) (len cap : Nat) (bs : List Sl) (w : World) (hA : SArg w a len cap bs) (hl : len ≤ 20) :
    Calls Try.prog 3 #[.slice a len cap] w fun e w' => e = .returned (.bool true) ∧ Below w.heap.size w w' := by
  have h1 : ¬ (20 : Int) < (len : Int) := by omega
  have HA := hide hA
  clear hA
  go_enter Try.func3, Try.ntmps3
  go_wp2_with fail
  refine (awake_any _).mono ?_
  rintro e w1 ⟨rfl, hb1⟩
  have HB1 := hide hb1
  clear hb1
  go_wp2_with fail
  go_loopw [3, 4] (fun v i wr => ∃ k n : Nat, k ≤ len ∧ n ≤ 300 * k ∧ i = .int .i64 k ∧ wr.ownsRow w1.heap.size 5 1 v n ((flat (bs.take k)).map (Value.int .u8)) ∧ Below w1.heap.size w1 wr) (fun _ i _ => len - (intOf i).toNat)
  case atStart => exact ⟨0, 0, Nat.zero_le _, Nat.zero_le _, rfl, ⟨rfl, .inl ⟨rfl, rfl⟩⟩, Below.refl _ _⟩
  case round =>
    obtain ⟨k, n, hk, hn, rfl, hown, hbr⟩ := hrel
    have HO := hide hown
    have HBr := hide hbr
    have HBa : Hid (Below w.heap.size w wr) := HB1.out.trans (hbr.mono HB1.out.size)
    clear hown hbr
    have HAr := hide (HA.out.below HBa.out)
    by_cases hkl : k < len
    · have hi : (k : Int) < (len : Int) := by omega
      obtain ⟨hbl, h0 | ⟨b, off, rfl, hbw, hc⟩, _⟩ := HAr.out.2.2.1
      · omega
      · obtain ⟨s, hs⟩ : ∃ s, bs[k]? = some s := ⟨_, List.getElem?_eq_getElem (by omega)⟩
        have hck := hc k s hs
        have HAs := hide (HAr.out.2.2.2 s (List.mem_of_getElem? hs))
        have HF := hide (flat_take bs k s hs)
        have hsl : s.len ≤ maxLen := Nat.le_trans HAs.out.1 HAs.out.2.1
        unfold maxLen at hsl
        clear hc hs
        by_cases hs3 : s.len ≤ 300
        · have hg3 : ¬ (300 : Int) < (s.len : Int) := by omega
          go_wp2_with (at_builtin; refine wpList_extend rfl _ _ rfl w1.heap.size w1 HBr.out HBr.out.size _ n _ rfl HO.out s.a s.len s.cap s.zs rfl HAs.out (by omega) ?_)
          intro v' w' hb' hown'
          rw [← List.map_append, ← HF.out] at hown'
          have HO' := hide hown'
          have HB' := hide hb'
          clear hown' hb'
          go_wp2_with fail
          go_roundw
          case rel => exact ⟨k + 1, n + s.len, by omega, by omega, by go_num, HO'.out, HB'.out⟩
          case measure => simp [intOf]; omega
        · have hg3 : (300 : Int) < (s.len : Int) := by omega
          go_wp2_with fail
          go_ret
          exact ⟨rfl, HBa.out⟩
    · have hi : ¬ (k : Int) < (len : Int) := by omega
      obtain rfl : k = len := by omega
      have hbl := HA.out.2.2.1.1
      have hby := flat_bytes HA.out.2.2.1.2.2
      have hO := HO.out
      rw [List.take_of_length_le (by omega)] at hO
      obtain ⟨A, c, hv, hok⟩ := own_sl hO hby (by unfold maxLen; omega)
      subst hv
      have HS := hide hok
      clear hO hok HO
      have HSa := hide (sum_any a k cap bs wr (by unfold maxLen; omega) HAr.out.2.2.1)
      go_wp2_with fail
      refine HSa.out.mono ?_
      rintro e w2 ⟨rfl, hb2⟩
      have HB2 := hide hb2
      have HBw2 : Hid (Below w.heap.size w w2) := HBa.out.trans (hb2.mono HBa.out.size)
      have HS2 := hide (HS.out.below hb2)
      clear hb2 HSa HS
      have hylt := sum_lt (flat bs)
      have HR := hide (ref_sum_any A n c (flat bs) w2 HS2.out.1 HS2.out.2.1 HS2.out.2.2)
      have HC1 := hide (sum_one ⟨A, n, c, flat bs⟩ w2 HS2.out)
      have HF1 := hide (fun W (hb : Below w2.heap.size w2 W) => fits_any (Crc.sum (flat bs)) a k cap bs W (by unfold maxLen; omega) ((HA.out.below HBw2.out).2.2.1.below hb))
      have HF2 := hide (fun W (hb : Below w2.heap.size w2 W) => fits_any (Crc.sum (flat bs) ^^^ 1) (some ⟨W.heap.size, 0, none⟩) 1 1 [⟨A, n, c, flat bs⟩] _ (by decide) (slices_one (s := ⟨A, n, c, flat bs⟩) (HS2.out.below hb)))
      rw [flat_one] at HF2
      simp only [decide_true] at HF1
      simp only [decide_eq_false (xor_one_ne (Crc.sum (flat bs)))] at HF2
      have hx1 : bits .xor .u32 ((Crc.sum (flat bs) : Nat) : Int) 1 = ((Crc.sum (flat bs) ^^^ 1 : Nat) : Int) := u32_xor_nat _ 1 hylt (by decide)
      generalize Crc.sum (flat bs) = y at *
      generalize y ^^^ 1 = y1 at *
      go_wp2_with fail
      refine HR.out.mono ?_
      rintro e w3 ⟨rfl, hw3⟩
      obtain rfl := hw3.symm
      go_wp2_with fail
      refine HC1.out.mono ?_
      rintro e w4 ⟨rfl, hb4⟩
      have HB4 := hide hb4
      clear hb4
      go_wp2_with fail
      refine (HF1.out w4 HB4.out).mono ?_
      rintro e w5 ⟨rfl, hb5⟩
      have HB5 := hide (HB4.out.trans (hb5.mono HB4.out.size))
      clear hb5
      go_wp2_with fail
      refine (HF2.out w5 HB5.out).mono ?_
      rintro e w6 ⟨rfl, hb6⟩
      have HB6 : Hid (Below w2.heap.size w2 w6) := HB5.out.trans (((Below.refl _ _).alloc (Nat.le_refl _) _).trans (hb6.mono (by simp)) |>.mono HB5.out.size)
      clear hb6
      go_wp2_with fail
      go_ret
      exact ⟨rfl, HBw2.out.trans (HB6.out.mono HBw2.out.size)⟩

theorem sums_walk (a : Option Addr) (len cap : Nat) (bs : List Sl) (w : World) (hA : SArg w a len cap bs) :
    Calls Try.prog 3 #[.slice a len cap] w fun e w' => e = .returned (.bool true) ∧ Below w.heap.size w w' := by
  by_cases h : len ≤ 20
  · exact sums_walk_small a len cap bs w hA h
  · exact sums_walk_great a len cap w (Nat.le_trans hA.1 hA.2.1) (by omega)
end Go.Proofs.Ythdbpnahjbnalaa
