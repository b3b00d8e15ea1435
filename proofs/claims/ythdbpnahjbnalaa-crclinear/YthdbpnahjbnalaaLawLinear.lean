/-
  CrcLinear's walk.
-/
import Derived.Test.YthdbpnahjbnalaaLawJoins
import Derived.Test.YthdbpnahjbnalaaRegs
import Derived.Test.YthdbpnahjbnalaaRel
import Derived.BigRegion
import Derived.Deep.RegionHeld3
namespace Go.Proofs.Ythdbpnahjbnalaa
set_option linter.unusedVariables false
set_option linter.unusedSimpArgs false
open Go.RowKit

theorem xor_left (x y z : Nat) : x ^^^ (y ^^^ z) = y ^^^ (x ^^^ z) := by rw [← Nat.xor_assoc, Nat.xor_comm x y, Nat.xor_assoc]

/-- three lists, xored. -/
def xor3 : List Int → List Int → List Int → List Int
  | a :: A, b :: B, c :: C => ((a.toNat ^^^ b.toNat ^^^ c.toNat : Nat) : Int) :: xor3 A B C
  | _, _, _ => []

theorem reg_three : ∀ (A B C : List Int) (x y z : Nat), A.length = B.length → A.length = C.length →
    Crc.reg x A ^^^ Crc.reg y B ^^^ Crc.reg z C = Crc.reg (x ^^^ y ^^^ z) (xor3 A B C)
  | [], [], [], x, y, z, _, _ => rfl
  | a :: A, b :: B, c :: C, x, y, z, h1, h2 => by
    rw [Crc.reg_cons, Crc.reg_cons, Crc.reg_cons, reg_three A B C _ _ _ (by simpa using h1) (by simpa using h2), xor3, Crc.reg_cons, ← Crc.steps_xor, ← Crc.steps_xor]
    congr 2
    rw [Int.toNat_natCast]
    simp only [Nat.xor_assoc, xor_left, Nat.xor_comm]

theorem reg3_all (A B C : List Int) (h1 : A.length = B.length) (h2 : A.length = C.length) :
    Crc.reg 4294967295 A ^^^ Crc.reg 4294967295 B ^^^ Crc.reg 4294967295 C = Crc.reg 4294967295 (xor3 A B C) :=
  reg_three A B C _ _ _ h1 h2

theorem xor3_length : ∀ (A B C : List Int), A.length = B.length → A.length = C.length → (xor3 A B C).length = A.length
  | [], [], [], _, _ => rfl
  | a :: A, b :: B, c :: C, h1, h2 => by
    simp only [xor3, List.length_cons]
    rw [xor3_length A B C (by simpa using h1) (by simpa using h2)]

theorem xor3_bytes : ∀ (A B C : List Int), Nums.Bytes A → Nums.Bytes B → Nums.Bytes C → Nums.Bytes (xor3 A B C)
  | a :: A, b :: B, c :: C, hA, hB, hC => by
    intro z hz
    simp only [xor3, List.mem_cons] at hz
    rcases hz with rfl | hz
    · have h1 := (Nums.bytes_cons hA).1
      have h2 := (Nums.bytes_cons hB).1
      have h3 := (Nums.bytes_cons hC).1
      have h12 : a.toNat ^^^ b.toNat < 2 ^ 8 := Nat.xor_lt_two_pow (by omega) (by omega)
      have h123 : a.toNat ^^^ b.toNat ^^^ c.toNat < 2 ^ 8 := Nat.xor_lt_two_pow h12 (by omega)
      omega
    · exact xor3_bytes A B C (Nums.bytes_cons hA).2 (Nums.bytes_cons hB).2 (Nums.bytes_cons hC).2 z hz
  | [], _, _, _, _, _ => by intro z hz; simp [xor3] at hz
  | a :: A, [], _, _, _, _ => by intro z hz; simp [xor3] at hz
  | a :: A, b :: B, [], _, _, _ => by intro z hz; simp [xor3] at hz

theorem xor3_take : ∀ (k : Nat) (A B C : List Int), k < A.length → k < B.length → k < C.length →
    xor3 (A.take (k + 1)) (B.take (k + 1)) (C.take (k + 1)) = xor3 (A.take k) (B.take k) (C.take k) ++ [(((A.getD k 0).toNat ^^^ (B.getD k 0).toNat ^^^ (C.getD k 0).toNat : Nat) : Int)]
  | 0, a :: A, b :: B, c :: C, _, _, _ => by simp [xor3]
  | k + 1, a :: A, b :: B, c :: C, h1, h2, h3 => by
    have ih := xor3_take k A B C (by simpa using h1) (by simpa using h2) (by simpa using h3)
    simp only [List.take_succ_cons, xor3, ih]
    simp

/-- of four sums xored, that of the fourth being of the three others xored, nothing is left. -/
theorem four_sums (A B C : List Int) (h1 : A.length = B.length) (h2 : A.length = C.length) (hA : Nums.Bytes A) (hB : Nums.Bytes B) (hC : Nums.Bytes C) :
    Crc.sum A ^^^ Crc.sum B ^^^ Crc.sum C ^^^ Crc.sum (xor3 A B C) = 0 := by
  have e := reg3_all A B C h1 h2
  have ha := Crc.reg_lt A (x := 4294967295) hA (by decide)
  have hb := Crc.reg_lt B (x := 4294967295) hB (by decide)
  have hc := Crc.reg_lt C (x := 4294967295) hC (by decide)
  have hd := Crc.reg_lt _ (x := 4294967295) (xor3_bytes A B C hA hB hC) (by decide)
  unfold Crc.sum
  rw [Crc.turn_eq ha, Crc.turn_eq hb, Crc.turn_eq hc, Crc.turn_eq hd, ← e]
  generalize Crc.reg 4294967295 A = p
  generalize Crc.reg 4294967295 B = q
  generalize Crc.reg 4294967295 C = r
  generalize 4294967295 = t
  have hx : ∀ x y : Nat, x ^^^ (x ^^^ y) = y := fun x y => by rw [← Nat.xor_assoc, Nat.xor_self, Nat.zero_xor]
  simp only [Nat.xor_assoc, xor_left, Nat.xor_comm, hx, Nat.xor_self, Nat.xor_zero]

theorem cell_set_far (w : World) (g k : Nat) (v : Value) (b o : Nat) (h : ¬ b = g) : (w.setCell ⟨g, k, none⟩ v).drew.cell? ⟨b, o, none⟩ = w.cell? ⟨b, o, none⟩ :=
  World.cell?_of_block (w := w) (Below.heap_setCell w ⟨g, k, none⟩ v b h)

theorem Row.blk_lt {k : IntKind} {w : World} {a : Option Addr} {len : Nat} {zs : List Int} (h : Row k w a len zs) {b off : Nat} (ha : a = some ⟨b, off, none⟩) (hp : 0 < len) : b < w.heap.size := by
  obtain ⟨_, h0 | ⟨b', off', e, hb, _⟩⟩ := h
  · omega
  · rw [ha] at e
    cases e
    exact hb

theorem getD_byte {zs : List Int} (h : Nums.Bytes zs) (k : Nat) : 0 ≤ zs.getD k 0 ∧ zs.getD k 0 ≤ 255 := by
  by_cases hk : k < zs.length
  · rw [List.getD_eq_getElem?_getD, List.getElem?_eq_getElem hk]
    exact h _ (List.getElem_mem hk)
  · rw [List.getD_eq_getElem?_getD, List.getElem?_eq_none (by omega)]
    decide

theorem Sl.ok.cut {w : World} {s : Sl} (h : s.ok w) (n : Nat) (hn : n ≤ s.len) : (Sl.mk s.a n s.cap (s.zs.take n)).ok w := by
  obtain ⟨h1, ⟨h2, h3⟩, h4⟩ := h
  refine ⟨Nat.le_trans hn h1, ⟨by simp; omega, ?_⟩, Nums.bytes_take h4 n⟩
  rcases h3 with h3 | ⟨b, off, e, hb, hc⟩
  · exact .inl (by show n = 0; omega)
  · by_cases h0 : n = 0
    · exact .inl h0
    · refine .inr ⟨b, off, e, hb, fun i hi => ?_⟩
      have hi' : i < n := hi
      rw [hc i (by omega)]
      simp [List.getElem?_take, hi']

set_option maxHeartbeats 400000 in
theorem linear_walk_great (a : Option Addr) (len cap : Nat) (b : Option Addr) (len' cap' : Nat) (c : Option Addr) (len'' cap'' : Nat) (w : World) (hm : len ≤ maxLen) (hm' : len' ≤ maxLen) (hm'' : len'' ≤ maxLen) (hl : 300 < len ∨ 300 < len' ∨ 300 < len'') :
    Calls Try.prog 7 #[.slice a len cap, .slice b len' cap', .slice c len'' cap''] w fun e w' => e = .returned (.bool true) ∧ Below w.heap.size w w' := by
  unfold maxLen at hm hm' hm''
  have hl' : (300 : Int) < (len : Int) ∨ (¬ (300 : Int) < (len : Int) ∧ (300 : Int) < (len' : Int)) ∨ (¬ (300 : Int) < (len : Int) ∧ ¬ (300 : Int) < (len' : Int) ∧ (300 : Int) < (len'' : Int)) := by omega
  clear hl
  rcases hl' with h1 | ⟨h1, h2⟩ | ⟨h1, h2, h3⟩
  all_goals
    go_enter Try.func7, Try.ntmps7
    go_wp2_with fail
    refine (awake_any _).mono ?_
    rintro e w1 ⟨rfl, hb1⟩
    have HB1 := hide hb1
    clear hb1
    go_wp2_with fail
    refine (awake_any w1).mono ?_
    rintro e w2 ⟨rfl, hb2⟩
    have HB2 := hide (HB1.out.trans (hb2.mono HB1.out.size))
    clear hb2
    go_wp2_with fail
    go_ret
    exact ⟨rfl, HB2.out⟩

/-- a list alone, built: what stays true of it. -/
def Built (s : Sl) (w : World) (v : Value) : Prop := ∃ g, v = .slice (some ⟨g, 0, none⟩) 1 1 ∧ Slices w (some ⟨g, 0, none⟩) 1 [s]
theorem Built.later (s : Sl) (w w' : World) (v : Value) (h : Built s w v) (hb : Below w.heap.size w w') : Built s w' v := by
  obtain ⟨g, e, hS⟩ := h
  exact ⟨g, e, hS.below hb⟩
theorem Built.sum {s : Sl} {w : World} {v : Value} (h : Built s w v) : Calls Try.prog 10 #[v] w fun e w' => e = .returned (.int .u32 (Crc.sum s.zs : Nat)) ∧ Below w.heap.size w w' := by
  obtain ⟨g, rfl, hS⟩ := h
  have := sum_any _ 1 1 [s] w (by decide) hS
  rwa [flat_one] at this

theorem min3 (x y z n : Nat) (h : n = min (min x y) z) (ts : Array TypeId) (t : TypeId) (W : World) : (Builtin.min_ ts t #[.int .i64 x, .int .i64 y, .int .i64 z]).run Try.prog W = .ok (.int .i64 n) W := by
  by_cases h1 : y < x
  · simp [Builtin.min_, Builtin.min2, h1]
    split <;> omega
  · simp [Builtin.min_, Builtin.min2, h1]
    split <;> omega

set_option maxHeartbeats 4000000 in
theorem linear_walk_small (s t u : Sl) (n : Nat) (w : World) (hs : s.ok w) (ht : t.ok w) (hu : u.ok w) (hl : s.len ≤ 300) (hl' : t.len ≤ 300) (hl'' : u.len ≤ 300) (hcs : s.len ≤ s.cap) (hct : t.len ≤ t.cap) (hcu : u.len ≤ u.cap)
    (hn : n = min (min s.len t.len) u.len) :
    Calls Try.prog 7 #[.slice s.a s.len s.cap, .slice t.a t.len t.cap, .slice u.a u.len u.cap] w fun e w' => e = .returned (.bool true) ∧ Below w.heap.size w w' := by
  have h1 : ¬ (300 : Int) < (s.len : Int) := by omega
  have h2 : ¬ (300 : Int) < (t.len : Int) := by omega
  have h3 : ¬ (300 : Int) < (u.len : Int) := by omega
  clear hl hl' hl''
  have HS := hide hs
  have HT := hide ht
  have HU := hide hu
  clear hs ht hu
  have hmk := make_bytes n (by omega)
  have hmin := min3 s.len t.len u.len n hn
  have hn1 : n ≤ s.len := by omega
  have hn2 : n ≤ t.len := by omega
  have hn3 : n ≤ u.len := by omega
  clear hn
  go_enter Try.func7, Try.ntmps7
  go_wp2_with fail
  refine (awake_any _).mono ?_
  rintro e w1 ⟨rfl, hb1⟩
  have HB1 := hide hb1
  clear hb1
  go_wp2_with fail
  clear hmk hmin
  obtain ⟨g, hgg⟩ : ∃ g, g = w1.heap.size := ⟨_, rfl⟩
  rw [← hgg]
  have HGG := hide hgg
  clear hgg
  go_loopw [9] (fun i wr => ∃ k : Nat, k ≤ n ∧ i = .int .i64 k ∧ wr.heap[g]? = some (.cells (blk .u8 (xor3 (s.zs.take k) (t.zs.take k) (u.zs.take k) ++ List.replicate (n - k) 0)) 5 (0, 0)) ∧ Below w1.heap.size w1 wr) (fun i _ => n - (intOf i).toNat)
  case atStart => exact ⟨0, Nat.zero_le _, rfl, by rw [HGG.out]; exact (heap_alloc_new w1 _), (Below.refl _ _).alloc (Nat.le_refl _) _⟩
  case round =>
    obtain ⟨k, hk, rfl, hg, hbr⟩ := hrel
    by_cases hkn : k < n
    · have hi : (k : Int) < (n : Int) := by omega
      have hls := HS.out.2.1.1
      have hlt := HT.out.2.1.1
      have hlu := HU.out.2.1.1
      obtain ⟨_, hs0 | ⟨bs, os, ha, hbsw, hcs'⟩⟩ := HS.out.2.1.below (HB1.out.trans (hbr.mono HB1.out.size))
      · exfalso; omega
      obtain ⟨_, ht0 | ⟨bt, ot, hb, hbtw, hct'⟩⟩ := HT.out.2.1.below (HB1.out.trans (hbr.mono HB1.out.size))
      · exfalso; omega
      obtain ⟨_, hu0 | ⟨bu, ou, hc, hbuw, hcu'⟩⟩ := HU.out.2.1.below (HB1.out.trans (hbr.mono HB1.out.size))
      · exfalso; omega
      have hbs1 := HS.out.2.1.blk_lt ha (by omega)
      have hbt1 := HT.out.2.1.blk_lt hb (by omega)
      have hbu1 := HU.out.2.1.blk_lt hc (by omega)
      rw [ha, hb, hc]
      have c1 := hcs' k (by omega)
      have c2 := hct' k (by omega)
      have c3 := hcu' k (by omega)
      have HBr := hide hbr
      clear hcs' hct' hcu' hbr
      have hX := hide (xor3_take k s.zs t.zs u.zs (by omega) (by omega) (by omega))
      have y1 := getD_byte HS.out.2.2 k
      have y2 := getD_byte HT.out.2.2 k
      have y3 := getD_byte HU.out.2.2 k
      obtain ⟨z1, e1⟩ : ∃ z : Nat, s.zs.getD k 0 = z := ⟨(s.zs.getD k 0).toNat, by omega⟩
      obtain ⟨z2, e2⟩ : ∃ z : Nat, t.zs.getD k 0 = z := ⟨(t.zs.getD k 0).toNat, by omega⟩
      obtain ⟨z3, e3⟩ : ∃ z : Nat, u.zs.getD k 0 = z := ⟨(u.zs.getD k 0).toNat, by omega⟩
      rw [e1, e2, e3] at hX
      rw [e1] at c1 y1
      rw [e2] at c2 y2
      rw [e3] at c3 y3
      clear e1 e2 e3
      simp only [Int.toNat_natCast] at hX
      have x12 := u8_xor_nat z1 z2 (by omega) (by omega)
      have l12 : z1 ^^^ z2 < 2 ^ 8 := Nat.xor_lt_two_pow (by omega) (by omega)
      have x123 := u8_xor_nat (z1 ^^^ z2) z3 l12 (by omega)
      generalize z1 ^^^ z2 = z12 at *
      generalize z12 ^^^ z3 = z123 at *
      obtain ⟨L, hL⟩ : ∃ L, L = xor3 (s.zs.take k) (t.zs.take k) (u.zs.take k) ++ List.replicate (n - k) 0 := ⟨_, rfl⟩
      rw [← hL] at hg
      have HL := hide hL
      have hLl : L.length = n := by
        rw [hL, List.length_append, xor3_length _ _ _ (by simp; omega) (by simp; omega)]
        simp
        omega
      clear hL
      have hget := blk_get .u8 L k (by omega)
      have hbsz := size_blk .u8 L
      rw [hLl] at hbsz
      generalize hBL : blk .u8 L = B at *
      have HBL := hide hBL
      clear hBL
      have hcell : wr.cell? ⟨g, k, none⟩ = some (.int .u8 (L.getD k 0)) := by simp [World.cell?, hg, hget]
      have hfz : wr.frozen? ⟨g, k, none⟩ = false := by simp [World.frozen?, hg]
      have hsz := HB1.out.size
      have hgw := HGG.out
      have hne1 : ¬ bs = g := by omega
      have hne2 : ¬ bt = g := by omega
      have hne3 : ¬ bu = g := by omega
      clear hsz hgw
      have hkeep : Hid (∀ v, (wr.setCell ⟨g, k, none⟩ v).drew.cell? ⟨bs, os + k, none⟩ = some (.int .u8 z1) ∧ (wr.setCell ⟨g, k, none⟩ v).drew.cell? ⟨bt, ot + k, none⟩ = some (.int .u8 z2) ∧ (wr.setCell ⟨g, k, none⟩ v).drew.cell? ⟨bu, ou + k, none⟩ = some (.int .u8 z3)) :=
        fun v => ⟨(cell_set_far _ _ _ _ _ _ hne1).trans c1, (cell_set_far _ _ _ _ _ _ hne2).trans c2, (cell_set_far _ _ _ _ _ _ hne3).trans c3⟩
      have HG := hide hg
      clear hg hget
      have hk0 : (0 : Int) ≤ (k : Int) := by omega
      have hks : (k : Int) < (s.len : Int) := by omega
      have hkt : (k : Int) < (t.len : Int) := by omega
      have hku : (k : Int) < (u.len : Int) := by omega
      go_wp2_with fail
      go_region_held3 (fun w' => w'.cell? ⟨bs, os + k, none⟩ = some (.int .u8 z1) ∧ w'.cell? ⟨bt, ot + k, none⟩ = some (.int .u8 z2) ∧ w'.cell? ⟨bu, ou + k, none⟩ = some (.int .u8 z3)) (first | exact hkeep.out _ | go_keep) (fail)
      have HW : Hid ((wr.setCell ⟨g, k, none⟩ (.int .u8 z123)).drew.heap[g]? = some (.cells (blk .u8 (xor3 (s.zs.take (k + 1)) (t.zs.take (k + 1)) (u.zs.take (k + 1)) ++ List.replicate (n - (k + 1)) 0)) 5 (0, 0))) := by
        show (wr.setCell ⟨g, k, none⟩ (.int .u8 z123)).heap[g]? = _
        rw [setCell_eq_setRow wr g k B 5 (0, 0) _ HG.out, setRow_heap wr g B _ _ _ HG.out, ← HBL.out, blk_set, HL.out, hX.out]
        congr 3
        rw [List.set_append_right _ _ (by rw [xor3_length _ _ _ (by simp; omega) (by simp; omega)]; simp; omega), xor3_length _ _ _ (by simp; omega) (by simp; omega)]
        obtain ⟨m, rfl⟩ : ∃ m, n = k + 1 + m := ⟨n - (k + 1), by omega⟩
        rw [show k + 1 + m - k = m + 1 by omega, show k + 1 + m - (k + 1) = m by omega, List.length_take, Nat.min_eq_left (by omega), Nat.sub_self]
        simp [List.replicate_succ]
      have HBW : Hid (Below w1.heap.size w1 (wr.setCell ⟨g, k, none⟩ (.int .u8 z123)).drew) := (HBr.out.setCell (p := ⟨g, k, none⟩) (by have := HGG.out; show w1.heap.size ≤ g; omega) _).drew
      clear hkeep hcell hfz c1 c2 c3
      generalize (wr.setCell ⟨g, k, none⟩ (.int .u8 z123)).drew = W2 at *
      go_wp2_with fail
      go_roundw
      case rel => exact ⟨k + 1, by omega, by go_num, HW.out, HBW.out⟩
      case measure => simp [intOf]; omega
    · have hi : ¬ (k : Int) < (n : Int) := by omega
      obtain rfl : k = n := by omega
      rw [Nat.sub_self, List.replicate_zero, List.append_nil] at hg
      have HG := hide hg
      have HBr := hide hbr
      clear hg hbr
      go_wp2_with fail
      have HD : Hid ((Sl.mk (some ⟨g, 0, none⟩) k k (xor3 (s.zs.take k) (t.zs.take k) (u.zs.take k))).ok wr) := by
        have hls := HS.out.2.1.1
        have hlt := HT.out.2.1.1
        have hlu := HU.out.2.1.1
        refine ⟨?_, row_of_block HG.out ?_, xor3_bytes _ _ _ (Nums.bytes_take HS.out.2.2 k) (Nums.bytes_take HT.out.2.2 k) (Nums.bytes_take HU.out.2.2 k)⟩
        · have := HS.out.1
          show k ≤ maxLen
          omega
        · rw [xor3_length _ _ _ (by simp; omega) (by simp; omega)]
          simp
          omega
      have HS1 := hide ((HS.out.below (HB1.out.trans (HBr.out.mono HB1.out.size))).cut k hn1)
      have HT1 := hide ((HT.out.below (HB1.out.trans (HBr.out.mono HB1.out.size))).cut k hn2)
      have HU1 := hide ((HU.out.below (HB1.out.trans (HBr.out.mono HB1.out.size))).cut k hn3)
      have HF := hide (four_sums (s.zs.take k) (t.zs.take k) (u.zs.take k) (by have := HS.out.2.1.1; have := HT.out.2.1.1; simp; omega) (by have := HS.out.2.1.1; have := HU.out.2.1.1; simp; omega) (Nums.bytes_take HS.out.2.2 k) (Nums.bytes_take HT.out.2.2 k) (Nums.bytes_take HU.out.2.2 k))
      have C1 := hide (fun w v (h : Built (Sl.mk s.a k s.cap (s.zs.take k)) w v) => h.sum)
      have C2 := hide (fun w v (h : Built (Sl.mk t.a k t.cap (t.zs.take k)) w v) => h.sum)
      have C3 := hide (fun w v (h : Built (Sl.mk u.a k u.cap (u.zs.take k)) w v) => h.sum)
      have C4 := hide (fun w v (h : Built (Sl.mk (some ⟨g, 0, none⟩) k k (xor3 (s.zs.take k) (t.zs.take k) (u.zs.take k))) w v) => h.sum)
      simp only [] at C1 C2 C3 C4
      have l1 := sum_lt (s.zs.take k)
      generalize Crc.sum (s.zs.take k) = y1 at *
      have l2 := sum_lt (t.zs.take k)
      generalize Crc.sum (t.zs.take k) = y2 at *
      have l3 := sum_lt (u.zs.take k)
      generalize Crc.sum (u.zs.take k) = y3 at *
      have l4 := sum_lt (xor3 (s.zs.take k) (t.zs.take k) (u.zs.take k))
      generalize Crc.sum (xor3 (s.zs.take k) (t.zs.take k) (u.zs.take k)) = y4 at *
      have q12 := u32_xor_nat y1 y2 l1 l2
      have l12 := xor32 l1 l2
      have HFF := HF.out
      clear HF
      generalize y1 ^^^ y2 = y12 at *
      have q123 := u32_xor_nat y12 y3 l12 l3
      have l123 := xor32 l12 l3
      generalize y12 ^^^ y3 = y123 at *
      have q0 := u32_xor_nat y123 y4 l123 l4
      rw [HFF] at q0
      clear HFF l1 l2 l3 l4 l12 l123
      refine wp_region_lex (C := fun w' => Below wr.heap.size wr w') (by kernel_rfl) (by kernel_rfl) (fun w' w'' h h' => h.trans (h'.mono h.size)) (Below.refl _ _) ?_
      refine lex_move 0 rfl rfl rfl ?_
      refine lex_move 7 rfl rfl rfl ?_
      refine lex_val (.slice s.a k s.cap) (fun a w hc hS hM => ?_) ?_
      · have e1 : a.eval (.tmp 59) = .slice s.a s.len s.cap := hM.val 0 59 rfl rfl rfl rfl
        have e2 : a.eval (.tmp 60) = .int .i64 k := hM.val 1 60 rfl rfl rfl rfl
        have hkc : (k : Int) ≤ (s.cap : Int) := by omega
        clear hM hS hc
        generalize a.eval = ev at *
        clear a
        go_simp
      refine lex_make (Built (Sl.mk s.a k s.cap (s.zs.take k))) (Built.later _) (fun a w hc hS hM => ?_) ?_
      · have e1 : a.eval (.tmp 61) = .slice s.a k s.cap := hM.val 2 61 rfl rfl rfl rfl
        refine ⟨.slice (some ⟨w.heap.size, 0, none⟩) 1 1, w.alloc (.cells #[.slice s.a k s.cap] 24), ?_, (Below.refl _ _).alloc (Nat.le_refl _) _, ⟨_, rfl, slices_one (s := Sl.mk s.a k s.cap (s.zs.take k)) (HS1.out.below hc)⟩⟩
        clear hM hS hc
        generalize a.eval = ev at *
        clear a
        go_simp
      refine lex_call (.int .u32 (y1 : Nat)) 10 (fun a w hc hS hM => ?_) ?_
      · have hBt := C1.out w _ (hM.rel 3 62 rfl rfl rfl rfl)
        have ef : a.eval (.func 10) = .func (.func 10) #[] #[] := rfl
        generalize hv : a.eval (.tmp 62) = v at *
        refine ⟨#[v], ?_, hBt⟩
        clear hM hS hc hBt
        generalize a.eval = ev at *
        clear a
        go_simp
      refine lex_move 1 rfl rfl rfl ?_
      refine lex_move 7 rfl rfl rfl ?_
      refine lex_val (.slice t.a k t.cap) (fun a w hc hS hM => ?_) ?_
      · have e1 : a.eval (.tmp 64) = .slice t.a t.len t.cap := hM.val 5 64 rfl rfl rfl rfl
        have e2 : a.eval (.tmp 65) = .int .i64 k := hM.val 6 65 rfl rfl rfl rfl
        have hkc : (k : Int) ≤ (t.cap : Int) := by omega
        clear hM hS hc
        generalize a.eval = ev at *
        clear a
        go_simp
      refine lex_make (Built (Sl.mk t.a k t.cap (t.zs.take k))) (Built.later _) (fun a w hc hS hM => ?_) ?_
      · have e1 : a.eval (.tmp 66) = .slice t.a k t.cap := hM.val 7 66 rfl rfl rfl rfl
        refine ⟨.slice (some ⟨w.heap.size, 0, none⟩) 1 1, w.alloc (.cells #[.slice t.a k t.cap] 24), ?_, (Below.refl _ _).alloc (Nat.le_refl _) _, ⟨_, rfl, slices_one (s := Sl.mk t.a k t.cap (t.zs.take k)) (HT1.out.below hc)⟩⟩
        clear hM hS hc
        generalize a.eval = ev at *
        clear a
        go_simp
      refine lex_call (.int .u32 (y2 : Nat)) 10 (fun a w hc hS hM => ?_) ?_
      · have hBt := C2.out w _ (hM.rel 8 67 rfl rfl rfl rfl)
        have ef : a.eval (.func 10) = .func (.func 10) #[] #[] := rfl
        generalize hv : a.eval (.tmp 67) = v at *
        refine ⟨#[v], ?_, hBt⟩
        clear hM hS hc hBt
        generalize a.eval = ev at *
        clear a
        go_simp
      refine lex_val (.int .u32 (y12 : Nat)) (fun a w hc hS hM => ?_) ?_
      · have e1 : a.eval (.tmp 63) = .int .u32 (y1 : Nat) := hM.val 4 63 rfl rfl rfl rfl
        have e2 : a.eval (.tmp 68) = .int .u32 (y2 : Nat) := hM.val 9 68 rfl rfl rfl rfl
        have hx := q12
        clear hM hS hc
        generalize a.eval = ev at *
        clear a
        go_simp
      refine lex_move 2 rfl rfl rfl ?_
      refine lex_move 7 rfl rfl rfl ?_
      refine lex_val (.slice u.a k u.cap) (fun a w hc hS hM => ?_) ?_
      · have e1 : a.eval (.tmp 70) = .slice u.a u.len u.cap := hM.val 11 70 rfl rfl rfl rfl
        have e2 : a.eval (.tmp 71) = .int .i64 k := hM.val 12 71 rfl rfl rfl rfl
        have hkc : (k : Int) ≤ (u.cap : Int) := by omega
        clear hM hS hc
        generalize a.eval = ev at *
        clear a
        go_simp
      refine lex_make (Built (Sl.mk u.a k u.cap (u.zs.take k))) (Built.later _) (fun a w hc hS hM => ?_) ?_
      · have e1 : a.eval (.tmp 72) = .slice u.a k u.cap := hM.val 13 72 rfl rfl rfl rfl
        refine ⟨.slice (some ⟨w.heap.size, 0, none⟩) 1 1, w.alloc (.cells #[.slice u.a k u.cap] 24), ?_, (Below.refl _ _).alloc (Nat.le_refl _) _, ⟨_, rfl, slices_one (s := Sl.mk u.a k u.cap (u.zs.take k)) (HU1.out.below hc)⟩⟩
        clear hM hS hc
        generalize a.eval = ev at *
        clear a
        go_simp
      refine lex_call (.int .u32 (y3 : Nat)) 10 (fun a w hc hS hM => ?_) ?_
      · have hBt := C3.out w _ (hM.rel 14 73 rfl rfl rfl rfl)
        have ef : a.eval (.func 10) = .func (.func 10) #[] #[] := rfl
        generalize hv : a.eval (.tmp 73) = v at *
        refine ⟨#[v], ?_, hBt⟩
        clear hM hS hc hBt
        generalize a.eval = ev at *
        clear a
        go_simp
      refine lex_val (.int .u32 (y123 : Nat)) (fun a w hc hS hM => ?_) ?_
      · have e1 : a.eval (.tmp 69) = .int .u32 (y12 : Nat) := hM.val 10 69 rfl rfl rfl rfl
        have e2 : a.eval (.tmp 74) = .int .u32 (y3 : Nat) := hM.val 15 74 rfl rfl rfl rfl
        have hx := q123
        clear hM hS hc
        generalize a.eval = ev at *
        clear a
        go_simp
      refine lex_move 8 rfl rfl rfl ?_
      refine lex_make (Built (Sl.mk (some ⟨g, 0, none⟩) k k (xor3 (s.zs.take k) (t.zs.take k) (u.zs.take k)))) (Built.later _) (fun a w hc hS hM => ?_) ?_
      · have e1 : a.eval (.tmp 76) = .slice (some ⟨g, 0, none⟩) k k := hM.val 17 76 rfl rfl rfl rfl
        refine ⟨.slice (some ⟨w.heap.size, 0, none⟩) 1 1, w.alloc (.cells #[.slice (some ⟨g, 0, none⟩) k k] 24), ?_, (Below.refl _ _).alloc (Nat.le_refl _) _, ⟨_, rfl, slices_one (s := Sl.mk (some ⟨g, 0, none⟩) k k (xor3 (s.zs.take k) (t.zs.take k) (u.zs.take k))) (HD.out.below hc)⟩⟩
        clear hM hS hc
        generalize a.eval = ev at *
        clear a
        go_simp
      refine lex_call (.int .u32 (y4 : Nat)) 10 (fun a w hc hS hM => ?_) ?_
      · have hBt := C4.out w _ (hM.rel 18 77 rfl rfl rfl rfl)
        have ef : a.eval (.func 10) = .func (.func 10) #[] #[] := rfl
        generalize hv : a.eval (.tmp 77) = v at *
        refine ⟨#[v], ?_, hBt⟩
        clear hM hS hc hBt
        generalize a.eval = ev at *
        clear a
        go_simp
      refine lex_val (.int .u32 (0 : Nat)) (fun a w hc hS hM => ?_) ?_
      · have e1 : a.eval (.tmp 75) = .int .u32 (y123 : Nat) := hM.val 16 75 rfl rfl rfl rfl
        have e2 : a.eval (.tmp 78) = .int .u32 (y4 : Nat) := hM.val 19 78 rfl rfl rfl rfl
        have hx := q0
        clear hM hS hc
        generalize a.eval = ev at *
        clear a
        go_simp
      refine lex_val (.bool true) (fun a w hc hS hM => ?_) ?_
      · have e1 : a.eval (.tmp 79) = .int .u32 ((0 : Nat) : Int) := hM.val 20 79 rfl rfl rfl rfl
        have ec : a.eval (.const (.int .u32 0)) = .int .u32 0 := rfl
        clear hM hS hc
        generalize a.eval = ev at *
        clear a
        go_simp
      refine lex_assign 21 80 rfl rfl rfl rfl rfl ?_
      refine lex_end fun a w' hc hS hall => ?_
      have h6 : a.eval (.tmp 6) = .bool true := hall 22 6 rfl rfl
      have hde := hS.defers
      go_wp2_with fail
      refine bodyPost_ret (results_tmp rfl _ _ _) hde ?_
      exact ⟨congrArg Ending.returned h6, (HB1.out.trans (HBr.out.mono HB1.out.size)).trans (hc.mono (Nat.le_trans HB1.out.size HBr.out.size))⟩

theorem linear_walk (a : Option Addr) (len cap : Nat) (zs : List Int) (b : Option Addr) (len' cap' : Nat) (zs' : List Int) (c : Option Addr) (len'' cap'' : Nat) (zs'' : List Int) (w : World) (hA : Arg .u8 w a len cap zs) (hB : Arg .u8 w b len' cap' zs') (hC : Arg .u8 w c len'' cap'' zs'') :
    Calls Try.prog 7 #[.slice a len cap, .slice b len' cap', .slice c len'' cap''] w fun e w' => e = .returned (.bool true) ∧ Below w.heap.size w w' := by
  by_cases h : len ≤ 300 ∧ len' ≤ 300 ∧ len'' ≤ 300
  · exact linear_walk_small ⟨a, len, cap, zs⟩ ⟨b, len', cap', zs'⟩ ⟨c, len'', cap'', zs''⟩ _ w hA.sl hB.sl hC.sl h.1 h.2.1 h.2.2 hA.1 hB.1 hC.1 rfl
  · exact linear_walk_great a len cap b len' cap' c len'' cap'' w (Nat.le_trans hA.1 hA.2.1) (Nat.le_trans hB.1 hB.2.1) (Nat.le_trans hC.1 hC.2.1) (by omega)
end Go.Proofs.Ythdbpnahjbnalaa
