/-
  chart.Has, Mark: what they answer.
-/
import Derived.Test.YtilnimdliebfnaaChPA
namespace Go.Proofs.Ytilnimdliebfnaa
set_option linter.unusedVariables false
set_option linter.unusedSimpArgs false
open Go.RowKit

theorem and_pow (y r : Nat) : y &&& 2 ^ r = if y.testBit r = true then 2 ^ r else 0 := by
  apply Nat.eq_of_testBit_eq
  intro i
  rw [Nat.testBit_and, Nat.testBit_two_pow]
  by_cases h : r = i
  · subst h
    cases hq : y.testBit r <;> simp
  · rw [decide_eq_false h, Bool.and_false]
    split
    · rw [Nat.testBit_two_pow, decide_eq_false h]
    · rw [Nat.zero_testBit]
theorem bit_and (y r : Nat) : y.testBit r = (((y &&& 2 ^ r : Nat) : Int) != 0) := by
  rw [and_pow]
  cases y.testBit r with
  | false => rfl
  | true =>
    have : (2 : Nat) ^ r ≠ 0 := by have := Nat.two_pow_pos r; omega
    rw [if_pos rfl, eq_comm, bne_iff_ne]
    omega
theorem andNot_bv (x y : BitVec 8) : x &&& ~~~y = (x ||| y) ^^^ y := by
  ext i hi
  simp only [BitVec.getElem_and, BitVec.getElem_not, BitVec.getElem_xor, BitVec.getElem_or]
  cases x[i] <;> cases y[i] <;> rfl
theorem u8_andNot_nat (a b : Nat) (ha : a < 256) (hb : b < 256) : bits .andNot .u8 (a : Int) (b : Int) = (((a ||| b) ^^^ b : Nat) : Int) := by
  have hx : (a ||| b) ^^^ b < 2 ^ 8 := Nat.xor_lt_two_pow (Nat.or_lt_two_pow (by omega) (by omega)) (by omega)
  show IntKind.u8.wrap ((BitVec.ofInt 8 (a : Int) &&& ~~~BitVec.ofInt 8 (b : Int)).toNat : Int) = _
  rw [andNot_bv, BitVec.toNat_xor, BitVec.toNat_or, ofInt_u8 a ha, ofInt_u8 b hb, IntKind.wrap_u8']
  omega

set_option maxRecDepth 100000 in
set_option maxHeartbeats 1000000 in
theorem chas_no (p : Int) (l : List Int) (at' : Int) (w : World) (hl : l.length = 48) (hat : (Lit.int .i64 at').wf = true) (h : markP p l at' = false) :
    Calls Try.prog 18 #[.agg (chartC p l), .int .i64 at'] w fun e w' => e = .returned (.bool false) ∧ Below w.heap.size w w' := by
  obtain ⟨X, hX⟩ : ∃ X, X = w.alloc (.cells (chartC p l) 24) := ⟨_, rfl⟩
  have hb0 : Below w.heap.size w X := by rw [hX]; exact (Below.refl _ _).alloc (Nat.le_refl _) _
  have HB0 := hide hb0
  have HSF := hide (chart_size p hl)
  have HR := hide (pchbit_no p l at' X hl hat h)
  clear hb0 h hat
  go_enter Try.func18, Try.ntmps18
  go_wp2_with (refine wpList_load_row_on (by rfl) 24 _ rfl w.heap.size rfl 24 _ (0, 0) _ (heap_alloc_new w _) Try.underlying24 rfl HSF.out ?_)
  rw [← hX]
  clear hX
  refine HR.out.mono ?_
  rintro e w2 ⟨rfl, hb2⟩
  have HB2 := hide (HB0.out.trans (hb2.mono HB0.out.size))
  clear hb2
  go_wp2_with fail
  go_ret
  exact ⟨rfl, HB2.out⟩

set_option maxRecDepth 100000 in
set_option maxHeartbeats 1000000 in
theorem chas_yes (p : Int) (l : List Int) (k : Nat) (w : World) (hl : l.length = 48) (hz : Nums.Bytes l) (hp : Ch.right p = true) (hk : k < 384) :
    Calls Try.prog 18 #[.agg (chartC p l), .int .i64 (384 * p + k)] w fun e w' => e = .returned (.bool (Ch.bitB l k)) ∧ Below w.heap.size w w' := by
  obtain ⟨X, hX⟩ : ∃ X, X = w.alloc (.cells (chartC p l) 24) := ⟨_, rfl⟩
  have hb0 : Below w.heap.size w X := by rw [hX]; exact (Below.refl _ _).alloc (Nat.le_refl _) _
  have hg0 : X.heap[w.heap.size]? = some (.cells (chartC p l) 24 (0, 0)) := by rw [hX]; exact heap_alloc_new w _
  have HG0 := hide hg0
  have HB0 := hide hb0
  have hlt0 : w.heap.size < X.heap.size := (Array.getElem?_eq_some_iff.1 hg0).1
  have HSF := hide (chart_size p hl)
  obtain ⟨q, hq⟩ : ∃ q : Nat, k / 8 = q := ⟨_, rfl⟩
  obtain ⟨r, hr⟩ : ∃ r : Nat, k % 8 = r := ⟨_, rfl⟩
  obtain ⟨P, hP⟩ : ∃ P : Nat, 2 ^ r = P := ⟨_, rfl⟩
  have hr3 : r < 8 := by omega
  have hP256 : P < 256 := by rw [← hP]; exact Nat.pow_lt_pow_right (n := 8) (by decide) hr3
  have hq48 : q < l.length := by omega
  have hqI : (q : Int) < 48 := by omega
  obtain ⟨y, hy⟩ : ∃ y : Nat, l.getD q 0 = (y : Int) := ⟨(l.getD q 0).toNat, by have := Ch.byte_at hz q; omega⟩
  have hy256 : y < 256 := by have := Ch.byte_at hz q; omega
  have HBIT : Hid (Ch.bitB l k = (((y &&& P : Nat) : Int) != 0)) := by
    show _ = _
    unfold Ch.bitB
    rw [hq, hr, hy, Int.toNat_natCast, ← hP]
    exact bit_and y r
  have hand : bits .and .u8 (y : Int) (P : Int) = ((y &&& P : Nat) : Int) := u8_and_nat y P hy256 hP256
  have HR := hide (pchbit_yes p l k X hl hp hk hq hr hP)
  generalize Ch.bitB l k = BB at *
  generalize (384 * p + (k : Int)) = A at *
  clear hg0 hb0 hq hr hP hP256 hr3 hp hk
  go_enter Try.func18, Try.ntmps18
  go_wp2_with (refine wpList_load_row_on (by rfl) 24 _ rfl w.heap.size rfl 24 _ (0, 0) _ (heap_alloc_new w _) Try.underlying24 rfl HSF.out ?_)
  rw [← hX]
  clear hX
  refine HR.out.mono ?_
  rintro e w2 ⟨rfl, hb2⟩
  have hg2 := (hb2.block _ hlt0).trans HG0.out
  have HB2 := hide (HB0.out.trans (hb2.mono HB0.out.size))
  have c0 : w2.cell? ⟨w.heap.size, 1 + q, none⟩ = some (.int .u8 (y : Int)) := by rw [← hy, Nat.add_comm 1 q]; exact (boxed_chart hg2).2 q hq48
  clear hb2 hg2 hy
  go_wp2_with fail
  go_ret
  exact ⟨by rw [HBIT.out]; rfl, HB2.out⟩

theorem chas_any (p : Int) (l : List Int) (at' : Int) (w : World) (hl : l.length = 48) (hz : Nums.Bytes l) (hat : (Lit.int .i64 at').wf = true) (hp : (Lit.int .i64 p).wf = true) :
    Calls Try.prog 18 #[.agg (chartC p l), .int .i64 at'] w fun e w' => e = .returned (.bool (Ch.hasB p l at')) ∧ Below w.heap.size w w' := by
  cases hm : markP p l at' with
  | false =>
    have e : Ch.hasB p l at' = false := by
      unfold Ch.hasB
      unfold markP at hm
      rw [← Bool.and_assoc, hm, Bool.false_and]
    rw [e]
    exact chas_no p l at' w hl hat hm
  | true =>
    unfold markP at hm
    obtain ⟨h1, h2⟩ := Bool.and_eq_true_iff.1 hm
    have h3 := of_decide_eq_true h2
    have e : Ch.hasB p l at' = Ch.bitB l (at' - 384 * p).toNat := by
      unfold Ch.hasB
      rw [h1, h2, Bool.true_and, Bool.true_and]
    rw [e]
    have h := chas_yes p l (at' - 384 * p).toNat w hl hz h1 (by omega)
    rwa [show 384 * p + ((at' - 384 * p).toNat : Int) = at' by omega] at h

set_option maxRecDepth 100000 in
set_option maxHeartbeats 1000000 in
theorem cmark_no (p : Int) (l : List Int) (at' : Int) (on : Bool) (w : World) (hl : l.length = 48) (hat : (Lit.int .i64 at').wf = true) (hp : (Lit.int .i64 p).wf = true) (hm : markP p l at' = false) :
    Calls Try.prog 20 #[.agg (chartC p l), .int .i64 at', .bool on] w fun e w' => e = .returned (.tuple #[.agg (chartC 0 Ch.nil), .bool false]) ∧ Below w.heap.size w w' := by
  obtain ⟨Y, hY⟩ : ∃ Y, Y = (w.alloc (.cells (chartC p l) 24)).alloc (.cells #[Value.int .i64 0, Value.int .u8 0, Value.int .u8 0, Value.int .u8 0, Value.int .u8 0, Value.int .u8 0, Value.int .u8 0, Value.int .u8 0, Value.int .u8 0, Value.int .u8 0, Value.int .u8 0, Value.int .u8 0, Value.int .u8 0, Value.int .u8 0, Value.int .u8 0, Value.int .u8 0, Value.int .u8 0, Value.int .u8 0, Value.int .u8 0, Value.int .u8 0, Value.int .u8 0, Value.int .u8 0, Value.int .u8 0, Value.int .u8 0, Value.int .u8 0, Value.int .u8 0, Value.int .u8 0, Value.int .u8 0, Value.int .u8 0, Value.int .u8 0, Value.int .u8 0, Value.int .u8 0, Value.int .u8 0, Value.int .u8 0, Value.int .u8 0, Value.int .u8 0, Value.int .u8 0, Value.int .u8 0, Value.int .u8 0, Value.int .u8 0, Value.int .u8 0, Value.int .u8 0, Value.int .u8 0, Value.int .u8 0, Value.int .u8 0, Value.int .u8 0, Value.int .u8 0, Value.int .u8 0, Value.int .u8 0] 24) := ⟨_, rfl⟩
  have hb0 : Below w.heap.size w Y := by rw [hY]; exact ((Below.refl _ _).alloc (Nat.le_refl _) _).alloc (by simp) _
  have hy1 : Y.heap[w.heap.size + 1]? = some (.cells #[Value.int .i64 0, Value.int .u8 0, Value.int .u8 0, Value.int .u8 0, Value.int .u8 0, Value.int .u8 0, Value.int .u8 0, Value.int .u8 0, Value.int .u8 0, Value.int .u8 0, Value.int .u8 0, Value.int .u8 0, Value.int .u8 0, Value.int .u8 0, Value.int .u8 0, Value.int .u8 0, Value.int .u8 0, Value.int .u8 0, Value.int .u8 0, Value.int .u8 0, Value.int .u8 0, Value.int .u8 0, Value.int .u8 0, Value.int .u8 0, Value.int .u8 0, Value.int .u8 0, Value.int .u8 0, Value.int .u8 0, Value.int .u8 0, Value.int .u8 0, Value.int .u8 0, Value.int .u8 0, Value.int .u8 0, Value.int .u8 0, Value.int .u8 0, Value.int .u8 0, Value.int .u8 0, Value.int .u8 0, Value.int .u8 0, Value.int .u8 0, Value.int .u8 0, Value.int .u8 0, Value.int .u8 0, Value.int .u8 0, Value.int .u8 0, Value.int .u8 0, Value.int .u8 0, Value.int .u8 0, Value.int .u8 0] 24 (0, 0)) := by
    rw [hY]
    have := heap_alloc_new (w.alloc (.cells (chartC p l) 24)) (.cells #[Value.int .i64 0, Value.int .u8 0, Value.int .u8 0, Value.int .u8 0, Value.int .u8 0, Value.int .u8 0, Value.int .u8 0, Value.int .u8 0, Value.int .u8 0, Value.int .u8 0, Value.int .u8 0, Value.int .u8 0, Value.int .u8 0, Value.int .u8 0, Value.int .u8 0, Value.int .u8 0, Value.int .u8 0, Value.int .u8 0, Value.int .u8 0, Value.int .u8 0, Value.int .u8 0, Value.int .u8 0, Value.int .u8 0, Value.int .u8 0, Value.int .u8 0, Value.int .u8 0, Value.int .u8 0, Value.int .u8 0, Value.int .u8 0, Value.int .u8 0, Value.int .u8 0, Value.int .u8 0, Value.int .u8 0, Value.int .u8 0, Value.int .u8 0, Value.int .u8 0, Value.int .u8 0, Value.int .u8 0, Value.int .u8 0, Value.int .u8 0, Value.int .u8 0, Value.int .u8 0, Value.int .u8 0, Value.int .u8 0, Value.int .u8 0, Value.int .u8 0, Value.int .u8 0, Value.int .u8 0, Value.int .u8 0] 24)
    simpa using this
  have hy0 : ((w.alloc (.cells (chartC p l) 24)).alloc (.cells #[Value.int .i64 0, Value.int .u8 0, Value.int .u8 0, Value.int .u8 0, Value.int .u8 0, Value.int .u8 0, Value.int .u8 0, Value.int .u8 0, Value.int .u8 0, Value.int .u8 0, Value.int .u8 0, Value.int .u8 0, Value.int .u8 0, Value.int .u8 0, Value.int .u8 0, Value.int .u8 0, Value.int .u8 0, Value.int .u8 0, Value.int .u8 0, Value.int .u8 0, Value.int .u8 0, Value.int .u8 0, Value.int .u8 0, Value.int .u8 0, Value.int .u8 0, Value.int .u8 0, Value.int .u8 0, Value.int .u8 0, Value.int .u8 0, Value.int .u8 0, Value.int .u8 0, Value.int .u8 0, Value.int .u8 0, Value.int .u8 0, Value.int .u8 0, Value.int .u8 0, Value.int .u8 0, Value.int .u8 0, Value.int .u8 0, Value.int .u8 0, Value.int .u8 0, Value.int .u8 0, Value.int .u8 0, Value.int .u8 0, Value.int .u8 0, Value.int .u8 0, Value.int .u8 0, Value.int .u8 0, Value.int .u8 0] 24)).heap[w.heap.size]? = some (.cells (chartC p l) 24 (0, 0)) := by
    rw [Below.heap_alloc _ _ _ (by simp)]
    exact heap_alloc_new w _
  have hlt1 : w.heap.size + 1 < Y.heap.size := (Array.getElem?_eq_some_iff.1 hy1).1
  have HB0 := hide hb0
  have HY0 := hide hy0
  have HY1 : Hid (Y.heap[w.heap.size + 1]? = some (.cells (chartC 0 Ch.nil) 24 (0, 0))) := hy1
  have HSF := hide (chart_size p hl)
  have HR := hide (fun W => pchbit_no p l at' W hl hat hm)
  clear hb0 hat hp hm hy0 hy1
  go_enter Try.func20, Try.ntmps20
  go_wp2_with (refine wpList_load_row_on (by rfl) 24 _ rfl w.heap.size rfl 24 _ (0, 0) _ HY0.out Try.underlying24 rfl HSF.out ?_)
  rw [← hY]
  clear hY
  refine (HR.out Y).mono ?_
  rintro e w2 ⟨rfl, hb2⟩
  have HG9 := hide ((hb2.block _ hlt1).trans HY1.out)
  have HB9 := hide (HB0.out.trans (hb2.mono HB0.out.size))
  clear hb2
  go_wp2_with (refine wpList_store_row rfl 24 _ _ rfl (w.heap.size + 1) (chartC 0 Ch.nil) rfl rfl 24 (chartC 0 Ch.nil) HG9.out info_chart rfl (chartC_one _ _) ?_)
  (try simp only [Exit.inBlock, Exit.then]); refine bodyPost_ret (results_row rfl Try.underlying24 _ _ (w.heap.size + 1) (chartC 0 Ch.nil) rfl (setRow_heap _ _ _ _ _ _ HG9.out) info_chart) rfl ?_
  exact ⟨rfl, below_setRow HB9.out (Nat.le_succ _) _⟩

set_option maxRecDepth 100000 in
set_option maxHeartbeats 2000000 in
theorem cmark_k (p : Int) (l : List Int) (k : Nat) (on : Bool) (w : World) (hl : l.length = 48) (hz : Nums.Bytes l) (hp : Ch.right p = true) (hk : k < 384) :
    Calls Try.prog 20 #[.agg (chartC p l), .int .i64 (384 * p + k), .bool on] w fun e w' => e = .returned (.tuple #[.agg (chartC p (Ch.setB l k on)), .bool true]) ∧ Below w.heap.size w w' := by
  obtain ⟨V, hV⟩ : ∃ V : Value, V = .tuple #[.agg (chartC p (Ch.setB l k on)), .bool true] := ⟨_, rfl⟩
  rw [← hV]
  have HV := hide hV
  clear hV
  obtain ⟨Y, hY⟩ : ∃ Y, Y = (w.alloc (.cells (chartC p l) 24)).alloc (.cells #[Value.int .i64 0, Value.int .u8 0, Value.int .u8 0, Value.int .u8 0, Value.int .u8 0, Value.int .u8 0, Value.int .u8 0, Value.int .u8 0, Value.int .u8 0, Value.int .u8 0, Value.int .u8 0, Value.int .u8 0, Value.int .u8 0, Value.int .u8 0, Value.int .u8 0, Value.int .u8 0, Value.int .u8 0, Value.int .u8 0, Value.int .u8 0, Value.int .u8 0, Value.int .u8 0, Value.int .u8 0, Value.int .u8 0, Value.int .u8 0, Value.int .u8 0, Value.int .u8 0, Value.int .u8 0, Value.int .u8 0, Value.int .u8 0, Value.int .u8 0, Value.int .u8 0, Value.int .u8 0, Value.int .u8 0, Value.int .u8 0, Value.int .u8 0, Value.int .u8 0, Value.int .u8 0, Value.int .u8 0, Value.int .u8 0, Value.int .u8 0, Value.int .u8 0, Value.int .u8 0, Value.int .u8 0, Value.int .u8 0, Value.int .u8 0, Value.int .u8 0, Value.int .u8 0, Value.int .u8 0, Value.int .u8 0] 24) := ⟨_, rfl⟩
  have hb0 : Below w.heap.size w Y := by rw [hY]; exact ((Below.refl _ _).alloc (Nat.le_refl _) _).alloc (by simp) _
  have hy1 : Y.heap[w.heap.size + 1]? = some (.cells #[Value.int .i64 0, Value.int .u8 0, Value.int .u8 0, Value.int .u8 0, Value.int .u8 0, Value.int .u8 0, Value.int .u8 0, Value.int .u8 0, Value.int .u8 0, Value.int .u8 0, Value.int .u8 0, Value.int .u8 0, Value.int .u8 0, Value.int .u8 0, Value.int .u8 0, Value.int .u8 0, Value.int .u8 0, Value.int .u8 0, Value.int .u8 0, Value.int .u8 0, Value.int .u8 0, Value.int .u8 0, Value.int .u8 0, Value.int .u8 0, Value.int .u8 0, Value.int .u8 0, Value.int .u8 0, Value.int .u8 0, Value.int .u8 0, Value.int .u8 0, Value.int .u8 0, Value.int .u8 0, Value.int .u8 0, Value.int .u8 0, Value.int .u8 0, Value.int .u8 0, Value.int .u8 0, Value.int .u8 0, Value.int .u8 0, Value.int .u8 0, Value.int .u8 0, Value.int .u8 0, Value.int .u8 0, Value.int .u8 0, Value.int .u8 0, Value.int .u8 0, Value.int .u8 0, Value.int .u8 0, Value.int .u8 0] 24 (0, 0)) := by
    rw [hY]
    have := heap_alloc_new (w.alloc (.cells (chartC p l) 24)) (.cells #[Value.int .i64 0, Value.int .u8 0, Value.int .u8 0, Value.int .u8 0, Value.int .u8 0, Value.int .u8 0, Value.int .u8 0, Value.int .u8 0, Value.int .u8 0, Value.int .u8 0, Value.int .u8 0, Value.int .u8 0, Value.int .u8 0, Value.int .u8 0, Value.int .u8 0, Value.int .u8 0, Value.int .u8 0, Value.int .u8 0, Value.int .u8 0, Value.int .u8 0, Value.int .u8 0, Value.int .u8 0, Value.int .u8 0, Value.int .u8 0, Value.int .u8 0, Value.int .u8 0, Value.int .u8 0, Value.int .u8 0, Value.int .u8 0, Value.int .u8 0, Value.int .u8 0, Value.int .u8 0, Value.int .u8 0, Value.int .u8 0, Value.int .u8 0, Value.int .u8 0, Value.int .u8 0, Value.int .u8 0, Value.int .u8 0, Value.int .u8 0, Value.int .u8 0, Value.int .u8 0, Value.int .u8 0, Value.int .u8 0, Value.int .u8 0, Value.int .u8 0, Value.int .u8 0, Value.int .u8 0, Value.int .u8 0] 24)
    simpa using this
  have hy0 : ((w.alloc (.cells (chartC p l) 24)).alloc (.cells #[Value.int .i64 0, Value.int .u8 0, Value.int .u8 0, Value.int .u8 0, Value.int .u8 0, Value.int .u8 0, Value.int .u8 0, Value.int .u8 0, Value.int .u8 0, Value.int .u8 0, Value.int .u8 0, Value.int .u8 0, Value.int .u8 0, Value.int .u8 0, Value.int .u8 0, Value.int .u8 0, Value.int .u8 0, Value.int .u8 0, Value.int .u8 0, Value.int .u8 0, Value.int .u8 0, Value.int .u8 0, Value.int .u8 0, Value.int .u8 0, Value.int .u8 0, Value.int .u8 0, Value.int .u8 0, Value.int .u8 0, Value.int .u8 0, Value.int .u8 0, Value.int .u8 0, Value.int .u8 0, Value.int .u8 0, Value.int .u8 0, Value.int .u8 0, Value.int .u8 0, Value.int .u8 0, Value.int .u8 0, Value.int .u8 0, Value.int .u8 0, Value.int .u8 0, Value.int .u8 0, Value.int .u8 0, Value.int .u8 0, Value.int .u8 0, Value.int .u8 0, Value.int .u8 0, Value.int .u8 0, Value.int .u8 0] 24)).heap[w.heap.size]? = some (.cells (chartC p l) 24 (0, 0)) := by
    rw [Below.heap_alloc _ _ _ (by simp)]
    exact heap_alloc_new w _
  have hlt1 : w.heap.size + 1 < Y.heap.size := (Array.getElem?_eq_some_iff.1 hy1).1
  obtain ⟨q, hq⟩ : ∃ q : Nat, k / 8 = q := ⟨_, rfl⟩
  obtain ⟨r, hr⟩ : ∃ r : Nat, k % 8 = r := ⟨_, rfl⟩
  obtain ⟨P, hP⟩ : ∃ P : Nat, 2 ^ r = P := ⟨_, rfl⟩
  have hr3 : r < 8 := by omega
  have hP256 : P < 256 := by rw [← hP]; exact Nat.pow_lt_pow_right (n := 8) (by decide) hr3
  have hq48 : q < l.length := by omega
  have hqI : (q : Int) < 48 := by omega
  obtain ⟨y, hy⟩ : ∃ y : Nat, l.getD q 0 = (y : Int) := ⟨(l.getD q 0).toNat, by have := Ch.byte_at hz q; omega⟩
  have hy256 : y < 256 := by have := Ch.byte_at hz q; omega
  have HSB : Hid (Ch.setB l k on = l.set q ((if on = true then y ||| P else (y ||| P) ^^^ P : Nat) : Int)) := by
    show _ = _
    unfold Ch.setB Ch.setN
    rw [hq, hr, hy, Int.toNat_natCast, hP]
  have hor : bits .or .u8 (y : Int) (P : Int) = ((y ||| P : Nat) : Int) := u8_or_nat y P hy256 hP256
  have han : bits .andNot .u8 (y : Int) (P : Int) = (((y ||| P) ^^^ P : Nat) : Int) := u8_andNot_nat y P hy256 hP256
  have HB0 := hide hb0
  have HY0 := hide hy0
  have HY1 : Hid (Y.heap[w.heap.size + 1]? = some (.cells (chartC 0 Ch.nil) 24 (0, 0))) := hy1
  have HSF := hide (fun (m : List Int) (hm : m.length = 48) => chart_size p hm)
  have HSZ := hide (fun (m : List Int) (hm : m.length = 48) => show (chartC 0 Ch.nil).size = (chartC p m).size by rw [chartC_size, chartC_size, hm]; rfl)
  have HR := hide (fun W => pchbit_yes p l k W hl hp hk hq hr hP)
  have HL := hide hl
  generalize (384 * p + (k : Int)) = A at *
  have HYB : Hid (Y.heap[w.heap.size]? = some (.cells (chartC p l) 24 (0, 0))) := by show _ = _; rw [hY]; exact hy0
  clear hb0 hy0 hy1 hq hr hP hP256 hr3 hp hk hy256 hz
  have HQ := hide hq48
  generalize (y ||| P) = O1 at *
  generalize (O1 ^^^ P) = O2 at *
  cases on with
  | true =>
    rw [if_pos rfl] at HSB
    rw [HSB.out] at HV
    go_enter Try.func20, Try.ntmps20
    go_wp2_with (refine wpList_load_row_on (by rfl) 24 _ rfl w.heap.size rfl 24 _ (0, 0) _ HY0.out Try.underlying24 rfl (HSF.out l HL.out) ?_)
    rw [← hY]
    clear hY
    refine (HR.out Y).mono ?_
    rintro e w2 ⟨rfl, hb2⟩
    have hg2 := (hb2.block _ (Nat.lt_of_succ_lt hlt1)).trans HYB.out
    have HG2 := hide hg2
    have HG9 := hide ((hb2.block _ hlt1).trans HY1.out)
    have HB9 := hide (HB0.out.trans (hb2.mono HB0.out.size))
    have c0 : w2.cell? ⟨w.heap.size, 1 + q, none⟩ = some (.int .u8 (y : Int)) := by rw [← hy, Nat.add_comm 1 q]; exact (boxed_chart hg2).2 q HQ.out
    have f0 : w2.frozen? ⟨w.heap.size, 1 + q, none⟩ = false := by simp [World.frozen?, hg2]
    obtain ⟨W, hW⟩ : ∃ W, W = w2.setCell ⟨w.heap.size, 1 + q, none⟩ (.int .u8 (O1 : Int)) := ⟨_, rfl⟩
    have HG3 : Hid ((w2.setCell ⟨w.heap.size, 1 + q, none⟩ (.int .u8 (O1 : Int))).heap[w.heap.size]? = some (.cells (chartC p (l.set q (O1 : Int))) 24 (0, 0))) := by
      show _ = _
      rw [heap_set hg2, Nat.add_comm 1 q, chartC_setB]
    have HG8 : Hid ((w2.setCell ⟨w.heap.size, 1 + q, none⟩ (.int .u8 (O1 : Int))).heap[w.heap.size + 1]? = some (.cells (chartC 0 Ch.nil) 24 (0, 0))) := by
      show _ = _
      rw [heap_set_far (by omega)]
      exact HG9.out
    have HB8 : Hid (Below w.heap.size w (w2.setCell ⟨w.heap.size, 1 + q, none⟩ (.int .u8 (O1 : Int)))) := HB9.out.setCell (p := ⟨w.heap.size, 1 + q, none⟩) (Nat.le_refl _) _
    have HLM : Hid ((l.set q (O1 : Int)).length = 48) := by show _ = _; rw [List.length_set]; exact HL.out
    have HSM := hide (HSF.out _ HLM.out)
    have HZM := hide (HSZ.out _ HLM.out)
    clear hb2 hg2 hy hq48 hlt1 hl hW
    generalize l.set q (O1 : Int) = M at *
    go_wp2_with (first | (refine wpList_load_row_on (by rfl) 24 _ rfl w.heap.size rfl 24 _ (0, 0) _ HG3.out Try.underlying24 rfl HSM.out ?_) | (refine wpList_store_row rfl 24 _ _ rfl (w.heap.size + 1) (chartC p M) rfl rfl 24 (chartC 0 Ch.nil) HG8.out HSM.out HZM.out (chartC_one _ _) ?_))
    (try simp only [Exit.inBlock, Exit.then]); refine bodyPost_ret (results_row rfl Try.underlying24 _ _ (w.heap.size + 1) (chartC p M) rfl (setRow_heap _ _ _ _ _ _ HG8.out) HSM.out) rfl ?_
    exact ⟨by rw [HV.out]; rfl, below_setRow HB8.out (Nat.le_succ _) _⟩
  | false =>
    rw [if_neg (by decide)] at HSB
    rw [HSB.out] at HV
    go_enter Try.func20, Try.ntmps20
    go_wp2_with (refine wpList_load_row_on (by rfl) 24 _ rfl w.heap.size rfl 24 _ (0, 0) _ HY0.out Try.underlying24 rfl (HSF.out l HL.out) ?_)
    rw [← hY]
    clear hY
    refine (HR.out Y).mono ?_
    rintro e w2 ⟨rfl, hb2⟩
    have hg2 := (hb2.block _ (Nat.lt_of_succ_lt hlt1)).trans HYB.out
    have HG2 := hide hg2
    have HG9 := hide ((hb2.block _ hlt1).trans HY1.out)
    have HB9 := hide (HB0.out.trans (hb2.mono HB0.out.size))
    have c0 : w2.cell? ⟨w.heap.size, 1 + q, none⟩ = some (.int .u8 (y : Int)) := by rw [← hy, Nat.add_comm 1 q]; exact (boxed_chart hg2).2 q HQ.out
    have f0 : w2.frozen? ⟨w.heap.size, 1 + q, none⟩ = false := by simp [World.frozen?, hg2]
    obtain ⟨W, hW⟩ : ∃ W, W = w2.setCell ⟨w.heap.size, 1 + q, none⟩ (.int .u8 (O2 : Int)) := ⟨_, rfl⟩
    have HG3 : Hid ((w2.setCell ⟨w.heap.size, 1 + q, none⟩ (.int .u8 (O2 : Int))).heap[w.heap.size]? = some (.cells (chartC p (l.set q (O2 : Int))) 24 (0, 0))) := by
      show _ = _
      rw [heap_set hg2, Nat.add_comm 1 q, chartC_setB]
    have HG8 : Hid ((w2.setCell ⟨w.heap.size, 1 + q, none⟩ (.int .u8 (O2 : Int))).heap[w.heap.size + 1]? = some (.cells (chartC 0 Ch.nil) 24 (0, 0))) := by
      show _ = _
      rw [heap_set_far (by omega)]
      exact HG9.out
    have HB8 : Hid (Below w.heap.size w (w2.setCell ⟨w.heap.size, 1 + q, none⟩ (.int .u8 (O2 : Int)))) := HB9.out.setCell (p := ⟨w.heap.size, 1 + q, none⟩) (Nat.le_refl _) _
    have HLM : Hid ((l.set q (O2 : Int)).length = 48) := by show _ = _; rw [List.length_set]; exact HL.out
    have HSM := hide (HSF.out _ HLM.out)
    have HZM := hide (HSZ.out _ HLM.out)
    clear hb2 hg2 hy hq48 hlt1 hl hW
    generalize l.set q (O2 : Int) = M at *
    go_wp2_with (first | (refine wpList_load_row_on (by rfl) 24 _ rfl w.heap.size rfl 24 _ (0, 0) _ HG3.out Try.underlying24 rfl HSM.out ?_) | (refine wpList_store_row rfl 24 _ _ rfl (w.heap.size + 1) (chartC p M) rfl rfl 24 (chartC 0 Ch.nil) HG8.out HSM.out HZM.out (chartC_one _ _) ?_))
    (try simp only [Exit.inBlock, Exit.then]); refine bodyPost_ret (results_row rfl Try.underlying24 _ _ (w.heap.size + 1) (chartC p M) rfl (setRow_heap _ _ _ _ _ _ HG8.out) HSM.out) rfl ?_
    exact ⟨by rw [HV.out]; rfl, below_setRow HB8.out (Nat.le_succ _) _⟩

theorem cmark_yes (p : Int) (l : List Int) (at' : Int) (on : Bool) (w : World) (hl : l.length = 48) (hz : Nums.Bytes l) (hm : markP p l at' = true) :
    Calls Try.prog 20 #[.agg (chartC p l), .int .i64 at', .bool on] w fun e w' => e = .returned (.tuple #[.agg (chartC p (Ch.setB l (at' - 384 * p).toNat on)), .bool true]) ∧ Below w.heap.size w w' := by
  unfold markP at hm
  obtain ⟨h1, h2⟩ := Bool.and_eq_true_iff.1 hm
  have h3 := of_decide_eq_true h2
  have h := cmark_k p l (at' - 384 * p).toNat on w hl hz h1 (by omega)
  rwa [show 384 * p + ((at' - 384 * p).toNat : Int) = at' by omega] at h
end Go.Proofs.Ytilnimdliebfnaa
