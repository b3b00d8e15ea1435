/-
  Plain charts: which are right, their blocks, which bits are set.
-/
import Derived.Test.YtilnimdliebfnaaNdNums
namespace Go.Proofs.Ytilnimdliebfnaa
set_option linter.unusedVariables false
set_option linter.unusedSimpArgs false
namespace Ch

def right (p : Int) : Bool := decide (0 ≤ p ∧ p ≤ 7)
/-- a chart's block, of its place and its 48 octets. -/
def block (p : Int) (l : List Int) : List Int := Bk.shut 4 p l
def got (zs : List Int) : Bool := decide (Bk.isB zs = true ∧ zs.getD 4 0 = 4 ∧ zs.getD 5 0 ≤ 7 ∧ block (zs.getD 5 0) ((zs.drop 8).take 48) = zs)
def nil : List Int := List.replicate 48 0
def tellsP (zs : List Int) : Int := if got zs = true then zs.getD 5 0 else 0
def tellsL (zs : List Int) : List Int := if got zs = true then (zs.drop 8).take 48 else nil
/-- the bit of the i-th block. -/
def bitB (l : List Int) (i : Nat) : Bool := (l.getD (i / 8) 0).toNat.testBit (i % 8)
def setN (b k : Nat) (on : Bool) : Nat := if on = true then b ||| 2 ^ k else (b ||| 2 ^ k) ^^^ 2 ^ k
def setB (l : List Int) (i : Nat) (on : Bool) : List Int := l.set (i / 8) ((setN (l.getD (i / 8) 0).toNat (i % 8) on : Nat) : Int)
/-- the numbers of the first n of its blocks that are marked. -/
def listTo (p : Int) (l : List Int) (n : Nat) : List Int := ((List.range n).filter (bitB l)).map fun i : Nat => 384 * p + i
def list (p : Int) (l : List Int) : List Int := if right p = true then listTo p l 384 else []
def hasB (p : Int) (l : List Int) (at' : Int) : Bool := right p && (decide (384 * p ≤ at' ∧ at' < 384 * p + 384) && bitB l (at' - 384 * p).toNat)
/-- a chart of a place, of numbers. -/
def step (p : Int) (l : List Int) (n : Int) : List Int := if 384 * p ≤ n ∧ n < 384 * p + 384 then setB l (n - 384 * p).toNat true else l
def made (p : Int) (ns : List Int) : List Int := ns.foldl (step p) nil

theorem tells_length (zs : List Int) : (tellsL zs).length = 48 := by
  unfold tellsL
  split
  · rename_i h
    have := (of_decide_eq_true (of_decide_eq_true h).1).1
    simp
    omega
  · rfl
theorem got_block {p : Int} {l : List Int} (hp : right p = true) (hl : l.length = 48) : got (block p l) = true ∧ tellsP (block p l) = p ∧ tellsL (block p l) = l := by
  have hp' := of_decide_eq_true hp
  obtain ⟨h4, h5, h8⟩ := Bk.shut_parts (k := 4) (t := p) (body := l)
  have hb : Bk.isB (block p l) = true := Bk.shut_isB (by decide) (by omega)
  have ht : (Bk.fill l 56).take 48 = l := by
    unfold Bk.fill
    rw [← hl]
    exact List.take_left
  have hg : got (block p l) = true := by
    unfold block
    refine decide_eq_true ⟨hb, h4, by rw [h5]; omega, ?_⟩
    rw [h5, h8, ht]
    rfl
  refine ⟨hg, ?_, ?_⟩
  · unfold tellsP
    rw [if_pos hg]
    exact h5
  · unfold tellsL
    rw [if_pos hg]
    show ((Bk.shut 4 p l).drop 8).take 48 = l
    rw [h8, ht]
theorem block_length {p : Int} {l : List Int} (hl : l.length = 48) : (block p l).length = 64 := Bk.shut_length (by omega)
theorem block_bytes {p : Int} {l : List Int} (hp : right p = true) (hb : Nums.Bytes l) : Nums.Bytes (block p l) := by
  have := of_decide_eq_true hp
  exact Bk.shut_bytes (by decide) (by omega) hb

theorem testBit_set (b k j : Nat) (on : Bool) : (setN b k on).testBit j = if j = k then on else b.testBit j := by
  unfold setN
  cases on
  · rw [if_neg (by decide), Nat.testBit_xor, Nat.testBit_or, Nat.testBit_two_pow]
    by_cases h : j = k
    · subst h; simp
    · simp [h, Ne.symm h]
  · rw [if_pos rfl, Nat.testBit_or, Nat.testBit_two_pow]
    by_cases h : j = k
    · subst h; simp
    · simp [h, Ne.symm h]
theorem setN_lt {b k : Nat} (on : Bool) (hb : b < 256) (hk : k < 8) : setN b k on < 256 := by
  have h2 : (2 : Nat) ^ k < 2 ^ 8 := Nat.pow_lt_pow_right (by decide) hk
  have hb' : b < 2 ^ 8 := hb
  have h1 := Nat.or_lt_two_pow hb' h2
  unfold setN
  split
  · exact h1
  · exact Nat.xor_lt_two_pow h1 h2
theorem setB_length (l : List Int) (i : Nat) (on : Bool) : (setB l i on).length = l.length := List.length_set
theorem byte_at {l : List Int} (hz : Nums.Bytes l) (i : Nat) : 0 ≤ l.getD i 0 ∧ l.getD i 0 ≤ 255 := by
  rw [List.getD_eq_getElem?_getD]
  by_cases h : i < l.length
  · rw [List.getElem?_eq_getElem h]
    exact hz _ (List.getElem_mem _)
  · rw [List.getElem?_eq_none (by omega)]
    decide
theorem setB_bytes {l : List Int} (hz : Nums.Bytes l) (i : Nat) (on : Bool) : Nums.Bytes (setB l i on) := fun z hm => by
  have hb := byte_at hz (i / 8)
  rcases List.mem_or_eq_of_mem_set hm with h | rfl
  · exact hz z h
  · have := setN_lt (b := (l.getD (i / 8) 0).toNat) (k := i % 8) on (by omega) (by omega)
    omega
theorem bit_set {l : List Int} (i j : Nat) (on : Bool) (hi : i / 8 < l.length) : bitB (setB l i on) j = if j = i then on else bitB l j := by
  unfold bitB setB
  rw [List.getD_eq_getElem?_getD, List.getElem?_set]
  by_cases h : i / 8 = j / 8
  · rw [if_pos h, if_pos (by omega)]
    simp only [Option.getD_some, Int.toNat_natCast]
    rw [testBit_set]
    by_cases h2 : j = i
    · subst h2; simp
    · rw [if_neg (by omega), if_neg h2, h]
  · rw [if_neg h, if_neg (by rintro rfl; exact h rfl), ← List.getD_eq_getElem?_getD]
theorem bits_ext {l m : List Int} (hl : l.length = 48) (hm : m.length = 48) (hz : Nums.Bytes l) (hy : Nums.Bytes m) (h : ∀ i, i < 384 → bitB l i = bitB m i) : l = m := by
  apply List.ext_getElem (by omega)
  intro i h1 h2
  have a := hz _ (List.getElem_mem h1)
  have b := hy _ (List.getElem_mem h2)
  have e : l[i].toNat = m[i].toNat := by
    apply Nat.eq_of_testBit_eq
    intro k
    by_cases hk : k < 8
    · have := h (8 * i + k) (by omega)
      unfold bitB at this
      rw [show (8 * i + k) / 8 = i by omega, show (8 * i + k) % 8 = k by omega] at this
      simpa [List.getD_eq_getElem?_getD, h1, h2] using this
    · have t : (256 : Nat) ≤ 2 ^ k := Nat.pow_le_pow_right (n := 2) (by decide) (show 8 ≤ k by omega)
      rw [Nat.testBit_lt_two_pow (by omega), Nat.testBit_lt_two_pow (by omega)]
  omega
theorem nil_bytes : Nums.Bytes nil := Nums.bytes_replicate 48
theorem bit_nil (i : Nat) : bitB nil i = false := by
  have h : nil.getD (i / 8) 0 = 0 := by
    rw [List.getD_eq_getElem?_getD]
    cases hq : nil[i / 8]? with
    | none => rfl
    | some z => exact List.eq_of_mem_replicate (List.mem_of_getElem? hq)
  unfold bitB
  rw [h]
  exact Nat.zero_testBit _

theorem step_ok (p : Int) {l : List Int} (hl : l.length = 48) (hz : Nums.Bytes l) (n : Int) : (step p l n).length = 48 ∧ Nums.Bytes (step p l n) ∧ ∀ i, i < 384 → bitB (step p l n) i = (bitB l i || decide (n = 384 * p + i)) := by
  unfold step
  split
  · rename_i h
    refine ⟨by rw [setB_length]; exact hl, setB_bytes hz _ _, fun i hi => ?_⟩
    rw [bit_set _ _ _ (by omega)]
    by_cases e : i = (n - 384 * p).toNat
    · rw [if_pos e, decide_eq_true (by omega)]; simp
    · rw [if_neg e, decide_eq_false (by omega)]; simp
  · rename_i h
    refine ⟨hl, hz, fun i hi => ?_⟩
    rw [decide_eq_false (by omega), Bool.or_false]
theorem made_from (p : Int) : ∀ (ns : List Int) (l : List Int), l.length = 48 → Nums.Bytes l → (ns.foldl (step p) l).length = 48 ∧ Nums.Bytes (ns.foldl (step p) l) ∧ ∀ i, i < 384 → bitB (ns.foldl (step p) l) i = (bitB l i || ns.any fun n => decide (n = 384 * p + i))
  | [], l, hl, hz => ⟨hl, hz, fun i _ => by simp⟩
  | n :: ns, l, hl, hz => by
    obtain ⟨h1, h2, h3⟩ := step_ok p hl hz n
    obtain ⟨k1, k2, k3⟩ := made_from p ns (step p l n) h1 h2
    refine ⟨k1, k2, fun i hi => ?_⟩
    rw [List.foldl_cons, k3 i hi, h3 i hi, List.any_cons, Bool.or_assoc]
theorem any_list (p : Int) (l : List Int) (n i : Nat) (hi : i < n) : ((listTo p l n).any fun x => decide (x = 384 * p + i)) = bitB l i := by
  rw [Bool.eq_iff_iff, List.any_eq_true]
  constructor
  · rintro ⟨x, hx, e⟩
    obtain ⟨j, hj, rfl⟩ := List.mem_map.1 hx
    have := of_decide_eq_true e
    obtain rfl : j = i := by omega
    exact (List.mem_filter.1 hj).2
  · intro h
    exact ⟨384 * p + i, List.mem_map.2 ⟨i, List.mem_filter.2 ⟨List.mem_range.2 hi, h⟩, rfl⟩, by simp⟩
/-- made of its own numbers, a chart is itself. -/
theorem made_list (p : Int) {l : List Int} (hl : l.length = 48) (hz : Nums.Bytes l) : made p (listTo p l 384) = l := by
  obtain ⟨h1, h2, h3⟩ := made_from p (listTo p l 384) nil rfl nil_bytes
  refine bits_ext h1 hl h2 hz fun i hi => ?_
  have e := h3 i hi
  rw [bit_nil, Bool.false_or, any_list p l 384 i hi] at e
  exact e
theorem has_list (p : Int) (l : List Int) (at' : Int) : (list p l).any (fun x => decide (x = at')) = hasB p l at' := by
  unfold list hasB
  cases hr : right p with
  | false => simp
  | true =>
    rw [if_pos rfl, Bool.true_and]
    by_cases h : 384 * p ≤ at' ∧ at' < 384 * p + 384
    · rw [decide_eq_true h, Bool.true_and]
      obtain ⟨i, hi, rfl⟩ : ∃ i : Nat, i < 384 ∧ at' = 384 * p + i := ⟨(at' - 384 * p).toNat, by omega, by omega⟩
      rw [any_list p l 384 i hi, show (384 * p + (i : Int) - 384 * p).toNat = i by omega]
    · rw [decide_eq_false h, Bool.false_and, Bool.eq_false_iff]
      intro e
      obtain ⟨x, hx, e⟩ := List.any_eq_true.1 e
      obtain ⟨j, hj, rfl⟩ := List.mem_map.1 hx
      have h1 := of_decide_eq_true e
      have h2 := List.mem_range.1 (List.mem_filter.1 hj).1
      omega
theorem list_length (p : Int) (l : List Int) (n : Nat) : (listTo p l n).length ≤ n := by
  unfold listTo
  rw [List.length_map]
  have h := List.length_filter_le (bitB l) (List.range n)
  rwa [List.length_range] at h
theorem list_le (p : Int) (l : List Int) : (list p l).length ≤ 384 := by
  unfold list
  split
  · exact list_length p l 384
  · decide
theorem list_succ (p : Int) (l : List Int) (n : Nat) : listTo p l (n + 1) = listTo p l n ++ (if bitB l n = true then [384 * p + n] else []) := by
  unfold listTo
  rw [List.range_succ, List.filter_append, List.map_append]
  cases h : bitB l n <;> simp [h]
end Ch
end Go.Proofs.Ytilnimdliebfnaa
