/-
  Plain leaves and fans: which are right, their blocks, whose block octets are.
-/
import Derived.Test.YtjehcgkmapapbaaNdNums
namespace Go.Proofs.Ytjehcgkmapapbaa
set_option linter.unusedVariables false
set_option linter.unusedSimpArgs false
namespace Pg

structure Seat where
  live : Bool
  gen : Int
  next : Int

def seatB (x : Seat) : Bool := decide (0 ≤ x.gen ∧ x.gen ≤ 4294967295) && (if x.live = true then decide (0 < x.gen ∧ 2 ≤ x.next ∧ x.next ≤ 3071) else decide (0 ≤ x.next ∧ x.next ≤ 1792 ∧ (x.gen ≠ 0 ∨ x.next = 0)))
theorem seat_bounds {x : Seat} (h : seatB x = true) : (0 ≤ x.gen ∧ x.gen ≤ 4294967295) ∧ (0 ≤ x.next ∧ x.next ≤ 3071) := by
  unfold seatB at h
  obtain ⟨h1, h2⟩ := Bool.and_eq_true_iff.1 h
  have h1' := of_decide_eq_true h1
  refine ⟨h1', ?_⟩
  split at h2
  · have := of_decide_eq_true h2; omega
  · have := of_decide_eq_true h2; omega
def bit (x : Seat) : Nat := if x.live = true then 1 else 0
/-- the sum of 2^i of all i whose seat is live. -/
def tag : List Seat → Nat
  | [] => 0
  | x :: r => bit x + 2 * tag r
def seatsB (l : List Seat) : List Int := l.flatMap fun x => Nums.lay x.gen 4 ++ Nums.lay x.next 4
def leafR (l : List Seat) : Bool := l.all seatB
def leaf (l : List Seat) : List Int := Bk.shut 2 (tag l : Nat) (seatsB l)
def seatAt (s : List Int) (t i : Nat) : Seat := ⟨decide (t / 2 ^ i % 2 = 1), Nums.rd ((s.drop (8 * i)).take 4), Nums.rd ((s.drop (8 * i + 4)).take 4)⟩
def leafTo (s : List Int) (t n : Nat) : List Seat := (List.range n).map (seatAt s t)
def told (zs : List Int) : List Seat := leafTo (zs.drop 8) (zs.getD 5 0).toNat 7
def gotL (zs : List Int) : Bool := decide (Bk.isB zs = true ∧ zs.getD 4 0 = 2 ∧ leafR (told zs) = true ∧ leaf (told zs) = zs)
def nil : List Seat := List.replicate 7 ⟨false, 0, 0⟩
def tellsL (zs : List Int) : List Seat := if gotL zs = true then told zs else nil

theorem bit_le (x : Seat) : bit x ≤ 1 := by unfold bit; split <;> omega
theorem tag_lt : ∀ l : List Seat, tag l < 2 ^ l.length
  | [] => by decide
  | x :: r => by
    have := tag_lt r
    have := bit_le x
    simp only [tag, List.length_cons, Nat.pow_succ]
    omega
theorem tag_bit : ∀ (l : List Seat) (i : Nat) (h : i < l.length), tag l / 2 ^ i % 2 = bit l[i]
  | [], i, h => by simp at h
  | x :: r, 0, h => by
    have := bit_le x
    simp only [tag, Nat.pow_zero, Nat.div_one, List.getElem_cons_zero]
    omega
  | x :: r, i + 1, h => by
    have ih := tag_bit r i (by simpa using h)
    have := bit_le x
    rw [List.getElem_cons_succ, ← ih, Nat.pow_succ, Nat.mul_comm (2 ^ i) 2, ← Nat.div_div_eq_div_mul]
    congr 2
    simp only [tag]
    omega
theorem tag_snoc (l : List Seat) (x : Seat) : tag (l ++ [x]) = tag l + 2 ^ l.length * bit x := by
  induction l with
  | nil => simp [tag]
  | cons y r ih =>
    simp only [List.cons_append, tag, ih, List.length_cons, Nat.pow_succ]
    rw [Nat.mul_add, Nat.mul_comm (2 ^ r.length) 2, Nat.mul_assoc]
    omega
theorem seatsB_length : ∀ l : List Seat, (seatsB l).length = 8 * l.length
  | [] => rfl
  | x :: r => by
    have := seatsB_length r
    unfold seatsB at *
    simp only [List.flatMap_cons, List.length_append, Nums.length_lay, this, List.length_cons]
    omega
theorem seatsB_bytes (l : List Seat) : Nums.Bytes (seatsB l) := fun z hz => by
  obtain ⟨x, _, h⟩ := List.mem_flatMap.1 hz
  exact Nums.bytes_append (Nums.bytes_lay _ _) (Nums.bytes_lay _ _) z h
theorem seatsB_snoc (l : List Seat) (x : Seat) : seatsB (l ++ [x]) = seatsB l ++ Nums.lay x.gen 4 ++ Nums.lay x.next 4 := by simp [seatsB]
theorem seatsB_at : ∀ (l : List Seat) (tail : List Int) (i : Nat) (h : i < l.length), ∃ r, (seatsB l ++ tail).drop (8 * i) = Nums.lay l[i].gen 4 ++ (Nums.lay l[i].next 4 ++ r)
  | [], _, i, h => by simp at h
  | x :: r, tail, 0, _ => ⟨seatsB r ++ tail, by simp [seatsB]⟩
  | x :: r, tail, i + 1, h => by
    obtain ⟨q, hq⟩ := seatsB_at r tail i (by simpa using h)
    have e : seatsB (x :: r) ++ tail = (Nums.lay x.gen 4 ++ Nums.lay x.next 4) ++ (seatsB r ++ tail) := by simp [seatsB]
    refine ⟨q, ?_⟩
    rw [e, show 8 * (i + 1) = 8 + 8 * i by omega, ← List.drop_drop, List.drop_left' (by rw [List.length_append, Nums.length_lay, Nums.length_lay]), hq]
    rfl
theorem right_mem {l : List Seat} (h : leafR l = true) : ∀ x ∈ l, seatB x = true := List.all_eq_true.1 h
theorem leaf_length {l : List Seat} (h : l.length = 7) : (leaf l).length = 64 := Bk.shut_length (by rw [seatsB_length]; omega)
theorem tag_byte {l : List Seat} (h : l.length = 7) : (0 : Int) ≤ (tag l : Nat) ∧ ((tag l : Nat) : Int) ≤ 255 := by
  have := tag_lt l
  rw [h] at this
  omega
theorem leaf_bytes {l : List Seat} (h : l.length = 7) : Nums.Bytes (leaf l) := Bk.shut_bytes (by decide) (tag_byte h) (seatsB_bytes l)
theorem leaf_isB {l : List Seat} (h : l.length = 7) : Bk.isB (leaf l) = true := Bk.shut_isB (by decide) (by rw [seatsB_length]; omega)
theorem leafTo_seats {l : List Seat} (hr : leafR l = true) (tail : List Int) : leafTo (seatsB l ++ tail) (tag l) l.length = l := by
  apply List.ext_getElem (by simp [leafTo])
  intro i h1 h2
  have hb := seat_bounds (right_mem hr _ (List.getElem_mem h2))
  simp only [leafTo, List.getElem_map, List.getElem_range, seatAt]
  obtain ⟨r, hr'⟩ := seatsB_at l tail i h2
  have e1 : Nums.rd (((seatsB l ++ tail).drop (8 * i)).take 4) = l[i].gen := by
    rw [hr', List.take_left' (Nums.length_lay 4 _), Nums.rd_lay]
    omega
  have e2 : Nums.rd (((seatsB l ++ tail).drop (8 * i + 4)).take 4) = l[i].next := by
    rw [← List.drop_drop, hr', List.drop_left' (Nums.length_lay 4 _), List.take_left' (Nums.length_lay 4 _), Nums.rd_lay]
    omega
  have e3 : decide (tag l / 2 ^ i % 2 = 1) = l[i].live := by
    rw [tag_bit l i h2]
    unfold bit
    cases l[i].live <;> rfl
  rw [e1, e2, e3]
theorem told_leaf {l : List Seat} (h : l.length = 7) (hr : leafR l = true) : told (leaf l) = l := by
  obtain ⟨_, h5, h8⟩ := Bk.shut_parts (k := 2) (t := ((tag l : Nat) : Int)) (body := seatsB l)
  unfold told leaf
  rw [h5, h8, Int.toNat_natCast]
  have := leafTo_seats hr (List.replicate (56 - (seatsB l).length) 0)
  rw [h] at this
  exact this
theorem got_leaf {l : List Seat} (h : l.length = 7) (hr : leafR l = true) : gotL (leaf l) = true := by
  obtain ⟨h4, _, _⟩ := Bk.shut_parts (k := 2) (t := ((tag l : Nat) : Int)) (body := seatsB l)
  refine decide_eq_true ⟨leaf_isB h, h4, ?_, ?_⟩
  · rw [told_leaf h hr]; exact hr
  · rw [told_leaf h hr]
theorem told_length (zs : List Int) : (told zs).length = 7 := by simp [told, leafTo]
theorem gotL_right {zs : List Int} (h : gotL zs = true) : leafR (told zs) = true ∧ leaf (told zs) = zs := (of_decide_eq_true h).2.2
theorem tells_leaf {l : List Seat} (h : l.length = 7) (hr : leafR l = true) : tellsL (leaf l) = l := by unfold tellsL; rw [if_pos (got_leaf h hr), told_leaf h hr]
theorem leaf_inj {l m : List Seat} (hl : l.length = 7) (hm : m.length = 7) (hr : leafR l = true) (hr' : leafR m = true) (e : leaf l = leaf m) : l = m := by
  rw [← told_leaf hl hr, e, told_leaf hm hr']
theorem tellsL_length (zs : List Int) : (tellsL zs).length = 7 := by
  unfold tellsL
  split
  · exact told_length zs
  · rfl
theorem leafTo_succ (s : List Int) (t n : Nat) : leafTo s t (n + 1) = leafTo s t n ++ [seatAt s t n] := by simp [leafTo, List.range_succ]

/-- fans. -/
def fanR (l : List Int) : Bool := l.all fun k => k == 0 || Nd.kidB k
def fan (l : List Int) : List Int := Bk.shut 3 0 (Nd.kidsB l)
def fanTo (s : List Int) (n : Nat) : List Int := (List.range n).map fun i => Nums.rd ((s.drop (2 * i)).take 2)
def toldF (zs : List Int) : List Int := fanTo (zs.drop 8) 16
def gotF (zs : List Int) : Bool := decide (Bk.isB zs = true ∧ zs.getD 4 0 = 3 ∧ fanR (toldF zs) = true ∧ fan (toldF zs) = zs)
def nilF : List Int := List.replicate 16 0
def tellsF (zs : List Int) : List Int := if gotF zs = true then toldF zs else nilF
theorem fan_mem {l : List Int} (h : fanR l = true) : ∀ k ∈ l, 0 ≤ k ∧ k ≤ 3071 := fun k hk => by
  have := List.all_eq_true.1 h k hk
  rcases Bool.or_eq_true_iff.1 this with e | e
  · have : k = 0 := by simpa using e
    omega
  · have := of_decide_eq_true e
    omega
theorem fan_length {l : List Int} (h : l.length = 16) : (fan l).length = 64 := Bk.shut_length (by rw [Nd.kidsB_length]; omega)
theorem fan_bytes {l : List Int} (h : l.length = 16) : Nums.Bytes (fan l) := Bk.shut_bytes (by decide) (by decide) (Nd.kidsB_bytes l)
theorem fan_isB {l : List Int} (h : l.length = 16) : Bk.isB (fan l) = true := Bk.shut_isB (by decide) (by rw [Nd.kidsB_length]; omega)
theorem fanTo_kids {l : List Int} (hr : fanR l = true) (tail : List Int) : fanTo (Nd.kidsB l ++ tail) l.length = l := by
  apply List.ext_getElem (by simp [fanTo])
  intro i h1 h2
  have hb := fan_mem hr _ (List.getElem_mem h2)
  simp only [fanTo, List.getElem_map, List.getElem_range]
  rw [Nd.kidsB_at l tail i h2, Nums.rd_lay, List.getD_eq_getElem?_getD, List.getElem?_eq_getElem h2]
  simp only [Option.getD_some]
  omega
theorem told_fan {l : List Int} (h : l.length = 16) (hr : fanR l = true) : toldF (fan l) = l := by
  obtain ⟨_, _, h8⟩ := Bk.shut_parts (k := 3) (t := 0) (body := Nd.kidsB l)
  unfold toldF fan
  rw [h8]
  have := fanTo_kids hr (List.replicate (56 - (Nd.kidsB l).length) 0)
  rw [h] at this
  exact this
theorem got_fan {l : List Int} (h : l.length = 16) (hr : fanR l = true) : gotF (fan l) = true := by
  obtain ⟨h4, _, _⟩ := Bk.shut_parts (k := 3) (t := 0) (body := Nd.kidsB l)
  refine decide_eq_true ⟨fan_isB h, h4, ?_, ?_⟩
  · rw [told_fan h hr]; exact hr
  · rw [told_fan h hr]
theorem toldF_length (zs : List Int) : (toldF zs).length = 16 := by simp [toldF, fanTo]
theorem gotF_right {zs : List Int} (h : gotF zs = true) : fanR (toldF zs) = true ∧ fan (toldF zs) = zs := (of_decide_eq_true h).2.2
theorem tells_fan {l : List Int} (h : l.length = 16) (hr : fanR l = true) : tellsF (fan l) = l := by unfold tellsF; rw [if_pos (got_fan h hr), told_fan h hr]
theorem tellsF_length (zs : List Int) : (tellsF zs).length = 16 := by
  unfold tellsF
  split
  · exact toldF_length zs
  · rfl
theorem fanTo_succ (s : List Int) (n : Nat) : fanTo s (n + 1) = fanTo s n ++ [Nums.rd ((s.drop (2 * n)).take 2)] := by simp [fanTo, List.range_succ]
/-- what is a leaf's is no fan's. -/
theorem apart {zs : List Int} (h : gotL zs = true) : gotF zs = false := decide_eq_false fun e => by
  have h1 := (of_decide_eq_true h).2.1
  have h2 := e.2.1
  omega
end Pg
end Go.Proofs.Ytjehcgkmapapbaa
