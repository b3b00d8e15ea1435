/-
  Plain nodes: which are right, their blocks, whose block octets are.
-/
import Derived.Test.YtmildaofmgeceaaBkNums
namespace Go.Proofs.Ytmildaofmgeceaa
set_option linter.unusedVariables false
set_option linter.unusedSimpArgs false
namespace Nd

/-- a node. -/
structure N where
  slot : Int
  gen : Int
  key : Int
  val : Int
  kids : List Int

def kidB (k : Int) : Bool := decide (2 ≤ k ∧ k ≤ 3071)
def headB (n : N) : Bool := decide (0 ≤ n.slot ∧ n.slot ≤ 1791 ∧ 1 ≤ n.gen ∧ n.gen ≤ 4294967295 ∧ n.kids.length ≤ 12)
def right (n : N) : Bool := headB n && n.kids.all kidB
/-- its numbers are such as an int holds. -/
def wf (n : N) : Prop := (-9223372036854775808 ≤ n.key ∧ n.key ≤ 9223372036854775807) ∧ (-9223372036854775808 ≤ n.val ∧ n.val ≤ 9223372036854775807)
def kidsB (l : List Int) : List Int := l.flatMap fun k => Nums.lay k 2
def body (n : N) : List Int := Nums.lay n.key 8 ++ Nums.lay n.val 8 ++ Nums.lay n.slot 4 ++ Nums.lay n.gen 4 ++ kidsB n.kids
def block (n : N) : List Int := Bk.shut 1 n.kids.length (body n)
/-- int(v), of a word. -/
def sgn (v : Int) : Int := if v < 9223372036854775808 then v else v - 18446744073709551616
def parse (s : List Int) (t : Nat) : N := ⟨Nums.rd ((s.drop 16).take 4), Nums.rd ((s.drop 20).take 4), sgn (Nums.rd (s.take 8)), sgn (Nums.rd ((s.drop 8).take 8)), (List.range t).map fun i => Nums.rd ((s.drop (24 + 2 * i)).take 2)⟩
def told (zs : List Int) : N := parse (zs.drop 8) (zs.getD 5 0).toNat
def got (zs : List Int) : Bool := decide (Bk.isB zs = true ∧ zs.getD 4 0 = 1 ∧ zs.getD 5 0 ≤ 12 ∧ right (told zs) = true ∧ block (told zs) = zs)
def same (n m : N) : Bool := decide (n.slot = m.slot ∧ n.gen = m.gen ∧ n.key = m.key ∧ n.val = m.val ∧ n.kids = m.kids)

theorem same_iff {n m : N} : same n m = true ↔ n = m := by
  obtain ⟨a, b, c, d, e⟩ := n
  obtain ⟨a', b', c', d', e'⟩ := m
  simp [same]

theorem lay_mod (v : Int) (n : Nat) : Nums.lay (v % 256 ^ n) n = Nums.lay v n := by
  have h := Nums.lay_rd (Nums.lay v n) (Nums.bytes_lay n v)
  rw [Nums.rd_lay, Nums.length_lay] at h
  exact h
theorem sgn_mod {v : Int} (h : -9223372036854775808 ≤ v ∧ v ≤ 9223372036854775807) : sgn (v % 18446744073709551616) = v := by
  unfold sgn
  split <;> omega
theorem sgn_wf {v : Int} (h : 0 ≤ v ∧ v < 18446744073709551616) : -9223372036854775808 ≤ sgn v ∧ sgn v ≤ 9223372036854775807 := by
  unfold sgn
  split <;> omega

theorem kidsB_length : ∀ l : List Int, (kidsB l).length = 2 * l.length
  | [] => rfl
  | k :: r => by
    have := kidsB_length r
    unfold kidsB at *
    simp only [List.flatMap_cons, List.length_append, Nums.length_lay, this, List.length_cons]
    omega
theorem kidsB_bytes (l : List Int) : Nums.Bytes (kidsB l) := fun z hz => by
  obtain ⟨k, _, h⟩ := List.mem_flatMap.1 hz
  exact Nums.bytes_lay _ _ z h
theorem kidsB_snoc (l : List Int) (k : Int) : kidsB (l ++ [k]) = kidsB l ++ Nums.lay k 2 := by simp [kidsB]
theorem kidsB_at : ∀ (l : List Int) (tail : List Int) (i : Nat), i < l.length → ((kidsB l ++ tail).drop (2 * i)).take 2 = Nums.lay (l.getD i 0) 2
  | [], _, i, h => by simp at h
  | k :: r, tail, 0, _ => by
    unfold kidsB
    simp only [List.flatMap_cons, List.append_assoc]
    exact List.take_left' (Nums.length_lay 2 k)
  | k :: r, tail, i + 1, h => by
    have ih := kidsB_at r tail i (by simpa using h)
    have e : kidsB (k :: r) ++ tail = Nums.lay k 2 ++ (kidsB r ++ tail) := by simp [kidsB]
    rw [e, show 2 * (i + 1) = 2 + 2 * i by omega, ← List.drop_drop, List.drop_left' (Nums.length_lay 2 k), ih]
    simp

theorem body_length (n : N) : (body n).length = 24 + 2 * n.kids.length := by
  simp only [body, List.length_append, Nums.length_lay, kidsB_length]
theorem body_bytes (n : N) : Nums.Bytes (body n) := by
  unfold body
  exact Nums.bytes_append (Nums.bytes_append (Nums.bytes_append (Nums.bytes_append (Nums.bytes_lay _ _) (Nums.bytes_lay _ _)) (Nums.bytes_lay _ _)) (Nums.bytes_lay _ _)) (kidsB_bytes _)

theorem right_head {n : N} (h : right n = true) : 0 ≤ n.slot ∧ n.slot ≤ 1791 ∧ 1 ≤ n.gen ∧ n.gen ≤ 4294967295 ∧ n.kids.length ≤ 12 := by
  unfold right headB at h
  exact of_decide_eq_true (Bool.and_eq_true_iff.1 h).1
theorem right_kids {n : N} (h : right n = true) : ∀ k ∈ n.kids, 2 ≤ k ∧ k ≤ 3071 := fun k hk => by
  unfold right at h
  exact of_decide_eq_true (List.all_eq_true.1 (Bool.and_eq_true_iff.1 h).2 k hk)
theorem body_short {n : N} (h : right n = true) : (body n).length ≤ 56 := by
  have := right_head h
  rw [body_length]
  omega
theorem block_length {n : N} (h : right n = true) : (block n).length = 64 := Bk.shut_length (body_short h)
theorem block_bytes {n : N} (h : right n = true) : Nums.Bytes (block n) := Bk.shut_bytes (by decide) (by have := right_head h; omega) (body_bytes n)
theorem block_isB {n : N} (h : right n = true) : Bk.isB (block n) = true := Bk.shut_isB (by decide) (body_short h)
theorem block_parts {n : N} : (block n).getD 4 0 = 1 ∧ (block n).getD 5 0 = n.kids.length ∧ (block n).drop 8 = Bk.fill (body n) 56 := Bk.shut_parts

theorem parse_body {n : N} (h : right n = true) (hw : wf n) (tail : List Int) : parse (body n ++ tail) n.kids.length = n := by
  obtain ⟨s, g, k, v, l⟩ := n
  have hh := right_head h
  have hk := right_kids h
  obtain ⟨hw1, hw2⟩ := hw
  simp only at hh hk hw1 hw2 ⊢
  have e : body ⟨s, g, k, v, l⟩ ++ tail = Nums.lay k 8 ++ (Nums.lay v 8 ++ (Nums.lay s 4 ++ (Nums.lay g 4 ++ (kidsB l ++ tail)))) := by
    simp only [body, List.append_assoc]
  rw [e]
  have d8 : (Nums.lay k 8 ++ (Nums.lay v 8 ++ (Nums.lay s 4 ++ (Nums.lay g 4 ++ (kidsB l ++ tail))))).drop 8 = Nums.lay v 8 ++ (Nums.lay s 4 ++ (Nums.lay g 4 ++ (kidsB l ++ tail))) := List.drop_left' (Nums.length_lay 8 k)
  have d16 : (Nums.lay k 8 ++ (Nums.lay v 8 ++ (Nums.lay s 4 ++ (Nums.lay g 4 ++ (kidsB l ++ tail))))).drop 16 = Nums.lay s 4 ++ (Nums.lay g 4 ++ (kidsB l ++ tail)) := by
    rw [show 16 = 8 + 8 from rfl, ← List.drop_drop, d8]
    exact List.drop_left' (Nums.length_lay 8 v)
  have d20 : (Nums.lay k 8 ++ (Nums.lay v 8 ++ (Nums.lay s 4 ++ (Nums.lay g 4 ++ (kidsB l ++ tail))))).drop 20 = Nums.lay g 4 ++ (kidsB l ++ tail) := by
    rw [show 20 = 16 + 4 from rfl, ← List.drop_drop, d16]
    exact List.drop_left' (Nums.length_lay 4 s)
  have d24 : (Nums.lay k 8 ++ (Nums.lay v 8 ++ (Nums.lay s 4 ++ (Nums.lay g 4 ++ (kidsB l ++ tail))))).drop 24 = kidsB l ++ tail := by
    rw [show 24 = 20 + 4 from rfl, ← List.drop_drop, d20]
    exact List.drop_left' (Nums.length_lay 4 g)
  unfold parse
  rw [d16, d20, d8, List.take_left' (Nums.length_lay 4 s), List.take_left' (Nums.length_lay 4 g), List.take_left' (Nums.length_lay 8 k), List.take_left' (Nums.length_lay 8 v)]
  have hkids : ((List.range l.length).map fun i => Nums.rd (((Nums.lay k 8 ++ (Nums.lay v 8 ++ (Nums.lay s 4 ++ (Nums.lay g 4 ++ (kidsB l ++ tail))))).drop (24 + 2 * i)).take 2)) = l := by
    apply List.ext_getElem (by simp)
    intro i h1 h2
    rw [List.getElem_map, List.getElem_range, ← List.drop_drop, d24, kidsB_at l tail i h2, Nums.rd_lay]
    have := hk _ (List.getElem_mem h2)
    rw [List.getD_eq_getElem?_getD, List.getElem?_eq_getElem h2]
    simp only [Option.getD_some]
    omega
  rw [hkids]
  have r1 : Nums.rd (Nums.lay s 4) = s := by rw [Nums.rd_lay]; omega
  have r2 : Nums.rd (Nums.lay g 4) = g := by rw [Nums.rd_lay]; omega
  have r3 : sgn (Nums.rd (Nums.lay k 8)) = k := by rw [Nums.rd_lay]; exact sgn_mod hw1
  have r4 : sgn (Nums.rd (Nums.lay v 8)) = v := by rw [Nums.rd_lay]; exact sgn_mod hw2
  rw [r1, r2, r3, r4]

theorem told_block {n : N} (h : right n = true) (hw : wf n) : told (block n) = n := by
  obtain ⟨_, h5, h8⟩ := block_parts (n := n)
  unfold told
  rw [h5, h8, Int.toNat_natCast]
  exact parse_body h hw _
theorem got_block {n : N} (h : right n = true) (hw : wf n) : got (block n) = true := by
  obtain ⟨h4, h5, _⟩ := block_parts (n := n)
  have := right_head h
  refine decide_eq_true ⟨block_isB h, h4, by rw [h5]; omega, ?_, ?_⟩
  · rw [told_block h hw]; exact h
  · rw [told_block h hw]
theorem got_right {zs : List Int} (h : got zs = true) : right (told zs) = true ∧ block (told zs) = zs := (of_decide_eq_true h).2.2.2
theorem got_isB {zs : List Int} (h : got zs = true) : Bk.isB zs = true := (of_decide_eq_true h).1
theorem parse_wf {s : List Int} (hs : Nums.Bytes s) (t : Nat) : wf (parse s t) := by
  have h1 := Nums.rd_bounds _ (Nums.bytes_take hs 8)
  have h2 := Nums.rd_bounds _ (Nums.bytes_take (Nums.bytes_drop hs 8) 8)
  have p : ∀ l : List Int, (256 : Int) ^ (l.take 8).length ≤ 18446744073709551616 := fun l => by
    have hq : (256 : Int) ^ (l.take 8).length ≤ 256 ^ 8 := by
      rw [show (256 : Int) ^ (l.take 8).length = ((256 ^ (l.take 8).length : Nat) : Int) from (Int.natCast_pow 256 _).symm, show (256 : Int) ^ 8 = ((256 ^ 8 : Nat) : Int) from rfl]
      exact Int.ofNat_le.2 (Nat.pow_le_pow_right (by decide) (by simp; omega))
    exact hq
  have p1 := p s
  have p2 := p (s.drop 8)
  exact ⟨sgn_wf ⟨h1.1, by omega⟩, sgn_wf ⟨h2.1, by omega⟩⟩
theorem told_wf {zs : List Int} (hz : Nums.Bytes zs) : wf (told zs) := parse_wf (Nums.bytes_drop hz 8) _
theorem block_inj {n m : N} (h : right n = true) (h' : right m = true) (hw : wf n) (hw' : wf m) (e : block n = block m) : n = m := by
  rw [← told_block h hw, e, told_block h' hw']
end Nd
end Go.Proofs.Ytmildaofmgeceaa
