/-
  Plain nodes, more: when octets are a node's block, as the program asks.
-/
import Derived.Test.YtmildaofmgeceaaNdNums
import Derived.Test.YtmildaofmgeceaaOcZ
namespace Go.Proofs.Ytmildaofmgeceaa
set_option linter.unusedVariables false
set_option linter.unusedSimpArgs false
namespace Nd

theorem lay_sgn (v : Int) : Nums.lay (sgn v) 8 = Nums.lay v 8 := by
  rw [← lay_mod (sgn v) 8, ← lay_mod v 8]
  congr 1
  unfold sgn
  have e : (256 : Int) ^ 8 = 18446744073709551616 := by decide
  rw [e]
  split <;> omega
theorem lay_piece {s : List Int} (hs : Nums.Bytes s) (p n : Nat) (h : p + n ≤ s.length) : Nums.lay (Nums.rd ((s.drop p).take n)) n = (s.drop p).take n := by
  have e := Nums.lay_rd ((s.drop p).take n) (Nums.bytes_take (Nums.bytes_drop hs p) n)
  rw [show ((s.drop p).take n).length = n by simp; omega] at e
  exact e
theorem kidsB_parse {s : List Int} (hs : Nums.Bytes s) : ∀ t : Nat, 24 + 2 * t ≤ s.length → kidsB ((List.range t).map fun i => Nums.rd ((s.drop (24 + 2 * i)).take 2)) = (s.drop 24).take (2 * t)
  | 0, _ => rfl
  | t + 1, h => by
    rw [List.range_succ, List.map_append, List.map_cons, List.map_nil, kidsB_snoc, kidsB_parse hs t (by omega), lay_piece hs (24 + 2 * t) 2 (by omega), show 2 * (t + 1) = 2 * t + 2 by omega, List.take_add, List.drop_drop]
theorem body_parse {s : List Int} (hs : Nums.Bytes s) (t : Nat) (h : 24 + 2 * t ≤ s.length) : body (parse s t) = s.take (24 + 2 * t) := by
  unfold body parse
  simp only
  have e0 := lay_piece hs 0 8 (by omega)
  rw [List.drop_zero] at e0
  rw [lay_sgn, lay_sgn, e0, lay_piece hs 8 8 (by omega), lay_piece hs 16 4 (by omega), lay_piece hs 20 4 (by omega), kidsB_parse hs t h]
  have a : s.take (24 + 2 * t) = s.take 24 ++ (s.drop 24).take (2 * t) := List.take_add
  have b : s.take 24 = s.take 20 ++ (s.drop 20).take 4 := List.take_add (i := 20) (j := 4)
  have c : s.take 20 = s.take 16 ++ (s.drop 16).take 4 := List.take_add (i := 16) (j := 4)
  have d : s.take 16 = s.take 8 ++ (s.drop 8).take 8 := List.take_add (i := 8) (j := 8)
  rw [a, b, c, d]
theorem kids_parse (s : List Int) (t : Nat) : (parse s t).kids.length = t := by simp [parse]
theorem fill_zero {s : List Int} {m n : Nat} (hl : s.length = n) (hm : m ≤ n) : Bk.fill (s.take m) n = s ↔ zeroB (s.drop m) = true := by
  have e : Bk.fill (s.take m) n = s.take m ++ List.replicate (n - m) 0 := by
    unfold Bk.fill
    rw [List.length_take, hl, Nat.min_eq_left hm]
  rw [e, zeroB_true]
  constructor
  · intro h z hz
    have h2 : s.drop m = List.replicate (n - m) 0 := by
      have := congrArg (List.drop m) h
      rw [List.drop_left' (by simp; omega)] at this
      exact this.symm
    rw [h2] at hz
    exact List.eq_of_mem_replicate hz
  · intro h
    have h2 : s.drop m = List.replicate (n - m) 0 := by
      rw [List.eq_replicate_iff]
      exact ⟨by simp; omega, h⟩
    rw [← h2, List.take_append_drop]
/-- a node's block, told as the program asks. -/
theorem got_asked {zs : List Int} (hz : Nums.Bytes zs) (hB : Bk.isB zs = true) (h4 : zs.getD 4 0 = 1) {t : Nat} (h5 : zs.getD 5 0 = (t : Int)) (ht : t ≤ 12) :
    got zs = (right (parse (zs.drop 8) t) && zeroB ((zs.drop 8).drop (24 + 2 * t))) := by
  have hl := (of_decide_eq_true hB).1
  have hs := Nums.bytes_drop hz 8
  have hsl : (zs.drop 8).length = 56 := by simp; omega
  have hT : told zs = parse (zs.drop 8) t := by unfold told; rw [h5, Int.toNat_natCast]
  have hbl : block (parse (zs.drop 8) t) = zs ↔ zeroB ((zs.drop 8).drop (24 + 2 * t)) = true := by
    rw [← fill_zero hsl (by omega), block, kids_parse, body_parse hs t (by omega)]
    constructor
    · intro h
      have := (Bk.shut_parts (k := 1) (t := (t : Int)) (body := (zs.drop 8).take (24 + 2 * t))).2.2
      rw [h] at this
      exact this.symm
    · intro h
      have e := Bk.isB_same hB
      rw [h4, h5] at e
      refine Eq.trans ?_ e
      simp only [Bk.shut, Bk.mid]
      rw [h, Bk.fill_full hsl]
  cases hq : (right (parse (zs.drop 8) t) && zeroB ((zs.drop 8).drop (24 + 2 * t))) with
  | true =>
    obtain ⟨q1, q2⟩ := Bool.and_eq_true_iff.1 hq
    exact decide_eq_true ⟨hB, h4, by omega, by rw [hT]; exact q1, by rw [hT]; exact hbl.2 q2⟩
  | false =>
    refine decide_eq_false fun h => ?_
    obtain ⟨_, _, _, q1, q2⟩ := h
    rw [hT] at q1 q2
    rw [q1, hbl.1 q2] at hq
    exact absurd hq (by decide)
end Nd
end Go.Proofs.Ytmildaofmgeceaa
