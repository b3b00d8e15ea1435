/-
  Slices of octets as strings; strings as lists of octets.
-/
import Derived.Test.YtjkiehfjbldkkaaArgs
namespace Go.Proofs.Ytjkiehfjbldkkaa
set_option linter.unusedVariables false
set_option linter.unusedSimpArgs false
open Go.RowKit

theorem Row.cut {k : IntKind} {w : World} {a : Option Addr} {len : Nat} {zs : List Int} (h : Row k w a len zs) (p n : Nat) (hpn : p + n ≤ len) (hn : 0 < n) :
    ∃ b off, a = some ⟨b, off, none⟩ ∧ Row k w (some ⟨b, off + p, none⟩) n ((zs.drop p).take n) := by
  obtain ⟨hl, h0 | ⟨b, off, ha, hb, hc⟩⟩ := h
  · omega
  · refine ⟨b, off, ha, by simp; omega, .inr ⟨b, off + p, rfl, hb, fun i hi => ?_⟩⟩
    rw [Nat.add_assoc, hc (p + i) (by omega)]
    simp [List.getElem?_take, hi]

theorem str_nil : strOfNums [] = ByteArray.mk #[] := rfl
theorem str_append (x y : List Int) : strOfNums x ++ strOfNums y = strOfNums (x ++ y) := by
  unfold strOfNums
  rw [ByteArray.mk_append_mk, List.map_append]
theorem size_str (x : List Int) : (strOfNums x).size = x.length := strOfNums_size x

theorem str_at (zs : List Int) (k : Nat) (h : k < zs.length) (hz : Nums.Bytes zs) (hs : k < (strOfNums zs).size) : (((strOfNums zs)[k]'hs).toNat : Int) = zs[k] := by
  have hb := hz _ (List.getElem_mem h)
  have e : (strOfNums zs)[k]'hs = UInt8.ofNat (zs[k]).toNat := by
    show (strOfNums zs).data[k] = _
    simp [strOfNums]
  rw [e]
  simp
  omega

/-- a string's octets. -/
def numsOf (s : ByteArray) : List Int := s.data.toList.map fun b => (b.toNat : Int)
theorem numsOf_bytes (s : ByteArray) : Nums.Bytes (numsOf s) := fun z hz => by
  obtain ⟨b, _, rfl⟩ := List.mem_map.1 hz
  have := b.toNat_lt
  omega
theorem str_numsOf (s : ByteArray) : strOfNums (numsOf s) = s := by
  unfold strOfNums numsOf
  rw [List.map_map]
  have e : s.data.toList.map ((fun n : Int => UInt8.ofNat n.toNat) ∘ fun b : UInt8 => (b.toNat : Int)) = s.data.toList := by
    conv => rhs; rw [← List.map_id s.data.toList]
    refine List.map_congr_left fun b _ => ?_
    simp
  rw [e]
theorem numsOf_str (l : List Int) (h : Nums.Bytes l) : numsOf (strOfNums l) = l := by
  unfold strOfNums numsOf
  simp only [List.map_map]
  conv => rhs; rw [← List.map_id l]
  refine List.map_congr_left fun z hz => ?_
  have := h z hz
  simp
  omega
theorem numsOf_length (s : ByteArray) : (numsOf s).length = s.size := by
  unfold numsOf
  rw [List.length_map]
  rfl
theorem str_inj {l m : List Int} (hl : Nums.Bytes l) (hm : Nums.Bytes m) (h : strOfNums l = strOfNums m) : l = m := by
  rw [← numsOf_str l hl, ← numsOf_str m hm, h]
theorem str_toList (l : List Int) : (strOfNums l).toList = l.map fun n => UInt8.ofNat n.toNat := by rw [ByteArray.toList_eq]; exact strOfNums_data l
/-- how the walk holds two strings against each other. -/
theorem str_ne {s t : ByteArray} (h : ¬ s = t) : (s.toList == t.toList) = false := by
  rw [beq_eq_false_iff_ne]
  intro e
  rw [ByteArray.toList_eq, ByteArray.toList_eq] at e
  apply h
  cases s
  cases t
  congr 1
  exact Array.toList_inj.1 e
theorem str_cut (l : List Int) (i j : Nat) : (strOfNums l).extract i j = strOfNums ((l.drop i).take (j - i)) := by
  have e : ((strOfNums l).extract i j).data = (strOfNums ((l.drop i).take (j - i))).data := by
    apply Array.toList_inj.1
    rw [ByteArray.data_extract, Array.toList_extract, strOfNums_data, strOfNums_data, List.extract_eq_take_drop, List.map_take, List.map_drop]
  cases h1 : (strOfNums l).extract i j
  cases h2 : strOfNums ((l.drop i).take (j - i))
  rw [h1, h2] at e
  congr 1
end Go.Proofs.Ytjkiehfjbldkkaa
