/-
  Blocks (layer 7), as plain lists: no program is named here.
-/
import Derived.Test.YtmildaofmgeceaaBurstNums
namespace Go.Proofs.Ytmildaofmgeceaa
set_option linter.unusedVariables false
set_option linter.unusedSimpArgs false
namespace Bk
/-- octets with noughts up to so many. -/
def fill (zs : List Int) (n : Nat) : List Int := zs ++ List.replicate (n - zs.length) 0
theorem fill_length {zs : List Int} {n : Nat} (h : zs.length ≤ n) : (fill zs n).length = n := by
  unfold fill
  rw [List.length_append, List.length_replicate]
  omega
theorem fill_bytes {zs : List Int} (hz : Nums.Bytes zs) (n : Nat) : Nums.Bytes (fill zs n) := fun z h => by
  unfold fill at h
  rcases List.mem_append.1 h with h | h
  · exact hz z h
  · rw [List.eq_of_mem_replicate h]
    omega
theorem fill_full {zs : List Int} {n : Nat} (h : zs.length = n) : fill zs n = zs := by
  unfold fill
  rw [h, Nat.sub_self]
  simp
/-- what lies behind a block's sum. -/
def mid (k t : Int) (body : List Int) : List Int := [k, t, 0, 0] ++ fill body 56
/-- a block. -/
def shut (k t : Int) (body : List Int) : List Int := Nums.lay (Crc.sum (mid k t body) : Nat) 4 ++ mid k t body
theorem mid_length {k t : Int} {body : List Int} (h : body.length ≤ 56) : (mid k t body).length = 60 := by
  unfold mid
  rw [List.length_append, fill_length h]
  rfl
theorem mid_bytes {k t : Int} {body : List Int} (hk : 0 ≤ k ∧ k ≤ 255) (ht : 0 ≤ t ∧ t ≤ 255) (hb : Nums.Bytes body) : Nums.Bytes (mid k t body) := fun z h => by
  unfold mid at h
  rcases List.mem_append.1 h with h | h
  · simp at h
    rcases h with rfl | rfl | rfl
    · exact hk
    · exact ht
    · omega
  · exact fill_bytes hb 56 z h
theorem shut_length {k t : Int} {body : List Int} (h : body.length ≤ 56) : (shut k t body).length = 64 := by
  unfold shut
  rw [List.length_append, Nums.length_lay, mid_length h]
theorem shut_bytes {k t : Int} {body : List Int} (hk : 0 ≤ k ∧ k ≤ 255) (ht : 0 ≤ t ∧ t ≤ 255) (hb : Nums.Bytes body) : Nums.Bytes (shut k t body) := fun z h => by
  unfold shut at h
  rcases List.mem_append.1 h with h | h
  · exact Nums.bytes_lay _ _ z h
  · exact mid_bytes hk ht hb z h
/-- are octets a block? -/
def isB (zs : List Int) : Bool := decide (zs.length = 64 ∧ zs.getD 4 0 ≠ 0 ∧ shut (zs.getD 4 0) (zs.getD 5 0) (zs.drop 8) = zs)

theorem shut_four (k t : Int) (body : List Int) : (shut k t body).drop 4 = mid k t body := by
  unfold shut
  exact List.drop_left' (Nums.length_lay 4 _)
theorem shut_head (k t : Int) (body : List Int) : (shut k t body).take 4 = Nums.lay (Crc.sum (mid k t body) : Nat) 4 := by
  unfold shut
  exact List.take_left' (Nums.length_lay 4 _)
theorem shut_parts {k t : Int} {body : List Int} : (shut k t body).getD 4 0 = k ∧ (shut k t body).getD 5 0 = t ∧ (shut k t body).drop 8 = fill body 56 := by
  have e : ∀ i, (shut k t body).getD (4 + i) 0 = (mid k t body).getD i 0 := fun i => by
    rw [← shut_four k t body]
    simp [List.getD_eq_getElem?_getD, List.getElem?_drop]
  refine ⟨e 0, e 1, ?_⟩
  have : (shut k t body).drop 8 = (mid k t body).drop 4 := by rw [← shut_four k t body, List.drop_drop]
  rw [this]
  rfl
theorem fill_twice (body : List Int) (n : Nat) (h : body.length ≤ n) : fill (fill body n) n = fill body n := fill_full (fill_length h)
/-- what is sealed is a block. -/
theorem shut_isB {k t : Int} {body : List Int} (hk : k ≠ 0) (h : body.length ≤ 56) : isB (shut k t body) = true := by
  obtain ⟨e1, e2, e3⟩ := shut_parts (k := k) (t := t) (body := body)
  refine decide_eq_true ⟨shut_length h, by rw [e1]; exact hk, ?_⟩
  rw [e1, e2, e3]
  unfold shut mid
  rw [fill_twice body 56 h]
/-- a block's sum is that of what lies behind it. -/
theorem isB_sum {zs : List Int} (h : isB zs = true) : zs.length = 64 ∧ zs.take 4 = Nums.lay (Crc.sum (zs.drop 4) : Nat) 4 := by
  obtain ⟨h1, _, h3⟩ := of_decide_eq_true h
  refine ⟨h1, ?_⟩
  rw [← h3, shut_head, shut_four]
/-- what is opened, sealed again, is the same. -/
theorem isB_same {zs : List Int} (h : isB zs = true) : shut (zs.getD 4 0) (zs.getD 5 0) (zs.drop 8) = zs := (of_decide_eq_true h).2.2
theorem xb_append : ∀ (a b : List Int) (v : Nat), Crc.xb (a ++ b) v = Crc.xb a v ++ Crc.xb b (v / 256 ^ a.length)
  | [], b, v => by simp [Crc.xb]
  | z :: r, b, v => by
    rw [List.cons_append, Crc.xb, xb_append r b, Crc.xb, List.cons_append, List.length_cons, Nat.pow_succ, Nat.mul_comm (256 ^ r.length) 256, Nat.div_div_eq_div_mul]
theorem xb_low : ∀ (a : List Int) (v q : Nat), Nums.Bytes a → Crc.xb a (256 ^ a.length * q) = a
  | [], v, q, _ => rfl
  | z :: r, v, q, h => by
    have hz := (Nums.bytes_cons h).1
    have e1 : 256 ^ (z :: r).length * q % 256 = 0 := by
      rw [List.length_cons, Nat.pow_succ, Nat.mul_comm (256 ^ r.length) 256, Nat.mul_assoc, Nat.mul_mod_right]
    have e2 : 256 ^ (z :: r).length * q / 256 = 256 ^ r.length * q := by
      rw [List.length_cons, Nat.pow_succ, Nat.mul_comm (256 ^ r.length) 256, Nat.mul_assoc, Nat.mul_div_cancel_left _ (by decide)]
    rw [Crc.xb, e1, e2, xb_low r 0 q (Nums.bytes_cons h).2, Nat.xor_zero]
    congr 1
    omega
theorem xb_same : ∀ (a : List Int) (v : Nat), Nums.Bytes a → v < 256 ^ a.length → Crc.xb a v = a → v = 0
  | [], v, _, hv, _ => by
    simp at hv
    exact hv
  | z :: r, v, h, hv, e => by
    have hz := (Nums.bytes_cons h).1
    rw [Crc.xb] at e
    injection e with e1 e2
    rw [List.length_cons, Nat.pow_succ, Nat.mul_comm] at hv
    have h2 := xb_same r (v / 256) (Nums.bytes_cons h).2 (Nat.div_lt_of_lt_mul hv) e2
    have e3 : z.toNat ^^^ v % 256 = z.toNat ^^^ 0 := by rw [Nat.xor_zero]; omega
    have e5 := congrArg (fun q => z.toNat ^^^ q) e3
    simp only [← Nat.xor_assoc, Nat.xor_self, Nat.zero_xor] at e5
    have e4 : v % 256 = 0 := e5
    omega
theorem lay4_inj {x y : Nat} (hx : x < 4294967296) (hy : y < 4294967296) (h : Nums.lay (x : Int) 4 = Nums.lay (y : Int) 4) : x = y := by
  simp only [Nums.lay, List.cons.injEq] at h
  omega
/-- a block of which bits were turned within its sum is none. -/
theorem turned_head {zs : List Int} {v : Nat} (hz : Nums.Bytes zs) (h : isB zs = true) (hv : v < 4294967296) (h0 : v ≠ 0) : isB (Crc.xb zs v) = false := by
  obtain ⟨hl, hs⟩ := isB_sum h
  cases hB : isB (Crc.xb zs v) with
  | false => rfl
  | true =>
    exfalso
    obtain ⟨_, hs'⟩ := isB_sum hB
    have hsp : zs = zs.take 4 ++ zs.drop 4 := (List.take_append_drop 4 zs).symm
    have hl4 : (zs.take 4).length = 4 := by rw [List.length_take]; omega
    have e : Crc.xb zs v = Crc.xb (zs.take 4) v ++ zs.drop 4 := by
      have e1 := xb_append (zs.take 4) (zs.drop 4) v
      rw [← hsp, hl4, show v / 256 ^ 4 = 0 from Nat.div_eq_of_lt hv, Crc.xb_zero _ (Nums.bytes_drop hz 4)] at e1
      exact e1
    have hx4 : (Crc.xb (zs.take 4) v).length = 4 := by rw [Crc.xb_length, hl4]
    rw [e, List.take_left' hx4, List.drop_left' hx4, ← hs] at hs'
    exact h0 (xb_same (zs.take 4) v (Nums.bytes_take hz 4) (by rw [hl4]; exact hv) hs')
/-- a block of which up to 32 bits side by side were turned behind its sum is none. -/
theorem turned_tail {zs : List Int} {k wi : Nat} (hz : Nums.Bytes zs) (h : isB zs = true) (hw : wi < 4294967296) (h0 : wi ≠ 0) (hk : k ≤ 448) : isB (Crc.xb zs (2 ^ (32 + k) * wi)) = false := by
  obtain ⟨hl, hs⟩ := isB_sum h
  cases hB : isB (Crc.xb zs (2 ^ (32 + k) * wi)) with
  | false => rfl
  | true =>
    exfalso
    obtain ⟨_, hs'⟩ := isB_sum hB
    have hsp : zs = zs.take 4 ++ zs.drop 4 := (List.take_append_drop 4 zs).symm
    have hl4 : (zs.take 4).length = 4 := by rw [List.length_take]; omega
    have hd : (zs.drop 4).length = 60 := by rw [List.length_drop]; omega
    have e : Crc.xb zs (2 ^ (32 + k) * wi) = zs.take 4 ++ Crc.xb (zs.drop 4) (2 ^ k * wi) := by
      have e1 := xb_append (zs.take 4) (zs.drop 4) (2 ^ (32 + k) * wi)
      have e2 : 2 ^ (32 + k) * wi = 256 ^ (zs.take 4).length * (2 ^ k * wi) := by
        rw [hl4, Nat.pow_add, Nat.mul_assoc]
      have e3 : 2 ^ (32 + k) * wi / 256 ^ (zs.take 4).length = 2 ^ k * wi := by
        rw [e2]
        exact Nat.mul_div_cancel_left _ (Nat.pow_pos (by decide))
      rw [← hsp, e3] at e1
      rw [e1]
      congr 1
      rw [e2]
      exact xb_low (zs.take 4) 0 _ (Nums.bytes_take hz 4)
    rw [e, List.take_left' hl4, List.drop_left' hl4, hs] at hs'
    have hb := Nums.bytes_drop hz 4
    exact Crc.sums_apart (zs.drop 4) k wi hb hw h0 (by rw [hd]; omega) (lay4_inj (by unfold Crc.sum; omega) (by unfold Crc.sum; omega) hs')
theorem xb_octet : ∀ (zs : List Int) (j v : Nat), Nums.Bytes zs → v < 256 → j < zs.length → Crc.xb zs (256 ^ j * v) = zs.set j (((zs.getD j 0).toNat ^^^ v : Nat) : Int)
  | [], j, v, _, _, h => by simp at h
  | z :: r, 0, v, hz, hv, _ => by
    rw [Nat.pow_zero, Nat.one_mul, Crc.xb, Nat.mod_eq_of_lt hv, Nat.div_eq_of_lt hv, Crc.xb_zero r (Nums.bytes_cons hz).2]
    rfl
  | z :: r, j + 1, v, hz, hv, h => by
    have hb := (Nums.bytes_cons hz).1
    have e1 : 256 ^ (j + 1) * v % 256 = 0 := by
      rw [Nat.pow_succ, Nat.mul_comm (256 ^ j) 256, Nat.mul_assoc, Nat.mul_mod_right]
    have e2 : 256 ^ (j + 1) * v / 256 = 256 ^ j * v := by
      rw [Nat.pow_succ, Nat.mul_comm (256 ^ j) 256, Nat.mul_assoc, Nat.mul_div_cancel_left _ (by decide)]
    rw [Crc.xb, e1, e2, xb_octet r j v (Nums.bytes_cons hz).2 hv (by simpa using h), Nat.xor_zero, List.set_cons_succ]
    have e3 : ((z.toNat : Nat) : Int) = z := by omega
    rw [e3]
    rfl
theorem pow256 (j : Nat) : 256 ^ j = 2 ^ (8 * j) := by rw [Nat.pow_mul]
/-- a block of which one octet is another one is none. -/
theorem octet_turned {zs : List Int} {j v : Nat} (hz : Nums.Bytes zs) (h : isB zs = true) (hj : j < 64) (h0 : v ≠ 0) (hv : v < 256) : isB (zs.set j (((zs.getD j 0).toNat ^^^ v : Nat) : Int)) = false := by
  rw [← xb_octet zs j v hz hv (by rw [(isB_sum h).1]; exact hj)]
  by_cases h4 : j < 4
  · have hlt : 256 ^ j * v < 4294967296 := by
      have h1 : 256 ^ j ≤ 256 ^ 3 := Nat.pow_le_pow_right (by decide) (by omega)
      have h2 : 256 ^ j * v ≤ 256 ^ 3 * 255 := Nat.mul_le_mul h1 (by omega)
      omega
    have hne : 256 ^ j * v ≠ 0 := Nat.mul_ne_zero (Nat.pos_iff_ne_zero.1 (Nat.pow_pos (by decide))) h0
    exact turned_head hz h hlt hne
  · rw [pow256]
    by_cases h60 : j ≤ 60
    · have e : 2 ^ (8 * j) * v = 2 ^ (32 + (8 * j - 32)) * v := by rw [show 32 + (8 * j - 32) = 8 * j by omega]
      rw [e]
      exact turned_tail hz h (by omega) h0 (by omega)
    · obtain ⟨q, hq⟩ : ∃ q : Nat, q = 448 := ⟨_, rfl⟩
      have e : 2 ^ (8 * j) * v = 2 ^ (32 + q) * (2 ^ (8 * j - 480) * v) := by
        rw [← Nat.mul_assoc, ← Nat.pow_add, show 32 + q + (8 * j - 480) = 8 * j by omega]
      rw [e]
      have h1 : 2 ^ (8 * j - 480) ≤ 2 ^ 24 := Nat.pow_le_pow_right (by decide) (by omega)
      have h2 : 2 ^ (8 * j - 480) * v ≤ 2 ^ 24 * 255 := Nat.mul_le_mul h1 (by omega)
      exact turned_tail hz h (by omega) (Nat.mul_ne_zero (Nat.pos_iff_ne_zero.1 (Nat.pow_pos (by decide))) h0) (by omega)
end Bk
end Go.Proofs.Ytmildaofmgeceaa
