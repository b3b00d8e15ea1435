/-
  Words and octets, there and back (no program is walked here).
-/
import Derived.Test.YtjkiehfjbldkkaaOcW
import Derived.Test.YtjkiehfjbldkkaaOcO
namespace Go.Proofs.Ytjkiehfjbldkkaa
set_option linter.unusedVariables false
set_option linter.unusedSimpArgs false
open Go.RowKit

theorem rd_lay8 {v : Int} (h0 : 0 ≤ v) (h1 : v ≤ 18446744073709551615) : Nums.rd (Nums.lay v 8) = v := by
  rw [Nums.rd_lay, show (256 : Int) ^ 8 = 18446744073709551616 from rfl]
  exact Int.emod_eq_of_lt h0 (by omega)

theorem oct_at (ws : List Int) (m k : Nat) (hk : k < m) (hm : m ≤ ws.length) : ((octTo ws m).drop (8 * k)).take 8 = Nums.lay (ws.getD k 0) 8 := by
  have hkw : k < ws.length := by omega
  obtain ⟨R, e0⟩ : ∃ R, ws.take m = ws.take (k + 1) ++ R := ⟨(ws.take m).drop (k + 1), by
    have h := List.take_append_drop (k + 1) (ws.take m)
    rw [List.take_take, Nat.min_eq_left (by omega)] at h
    exact h.symm⟩
  have e1 : octTo ws m = octTo ws k ++ (Nums.lay ws[k] 8 ++ R.flatMap fun v => Nums.lay v 8) := by
    unfold octTo
    rw [e0, List.flatMap_append, take_snoc ws k hkw, List.flatMap_append, List.append_assoc]
    simp
  rw [e1, List.drop_append, List.drop_of_length_le (by rw [length_octTo ws k (by omega)]; exact Nat.le_refl _), length_octTo ws k (by omega), Nat.sub_self, List.nil_append, List.drop_zero, List.take_append, Nums.length_lay, Nat.sub_self, List.take_zero, List.append_nil, List.take_of_length_le (by rw [Nums.length_lay]; exact Nat.le_refl _)]
  rw [List.getD_eq_getElem?_getD, List.getElem?_eq_getElem hkw]
  rfl

theorem words_oct (ws : List Int) (hw : ∀ v ∈ ws, (Lit.int .u64 v).wf = true) : wordsTo (octTo ws ws.length) ws.length = ws := by
  apply List.ext_getElem
  · simp [length_wordsTo]
  · intro k h1 h2
    have hb := bd_u64 (hw _ (List.getElem_mem h2))
    simp only [wordsTo, List.getElem_map, List.getElem_range]
    rw [oct_at ws _ k h2 (Nat.le_refl _), List.getD_eq_getElem?_getD, List.getElem?_eq_getElem h2]
    exact rd_lay8 hb.1 hb.2

theorem oct_words (zs : List Int) (hz : Nums.Bytes zs) : ∀ n, 8 * n ≤ zs.length → (wordsTo zs n).flatMap (fun v => Nums.lay v 8) = zs.take (8 * n)
  | 0, _ => by simp [wordsTo]
  | n + 1, h => by
    have ih := oct_words zs hz n (by omega)
    have e : wordsTo zs (n + 1) = wordsTo zs n ++ [Nums.rd ((zs.drop (8 * n)).take 8)] := by simp [wordsTo, List.range_succ]
    have hl : ((zs.drop (8 * n)).take 8).length = 8 := by simp; omega
    have hr := Nums.lay_rd ((zs.drop (8 * n)).take 8) (Nums.bytes_take (Nums.bytes_drop hz _) _)
    rw [hl] at hr
    rw [e, List.flatMap_append, ih]
    simp only [List.flatMap_cons, List.flatMap_nil, List.append_nil, hr]
    rw [show 8 * (n + 1) = 8 * n + 8 by omega, List.take_add]

theorem wf_words (zs : List Int) (hz : Nums.Bytes zs) (n : Nat) : ∀ v ∈ wordsTo zs n, (Lit.int .u64 v).wf = true := fun v hv => by
  simp only [wordsTo, List.mem_map, List.mem_range] at hv
  obtain ⟨i, _, rfl⟩ := hv
  have hb := Nums.rd_bounds _ (Nums.bytes_take (Nums.bytes_drop hz (8 * i)) 8)
  have hq : (256 : Int) ^ ((zs.drop (8 * i)).take 8).length ≤ 256 ^ 8 := by
    rw [show (256 : Int) ^ ((zs.drop (8 * i)).take 8).length = ((256 ^ ((zs.drop (8 * i)).take 8).length : Nat) : Int) from (Int.natCast_pow 256 _).symm, show (256 : Int) ^ 8 = ((256 ^ 8 : Nat) : Int) from rfl]
    exact Int.ofNat_le.2 (Nat.pow_le_pow_right (by decide) (by simp; omega))
  have h8 : (256 : Int) ^ 8 = 18446744073709551616 := rfl
  simp only [Lit.wf, IntKind.min, IntKind.max, IntKind.signed, IntKind.bits]
  simp
  omega

theorem octTo_all (ws : List Int) : octTo ws ws.length = ws.flatMap (fun v => Nums.lay v 8) := by
  unfold octTo
  rw [List.take_of_length_le (Nat.le_refl _)]

theorem Row.cellAt {k : IntKind} {w : World} {b off len : Nat} {zs : List Int} (h : Row k w (some ⟨b, off, none⟩) len zs) (j : Nat) (hj : j < len) : w.cell? ⟨b, off + j, none⟩ = some (.int k (zs.getD j 0)) := by
  obtain ⟨_, h0 | ⟨b', off', he, _, hc⟩⟩ := h
  · omega
  · simp only [Option.some.injEq, Addr.mk.injEq, and_true] at he
    obtain ⟨rfl, rfl⟩ := he
    exact hc j hj

theorem Row.headRow {k : IntKind} {w : World} {a : Option Addr} {len : Nat} {zs : List Int} (h : Row k w a len zs) (p : Nat) (hp : p ≤ len) : Row k w a p (zs.take p) := by
  obtain ⟨hl, h0 | ⟨b, off, rfl, hb, hc⟩⟩ := h
  · exact ⟨by simp; omega, .inl (by omega)⟩
  · refine ⟨by simp; omega, .inr ⟨b, off, rfl, hb, fun i hi => ?_⟩⟩
    rw [hc i (by omega)]
    simp [List.getElem?_take, hi]

end Go.Proofs.Ytjkiehfjbldkkaa
