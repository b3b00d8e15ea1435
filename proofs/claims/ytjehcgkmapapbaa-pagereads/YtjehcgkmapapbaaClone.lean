/-
  append([]byte{}, b...): a copy of b in new memory.
-/
import Derived.Test.YtjehcgkmapapbaaGround
import Derived.Laws.AppendOwnNone
namespace Go.Proofs.Ytjehcgkmapapbaa
set_option linter.unusedVariables false
set_option linter.unusedSimpArgs false
open Go.RowKit

theorem info_u8 : (Try.prog.info? 5).map (fun i => (i.zero, i.size, i.bytes)) = some (some (.int .u8 0), 1, 1) := by kernel_rfl

theorem wpList_clone {w : World} {ops : Array Oper} {rest : List Oper} {o : Oper} {a : Act} {Q : Exit → Act → World → Prop} (hgd : o.guard = none) (s x : Operand)
    (ho : o.op = .call { callee := .builtin .append, args := #[s, x], argTypes := #[29, 29] })
    (g0 : Nat) (hs : a.eval s = .slice (some ⟨g0, 0, none⟩) 0 0) (hg0 : w.heap[g0]? = some (.cells #[] 5 (0, 0))) (B : Nat) (w0 : World) (hb : Below B w0 w) (hB : B ≤ g0)
    (ad : Option Addr) (len cap : Nat) (zs : List Int) (hx : a.eval x = .slice ad len cap) (hA : Arg .u8 w ad len cap zs) (hlen : len ≤ 1000000)
    (h : ∀ g cap' w', Below B w0 w' → Arg .u8 w' (some ⟨g, 0, none⟩) len cap' zs → wpList Try.prog ops Q rest (a.put o.dst (.slice (some ⟨g, 0, none⟩) len cap')) w') :
    wpList Try.prog ops Q (o :: rest) a w := by
  obtain ⟨i, hi, hz0, hz1, hz2⟩ := info_parts info_u8
  have hlt : g0 < w.heap.size := (Array.getElem?_eq_some_iff.1 hg0).1
  have hown : w.ownsRow B 5 1 (.slice (some ⟨g0, 0, none⟩) 0 0) 0 [] := ⟨rfl, .inr ⟨g0, 0, #[], rfl, hB, hg0, Nat.le_refl _, Nat.zero_le _, rfl, rfl⟩⟩
  cases ad with
  | none =>
    have hc : cap = 0 := by
      rcases hA.2.2.2.2 with h' | ⟨b, off, h'⟩
      · exact h'
      · cases h'
    subst hc
    have hl0 : len = 0 := Nat.le_zero.1 hA.1
    subst hl0
    refine wpList_append_own_none hgd s x 29 ho B 5 i 1 Try.underlying29 hi _ 0 [] hs hown hx (h g0 0 w hb ⟨Nat.le_refl _, Nat.zero_le _, ⟨hA.2.2.1.1, .inl rfl⟩, hA.2.2.2.1, .inl rfl⟩)
  | some x' =>
    have hl := hA.2.2.1.1
    refine wpList_append_own w hgd s x 29 ho B 5 i (.int .u8 0) 1 1 Try.underlying29 hi hz0 hz1 hz2 rfl (by decide) _ 0 [] hs hown x' len cap (zs.map (Value.int .u8)) hx (by simp [hl]) ?_ (oneCells _ _) (by unfold maxLen; omega) (by omega) (by omega) ?_
    · by_cases h0 : len = 0
      · intro j u hj
        obtain rfl : zs = [] := List.eq_nil_of_length_eq_zero (by omega)
        simp at hj
      · obtain ⟨ad, had, hsrc⟩ := hA.2.2.1.src (by omega)
        cases had
        exact hsrc
    · intro v' w' hown' hgrow hiff
      have hb' : Below B w0 w' := hb.grown hgrow (by omega) (fun k hk => by
        simp [Value.ownBlock] at hk
        omega)
      rcases hown'.2 with ⟨hv, _⟩ | ⟨g, cap', cur, hv, hBg, hg, hle, hmax, hcs, htake⟩
      · have := (hiff.1 hv).1
        simp at this
      · rw [Nat.zero_add] at hv hle htake
        subst hv
        refine h g cap' w' hb' ⟨hle, hmax, ⟨hl, ?_⟩, hA.2.2.2.1, .inr ⟨g, 0, rfl⟩⟩
        refine .inr ⟨g, 0, rfl, (Array.getElem?_eq_some_iff.1 hg).1, fun j hj => ?_⟩
        have e : cur[j]? = ((zs.map (Value.int .u8)))[j]? := by
          have h2 : (cur.toList.take (len * 1))[j]? = ([] ++ zs.map (Value.int .u8))[j]? := by rw [htake]
          rw [List.getElem?_take, if_pos (by omega)] at h2
          simpa using h2
        simp [World.cell?, hg, e]
        rw [List.getElem?_eq_getElem (by omega)]
        rfl

/-- the same, with what the new block holds. -/
theorem wpList_clone_own {w : World} {ops : Array Oper} {rest : List Oper} {o : Oper} {a : Act} {Q : Exit → Act → World → Prop} (hgd : o.guard = none) (s x : Operand)
    (ho : o.op = .call { callee := .builtin .append, args := #[s, x], argTypes := #[29, 29] })
    (g0 : Nat) (hs : a.eval s = .slice (some ⟨g0, 0, none⟩) 0 0) (hg0 : w.heap[g0]? = some (.cells #[] 5 (0, 0))) (B : Nat) (w0 : World) (hb : Below B w0 w) (hB : B ≤ g0)
    (ad : Option Addr) (len cap : Nat) (zs : List Int) (hx : a.eval x = .slice ad len cap) (hA : Arg .u8 w ad len cap zs) (hlen : len ≤ 1000000)
    (h : ∀ g cap' tail w', Below B w0 w' → B ≤ g → w'.heap[g]? = some (.cells (zs.map (Value.int .u8) ++ tail).toArray 5 (0, 0)) → len ≤ cap' → cap' ≤ maxLen → wpList Try.prog ops Q rest (a.put o.dst (.slice (some ⟨g, 0, none⟩) len cap')) w') :
    wpList Try.prog ops Q (o :: rest) a w := by
  obtain ⟨i, hi, hz0, hz1, hz2⟩ := info_parts info_u8
  have hlt : g0 < w.heap.size := (Array.getElem?_eq_some_iff.1 hg0).1
  have hown : w.ownsRow B 5 1 (.slice (some ⟨g0, 0, none⟩) 0 0) 0 [] := ⟨rfl, .inr ⟨g0, 0, #[], rfl, hB, hg0, Nat.le_refl _, Nat.zero_le _, rfl, rfl⟩⟩
  cases ad with
  | none =>
    have hc : cap = 0 := by
      rcases hA.2.2.2.2 with h' | ⟨b, off, h'⟩
      · exact h'
      · cases h'
    subst hc
    have hl0 : len = 0 := Nat.le_zero.1 hA.1
    subst hl0
    refine wpList_append_own_none hgd s x 29 ho B 5 i 1 Try.underlying29 hi _ 0 [] hs hown hx (h g0 0 [] w hb hB (by obtain rfl : zs = [] := List.eq_nil_of_length_eq_zero hA.2.2.1.1; exact hg0) (Nat.le_refl _) (Nat.zero_le _))
  | some x' =>
    have hl := hA.2.2.1.1
    refine wpList_append_own w hgd s x 29 ho B 5 i (.int .u8 0) 1 1 Try.underlying29 hi hz0 hz1 hz2 rfl (by decide) _ 0 [] hs hown x' len cap (zs.map (Value.int .u8)) hx (by simp [hl]) ?_ (oneCells _ _) (by unfold maxLen; omega) (by omega) (by omega) ?_
    · by_cases h0 : len = 0
      · intro j u hj
        obtain rfl : zs = [] := List.eq_nil_of_length_eq_zero (by omega)
        simp at hj
      · obtain ⟨ad, had, hsrc⟩ := hA.2.2.1.src (by omega)
        cases had
        exact hsrc
    · intro v' w' hown' hgrow hiff
      have hb' : Below B w0 w' := hb.grown hgrow (by omega) (fun k hk => by
        simp [Value.ownBlock] at hk
        omega)
      rcases hown'.2 with ⟨hv, _⟩ | ⟨g, cap', cur, hv, hBg, hg, hle, hmax, hcs, htake⟩
      · have := (hiff.1 hv).1
        simp at this
      · rw [Nat.zero_add] at hv hle htake
        subst hv
        refine h g cap' (cur.toList.drop len) w' hb' hBg ?_ hle hmax
        rw [hg]
        congr 2
        apply Array.toList_inj.1
        rw [Nat.mul_one] at htake
        have e2 : zs.map (Value.int .u8) = cur.toList.take len := by rw [htake]; simp
        rw [e2]
        simp

/-- append(all, b...), all in memory of its own (or nil). -/
theorem wpList_extend {w : World} {ops : Array Oper} {rest : List Oper} {o : Oper} {a : Act} {Q : Exit → Act → World → Prop} (hgd : o.guard = none) (s x : Operand)
    (ho : o.op = .call { callee := .builtin .append, args := #[s, x], argTypes := #[29, 29] })
    (B : Nat) (w0 : World) (hb : Below B w0 w) (hBw : B ≤ w.heap.size) (v : Value) (n : Nat) (ys : List Int) (hs : a.eval s = v) (hown : w.ownsRow B 5 1 v n (ys.map (Value.int .u8)))
    (ad : Option Addr) (len cap : Nat) (zs : List Int) (hx : a.eval x = .slice ad len cap) (hA : Arg .u8 w ad len cap zs) (hlen : n + len ≤ 1000000)
    (h : ∀ v' w', Below B w0 w' → w'.ownsRow B 5 1 v' (n + len) ((ys ++ zs).map (Value.int .u8)) → wpList Try.prog ops Q rest (a.put o.dst v') w') :
    wpList Try.prog ops Q (o :: rest) a w := by
  obtain ⟨i, hi, hz0, hz1, hz2⟩ := info_parts info_u8
  cases ad with
  | none =>
    have hc : cap = 0 := by
      rcases hA.2.2.2.2 with h' | ⟨b, off, h'⟩
      · exact h'
      · cases h'
    subst hc
    have hl0 : len = 0 := Nat.le_zero.1 hA.1
    subst hl0
    obtain rfl : zs = [] := List.eq_nil_of_length_eq_zero hA.2.2.1.1
    refine wpList_append_own_none hgd s x 29 ho B 5 i 1 Try.underlying29 hi v n _ hs hown hx (h v w hb ?_)
    rw [List.append_nil]
    exact hown
  | some x' =>
    have hl := hA.2.2.1.1
    refine wpList_append_own w hgd s x 29 ho B 5 i (.int .u8 0) 1 1 Try.underlying29 hi hz0 hz1 hz2 rfl (by decide) v n _ hs hown x' len cap (zs.map (Value.int .u8)) hx (by simp [hl]) ?_ (oneCells _ _) (by unfold maxLen; omega) (by omega) hBw ?_
    · by_cases h0 : len = 0
      · intro j u hj
        obtain rfl : zs = [] := List.eq_nil_of_length_eq_zero (by omega)
        simp at hj
      · obtain ⟨ad, had, hsrc⟩ := hA.2.2.1.src (by omega)
        cases had
        exact hsrc
    · intro v' w' hown' hgrow hiff
      refine h v' w' (hb.grown hgrow hBw (fun k hk => ?_)) (by rw [List.map_append]; exact hown')
      rcases hown.2 with ⟨rfl, _⟩ | ⟨g, c, cur, rfl, hBg, _⟩
      · simp [Value.ownBlock] at hk
      · simp [Value.ownBlock] at hk
        omega
end Go.Proofs.Ytjehcgkmapapbaa
