/-
  An array of integers among the arguments, opened.
-/
import Derived.Test.YtmildaofmgeceaaChecked
import Derived.WalkKit
import Derived.ProofKit
import Derived.OpenShut
namespace Go.Proofs.Ytmildaofmgeceaa
set_option linter.unusedVariables false
set_option linter.unusedSimpArgs false
open Go.ChangeShapes Go.WideShapes Go.ChangeAt Go.RowKit

theorem open_array {H : Type} {enc : TypeId × Value → H} {P : Program} {w : World} {base b0 : Nat} {spare : Nat → Bool} {held : Bool} {r : Reach} {t e : TypeId} {n : Nat} {k : IntKind} {v : Value} {d : DataW H} {p : List MemPlace}
    (hs : P.underlying t = some (.array n e)) (he : P.underlying e = some (.int k)) (hce : P.cellsOf e = 1) (hct : P.cellsOf t = n)
    (hv : Value.okWide P w r b0 t v) (h : DataW.Trod enc P w base spare held t v d p) :
    ∃ xs : List Int, xs.length = n ∧ v = .agg (xs.map (Value.int k)).toArray ∧ ∀ x ∈ xs, (Lit.int k x).wf = true := by
  simp only [Value.okWide, hs] at hv
  obtain ⟨cs, rfl, hsz, _⟩ := hv
  obtain ⟨fuel, hf⟩ := h
  obtain ⟨ys, m, _, _, _, hyl, hy⟩ := DataW.trod_array hs hf
  rw [hct] at hsz
  have hone : ∀ i, i < n → ∃ a, cs[i]? = some (.int k a) ∧ (Lit.int k a).wf = true := fun i hi => by
    have h1 := hy i hi
    rw [hce, Nat.mul_one, List.getElem?_eq_getElem (by omega)] at h1
    obtain ⟨a, ea, _, wa⟩ := DataW.trod_int he h1
    refine ⟨a, ?_, wa⟩
    have h2 : (((Value.agg cs).cells.toList.drop i).take 1)[0]? = some (.int k a) := by rw [ea]; rfl
    simpa [Value.cells] using h2
  refine ⟨(List.range n).map fun i => match cs[i]? with | some (Value.int _ a) => a | _ => 0, by simp, ?_, ?_⟩
  · congr 1
    apply Array.ext
    · simp [hsz]
    · intro i h1 h2
      obtain ⟨a, ha, _⟩ := hone i (by omega)
      have hc : cs[i] = .int k a := by
        rw [Array.getElem?_eq_getElem h1] at ha
        exact Option.some.inj ha
      simp [ha, hc]
  · intro x hx
    simp only [List.mem_map, List.mem_range] at hx
    obtain ⟨i, hi, rfl⟩ := hx
    obtain ⟨a, ha, wa⟩ := hone i hi
    simp [ha, wa]

theorem open_array2 {H : Type} {enc : TypeId × Value → H} {P : Program} {w : World} {base b0 : Nat} {spare : Nat → Bool} {held : Bool} {r : Reach} {t e : TypeId} {k : IntKind} {v : Value} {d : DataW H} {p : List MemPlace}
    (hs : P.underlying t = some (.array 2 e)) (he : P.underlying e = some (.int k)) (hce : P.cellsOf e = 1) (hct : P.cellsOf t = 2)
    (hv : Value.okWide P w r b0 t v) (h : DataW.Trod enc P w base spare held t v d p) :
    ∃ x y : Int, v = .agg #[.int k x, .int k y] ∧ (Lit.int k x).wf = true ∧ (Lit.int k y).wf = true := by
  obtain ⟨xs, hl, rfl, hw⟩ := open_array hs he hce hct hv h
  match xs, hl with
  | [x, y], _ => exact ⟨x, y, rfl, hw x (by simp), hw y (by simp)⟩

/-- a struct of integers: cell i holds field i's. -/
theorem open_struct_ints {H : Type} {enc : TypeId × Value → H} {P : Program} {w : World} {base b0 : Nat} {spare : Nat → Bool} {held : Bool} {r : Reach} {t : TypeId} {fs : Array Field} {v : Value} {d : DataW H} {p : List MemPlace}
    (hs : P.underlying t = some (.struct fs)) (K : Nat → IntKind) (hct : P.cellsOf t = fs.size)
    (hfs : ∀ (i : Nat) (f : Field), fs[i]? = some f → f.offset = i ∧ P.cellsOf f.type = 1 ∧ P.underlying f.type = some (.int (K i)))
    (hv : Value.okWide P w r b0 t v) (h : DataW.Trod enc P w base spare held t v d p) :
    ∃ X : Nat → Int, v = .agg ((List.range fs.size).map fun i => Value.int (K i) (X i)).toArray ∧ ∀ i, i < fs.size → (Lit.int (K i) (X i)).wf = true := by
  obtain ⟨cs, rfl, hsz⟩ := okWide_struct hs hv
  obtain ⟨fuel, hf⟩ := h
  obtain ⟨ys, m, _, _, _, hyl, hy⟩ := DataW.trod_struct hs hf
  rw [hct] at hsz
  have hone : ∀ i, i < fs.size → ∃ a, cs[i]? = some (.int (K i) a) ∧ (Lit.int (K i) a).wf = true := fun i hi => by
    obtain ⟨f, hfi⟩ : ∃ f, fs[i]? = some f := ⟨_, Array.getElem?_eq_getElem hi⟩
    obtain ⟨ho, hc, hu⟩ := hfs i f hfi
    have h1 := hy i f hfi
    rw [hc, ho, List.getElem?_eq_getElem (by omega)] at h1
    obtain ⟨a, ea, _, wa⟩ := DataW.trod_int hu h1
    refine ⟨a, ?_, wa⟩
    have h2 : (((Value.agg cs).cells.toList.drop i).take 1)[0]? = some (.int (K i) a) := by rw [ea]; rfl
    simpa [Value.cells] using h2
  refine ⟨fun i => match cs[i]? with | some (Value.int _ a) => a | _ => 0, ?_, ?_⟩
  · congr 1
    apply Array.ext
    · simp [hsz]
    · intro i h1 h2
      obtain ⟨a, ha, _⟩ := hone i (by omega)
      have hc : cs[i] = .int (K i) a := by
        rw [Array.getElem?_eq_getElem h1] at ha
        exact Option.some.inj ha
      simp [ha, hc]
  · intro i hi
    obtain ⟨a, ha, wa⟩ := hone i hi
    simp [ha, wa]

/-- .. of two. -/
theorem open_struct2 {H : Type} {enc : TypeId × Value → H} {P : Program} {w : World} {base b0 : Nat} {spare : Nat → Bool} {held : Bool} {r : Reach} {t : TypeId} {f0 f1 : Field} {k0 k1 : IntKind} {v : Value} {d : DataW H} {p : List MemPlace}
    (hs : P.underlying t = some (.struct #[f0, f1])) (hct : P.cellsOf t = 2) (o0 : f0.offset = 0) (o1 : f1.offset = 1) (c0 : P.cellsOf f0.type = 1) (c1 : P.cellsOf f1.type = 1) (u0 : P.underlying f0.type = some (.int k0)) (u1 : P.underlying f1.type = some (.int k1))
    (hv : Value.okWide P w r b0 t v) (h : DataW.Trod enc P w base spare held t v d p) :
    ∃ x y : Int, v = .agg #[.int k0 x, .int k1 y] ∧ (Lit.int k0 x).wf = true ∧ (Lit.int k1 y).wf = true := by
  obtain ⟨X, rfl, hX⟩ := open_struct_ints hs (fun i => if i = 0 then k0 else k1) hct (fun i f hf => by
    match i with
    | 0 => cases hf; exact ⟨o0, c0, u0⟩
    | 1 => cases hf; exact ⟨o1, c1, u1⟩
    | i + 2 => simp at hf) hv h
  exact ⟨X 0, X 1, rfl, hX 0 (by simp), hX 1 (by simp)⟩
end Go.Proofs.Ytmildaofmgeceaa
