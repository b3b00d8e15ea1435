/-
  octet.Put: what it answers.
-/
import Derived.Test.YtpphhkgkohlbbaaOctD
import Derived.Deep.RegionLaw
namespace Go.Proofs.Ytpphhkgkohlbbaa
set_option linter.unusedVariables false
set_option linter.unusedSimpArgs false
open Go.RowKit

/-- A call of a function of the program as one step of a region that draws its order. -/
theorem step_call {P : Program} {ops : Array Oper} {o : Oper} {a : Act} {w : World} {K : Act → World → Prop} {Q : Exit → Act → World → Prop} {E : Prop}
    (hgd : o.guard = none) (f : FuncId) (hcf : ∀ args w, (callFunc f args).run P w = .ok (.enter f args) w) (args : Array Operand) (tys : Array TypeId) (hop : o.op = .call { callee := .value (.func f), args := args, argTypes := tys })
    (vals : Array Value) (hv : args.map a.eval = vals) {R : Ending → World → Prop} (hc : Calls P f vals w R)
    (h : ∀ e w', R e w' → ∃ v, e = .returned v ∧ K (a.put o.dst v) w') :
    if Region.wanted o (yielded ops a.tmps) = true then Oper.wp P o a w K Q else E := by
  have hw : Region.wanted o (yielded ops a.tmps) = true := by simp [Region.wanted, hgd]
  rw [if_pos hw]
  unfold Oper.wp
  subst hv
  simp [execOp, hop, resolve, invoke, Result.andThen, go_sem, hcf]
  refine hc.mono fun e w' hr => ?_
  obtain ⟨v, rfl, hk⟩ := h e w' hr
  exact hk

theorem step_call2 {P : Program} {ops : Array Oper} {o : Oper} {a : Act} {w : World} {K : Act → World → Prop} {Q : Exit → Act → World → Prop} {E : Prop}
    (hgd : o.guard = none) (f : FuncId) (hcf : ∀ args w, (callFunc f args).run P w = .ok (.enter f args) w) (x y : Operand) (tys : Array TypeId) (hop : o.op = .call { callee := .value (.func f), args := #[x, y], argTypes := tys })
    (u v : Value) (hx : a.eval x = u) (hy : a.eval y = v) {R : Ending → World → Prop} (hc : Calls P f #[u, v] w R)
    (h : ∀ e w', R e w' → ∃ v, e = .returned v ∧ K (a.put o.dst v) w') :
    if Region.wanted o (yielded ops a.tmps) = true then Oper.wp P o a w K Q else E :=
  step_call hgd f hcf #[x, y] tys hop #[u, v] (by simp [hx, hy]) hc h

theorem blk_splice (k : IntKind) (zs l : List Int) (p : Nat) : (splice (zs.map (Value.int k)) p (l.map (Value.int k))).toArray = blk k (splice zs p l) := by
  simp [splice, blk]
theorem splice_all (zs l : List Int) (h : l.length = zs.length) : splice zs 0 l = l := by
  simp [splice, h]
theorem oneCells (k : IntKind) (l : List Int) : ∀ v ∈ l.map (Value.int k), v.oneCell' = true := ints_oneCell k l

set_option maxHeartbeats 1000000 in
theorem put_no (a : Option Addr) (len cap : Nat) (p n v : Int) (w : World) (hl : len ≤ maxLen) (h1 : (Lit.int .i64 p).wf = true) (h2 : (Lit.int .i64 n).wf = true) (hv : numB len p n = false) :
    Calls Try.prog 14 #[.slice a len cap, .int .i64 p, .int .i64 n, .int .u64 v] w fun e w' => e = .returned (.tuple #[.slice none 0 0, .bool false]) ∧ w' = w := by
  have hw := numbered_any a len cap p n w hl h1 h2
  rw [hv] at hw
  have HW := hide hw
  clear hw hv
  go_enter Try.func14, Try.ntmps14
  go_wp2_with (go_at_call 21; refine (unhide HW).mono ?_; rintro e w' ⟨rfl, hw'⟩; obtain rfl := hw'.symm)
  go_ret2
  exact ⟨rfl, rfl⟩

theorem block_cell {k : IntKind} {w : World} {g : Nat} {e : TypeId} {zs : List Int} (h : w.heap[g]? = some (.cells (blk k zs) e (0, 0))) (j : Nat) (v : Value) (hj : (zs.map (Value.int k))[j]? = some v) : w.cell? ((⟨g, 0, none⟩ : Addr).add j) = some v := by
  have : (⟨g, 0, none⟩ : Addr).add j = ⟨g, j, none⟩ := by unfold Addr.add; split <;> simp_all
  rw [this]
  simp [World.cell?, h, blk] at hj ⊢
  simpa using hj

theorem Row.src {k : IntKind} {w : World} {a : Option Addr} {len : Nat} {zs : List Int} (h : Row k w a len zs) (hp : 0 < len) : ∃ ad, a = some ad ∧ ∀ (j : Nat) v, (zs.map (Value.int k))[j]? = some v → w.cell? (ad.add j) = some v := by
  obtain ⟨hl, h0 | ⟨b, off, rfl, hb, hc⟩⟩ := h
  · omega
  · refine ⟨_, rfl, fun j v hj => ?_⟩
    have hjl : j < zs.length := by
      have := (List.getElem?_eq_some_iff.1 hj).1
      simpa using this
    have : (⟨b, off, none⟩ : Addr).add j = ⟨b, off + j, none⟩ := by unfold Addr.add; split <;> simp_all
    rw [this, hc j (by omega)]
    simp [hjl] at hj ⊢
    exact hj

theorem setRow_alloc (w : World) (old cs : Array Value) (t : TypeId) : (w.alloc (.cells old t)).setRow w.heap.size cs = w.alloc (.cells cs t) := by
  unfold World.setRow World.alloc
  congr 1
  apply Array.ext
  · simp
  · intro k h1 h2
    simp only [Array.getElem_modify, Array.getElem_push]
    by_cases hk : k < w.heap.size
    · simp [hk]; omega
    · have : w.heap.size = k := by simp at h1; omega
      simp [this]

/-- copy(out, b), out new and as long as b. -/
theorem copy_new {w : World} {a : Option Addr} {len : Nat} {zs : List Int} (cap : Nat) (h : Row .u8 w a len zs) (ys : List Int) (hy : ys.length = len) :
    (Builtin.copy_ #[23, 23] 3 #[.slice (some ⟨w.heap.size, 0, none⟩) len len, .slice a len cap]).run Try.prog (w.alloc (.cells (blk .u8 ys) 5)) = .ok (.int .i64 len) (w.alloc (.cells (blk .u8 zs) 5)) := by
  by_cases h0 : len = 0
  · subst h0
    obtain rfl : zs = [] := List.eq_nil_of_length_eq_zero h.1
    obtain rfl : ys = [] := List.eq_nil_of_length_eq_zero hy
    exact run_copy_none (P := Try.prog) _ 23 23 3 5 _ a 0 0 0 cap Try.underlying23 (by kernel_rfl) rfl
  · have hl := h.1
    have hB : Below w.heap.size w (w.alloc (.cells (blk .u8 ys) 5)) := (Below.refl _ _).alloc (Nat.le_refl _) _
    obtain ⟨ad, rfl, hsrc⟩ := (h.below hB).src (by omega)
    have hr := run_copy_row (P := Try.prog) (w.alloc (.cells (blk .u8 ys) 5)) 23 23 3 5 w.heap.size 0 len len ad len cap (blk .u8 ys) 5 (zs.map (Value.int .u8)) Try.underlying23 (by kernel_rfl) (heap_alloc_new w _) (by simp [hl]) hsrc (by simp [size_blk, hl, hy]) (oneCells _ _)
    rw [hr, setRow_alloc]
    simp [blk, hl, goInt]
    rw [List.drop_of_length_le (by simp [hy]), List.append_nil]

/-- copy(out[p:], l), out a block that is known whole. -/
theorem copy_over {W : World} {a : Option Addr} {n : Nat} {l zs : List Int} {g : Nat} (p m c cap : Nat) (h : Row .u8 W a n l) (hg : W.heap[g]? = some (.cells (blk .u8 zs) 5 (0, 0))) (hnm : n ≤ m) (hfit : p + n ≤ zs.length) :
    (Builtin.copy_ #[23, 23] 3 #[.slice (some ⟨g, p, none⟩) m c, .slice a n cap]).run Try.prog W = .ok (.int .i64 n) (W.setRow g (blk .u8 (splice zs p l))) := by
  have hl := h.1
  by_cases h0 : n = 0
  · subst h0
    obtain rfl : l = [] := List.eq_nil_of_length_eq_zero hl
    have hs : splice zs p [] = zs := by simp [splice]
    rw [hs, setRow_self W g _ _ _ hg]
    exact run_copy_none (P := Try.prog) _ 23 23 3 5 _ a m c 0 cap Try.underlying23 (by kernel_rfl) (Nat.min_eq_left (Nat.zero_le _))
  · obtain ⟨ad, rfl, hsrc⟩ := h.src (by omega)
    have hr := run_copy_row (P := Try.prog) W 23 23 3 5 g p m c ad n cap (blk .u8 zs) 5 (l.map (Value.int .u8)) Try.underlying23 (by kernel_rfl) hg (by simp [hl]; exact (Nat.min_eq_left hnm).symm) hsrc (by simp [size_blk, hl]; exact hfit) (oneCells _ _)
    rw [hr]
    simp [blk, splice, hl, goInt]

set_option maxHeartbeats 1000000 in
theorem put_yes (a : Option Addr) (len cap p n : Nat) (v : Int) (zs : List Int) (w : World) (hl : len ≤ 281474976710656) (hlc : len ≤ cap) (hr : Row .u8 w a len zs) (hv : (Lit.int .u64 v).wf = true) (hn : 1 ≤ n) (hn8 : n ≤ 8) (hpn : p + n ≤ len) :
    Calls Try.prog 14 #[.slice a len cap, .int .i64 p, .int .i64 n, .int .u64 v] w fun e w' => e = .returned (.tuple #[.slice (some ⟨w.heap.size, 0, none⟩) len len, .bool true]) ∧ Below w.heap.size w w' ∧ w'.heap[w.heap.size]? = some (.cells (blk .u8 (splice zs p (Nums.lay v n))) 5 (0, 0)) := by
  have hm : len ≤ maxLen := by unfold maxLen; omega
  have hw := numbered_any a len cap p n w hm (wf_nat (by omega)) (wf_nat (by omega))
  rw [show numB len p n = true by simp [numB, hasB]; omega] at hw
  have HW := hide hw
  have hr' := hr
  have HR := hide hr
  clear hw hr
  have hmk := make_bytes len hl
  have hcp := copy_new cap hr' (List.replicate len 0) (by simp)
  have HV := hide hv
  clear hv
  go_enter Try.func14, Try.ntmps14
  go_wp2_with (go_at_call 21; refine (unhide HW).mono ?_; rintro e w' ⟨rfl, hw'⟩; obtain rfl := hw'.symm)
  clear hcp hr' hmk
  have hp1 : (p : Int) ≤ (len : Int) := by omega
  have hne : ¬ len = p := by omega
  obtain ⟨W2, hW2⟩ : ∃ W2, W2 = ((w.alloc (.cells (blk .u8 zs) 5)).alloc (.cells (blk .u8 (Nums.lay v n)) 5)).drew := ⟨_, rfl⟩
  have hg2 : W2.heap[w.heap.size]? = some (.cells (blk .u8 zs) 5 (0, 0)) := by
    rw [hW2]
    show ((w.alloc _).alloc _).heap[w.heap.size]? = _
    rw [Below.heap_alloc _ _ _ (by simp)]
    exact heap_alloc_new w _
  have hl2 : W2.heap[w.heap.size + 1]? = some (.cells (blk .u8 (Nums.lay v n)) 5 (0, 0)) := by
    rw [hW2]
    have e : (w.alloc (.cells (blk .u8 zs) 5)).heap.size = w.heap.size + 1 := by simp
    rw [← e]
    exact heap_alloc_new (w.alloc (.cells (blk .u8 zs) 5)) (.cells (blk .u8 (Nums.lay v n)) 5)
  have hb2 : Below w.heap.size w W2 := by
    rw [hW2]
    exact (((Below.refl _ _).alloc (Nat.le_refl _) _).alloc (by simp) _).drew
  have hcp2 := copy_over (W := W2) p (len - p) (len - p) n (row_of_block hl2 (Nums.length_lay n v)) hg2 (by omega) (by have := HR.out.1; omega)
  have HEND : Hid (Below w.heap.size w (W2.setRow w.heap.size (blk .u8 (splice zs p (Nums.lay v n)))) ∧ (W2.setRow w.heap.size (blk .u8 (splice zs p (Nums.lay v n)))).heap[w.heap.size]? = some (.cells (blk .u8 (splice zs p (Nums.lay v n))) 5 (0, 0))) :=
    ⟨below_setRow hb2 (Nat.le_refl _) _, setRow_heap _ _ _ _ _ _ hg2⟩
  clear hg2 hl2 hb2
  rw [hW2] at hcp2
  subst hW2
  go_region_law (refine step_call2 rfl 9 Try.call9 _ _ _ rfl (.int .u64 v) (.int .i64 n) rfl rfl (lay_yes v n _ HV.out hn8) ?_; rintro e w2 ⟨rfl, rfl⟩; refine ⟨_, rfl, ?_⟩)
  clear hcp2
  go_wp2
  go_ret2
  exact ⟨rfl, HEND.out.1, HEND.out.2⟩
end Go.Proofs.Ytpphhkgkohlbbaa
