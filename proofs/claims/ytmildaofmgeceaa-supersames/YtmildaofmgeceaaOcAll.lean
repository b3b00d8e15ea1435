/-
  Bytes, OcR, OcL, OcP, OcW, OcO, OcT, in one text.
-/
import Derived.Test.YtmildaofmgeceaaGround
import Derived.Deep.RegionLaw
namespace Go.Proofs.Ytmildaofmgeceaa
set_option linter.unusedVariables false
set_option linter.unusedSimpArgs false
open Go.RowKit

theorem make_bytes (n : Nat) (h : n ≤ 281474976710656) (w : World) :
    (Instr.makeSlice 30 (.int .i64 (n : Int)) (.int .i64 (n : Int))).run Try.prog w = .ok (.slice (some ⟨w.heap.size, 0, none⟩) n n) (w.alloc (.cells (blk .u8 (List.replicate n 0)) 5)) := by
  have h := run_make_row' (P := Try.prog) 30 5 (.int .u8 0) 1 Try.underlying30 (by kernel_rfl) rfl .i64 .i64 n (by omega) (by omega) w
  rw [h, blk_made]

theorem load_none {P : Program} (w : World) (a : Addr) : (loadCells a 0).run P w = .ok #[] w := by
  have := run_loadCells_list (P := P) w a [] (fun j v hj => by simp at hj)
  simpa using this

/-- string(b), for whatever slice of octets. -/
theorem conv_bytes {w : World} {a : Option Addr} {len : Nat} {zs : List Int} (cap : Nat) (h : Row .u8 w a len zs) :
    (convert 30 9 (.slice a len cap)).run Try.prog w = .ok (.string (strOfNums zs)) w := by
  obtain ⟨hl, h0 | ⟨b, off, rfl, hb, hc⟩⟩ := h
  · subst h0
    obtain rfl : zs = [] := List.eq_nil_of_length_eq_zero hl
    cases a with
    | none => exact run_convert_bytes_nil w 30 5 Try.underlying30 Try.underlying5 0 cap 9 Try.underlying9
    | some x =>
      rw [run_convert_bytes_string w 30 9 5 _ 0 cap Try.underlying30 Try.underlying5 Try.underlying9, run_bytesToString w x 0 cap [] (by simpa using load_none w x)]
      rfl
  · exact run_convert_bytes_arg w 30 5 Try.underlying30 Try.underlying5 b off len cap zs hl hc 9 Try.underlying9

end Go.Proofs.Ytmildaofmgeceaa

namespace Go.Proofs.Ytmildaofmgeceaa
set_option linter.unusedVariables false
set_option linter.unusedSimpArgs false
open Go.RowKit

theorem take_snoc (zs : List Int) (k : Nat) (h : k < zs.length) : zs.take (k + 1) = zs.take k ++ [zs[k]] := by
  rw [List.take_succ_eq_append_getElem h]

theorem read_step (zs : List Int) (hz : Nums.Bytes zs) (k : Nat) (h : k < zs.length) (h8 : k < 8) :
    bits BinOp.or IntKind.u64 (Nums.rd (List.take k zs)) (IntKind.u64.wrap (IntKind.u64.wrap zs[k] * 2 ^ (8 * k))) = Nums.rd (List.take (k + 1) zs) := by
  have hb := Nums.rd_bounds _ (Nums.bytes_take hz k)
  have hl : (zs.take k).length = k := by simp; omega
  rw [hl] at hb
  have hzk := hz _ (List.getElem_mem h)
  rw [or_step _ _ k h8 hb.1 hb.2 hzk.1 hzk.2, take_snoc zs k h, Nums.rd_snoc, hl]

set_option maxHeartbeats 1000000 in
theorem read_any (a : Option Addr) (len cap : Nat) (zs : List Int) (w : World) (hl : len ≤ maxLen) (hr : Row .u8 w a len zs) (hz : Nums.Bytes zs) :
    Calls Try.prog 55 #[.slice a len cap] w fun e w' => e = .returned (.int .u64 (Nums.rd (zs.take 8))) ∧ w' = w := by
  unfold maxLen at hl
  obtain ⟨hlen, hr⟩ := hr
  go_enter Try.func55, Try.ntmps55
  go_wp2
  go_loop [3, 4] (fun v i => ∃ k : Nat, k ≤ len ∧ k ≤ 8 ∧ i = .int .i64 k ∧ v = .int .u64 (Nums.rd (zs.take k))) (fun _ i => 8 - (intOf i).toNat)
  case atStart => exact ⟨0, Nat.zero_le _, by omega, rfl, rfl⟩
  case round =>
    obtain ⟨k, hk, hk8, rfl, rfl⟩ := hrel
    by_cases hlt : k < len
    · have hi1 : (k : Int) < (len : Int) := by omega
      by_cases hlt8 : k < 8
      · rcases hr with hr | ⟨b, off, rfl, hbw, hc⟩
        · omega
        · have hck := hc k hlt
          have hi8 : (k : Int) < 8 := by omega
          have hkz : k < zs.length := by omega
          have HS := hide (read_step zs hz k hkz hlt8)
          go_wp2
          go_round
          case rel => exact ⟨k + 1, by omega, by omega, by go_num, by rw [unhide HS]⟩
          case measure => simp [intOf]; omega
      · have hi8 : ¬ (k : Int) < 8 := by omega
        obtain rfl : k = 8 := by omega
        go_wp2
        go_ret
        exact ⟨rfl, rfl⟩
    · have hi1 : ¬ (k : Int) < (len : Int) := by omega
      have HE : Hid (Nums.rd (zs.take k) = Nums.rd (zs.take 8)) := by
        show _ = _
        rw [List.take_of_length_le (by omega), List.take_of_length_le (by omega)]
      go_wp2
      go_ret
      exact ⟨by rw [← HE.out]; rfl, rfl⟩

end Go.Proofs.Ytmildaofmgeceaa

namespace Go.Proofs.Ytmildaofmgeceaa
set_option linter.unusedVariables false
set_option linter.unusedSimpArgs false
open Go.RowKit

set_option maxHeartbeats 400000 in
theorem lay_no (v n : Int) (w : World) (h2 : n < 0 ∨ 8 < n) :
    Calls Try.prog 20 #[.int .u64 v, .int .i64 n] w fun e w' => e = .returned (.slice none 0 0) ∧ w' = w := by
  rcases h2 with h2 | h2
  · go_enter Try.func20, Try.ntmps20
    go_wp2
    go_ret
    exact ⟨rfl, rfl⟩
  · have h3 : ¬ n < 0 := by omega
    go_enter Try.func20, Try.ntmps20
    go_wp2
    go_ret
    exact ⟨rfl, rfl⟩

theorem lay_step (v : Int) (k n : Nat) (h : k < n) : (Nums.lay v k ++ List.replicate (n - k) 0).set k (v / 2 ^ (8 * k) % 256) = Nums.lay v (k + 1) ++ List.replicate (n - (k + 1)) 0 := by
  obtain ⟨m, rfl⟩ : ∃ m, n = k + 1 + m := ⟨n - (k + 1), by omega⟩
  have e1 : k + 1 + m - k = m + 1 := by omega
  have e2 : k + 1 + m - (k + 1) = m := by omega
  rw [e1, e2, Nums.lay_succ, pow2_256, List.set_append_right _ _ (by simp [Nums.length_lay])]
  simp [Nums.length_lay, List.replicate_succ]

set_option maxHeartbeats 1000000 in
theorem lay_yes (v : Int) (n : Nat) (w : World) (hv : (Lit.int .u64 v).wf = true) (hn : n ≤ 8) :
    Calls Try.prog 20 #[.int .u64 v, .int .i64 n] w fun e w' => e = .returned (.slice (some ⟨w.heap.size, 0, none⟩) n n) ∧ w' = w.alloc (.cells (blk .u8 (Nums.lay v n)) 5) := by
  obtain ⟨hv0, hv1⟩ := bd_u64 hv
  clear hv
  have hmk := make_bytes n (by omega)
  have hn1 : (n : Int) ≤ 8 := by omega
  have hn2 : ¬ 8 < (n : Int) := by omega
  go_enter Try.func20, Try.ntmps20
  go_wp2
  clear hmk
  go_loopw [17] (fun i wr => ∃ k : Nat, k ≤ n ∧ i = .int .i64 k ∧ wr = w.alloc (.cells (blk .u8 (Nums.lay v k ++ List.replicate (n - k) 0)) 5)) (fun i _ => n - (intOf i).toNat)
  case atStart => exact ⟨0, Nat.zero_le _, rfl, by simp [Nums.lay]⟩
  case round =>
    obtain ⟨k, hk, rfl, rfl⟩ := hrel
    by_cases hlt : k < n
    · have hi : (k : Int) < (n : Int) := by omega
      obtain ⟨L, hL⟩ : ∃ L, L = Nums.lay v k ++ List.replicate (n - k) 0 := ⟨_, rfl⟩
      have hLl : L.length = n := by rw [hL]; simp [Nums.length_lay]; omega
      rw [← hL]
      have HL := hide hL
      have hget := blk_get .u8 L k (by omega)
      clear hL
      go_wp2
      go_roundw
      case rel => exact ⟨k + 1, by omega, by go_num, by rw [blk_set, HL.out, lay_step v k n hlt]⟩
      case measure => simp [intOf]; omega
    · have hi : ¬ (k : Int) < (n : Int) := by omega
      obtain rfl : k = n := by omega
      go_wp2
      go_ret
      exact ⟨rfl, by simp⟩
end Go.Proofs.Ytmildaofmgeceaa

namespace Go.Proofs.Ytmildaofmgeceaa
set_option linter.unusedVariables false
set_option linter.unusedSimpArgs false
open Go.RowKit

/-- A call of a function of the program as one step of a region that draws its order. -/
theorem step_call {P : Program} {ops : Array Oper} {o : Oper} {a : Act} {w : World} {K : Act → World → Prop} {Q : Exit → Act → World → Prop} {E : Prop}
    (hgd : o.guard = none) (f : FuncId) (hcf : ∀ args w, (callFunc f args).run P w = .ok (.enter f args) w) (args : Array Operand) (tys : Array TypeId) (hop : o.op = .call { callee := .value (.func f), args := args, argTypes := tys })
    (vals : Array Value) (hv : args.map a.eval = vals) {R : Ending → World → Prop} (hc : Calls P f vals w R)
    (h : ∀ e w', R e w' → ∃ v, e = .returned v ∧ K (a.put o.dst v) w') :
    if Region.wanted o (yielded ops a.tmps) = true then Oper.wp P o a w K Q else E := by
  have hw : Region.wanted o (yielded ops a.tmps) = true := by simp [Region.wanted, hgd]
  rw [if_pos hw]
  unfold Oper.wp
  subst hv
  simp [execOp, hop, resolve, invoke, Result.andThen, go_sem, hcf]
  refine hc.mono fun e w' hr => ?_
  obtain ⟨v, rfl, hk⟩ := h e w' hr
  exact hk

theorem step_call2 {P : Program} {ops : Array Oper} {o : Oper} {a : Act} {w : World} {K : Act → World → Prop} {Q : Exit → Act → World → Prop} {E : Prop}
    (hgd : o.guard = none) (f : FuncId) (hcf : ∀ args w, (callFunc f args).run P w = .ok (.enter f args) w) (x y : Operand) (tys : Array TypeId) (hop : o.op = .call { callee := .value (.func f), args := #[x, y], argTypes := tys })
    (u v : Value) (hx : a.eval x = u) (hy : a.eval y = v) {R : Ending → World → Prop} (hc : Calls P f #[u, v] w R)
    (h : ∀ e w', R e w' → ∃ v, e = .returned v ∧ K (a.put o.dst v) w') :
    if Region.wanted o (yielded ops a.tmps) = true then Oper.wp P o a w K Q else E :=
  step_call hgd f hcf #[x, y] tys hop #[u, v] (by simp [hx, hy]) hc h

theorem blk_splice (k : IntKind) (zs l : List Int) (p : Nat) : (splice (zs.map (Value.int k)) p (l.map (Value.int k))).toArray = blk k (splice zs p l) := by
  simp [splice, blk]
theorem splice_all (zs l : List Int) (h : l.length = zs.length) : splice zs 0 l = l := by
  simp [splice, h]

theorem block_cell {k : IntKind} {w : World} {g : Nat} {e : TypeId} {zs : List Int} (h : w.heap[g]? = some (.cells (blk k zs) e (0, 0))) (j : Nat) (v : Value) (hj : (zs.map (Value.int k))[j]? = some v) : w.cell? ((⟨g, 0, none⟩ : Addr).add j) = some v := by
  have : (⟨g, 0, none⟩ : Addr).add j = ⟨g, j, none⟩ := by unfold Addr.add; split <;> simp_all
  rw [this]
  simp [World.cell?, h, blk] at hj ⊢
  simpa using hj

theorem setRow_alloc (w : World) (old cs : Array Value) (t : TypeId) : (w.alloc (.cells old t)).setRow w.heap.size cs = w.alloc (.cells cs t) := by
  unfold World.setRow World.alloc
  congr 1
  apply Array.ext
  · simp
  · intro k h1 h2
    simp only [Array.getElem_modify, Array.getElem_push]
    by_cases hk : k < w.heap.size
    · simp [hk]; omega
    · have : w.heap.size = k := by simp at h1; omega
      simp [this]

/-- copy(out, b), out new and as long as b. -/
theorem copy_new {w : World} {a : Option Addr} {len : Nat} {zs : List Int} (cap : Nat) (h : Row .u8 w a len zs) (ys : List Int) (hy : ys.length = len) :
    (Builtin.copy_ #[30, 30] 3 #[.slice (some ⟨w.heap.size, 0, none⟩) len len, .slice a len cap]).run Try.prog (w.alloc (.cells (blk .u8 ys) 5)) = .ok (.int .i64 len) (w.alloc (.cells (blk .u8 zs) 5)) := by
  by_cases h0 : len = 0
  · subst h0
    obtain rfl : zs = [] := List.eq_nil_of_length_eq_zero h.1
    obtain rfl : ys = [] := List.eq_nil_of_length_eq_zero hy
    exact run_copy_none (P := Try.prog) _ 30 30 3 5 _ a 0 0 0 cap Try.underlying30 (by kernel_rfl) rfl
  · have hl := h.1
    have hB : Below w.heap.size w (w.alloc (.cells (blk .u8 ys) 5)) := (Below.refl _ _).alloc (Nat.le_refl _) _
    obtain ⟨ad, rfl, hsrc⟩ := (h.below hB).src (by omega)
    have hr := run_copy_row (P := Try.prog) (w.alloc (.cells (blk .u8 ys) 5)) 30 30 3 5 w.heap.size 0 len len ad len cap (blk .u8 ys) 5 (zs.map (Value.int .u8)) Try.underlying30 (by kernel_rfl) (heap_alloc_new w _) (by simp [hl]) hsrc (by simp [size_blk, hl, hy]) (oneCells _ _)
    rw [hr, setRow_alloc]
    simp [blk, hl, goInt]
    rw [List.drop_of_length_le (by simp [hy]), List.append_nil]

/-- copy(out[p:], l), out a block that is known whole. -/
theorem copy_over {W : World} {a : Option Addr} {n : Nat} {l zs : List Int} {g : Nat} (p m c cap : Nat) (h : Row .u8 W a n l) (hg : W.heap[g]? = some (.cells (blk .u8 zs) 5 (0, 0))) (hnm : n ≤ m) (hfit : p + n ≤ zs.length) :
    (Builtin.copy_ #[30, 30] 3 #[.slice (some ⟨g, p, none⟩) m c, .slice a n cap]).run Try.prog W = .ok (.int .i64 n) (W.setRow g (blk .u8 (splice zs p l))) := by
  have hl := h.1
  by_cases h0 : n = 0
  · subst h0
    obtain rfl : l = [] := List.eq_nil_of_length_eq_zero hl
    have hs : splice zs p [] = zs := by simp [splice]
    rw [hs, setRow_self W g _ _ _ hg]
    exact run_copy_none (P := Try.prog) _ 30 30 3 5 _ a m c 0 cap Try.underlying30 (by kernel_rfl) (Nat.min_eq_left (Nat.zero_le _))
  · obtain ⟨ad, rfl, hsrc⟩ := h.src (by omega)
    have hr := run_copy_row (P := Try.prog) W 30 30 3 5 g p m c ad n cap (blk .u8 zs) 5 (l.map (Value.int .u8)) Try.underlying30 (by kernel_rfl) hg (by simp [hl]; exact (Nat.min_eq_left hnm).symm) hsrc (by simp [size_blk, hl]; exact hfit) (oneCells _ _)
    rw [hr]
    simp [blk, splice, hl, goInt]

theorem wf_nat {n : Nat} (h : n ≤ 9223372036854775807) : (Lit.int .i64 (n : Int)).wf = true := by
  simp [Lit.wf, IntKind.min, IntKind.max, IntKind.signed, IntKind.bits]; omega

end Go.Proofs.Ytmildaofmgeceaa

namespace Go.Proofs.Ytmildaofmgeceaa
set_option linter.unusedVariables false
set_option linter.unusedSimpArgs false
open Go.RowKit

end Go.Proofs.Ytmildaofmgeceaa

namespace Go.Proofs.Ytmildaofmgeceaa
set_option linter.unusedVariables false
set_option linter.unusedSimpArgs false
open Go.RowKit

end Go.Proofs.Ytmildaofmgeceaa

namespace Go.Proofs.Ytmildaofmgeceaa
set_option linter.unusedVariables false
set_option linter.unusedSimpArgs false
open Go.RowKit

theorem Row.cellAt {k : IntKind} {w : World} {b off len : Nat} {zs : List Int} (h : Row k w (some ⟨b, off, none⟩) len zs) (j : Nat) (hj : j < len) : w.cell? ⟨b, off + j, none⟩ = some (.int k (zs.getD j 0)) := by
  obtain ⟨_, h0 | ⟨b', off', he, _, hc⟩⟩ := h
  · omega
  · simp only [Option.some.injEq, Addr.mk.injEq, and_true] at he
    obtain ⟨rfl, rfl⟩ := he
    exact hc j hj

theorem Row.headRow {k : IntKind} {w : World} {a : Option Addr} {len : Nat} {zs : List Int} (h : Row k w a len zs) (p : Nat) (hp : p ≤ len) : Row k w a p (zs.take p) := by
  obtain ⟨hl, h0 | ⟨b, off, rfl, hb, hc⟩⟩ := h
  · exact ⟨by simp; omega, .inl (by omega)⟩
  · refine ⟨by simp; omega, .inr ⟨b, off, rfl, hb, fun i hi => ?_⟩⟩
    rw [hc i (by omega)]
    simp [List.getElem?_take, hi]

end Go.Proofs.Ytmildaofmgeceaa
