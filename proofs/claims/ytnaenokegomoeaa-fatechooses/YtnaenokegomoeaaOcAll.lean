/-
  Bytes, OcR, OcL, OcP, OcW, OcO, OcT, in one text.
-/
import Derived.Test.YtnaenokegomoeaaGround
import Derived.Deep.RegionLaw
namespace Go.Proofs.Ytnaenokegomoeaa
set_option linter.unusedVariables false
set_option linter.unusedSimpArgs false
open Go.RowKit

theorem make_bytes (n : Nat) (h : n ≤ 281474976710656) (w : World) :
    (Instr.makeSlice 38 (.int .i64 (n : Int)) (.int .i64 (n : Int))).run Try.prog w = .ok (.slice (some ⟨w.heap.size, 0, none⟩) n n) (w.alloc (.cells (blk .u8 (List.replicate n 0)) 5)) := by
  have h := run_make_row' (P := Try.prog) 38 5 (.int .u8 0) 1 Try.underlying38 (by kernel_rfl) rfl .i64 .i64 n (by omega) (by omega) w
  rw [h, blk_made]

theorem load_none {P : Program} (w : World) (a : Addr) : (loadCells a 0).run P w = .ok #[] w := by
  have := run_loadCells_list (P := P) w a [] (fun j v hj => by simp at hj)
  simpa using this

/-- string(b), for whatever slice of octets. -/
theorem conv_bytes {w : World} {a : Option Addr} {len : Nat} {zs : List Int} (cap : Nat) (h : Row .u8 w a len zs) :
    (convert 38 9 (.slice a len cap)).run Try.prog w = .ok (.string (strOfNums zs)) w := by
  obtain ⟨hl, h0 | ⟨b, off, rfl, hb, hc⟩⟩ := h
  · subst h0
    obtain rfl : zs = [] := List.eq_nil_of_length_eq_zero hl
    cases a with
    | none => exact run_convert_bytes_nil w 38 5 Try.underlying38 Try.underlying5 0 cap 9 Try.underlying9
    | some x =>
      rw [run_convert_bytes_string w 38 9 5 _ 0 cap Try.underlying38 Try.underlying5 Try.underlying9, run_bytesToString w x 0 cap [] (by simpa using load_none w x)]
      rfl
  · exact run_convert_bytes_arg w 38 5 Try.underlying38 Try.underlying5 b off len cap zs hl hc 9 Try.underlying9

end Go.Proofs.Ytnaenokegomoeaa

namespace Go.Proofs.Ytnaenokegomoeaa
set_option linter.unusedVariables false
set_option linter.unusedSimpArgs false
open Go.RowKit

theorem take_snoc (zs : List Int) (k : Nat) (h : k < zs.length) : zs.take (k + 1) = zs.take k ++ [zs[k]] := by
  rw [List.take_succ_eq_append_getElem h]

theorem read_step (zs : List Int) (hz : Nums.Bytes zs) (k : Nat) (h : k < zs.length) (h8 : k < 8) :
    bits BinOp.or IntKind.u64 (Nums.rd (List.take k zs)) (IntKind.u64.wrap (IntKind.u64.wrap zs[k] * 2 ^ (8 * k))) = Nums.rd (List.take (k + 1) zs) := by
  have hb := Nums.rd_bounds _ (Nums.bytes_take hz k)
  have hl : (zs.take k).length = k := by simp; omega
  rw [hl] at hb
  have hzk := hz _ (List.getElem_mem h)
  rw [or_step _ _ k h8 hb.1 hb.2 hzk.1 hzk.2, take_snoc zs k h, Nums.rd_snoc, hl]

set_option maxHeartbeats 1000000 in
theorem read_any (a : Option Addr) (len cap : Nat) (zs : List Int) (w : World) (hl : len ≤ maxLen) (hr : Row .u8 w a len zs) (hz : Nums.Bytes zs) :
    Calls Try.prog 61 #[.slice a len cap] w fun e w' => e = .returned (.int .u64 (Nums.rd (zs.take 8))) ∧ w' = w := by
  unfold maxLen at hl
  obtain ⟨hlen, hr⟩ := hr
  go_enter Try.func61, Try.ntmps61
  go_wp2
  go_loop [3, 4] (fun v i => ∃ k : Nat, k ≤ len ∧ k ≤ 8 ∧ i = .int .i64 k ∧ v = .int .u64 (Nums.rd (zs.take k))) (fun _ i => 8 - (intOf i).toNat)
  case atStart => exact ⟨0, Nat.zero_le _, by omega, rfl, rfl⟩
  case round =>
    obtain ⟨k, hk, hk8, rfl, rfl⟩ := hrel
    by_cases hlt : k < len
    · have hi1 : (k : Int) < (len : Int) := by omega
      by_cases hlt8 : k < 8
      · rcases hr with hr | ⟨b, off, rfl, hbw, hc⟩
        · omega
        · have hck := hc k hlt
          have hi8 : (k : Int) < 8 := by omega
          have hkz : k < zs.length := by omega
          have HS := hide (read_step zs hz k hkz hlt8)
          go_wp2
          go_round
          case rel => exact ⟨k + 1, by omega, by omega, by go_num, by rw [unhide HS]⟩
          case measure => simp [intOf]; omega
      · have hi8 : ¬ (k : Int) < 8 := by omega
        obtain rfl : k = 8 := by omega
        go_wp2
        go_ret
        exact ⟨rfl, rfl⟩
    · have hi1 : ¬ (k : Int) < (len : Int) := by omega
      have HE : Hid (Nums.rd (zs.take k) = Nums.rd (zs.take 8)) := by
        show _ = _
        rw [List.take_of_length_le (by omega), List.take_of_length_le (by omega)]
      go_wp2
      go_ret
      exact ⟨by rw [← HE.out]; rfl, rfl⟩

end Go.Proofs.Ytnaenokegomoeaa

namespace Go.Proofs.Ytnaenokegomoeaa
set_option linter.unusedVariables false
set_option linter.unusedSimpArgs false
open Go.RowKit

set_option maxHeartbeats 400000 in
theorem lay_no (v n : Int) (w : World) (h2 : n < 0 ∨ 8 < n) :
    Calls Try.prog 62 #[.int .u64 v, .int .i64 n] w fun e w' => e = .returned (.slice none 0 0) ∧ w' = w := by
  rcases h2 with h2 | h2
  · go_enter Try.func62, Try.ntmps62
    go_wp2
    go_ret
    exact ⟨rfl, rfl⟩
  · have h3 : ¬ n < 0 := by omega
    go_enter Try.func62, Try.ntmps62
    go_wp2
    go_ret
    exact ⟨rfl, rfl⟩

theorem lay_step (v : Int) (k n : Nat) (h : k < n) : (Nums.lay v k ++ List.replicate (n - k) 0).set k (v / 2 ^ (8 * k) % 256) = Nums.lay v (k + 1) ++ List.replicate (n - (k + 1)) 0 := by
  obtain ⟨m, rfl⟩ : ∃ m, n = k + 1 + m := ⟨n - (k + 1), by omega⟩
  have e1 : k + 1 + m - k = m + 1 := by omega
  have e2 : k + 1 + m - (k + 1) = m := by omega
  rw [e1, e2, Nums.lay_succ, pow2_256, List.set_append_right _ _ (by simp [Nums.length_lay])]
  simp [Nums.length_lay, List.replicate_succ]

set_option maxHeartbeats 1000000 in
theorem lay_yes (v : Int) (n : Nat) (w : World) (hv : (Lit.int .u64 v).wf = true) (hn : n ≤ 8) :
    Calls Try.prog 62 #[.int .u64 v, .int .i64 n] w fun e w' => e = .returned (.slice (some ⟨w.heap.size, 0, none⟩) n n) ∧ w' = w.alloc (.cells (blk .u8 (Nums.lay v n)) 5) := by
  obtain ⟨hv0, hv1⟩ := bd_u64 hv
  clear hv
  have hmk := make_bytes n (by omega)
  have hn1 : (n : Int) ≤ 8 := by omega
  have hn2 : ¬ 8 < (n : Int) := by omega
  go_enter Try.func62, Try.ntmps62
  go_wp2
  clear hmk
  go_loopw [17] (fun i wr => ∃ k : Nat, k ≤ n ∧ i = .int .i64 k ∧ wr = w.alloc (.cells (blk .u8 (Nums.lay v k ++ List.replicate (n - k) 0)) 5)) (fun i _ => n - (intOf i).toNat)
  case atStart => exact ⟨0, Nat.zero_le _, rfl, by simp [Nums.lay]⟩
  case round =>
    obtain ⟨k, hk, rfl, rfl⟩ := hrel
    by_cases hlt : k < n
    · have hi : (k : Int) < (n : Int) := by omega
      obtain ⟨L, hL⟩ : ∃ L, L = Nums.lay v k ++ List.replicate (n - k) 0 := ⟨_, rfl⟩
      have hLl : L.length = n := by rw [hL]; simp [Nums.length_lay]; omega
      rw [← hL]
      have HL := hide hL
      have hget := blk_get .u8 L k (by omega)
      clear hL
      go_wp2
      go_roundw
      case rel => exact ⟨k + 1, by omega, by go_num, by rw [blk_set, HL.out, lay_step v k n hlt]⟩
      case measure => simp [intOf]; omega
    · have hi : ¬ (k : Int) < (n : Int) := by omega
      obtain rfl : k = n := by omega
      go_wp2
      go_ret
      exact ⟨rfl, by simp⟩
end Go.Proofs.Ytnaenokegomoeaa

namespace Go.Proofs.Ytnaenokegomoeaa
set_option linter.unusedVariables false
set_option linter.unusedSimpArgs false
open Go.RowKit

/-- A call of a function of the program as one step of a region that draws its order. -/
theorem step_call {P : Program} {ops : Array Oper} {o : Oper} {a : Act} {w : World} {K : Act → World → Prop} {Q : Exit → Act → World → Prop} {E : Prop}
    (hgd : o.guard = none) (f : FuncId) (hcf : ∀ args w, (callFunc f args).run P w = .ok (.enter f args) w) (args : Array Operand) (tys : Array TypeId) (hop : o.op = .call { callee := .value (.func f), args := args, argTypes := tys })
    (vals : Array Value) (hv : args.map a.eval = vals) {R : Ending → World → Prop} (hc : Calls P f vals w R)
    (h : ∀ e w', R e w' → ∃ v, e = .returned v ∧ K (a.put o.dst v) w') :
    if Region.wanted o (yielded ops a.tmps) = true then Oper.wp P o a w K Q else E := by
  have hw : Region.wanted o (yielded ops a.tmps) = true := by simp [Region.wanted, hgd]
  rw [if_pos hw]
  unfold Oper.wp
  subst hv
  simp [execOp, hop, resolve, invoke, Result.andThen, go_sem, hcf]
  refine hc.mono fun e w' hr => ?_
  obtain ⟨v, rfl, hk⟩ := h e w' hr
  exact hk

theorem step_call2 {P : Program} {ops : Array Oper} {o : Oper} {a : Act} {w : World} {K : Act → World → Prop} {Q : Exit → Act → World → Prop} {E : Prop}
    (hgd : o.guard = none) (f : FuncId) (hcf : ∀ args w, (callFunc f args).run P w = .ok (.enter f args) w) (x y : Operand) (tys : Array TypeId) (hop : o.op = .call { callee := .value (.func f), args := #[x, y], argTypes := tys })
    (u v : Value) (hx : a.eval x = u) (hy : a.eval y = v) {R : Ending → World → Prop} (hc : Calls P f #[u, v] w R)
    (h : ∀ e w', R e w' → ∃ v, e = .returned v ∧ K (a.put o.dst v) w') :
    if Region.wanted o (yielded ops a.tmps) = true then Oper.wp P o a w K Q else E :=
  step_call hgd f hcf #[x, y] tys hop #[u, v] (by simp [hx, hy]) hc h

theorem blk_splice (k : IntKind) (zs l : List Int) (p : Nat) : (splice (zs.map (Value.int k)) p (l.map (Value.int k))).toArray = blk k (splice zs p l) := by
  simp [splice, blk]
theorem splice_all (zs l : List Int) (h : l.length = zs.length) : splice zs 0 l = l := by
  simp [splice, h]

theorem block_cell {k : IntKind} {w : World} {g : Nat} {e : TypeId} {zs : List Int} (h : w.heap[g]? = some (.cells (blk k zs) e (0, 0))) (j : Nat) (v : Value) (hj : (zs.map (Value.int k))[j]? = some v) : w.cell? ((⟨g, 0, none⟩ : Addr).add j) = some v := by
  have : (⟨g, 0, none⟩ : Addr).add j = ⟨g, j, none⟩ := by unfold Addr.add; split <;> simp_all
  rw [this]
  simp [World.cell?, h, blk] at hj ⊢
  simpa using hj

theorem setRow_alloc (w : World) (old cs : Array Value) (t : TypeId) : (w.alloc (.cells old t)).setRow w.heap.size cs = w.alloc (.cells cs t) := by
  unfold World.setRow World.alloc
  congr 1
  apply Array.ext
  · simp
  · intro k h1 h2
    simp only [Array.getElem_modify, Array.getElem_push]
    by_cases hk : k < w.heap.size
    · simp [hk]; omega
    · have : w.heap.size = k := by simp at h1; omega
      simp [this]

/-- copy(out, b), out new and as long as b. -/
theorem copy_new {w : World} {a : Option Addr} {len : Nat} {zs : List Int} (cap : Nat) (h : Row .u8 w a len zs) (ys : List Int) (hy : ys.length = len) :
    (Builtin.copy_ #[38, 38] 3 #[.slice (some ⟨w.heap.size, 0, none⟩) len len, .slice a len cap]).run Try.prog (w.alloc (.cells (blk .u8 ys) 5)) = .ok (.int .i64 len) (w.alloc (.cells (blk .u8 zs) 5)) := by
  by_cases h0 : len = 0
  · subst h0
    obtain rfl : zs = [] := List.eq_nil_of_length_eq_zero h.1
    obtain rfl : ys = [] := List.eq_nil_of_length_eq_zero hy
    exact run_copy_none (P := Try.prog) _ 38 38 3 5 _ a 0 0 0 cap Try.underlying38 (by kernel_rfl) rfl
  · have hl := h.1
    have hB : Below w.heap.size w (w.alloc (.cells (blk .u8 ys) 5)) := (Below.refl _ _).alloc (Nat.le_refl _) _
    obtain ⟨ad, rfl, hsrc⟩ := (h.below hB).src (by omega)
    have hr := run_copy_row (P := Try.prog) (w.alloc (.cells (blk .u8 ys) 5)) 38 38 3 5 w.heap.size 0 len len ad len cap (blk .u8 ys) 5 (zs.map (Value.int .u8)) Try.underlying38 (by kernel_rfl) (heap_alloc_new w _) (by simp [hl]) hsrc (by simp [size_blk, hl, hy]) (oneCells _ _)
    rw [hr, setRow_alloc]
    simp [blk, hl, goInt]
    rw [List.drop_of_length_le (by simp [hy]), List.append_nil]

/-- copy(out[p:], l), out a block that is known whole. -/
theorem copy_over {W : World} {a : Option Addr} {n : Nat} {l zs : List Int} {g : Nat} (p m c cap : Nat) (h : Row .u8 W a n l) (hg : W.heap[g]? = some (.cells (blk .u8 zs) 5 (0, 0))) (hnm : n ≤ m) (hfit : p + n ≤ zs.length) :
    (Builtin.copy_ #[38, 38] 3 #[.slice (some ⟨g, p, none⟩) m c, .slice a n cap]).run Try.prog W = .ok (.int .i64 n) (W.setRow g (blk .u8 (splice zs p l))) := by
  have hl := h.1
  by_cases h0 : n = 0
  · subst h0
    obtain rfl : l = [] := List.eq_nil_of_length_eq_zero hl
    have hs : splice zs p [] = zs := by simp [splice]
    rw [hs, setRow_self W g _ _ _ hg]
    exact run_copy_none (P := Try.prog) _ 38 38 3 5 _ a m c 0 cap Try.underlying38 (by kernel_rfl) (Nat.min_eq_left (Nat.zero_le _))
  · obtain ⟨ad, rfl, hsrc⟩ := h.src (by omega)
    have hr := run_copy_row (P := Try.prog) W 38 38 3 5 g p m c ad n cap (blk .u8 zs) 5 (l.map (Value.int .u8)) Try.underlying38 (by kernel_rfl) hg (by simp [hl]; exact (Nat.min_eq_left hnm).symm) hsrc (by simp [size_blk, hl]; exact hfit) (oneCells _ _)
    rw [hr]
    simp [blk, splice, hl, goInt]

theorem wf_nat {n : Nat} (h : n ≤ 9223372036854775807) : (Lit.int .i64 (n : Int)).wf = true := by
  simp [Lit.wf, IntKind.min, IntKind.max, IntKind.signed, IntKind.bits]; omega

end Go.Proofs.Ytnaenokegomoeaa

namespace Go.Proofs.Ytnaenokegomoeaa
set_option linter.unusedVariables false
set_option linter.unusedSimpArgs false
open Go.RowKit

theorem make_words (n : Nat) (h : n ≤ 35184372088832) (w : World) :
    (Instr.makeSlice 26 (.int .i64 (n : Int)) (.int .i64 (n : Int))).run Try.prog w = .ok (.slice (some ⟨w.heap.size, 0, none⟩) n n) (w.alloc (.cells (blk .u64 (List.replicate n 0)) 22)) := by
  have h := run_make_row' (P := Try.prog) 26 22 (.int .u64 0) 8 Try.underlying26 (by kernel_rfl) rfl .i64 .i64 n (by omega) (by omega) w
  rw [h, blk_made]

/-- the first k words of octets. -/
def wordsTo (zs : List Int) (k : Nat) : List Int := (List.range k).map fun i => Nums.rd ((zs.drop (8 * i)).take 8)
theorem length_wordsTo (zs : List Int) (k : Nat) : (wordsTo zs k).length = k := by simp [wordsTo]
theorem words_step (zs : List Int) (k n : Nat) (h : k < n) : (wordsTo zs k ++ List.replicate (n - k) 0).set k (Nums.rd ((zs.drop (8 * k)).take 8)) = wordsTo zs (k + 1) ++ List.replicate (n - (k + 1)) 0 := by
  obtain ⟨m, rfl⟩ : ∃ m, n = k + 1 + m := ⟨n - (k + 1), by omega⟩
  have e1 : k + 1 + m - k = m + 1 := by omega
  have e2 : k + 1 + m - (k + 1) = m := by omega
  rw [e1, e2, List.set_append_right _ _ (by simp [length_wordsTo])]
  simp [wordsTo, List.replicate_succ, List.range_succ]

set_option maxHeartbeats 1000000 in
theorem words_any (a : Option Addr) (len cap : Nat) (zs : List Int) (w : World) (hl : len ≤ 281474976710656) (hlc : len ≤ cap) (hr : Row .u8 w a len zs) (hz : Nums.Bytes zs) :
    Calls Try.prog 36 #[.slice a len cap] w fun e w' => e = .returned (.slice (some ⟨w.heap.size, 0, none⟩) (len / 8) (len / 8)) ∧ w' = w.alloc (.cells (blk .u64 (wordsTo zs (len / 8))) 22) := by
  have hmk := make_words (len / 8) (by omega)
  have hdiv : ((len / 8 : Nat) : Int) = (len : Int) / 8 := by omega
  rw [hdiv] at hmk
  have HR := hide hr
  clear hr hdiv
  go_enter Try.func36, Try.ntmps36
  go_wp2
  clear hmk
  go_loopw [11] (fun i wr => ∃ k : Nat, k ≤ len / 8 ∧ i = .int .i64 k ∧ wr = w.alloc (.cells (blk .u64 (wordsTo zs k ++ List.replicate (len / 8 - k) 0)) 22)) (fun i _ => len / 8 - (intOf i).toNat)
  case atStart => exact ⟨0, Nat.zero_le _, rfl, by simp [wordsTo]⟩
  case round =>
    obtain ⟨k, hk, rfl, rfl⟩ := hrel
    by_cases hlt : k < len / 8
    · have hi : (k : Int) < (len : Int) / 8 := by omega
      have hki : (8 : Int) * (k : Int) ≤ (len : Int) := by omega
      have hkn : ¬ cap = 8 * k := by omega
      obtain ⟨L, hL⟩ : ∃ L, L = wordsTo zs k ++ List.replicate (len / 8 - k) 0 := ⟨_, rfl⟩
      have hLl : L.length = len / 8 := by rw [hL]; simp [length_wordsTo]; omega
      rw [← hL]
      have HL := hide hL
      have hget := blk_get .u64 L k (by omega)
      clear hL
      have hrow := HR.out.below (w' := w.alloc (.cells (blk .u64 L) 22)) ((Below.refl _ _).alloc (Nat.le_refl _) _)
      obtain ⟨b, off, rfl, hcut⟩ := hrow.cut (8 * k) (len - 8 * k) (by omega) (by omega)
      have hrd := read_any (some ⟨b, off + 8 * k, none⟩) (len - 8 * k) (cap - 8 * k) _ _ (by unfold maxLen; omega) hcut (Nums.bytes_take (Nums.bytes_drop hz _) _)
      have hzl := HR.out.1
      rw [List.take_of_length_le (i := len - 8 * k) (by simp; omega)] at hrd
      have HRD := hide hrd
      have HZL := hide hzl
      clear hrd hcut hrow hzl
      generalize hY : Nums.rd ((zs.drop (8 * k)).take 8) = y at *
      have HY := hide hY
      clear hY
      go_wp2_with (go_at_call 61; refine (unhide HRD).mono ?_; rintro e w' ⟨rfl, hw'⟩; obtain rfl := hw'.symm)
      go_roundw
      case rel => exact ⟨k + 1, by omega, by go_num, by rw [blk_set, HL.out, ← HY.out, words_step zs k _ hlt]⟩
      case measure => simp [intOf]; omega
    · have hi : ¬ (k : Int) < (len : Int) / 8 := by omega
      obtain rfl : k = len / 8 := by omega
      go_wp2
      go_ret
      exact ⟨rfl, by simp⟩

end Go.Proofs.Ytnaenokegomoeaa

namespace Go.Proofs.Ytnaenokegomoeaa
set_option linter.unusedVariables false
set_option linter.unusedSimpArgs false
open Go.RowKit

/-- the octets of the first k numbers. -/
def octTo (ws : List Int) (k : Nat) : List Int := (ws.take k).flatMap fun v => Nums.lay v 8
theorem length_octTo (ws : List Int) (k : Nat) (h : k ≤ ws.length) : (octTo ws k).length = 8 * k := by
  induction k with
  | zero => simp [octTo]
  | succ k ih =>
    have ih := ih (by omega)
    simp only [octTo] at ih ⊢
    rw [take_snoc ws k (by omega), List.flatMap_append, List.length_append, ih]
    simp [Nums.length_lay]
    omega
theorem oct_step (ws : List Int) (k m : Nat) (h : k < ws.length) : splice (octTo ws k ++ List.replicate (8 * (m + 1)) 0) (8 * k) (Nums.lay ws[k] 8) = octTo ws (k + 1) ++ List.replicate (8 * m) 0 := by
  have hl := length_octTo ws k (by omega)
  have e : octTo ws (k + 1) = octTo ws k ++ Nums.lay ws[k] 8 := by
    simp only [octTo]
    rw [take_snoc ws k h, List.flatMap_append]
    simp
  rw [e]
  unfold splice
  rw [List.take_left' hl, Nums.length_lay, List.drop_append, List.drop_of_length_le (by omega), hl]
  have e2 : 8 * k + 8 - 8 * k = 8 := by omega
  rw [e2]
  simp
  congr 1

theorem lay_eight (v : Int) (w : World) (hv : (Lit.int .u64 v).wf = true) :
    Calls Try.prog 62 #[.int .u64 v, .int .i64 8] w fun e w' => e = .returned (.slice (some ⟨w.heap.size, 0, none⟩) 8 8) ∧ w' = w.alloc (.cells (blk .u8 (Nums.lay v 8)) 5) := by
  have h := lay_yes v 8 w hv (by omega)
  rw [show ((8 : Nat) : Int) = 8 from rfl] at h
  exact h

set_option maxHeartbeats 1000000 in
theorem octets_any (a : Option Addr) (len cap : Nat) (ws : List Int) (w : World) (hl : len ≤ 17592186044416) (hr : Row .u64 w a len ws) (hz : ∀ v ∈ ws, (Lit.int .u64 v).wf = true) :
    Calls Try.prog 40 #[.slice a len cap] w fun e w' => e = .returned (.slice (some ⟨w.heap.size, 0, none⟩) (8 * len) (8 * len)) ∧ Below w.heap.size w w' ∧ w'.heap[w.heap.size]? = some (.cells (blk .u8 (octTo ws len)) 5 (0, 0)) := by
  have hmk := make_bytes (8 * len) (by omega)
  have hdiv : ((8 * len : Nat) : Int) = 8 * (len : Int) := by omega
  rw [hdiv] at hmk
  have HR := hide hr
  have hwl := hr.1
  have HWL := hide hwl
  clear hr hdiv hwl
  go_enter Try.func40, Try.ntmps40
  go_wp2
  clear hmk
  go_loopw [12] (fun i wr => ∃ k m : Nat, k + m = len ∧ i = .int .i64 k ∧ Below w.heap.size w wr ∧ wr.heap[w.heap.size]? = some (.cells (blk .u8 (octTo ws k ++ List.replicate (8 * m) 0)) 5 (0, 0))) (fun i _ => len - (intOf i).toNat)
  case atStart => exact ⟨0, len, by omega, rfl, (Below.refl _ _).alloc (Nat.le_refl _) _, heap_alloc_new w _⟩
  case round =>
    obtain ⟨k, m, hkm, rfl, hb, hg⟩ := hrel
    have HB := hide hb
    have HG := hide hg
    clear hb hg
    by_cases hlt : k < len
    · have hi : (k : Int) < (len : Int) := by omega
      have hki : (8 : Int) * (k : Int) ≤ (8 : Int) * (len : Int) := by omega
      have hkn : ¬ 8 * len = 8 * k := by omega
      obtain ⟨m, rfl⟩ : ∃ m', m = m' + 1 := ⟨m - 1, by omega⟩
      have hkw : k < ws.length := by have := HWL.out; omega
      obtain ⟨_, h0 | ⟨b, off, rfl, hbw, hc⟩⟩ := HR.out.below HB.out
      · omega
      have hck := hc k hlt
      have hgd : ws.getD k 0 = ws[k] := by rw [List.getD_eq_getElem?_getD, List.getElem?_eq_getElem hkw]; rfl
      rw [hgd] at hck
      clear hc hgd
      have hwf := hz _ (List.getElem_mem hkw)
      have HS := hide (oct_step ws k m hkw)
      generalize hV : ws[k] = v at *
      have HVV := hide hV
      have HWF := hide hwf
      clear hV hwf
      go_wp2
      clear hck
      obtain ⟨W2, hW2⟩ : ∃ W2, W2 = (wr.alloc (.cells (blk .u8 (Nums.lay v 8)) 5)).drew := ⟨_, rfl⟩
      have hgs : w.heap.size < wr.heap.size := (Array.getElem?_eq_some_iff.1 HG.out).1
      have hg2 : W2.heap[w.heap.size]? = some (.cells (blk .u8 (octTo ws k ++ List.replicate (8 * (m + 1)) 0)) 5 (0, 0)) := by
        rw [hW2]
        show (wr.alloc _).heap[w.heap.size]? = _
        rw [Below.heap_alloc _ _ _ hgs]
        exact HG.out
      have hl2 : W2.heap[wr.heap.size]? = some (.cells (blk .u8 (Nums.lay v 8)) 5 (0, 0)) := by
        rw [hW2]
        exact heap_alloc_new wr (.cells (blk .u8 (Nums.lay v 8)) 5)
      have hb2 : Below w.heap.size w W2 := by
        rw [hW2]
        exact (HB.out.alloc HB.out.size _).drew
      have hcp2 := copy_over (W := W2) (8 * k) (8 * len - 8 * k) (8 * len - 8 * k) 8 (row_of_block hl2 (Nums.length_lay 8 v)) hg2 (by omega) (by simp [length_octTo ws k (by omega)]; omega)
      rw [show ((8 : Nat) : Int) = 8 from rfl, HS.out] at hcp2
      have HEND : Hid (Below w.heap.size w (W2.setRow w.heap.size (blk .u8 (octTo ws (k + 1) ++ List.replicate (8 * m) 0))) ∧ (W2.setRow w.heap.size (blk .u8 (octTo ws (k + 1) ++ List.replicate (8 * m) 0))).heap[w.heap.size]? = some (.cells (blk .u8 (octTo ws (k + 1) ++ List.replicate (8 * m) 0)) 5 (0, 0))) :=
        ⟨below_setRow hb2 (Nat.le_refl _) _, setRow_heap _ _ _ _ _ _ hg2⟩
      clear hg2 hl2 hb2
      generalize hLL : octTo ws (k + 1) ++ List.replicate (8 * m) 0 = L at *
      have HLL := hide hLL
      clear hLL
      rw [hW2] at hcp2
      subst hW2
      have hwr : IntKind.i64.wrap (8 * (k : Int)) = 8 * (k : Int) := by rw [IntKind.wrap_i64]; omega
      have htn : (8 * (k : Int)).toNat = 8 * k := by omega
      have hk0 : (0 : Int) ≤ 8 * (k : Int) := by omega
      have hkl : k ≤ len := by omega
      go_region_law (refine step_call2 rfl 62 Try.call62 _ _ _ rfl (.int .u64 v) (.int .i64 8) rfl rfl (lay_eight v _ HWF.out) ?_; rintro e w2 ⟨rfl, rfl⟩; refine ⟨_, rfl, ?_⟩)
      clear hcp2 hwr htn hk0 hkl
      go_wp2
      go_roundw
      case rel => exact ⟨k + 1, m, by omega, by go_num, HEND.out.1, by rw [HLL.out]; exact HEND.out.2⟩
      case measure => simp [intOf]; omega
    · have hi : ¬ (k : Int) < (len : Int) := by omega
      obtain rfl : k = len := by omega
      obtain rfl : m = 0 := by omega
      have hg := HG.out
      rw [show 8 * 0 = 0 from rfl, List.replicate_zero, List.append_nil] at hg
      have HG2 := hide hg
      clear hg
      go_wp2
      go_ret
      exact ⟨rfl, HB.out, HG2.out⟩
end Go.Proofs.Ytnaenokegomoeaa

namespace Go.Proofs.Ytnaenokegomoeaa
set_option linter.unusedVariables false
set_option linter.unusedSimpArgs false
open Go.RowKit

theorem rd_lay8 {v : Int} (h0 : 0 ≤ v) (h1 : v ≤ 18446744073709551615) : Nums.rd (Nums.lay v 8) = v := by
  rw [Nums.rd_lay, show (256 : Int) ^ 8 = 18446744073709551616 from rfl]
  exact Int.emod_eq_of_lt h0 (by omega)

theorem oct_at (ws : List Int) (m k : Nat) (hk : k < m) (hm : m ≤ ws.length) : ((octTo ws m).drop (8 * k)).take 8 = Nums.lay (ws.getD k 0) 8 := by
  have hkw : k < ws.length := by omega
  obtain ⟨R, e0⟩ : ∃ R, ws.take m = ws.take (k + 1) ++ R := ⟨(ws.take m).drop (k + 1), by
    have h := List.take_append_drop (k + 1) (ws.take m)
    rw [List.take_take, Nat.min_eq_left (by omega)] at h
    exact h.symm⟩
  have e1 : octTo ws m = octTo ws k ++ (Nums.lay ws[k] 8 ++ R.flatMap fun v => Nums.lay v 8) := by
    unfold octTo
    rw [e0, List.flatMap_append, take_snoc ws k hkw, List.flatMap_append, List.append_assoc]
    simp
  rw [e1, List.drop_append, List.drop_of_length_le (by rw [length_octTo ws k (by omega)]; exact Nat.le_refl _), length_octTo ws k (by omega), Nat.sub_self, List.nil_append, List.drop_zero, List.take_append, Nums.length_lay, Nat.sub_self, List.take_zero, List.append_nil, List.take_of_length_le (by rw [Nums.length_lay]; exact Nat.le_refl _)]
  rw [List.getD_eq_getElem?_getD, List.getElem?_eq_getElem hkw]
  rfl

theorem words_oct (ws : List Int) (hw : ∀ v ∈ ws, (Lit.int .u64 v).wf = true) : wordsTo (octTo ws ws.length) ws.length = ws := by
  apply List.ext_getElem
  · simp [length_wordsTo]
  · intro k h1 h2
    have hb := bd_u64 (hw _ (List.getElem_mem h2))
    simp only [wordsTo, List.getElem_map, List.getElem_range]
    rw [oct_at ws _ k h2 (Nat.le_refl _), List.getD_eq_getElem?_getD, List.getElem?_eq_getElem h2]
    exact rd_lay8 hb.1 hb.2

theorem oct_words (zs : List Int) (hz : Nums.Bytes zs) : ∀ n, 8 * n ≤ zs.length → (wordsTo zs n).flatMap (fun v => Nums.lay v 8) = zs.take (8 * n)
  | 0, _ => by simp [wordsTo]
  | n + 1, h => by
    have ih := oct_words zs hz n (by omega)
    have e : wordsTo zs (n + 1) = wordsTo zs n ++ [Nums.rd ((zs.drop (8 * n)).take 8)] := by simp [wordsTo, List.range_succ]
    have hl : ((zs.drop (8 * n)).take 8).length = 8 := by simp; omega
    have hr := Nums.lay_rd ((zs.drop (8 * n)).take 8) (Nums.bytes_take (Nums.bytes_drop hz _) _)
    rw [hl] at hr
    rw [e, List.flatMap_append, ih]
    simp only [List.flatMap_cons, List.flatMap_nil, List.append_nil, hr]
    rw [show 8 * (n + 1) = 8 * n + 8 by omega, List.take_add]

theorem wf_words (zs : List Int) (hz : Nums.Bytes zs) (n : Nat) : ∀ v ∈ wordsTo zs n, (Lit.int .u64 v).wf = true := fun v hv => by
  simp only [wordsTo, List.mem_map, List.mem_range] at hv
  obtain ⟨i, _, rfl⟩ := hv
  have hb := Nums.rd_bounds _ (Nums.bytes_take (Nums.bytes_drop hz (8 * i)) 8)
  have hq : (256 : Int) ^ ((zs.drop (8 * i)).take 8).length ≤ 256 ^ 8 := by
    rw [show (256 : Int) ^ ((zs.drop (8 * i)).take 8).length = ((256 ^ ((zs.drop (8 * i)).take 8).length : Nat) : Int) from (Int.natCast_pow 256 _).symm, show (256 : Int) ^ 8 = ((256 ^ 8 : Nat) : Int) from rfl]
    exact Int.ofNat_le.2 (Nat.pow_le_pow_right (by decide) (by simp; omega))
  have h8 : (256 : Int) ^ 8 = 18446744073709551616 := rfl
  simp only [Lit.wf, IntKind.min, IntKind.max, IntKind.signed, IntKind.bits]
  simp
  omega

theorem octTo_all (ws : List Int) : octTo ws ws.length = ws.flatMap (fun v => Nums.lay v 8) := by
  unfold octTo
  rw [List.take_of_length_le (Nat.le_refl _)]

theorem Row.cellAt {k : IntKind} {w : World} {b off len : Nat} {zs : List Int} (h : Row k w (some ⟨b, off, none⟩) len zs) (j : Nat) (hj : j < len) : w.cell? ⟨b, off + j, none⟩ = some (.int k (zs.getD j 0)) := by
  obtain ⟨_, h0 | ⟨b', off', he, _, hc⟩⟩ := h
  · omega
  · simp only [Option.some.injEq, Addr.mk.injEq, and_true] at he
    obtain ⟨rfl, rfl⟩ := he
    exact hc j hj

theorem Row.headRow {k : IntKind} {w : World} {a : Option Addr} {len : Nat} {zs : List Int} (h : Row k w a len zs) (p : Nat) (hp : p ≤ len) : Row k w a p (zs.take p) := by
  obtain ⟨hl, h0 | ⟨b, off, rfl, hb, hc⟩⟩ := h
  · exact ⟨by simp; omega, .inl (by omega)⟩
  · refine ⟨by simp; omega, .inr ⟨b, off, rfl, hb, fun i hi => ?_⟩⟩
    rw [hc i (by omega)]
    simp [List.getElem?_take, hi]

end Go.Proofs.Ytnaenokegomoeaa
