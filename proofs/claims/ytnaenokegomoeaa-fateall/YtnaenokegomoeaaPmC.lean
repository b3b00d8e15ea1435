/-
  The program's device (layer 5): Image, View; what each call answers, for any device.
-/
import Derived.Test.YtnaenokegomoeaaPmM
import Derived.Test.YtnaenokegomoeaaActing
namespace Go.Proofs.Ytnaenokegomoeaa
set_option linter.unusedVariables false
set_option linter.unusedSimpArgs false
open Go.RowKit

theorem wf_last {s : Pm.D} (h : s.Ok) : ∀ v ∈ Pm.lastL s.ws, (Lit.int .u64 v).wf = true := fun v hv => by
  obtain ⟨x, hx, rfl⟩ := List.mem_map.1 hv
  exact wf_u64 (h.ws x hx).l0 (h.ws x hx).l1
theorem wf_stored {s : Pm.D} (h : s.Ok) : ∀ v ∈ Pm.storedL s.ws, (Lit.int .u64 v).wf = true := fun v hv => by
  obtain ⟨x, hx, rfl⟩ := List.mem_map.1 hv
  exact wf_u64 (h.ws x hx).s0 (h.ws x hx).s1

set_option maxHeartbeats 1000000 in
theorem pimage_x {w : World} {b : Nat} {s : Pm.D} {F : Nat → Prop} {g0 g1 c1 gm n : Nat} {tl : List Value} {M : DataW Unit} {pa : Option Addr} {pc : Nat} {laid : Int} (h : PX w b s F g0 g1 c1 gm n tl M pa pc laid) (hm : s.ws.length ≤ 40000) :
    Calls Try.prog 20 #[.pointer (some ⟨b, 0, none⟩)] w fun e w' => ∃ a cap, e = .returned (.slice a (8 * s.ws.length) cap) ∧ 8 * s.ws.length ≤ cap ∧ Row .u8 w' a (8 * s.ws.length) (octs (Pm.lastL s.ws)) ∧ Below w.heap.size w w' := by
  have HO := hide (octets_any (some ⟨g0, 0, none⟩) s.ws.length s.ws.length (Pm.lastL s.ws) w (by omega) (row_of_block h.k0 (lastL_len _)) (wf_last h.ok))
  have HT : Hid (octTo (Pm.lastL s.ws) s.ws.length = octs (Pm.lastL s.ws)) := by
    show _ = _
    have := octTo_all (Pm.lastL s.ws)
    rw [lastL_len] at this
    exact this
  obtain ⟨f0, f1, f2, f3, f4, f5, f6, f7⟩ := h.fields
  clear h f1 f2 f3 f4 f5 f6 f7
  have HL := hide (octs_length (Pm.lastL s.ws))
  rw [lastL_len] at HL
  generalize s.ws.length = N at *
  go_enter Try.func20, Try.ntmps20
  go_wp2_with (go_at_call 40; refine HO.out.mono ?_; rintro e w1 ⟨rfl, hb, hg⟩)
  go_ret
  rw [HT.out] at hg
  exact ⟨_, _, rfl, Nat.le_refl _, row_of_block hg HL.out, hb⟩

set_option maxHeartbeats 1000000 in
theorem pview_x {w : World} {b : Nat} {s : Pm.D} {F : Nat → Prop} {g0 g1 c1 gm n : Nat} {tl : List Value} {M : DataW Unit} {pa : Option Addr} {pc : Nat} {laid : Int} (h : PX w b s F g0 g1 c1 gm n tl M pa pc laid) (hm : s.ws.length ≤ 40000) :
    Calls Try.prog 23 #[.pointer (some ⟨b, 0, none⟩)] w fun e w' => ∃ a cap, e = .returned (.slice a (8 * s.ws.length) cap) ∧ 8 * s.ws.length ≤ cap ∧ Row .u8 w' a (8 * s.ws.length) (octs (Pm.storedL s.ws)) ∧ Below w.heap.size w w' := by
  have HO := hide (octets_any (some ⟨g1, 0, none⟩) s.ws.length c1 (Pm.storedL s.ws) w (by omega) (row_append (tail := tl) h.k1 (storedL_len _)) (wf_stored h.ok))
  have HT : Hid (octTo (Pm.storedL s.ws) s.ws.length = octs (Pm.storedL s.ws)) := by
    show _ = _
    have := octTo_all (Pm.storedL s.ws)
    rw [storedL_len] at this
    exact this
  obtain ⟨f0, f1, f2, f3, f4, f5, f6, f7⟩ := h.fields
  clear h f0 f2 f3 f4 f5 f6 f7
  have HL := hide (octs_length (Pm.storedL s.ws))
  rw [storedL_len] at HL
  generalize s.ws.length = N at *
  go_enter Try.func23, Try.ntmps23
  go_wp2_with (go_at_call 40; refine HO.out.mono ?_; rintro e w1 ⟨rfl, hb, hg⟩)
  go_ret
  rw [HT.out] at hg
  exact ⟨_, _, rfl, Nat.le_refl _, row_of_block hg HL.out, hb⟩

theorem pfrom_any {w : World} {a : Option Addr} {len cap : Nat} {zs : List Int} (h : Arg .u8 w a len cap zs) (hl : len ≤ 300000) : Calls Try.prog 42 #[.slice a len cap] w fun e w' => ∃ b F vs, e = .returned (.pointer (some ⟨b, 0, none⟩)) ∧ octs vs = zs.take (64 * min (len / 64) 4096) ∧ vs.length = 8 * min (len / 64) 4096 ∧ (∀ v ∈ vs, 0 ≤ v ∧ v ≤ 18446744073709551615) ∧ PDev w' b (Pm.of vs) F ∧ (∀ k, F k → w.heap.size ≤ k ∧ k < w'.heap.size) ∧ Below w.heap.size w w' := pfrom_x h hl
theorem plines_any {w : World} {b : Nat} {s : Pm.D} {F : Nat → Prop} (h : PDev w b s F) (hm : s.ws.length ≤ 40000) : Calls Try.prog 35 #[.pointer (some ⟨b, 0, none⟩)] w fun e w' => e = .returned (.int .i64 (s.ws.length / 8 : Nat)) ∧ w' = w := by
  obtain ⟨g0, g1, c1, gm, n, tl, M, pa, pc, laid, h, hn⟩ := h
  exact plines_x h hm
theorem steps_store (s : Pm.D) (a v : Int) : s.steps ≤ (Pm.store s a v).steps := by
  unfold Pm.store
  split
  · exact Nat.le_succ _
  · exact Nat.le_refl _
theorem steps_fence (s : Pm.D) : s.steps ≤ (Pm.fence s).steps := by
  unfold Pm.fence
  split
  · exact Nat.le_succ _
  · exact Nat.le_refl _
theorem steps_arm (s : Pm.D) (n : Int) : (Pm.arm s n).steps = s.steps := by unfold Pm.arm; split <;> rfl

theorem pstore_any {w : World} {b : Nat} {s : Pm.D} {F : Nat → Prop} (h : PDev w b s F) (hF : ∀ k, F k → k < w.heap.size) (a v : Int) (hm : s.ws.length ≤ 40000) (hp : s.plan.length ≤ 40000) (hst : s.steps ≤ 1000000) (ha : (Lit.int .i64 a).wf = true) (hv : (Lit.int .u64 v).wf = true) :
    Calls Try.prog 26 #[.pointer (some ⟨b, 0, none⟩), .int .i64 a, .int .u64 v] w fun e w' => e = .returned (.int .i64 (Pm.err s a s.ws.length)) ∧ PNext w b (Pm.store s a v) F w' := by
  obtain ⟨g0, g1, c1, gm, n, tl, M, pa, pc, laid, h, hn⟩ := h
  refine (pstore_x h hF a v hm hp hst hv).mono ?_
  rintro e w' ⟨he, hd⟩
  exact ⟨he, hd.next (by have := steps_store s a v; omega)⟩
theorem pload_any {w : World} {b : Nat} {s : Pm.D} {F : Nat → Prop} (h : PDev w b s F) (hF : ∀ k, F k → k < w.heap.size) (a : Int) (hm : s.ws.length ≤ 40000) (ha : (Lit.int .i64 a).wf = true) :
    Calls Try.prog 50 #[.pointer (some ⟨b, 0, none⟩), .int .i64 a] w fun e w' => e = .returned (.tuple #[.int .u64 (Pm.load s a), .int .i64 (Pm.err s a s.ws.length)]) ∧ PNext w b s F w' := by
  obtain ⟨g0, g1, c1, gm, n, tl, M, pa, pc, laid, h, hn⟩ := h
  refine (pload_x h a hm ha).mono ?_
  rintro e w' ⟨he, rfl⟩
  exact ⟨he, (h.mid (Only.refl F w') hn).next (Nat.le_refl _)⟩
theorem pflush_any {w : World} {b : Nat} {s : Pm.D} {F : Nat → Prop} (h : PDev w b s F) (hF : ∀ k, F k → k < w.heap.size) (a : Int) (hm : s.ws.length ≤ 40000) (hp : s.plan.length ≤ 40000) (hst : s.steps ≤ 1000000) (ha : (Lit.int .i64 a).wf = true) :
    Calls Try.prog 27 #[.pointer (some ⟨b, 0, none⟩), .int .i64 a] w fun e w' => e = .returned (.int .i64 (Pm.err s a (s.ws.length / 8))) ∧ PNext w b (Pm.flush s a) F w' := by
  obtain ⟨g0, g1, c1, gm, n, tl, M, pa, pc, laid, h, hn⟩ := h
  refine (pflush_x h hF a hm hp hst (by omega)).mono ?_
  rintro e w' ⟨he, hd⟩
  refine ⟨he, hd.next ?_⟩
  unfold Pm.flush
  split
  · show n + 8 ≤ 8 * (s.steps + 1)
    omega
  · exact hn
theorem pfence_any {w : World} {b : Nat} {s : Pm.D} {F : Nat → Prop} (h : PDev w b s F) (hF : ∀ k, F k → k < w.heap.size) (hm : s.ws.length ≤ 40000) (hp : s.plan.length ≤ 40000) (hst : s.steps ≤ 1000000) :
    Calls Try.prog 51 #[.pointer (some ⟨b, 0, none⟩)] w fun e w' => e = .returned (.int .i64 (Pm.err s 0 1)) ∧ PNext w b (Pm.fence s) F w' := by
  obtain ⟨g0, g1, c1, gm, n, tl, M, pa, pc, laid, h, hn⟩ := h
  refine (pfence_x h hF hm hp hst).mono ?_
  rintro e w' ⟨he, hd⟩
  exact ⟨he, hd.next (by have := steps_fence s; omega)⟩
theorem parm_any {w : World} {b : Nat} {s : Pm.D} {F : Nat → Prop} (h : PDev w b s F) (hF : ∀ k, F k → k < w.heap.size) (a : Int) (ha : (Lit.int .i64 a).wf = true) :
    Calls Try.prog 52 #[.pointer (some ⟨b, 0, none⟩), .int .i64 a] w fun e w' => e = .returned (.tuple #[]) ∧ PNext w b (Pm.arm s a) F w' := by
  obtain ⟨g0, g1, c1, gm, n, tl, M, pa, pc, laid, h, hn⟩ := h
  refine (parm_x h a ha).mono ?_
  rintro e w' ⟨he, hd, ho⟩
  exact ⟨he, (hd.mid ho hn).next (by rw [steps_arm]; exact Nat.le_refl _)⟩
theorem pplan_any {w : World} {b : Nat} {s : Pm.D} {F : Nat → Prop} (h : PDev w b s F) (hF : ∀ k, F k → k < w.heap.size) {a : Option Addr} {len cap : Nat} {l : List Int} (hA : Arg .i64 w a len cap l) (hl : len ≤ 40000) (hAF : 0 < len → ∀ x, a = some x → ¬ F x.block) :
    Calls Try.prog 53 #[.pointer (some ⟨b, 0, none⟩), .slice a len cap] w fun e w' => e = .returned (.tuple #[]) ∧ PNext w b (Pm.lay s l) F w' := by
  obtain ⟨g0, g1, c1, gm, n, tl, M, pa, pc, laid, h, hn⟩ := h
  refine (pplan_x h hA hl).mono ?_
  rintro e w' ⟨he, hd⟩
  exact ⟨he, hd.next hn⟩
theorem pcrash_any {w : World} {b : Nat} {s : Pm.D} {F : Nat → Prop} (h : PDev w b s F) (hF : ∀ k, F k → k < w.heap.size) (hm : s.ws.length ≤ 40000) {a : Option Addr} {len cap : Nat} {l : List Int} (hA : Arg .i64 w a len cap l) (hl : len ≤ 40000) (hAF : 0 < len → ∀ x, a = some x → ¬ F x.block) :
    Calls Try.prog 19 #[.pointer (some ⟨b, 0, none⟩), .slice a len cap] w fun e w' => e = .returned (.tuple #[]) ∧ PNext w b (Pm.crash s l) F w' := by
  obtain ⟨g0, g1, c1, gm, n, tl, M, pa, pc, laid, h, hn⟩ := h
  refine (pcrash_x h hF hm hA hl hAF).mono ?_
  rintro e w' ⟨he, hd⟩
  exact ⟨he, hd.next (Nat.zero_le _)⟩
theorem pfates_any {w : World} {b : Nat} {s : Pm.D} {F : Nat → Prop} (h : PDev w b s F) (hm : s.ws.length ≤ 40000) :
    Calls Try.prog 21 #[.pointer (some ⟨b, 0, none⟩)] w fun e w' => ∃ a cap, e = .returned (.slice a (Pm.fates s).length cap) ∧ (Pm.fates s).length ≤ cap ∧ FRow w' a (Pm.fates s) ∧ Below w.heap.size w w' := by
  obtain ⟨g0, g1, c1, gm, n, tl, M, pa, pc, laid, h, hn⟩ := h
  refine (pfates_x h hm).mono ?_
  rintro e w' ⟨v, rfl, hown, hb⟩
  obtain ⟨a, cap, rfl, hr⟩ := frow_of_own hown
  refine ⟨a, cap, rfl, ?_, hr, hb⟩
  rcases hown.2 with ⟨e, h0⟩ | ⟨g, c, cur, e, _, _, hle, _⟩
  · omega
  · cases e
    exact hle
theorem pimage_any {w : World} {b : Nat} {s : Pm.D} {F : Nat → Prop} (h : PDev w b s F) (hm : s.ws.length ≤ 40000) :
    Calls Try.prog 20 #[.pointer (some ⟨b, 0, none⟩)] w fun e w' => ∃ a cap, e = .returned (.slice a (8 * s.ws.length) cap) ∧ 8 * s.ws.length ≤ cap ∧ Row .u8 w' a (8 * s.ws.length) (octs (Pm.lastL s.ws)) ∧ Below w.heap.size w w' := by
  obtain ⟨g0, g1, c1, gm, n, tl, M, pa, pc, laid, h, hn⟩ := h
  exact pimage_x h hm
theorem pview_any {w : World} {b : Nat} {s : Pm.D} {F : Nat → Prop} (h : PDev w b s F) (hm : s.ws.length ≤ 40000) :
    Calls Try.prog 23 #[.pointer (some ⟨b, 0, none⟩)] w fun e w' => ∃ a cap, e = .returned (.slice a (8 * s.ws.length) cap) ∧ 8 * s.ws.length ≤ cap ∧ Row .u8 w' a (8 * s.ws.length) (octs (Pm.storedL s.ws)) ∧ Below w.heap.size w w' := by
  obtain ⟨g0, g1, c1, gm, n, tl, M, pa, pc, laid, h, hn⟩ := h
  exact pview_x h hm
end Go.Proofs.Ytnaenokegomoeaa
