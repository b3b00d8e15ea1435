/-
  PmLawA, PmLawB, PmLawS, PmLawG, in one text.
-/
import Derived.Test.YtnaenokegomoeaaPmDo
import Derived.Deep.RegionHeldLaw
import Derived.Deep.CutRange
namespace Go.Proofs.Ytnaenokegomoeaa
set_option linter.unusedVariables false
set_option linter.unusedSimpArgs false
open Go.RowKit

/-- a device of the program's in memory that was made from B on. -/
def POwn (B : Nat) (w : World) (b : Nat) (s : Pm.D) : Prop := ∃ F, PDev w b s F ∧ ∀ k, F k → B ≤ k ∧ k < w.heap.size
theorem PNext.own {B : Nat} {w w' : World} {b : Nat} {s' : Pm.D} {F : Nat → Prop} (h : PNext w b s' F w') (hF : ∀ k, F k → B ≤ k ∧ k < w.heap.size) (hB : B ≤ w.heap.size) : POwn B w' b s' ∧ Below B w w' := by
  obtain ⟨F', h1, h2, h3, h4⟩ := h
  refine ⟨⟨F', h1, fun k hk => ?_⟩, h4.below (fun k hk => (hF k hk).1) hB⟩
  rcases h2 k hk with q | q
  · have := hF k q
    have := h4.size
    omega
  · omega
theorem POwn.below {B : Nat} {w w' : World} {b : Nat} {s : Pm.D} (h : POwn B w b s) (hb : Below w.heap.size w w') : POwn B w' b s := by
  obtain ⟨F, h1, h2⟩ := h
  exact ⟨F, h1.kept hb.size (fun k _ hk => hb.block k hk), fun k hk => ⟨(h2 k hk).1, Nat.lt_of_lt_of_le (h2 k hk).2 hb.size⟩⟩
theorem POwn.ok {B : Nat} {w : World} {b : Nat} {s : Pm.D} (h : POwn B w b s) : s.Ok := by
  obtain ⟨F, h1, _⟩ := h
  exact h1.ok

theorem new_own (w : World) (n : Nat) (hn : n ≤ 4096) : Calls Try.prog 25 #[.int .i64 n] w fun e w' => ∃ b, e = .returned (.tuple #[.pointer (some ⟨b, 0, none⟩), .int .i64 0]) ∧ POwn w.heap.size w' b (Pm.new (8 * n)) ∧ Below w.heap.size w w' :=
  (pnew_yes w n hn).mono fun e w' ⟨b, F, he, h1, h2, h3⟩ => ⟨b, he, ⟨F, h1, h2⟩, h3⟩
theorem store_own {B : Nat} {w : World} {b : Nat} {s : Pm.D} (h : POwn B w b s) (hB : B ≤ w.heap.size) (a v : Int) (hm : s.ws.length ≤ 40000) (hp : s.plan.length ≤ 40000) (hst : s.steps ≤ 1000000) (ha : (Lit.int .i64 a).wf = true) (hv : (Lit.int .u64 v).wf = true) :
    Calls Try.prog 26 #[.pointer (some ⟨b, 0, none⟩), .int .i64 a, .int .u64 v] w fun e w' => e = .returned (.int .i64 (Pm.err s a s.ws.length)) ∧ POwn B w' b (Pm.store s a v) ∧ Below B w w' := by
  obtain ⟨F, h1, h2⟩ := h
  exact (pstore_any h1 (fun k hk => (h2 k hk).2) a v hm hp hst ha hv).mono fun e w' ⟨he, hn⟩ => ⟨he, hn.own h2 hB⟩
theorem load_own {B : Nat} {w : World} {b : Nat} {s : Pm.D} (h : POwn B w b s) (hB : B ≤ w.heap.size) (a : Int) (hm : s.ws.length ≤ 40000) (ha : (Lit.int .i64 a).wf = true) :
    Calls Try.prog 50 #[.pointer (some ⟨b, 0, none⟩), .int .i64 a] w fun e w' => e = .returned (.tuple #[.int .u64 (Pm.load s a), .int .i64 (Pm.err s a s.ws.length)]) ∧ POwn B w' b s ∧ Below B w w' := by
  obtain ⟨F, h1, h2⟩ := h
  exact (pload_any h1 (fun k hk => (h2 k hk).2) a hm ha).mono fun e w' ⟨he, hn⟩ => ⟨he, hn.own h2 hB⟩
theorem flush_own {B : Nat} {w : World} {b : Nat} {s : Pm.D} (h : POwn B w b s) (hB : B ≤ w.heap.size) (a : Int) (hm : s.ws.length ≤ 40000) (hp : s.plan.length ≤ 40000) (hst : s.steps ≤ 1000000) (ha : (Lit.int .i64 a).wf = true) :
    Calls Try.prog 27 #[.pointer (some ⟨b, 0, none⟩), .int .i64 a] w fun e w' => e = .returned (.int .i64 (Pm.err s a (s.ws.length / 8))) ∧ POwn B w' b (Pm.flush s a) ∧ Below B w w' := by
  obtain ⟨F, h1, h2⟩ := h
  exact (pflush_any h1 (fun k hk => (h2 k hk).2) a hm hp hst ha).mono fun e w' ⟨he, hn⟩ => ⟨he, hn.own h2 hB⟩
theorem fence_own {B : Nat} {w : World} {b : Nat} {s : Pm.D} (h : POwn B w b s) (hB : B ≤ w.heap.size) (hm : s.ws.length ≤ 40000) (hp : s.plan.length ≤ 40000) (hst : s.steps ≤ 1000000) :
    Calls Try.prog 51 #[.pointer (some ⟨b, 0, none⟩)] w fun e w' => e = .returned (.int .i64 (Pm.err s 0 1)) ∧ POwn B w' b (Pm.fence s) ∧ Below B w w' := by
  obtain ⟨F, h1, h2⟩ := h
  exact (pfence_any h1 (fun k hk => (h2 k hk).2) hm hp hst).mono fun e w' ⟨he, hn⟩ => ⟨he, hn.own h2 hB⟩
theorem arm_own {B : Nat} {w : World} {b : Nat} {s : Pm.D} (h : POwn B w b s) (hB : B ≤ w.heap.size) (n : Int) (hn : (Lit.int .i64 n).wf = true) :
    Calls Try.prog 52 #[.pointer (some ⟨b, 0, none⟩), .int .i64 n] w fun e w' => e = .returned (.tuple #[]) ∧ POwn B w' b (Pm.arm s n) ∧ Below B w w' := by
  obtain ⟨F, h1, h2⟩ := h
  exact (parm_any h1 (fun k hk => (h2 k hk).2) n hn).mono fun e w' ⟨he, hn⟩ => ⟨he, hn.own h2 hB⟩
/-- a list that came in lies below B. -/
theorem crash_own {B : Nat} {w : World} {b : Nat} {s : Pm.D} (h : POwn B w b s) (hB : B ≤ w.heap.size) (hm : s.ws.length ≤ 40000) {a : Option Addr} {len cap : Nat} {l : List Int} (hA : Arg .i64 w a len cap l) (hl : len ≤ 40000) (hAB : 0 < len → ∀ x, a = some x → x.block < B) :
    Calls Try.prog 19 #[.pointer (some ⟨b, 0, none⟩), .slice a len cap] w fun e w' => e = .returned (.tuple #[]) ∧ POwn B w' b (Pm.crash s l) ∧ Below B w w' := by
  obtain ⟨F, h1, h2⟩ := h
  exact (pcrash_any h1 (fun k hk => (h2 k hk).2) hm hA hl (fun hl x hx q => by have := hAB hl x hx; have := h2 _ q; omega)).mono fun e w' ⟨he, hn⟩ => ⟨he, hn.own h2 hB⟩
theorem plan_own {B : Nat} {w : World} {b : Nat} {s : Pm.D} (h : POwn B w b s) (hB : B ≤ w.heap.size) {a : Option Addr} {len cap : Nat} {l : List Int} (hA : Arg .i64 w a len cap l) (hl : len ≤ 40000) (hAB : 0 < len → ∀ x, a = some x → x.block < B) :
    Calls Try.prog 53 #[.pointer (some ⟨b, 0, none⟩), .slice a len cap] w fun e w' => e = .returned (.tuple #[]) ∧ POwn B w' b (Pm.lay s l) ∧ Below B w w' := by
  obtain ⟨F, h1, h2⟩ := h
  exact (pplan_any h1 (fun k hk => (h2 k hk).2) hA hl (fun hl x hx q => by have := hAB hl x hx; have := h2 _ q; omega)).mono fun e w' ⟨he, hn⟩ => ⟨he, hn.own h2 hB⟩
theorem do_own {B : Nat} {w : World} {b : Nat} {s : Pm.D} (h : POwn B w b s) (hB : B ≤ w.heap.size) (hm : s.ws.length ≤ 40000) (hp : s.plan.length ≤ 40000) (hst : s.steps ≤ 1000000) (x : Ac) (hx : x.ok w) (hxl : x.len ≤ 40000) (hAB : 0 < x.len → ∀ y, x.a = some y → y.block < B) :
    Calls Try.prog 32 #[.pointer (some ⟨b, 0, none⟩), .agg x.cells.toArray] w fun e w' => e = .returned (.tuple #[.int .u64 (Pm.actV s x.plain), .int .i64 (Pm.actE s x.plain)]) ∧ POwn B w' b (Pm.act s x.plain) ∧ Below B w w' := by
  obtain ⟨F, h1, h2⟩ := h
  exact (do_any h1 (fun k hk => (h2 k hk).2) hm hp hst x hx hxl (fun hl y hy q => by have := hAB hl y hy; have := h2 _ q; omega)).mono fun e w' ⟨he, hn⟩ => ⟨he, hn.own h2 hB⟩

theorem arg_nil (w : World) : Arg .i64 w none 0 0 [] := arg_of (zs := []) (.inl ⟨rfl, rfl, rfl, rfl⟩)

end Go.Proofs.Ytnaenokegomoeaa

namespace Go.Proofs.Ytnaenokegomoeaa
set_option linter.unusedVariables false
set_option linter.unusedSimpArgs false
open Go.RowKit

theorem act_plan (s : Pm.D) (a : Pm.A) : (Pm.act s a).plan = s.plan ∨ (Pm.act s a).plan = a.l ∨ (Pm.act s a).plan = [] := by
  unfold Pm.act Pm.store Pm.flush Pm.fence Pm.arm
  repeat' split
  all_goals first | exact .inl rfl | exact .inr (.inl rfl) | exact .inr (.inr rfl)

/-- the program's device and the document's, side by side. -/
def Both (B : Nat) (w : World) (b c : Nat) (s : Pm.D) : Prop := ∃ F G g0 g1 g2 g3 pa pc, PDev w b s F ∧ RDev w c s G g0 g1 g2 g3 pa pc ∧ (∀ k, F k → B ≤ k ∧ k < w.heap.size) ∧ (∀ k, G k → B ≤ k ∧ k < w.heap.size) ∧ ∀ k, F k → ¬ G k

theorem Both.below {B : Nat} {w w' : World} {b c : Nat} {s : Pm.D} (h : Both B w b c s) (hb : Below w.heap.size w w') : Both B w' b c s := by
  obtain ⟨F, G, g0, g1, g2, g3, pa, pc, h1, h2, h3, h4, h5⟩ := h
  exact ⟨F, G, g0, g1, g2, g3, pa, pc, h1.kept hb.size (fun k _ hk => hb.block k hk), h2.kept hb.size (fun k _ hk => hb.block k hk), fun k hk => ⟨(h3 k hk).1, Nat.lt_of_lt_of_le (h3 k hk).2 hb.size⟩, fun k hk => ⟨(h4 k hk).1, Nat.lt_of_lt_of_le (h4 k hk).2 hb.size⟩, h5⟩
/-- the program's device does an act, the document's does it behind. -/
def Half (B : Nat) (w : World) (b c : Nat) (s s' : Pm.D) : Prop := ∃ F G g0 g1 g2 g3 pa pc, PDev w b s' F ∧ RDev w c s G g0 g1 g2 g3 pa pc ∧ (∀ k, F k → B ≤ k ∧ k < w.heap.size) ∧ (∀ k, G k → B ≤ k ∧ k < w.heap.size) ∧ ∀ k, F k → ¬ G k
theorem both_do {B : Nat} {w : World} {b c : Nat} {s : Pm.D} (h : Both B w b c s) (hB : B ≤ w.heap.size) (hm : s.ws.length ≤ 40000) (hp : s.plan.length ≤ 40000) (hst : s.steps ≤ 1000000) (x : Ac) (hx : x.ok w) (hxl : x.len ≤ 40000) (hAB : 0 < x.len → ∀ y, x.a = some y → y.block < B) :
    Calls Try.prog 32 #[.pointer (some ⟨b, 0, none⟩), .agg x.cells.toArray] w fun e w' => e = .returned (.tuple #[.int .u64 (Pm.actV s x.plain), .int .i64 (Pm.actE s x.plain)]) ∧ Half B w' b c s (Pm.act s x.plain) ∧ Below B w w' := by
  obtain ⟨F, G, g0, g1, g2, g3, pa, pc, h1, h2, h3, h4, h5⟩ := h
  refine (do_any h1 (fun k hk => (h3 k hk).2) hm hp hst x hx hxl (fun hl y hy q => by have := hAB hl y hy; have := h3 _ q; omega)).mono ?_
  rintro e w' ⟨he, F', q1, q2, q3, q4⟩
  refine ⟨he, ⟨F', G, g0, g1, g2, g3, pa, pc, q1, h2.kept q4.size (fun k hk hl => q4.block k hl (fun f => h5 k f hk)), fun k hk => ?_, fun k hk => ⟨(h4 k hk).1, Nat.lt_of_lt_of_le (h4 k hk).2 q4.size⟩, fun k hk hg => ?_⟩, q4.below (fun k hk => (h3 k hk).1) hB⟩
  · rcases q2 k hk with q | q
    · have := h3 k q
      have := q4.size
      omega
    · omega
  · rcases q2 k hk with q | q
    · exact h5 k q hg
    · have := h4 k hg
      omega
theorem half_refs {B : Nat} {w : World} {b c : Nat} {s s' : Pm.D} (h : Half B w b c s s') (hB : B ≤ w.heap.size) (hm : s.ws.length ≤ 40000) (hp : s.plan.length ≤ 40000) (hst : s.steps ≤ 1000000) (x : Ac) (hx : x.ok w) (hxl : x.len ≤ 40000) (hAB : 0 < x.len → ∀ y, x.a = some y → y.block < B) (hs' : s' = Pm.act s x.plain) :
    Calls Try.prog 33 #[.pointer (some ⟨c, 0, none⟩), .agg x.cells.toArray] w fun e w' => e = .returned (.tuple #[.int .u64 (Pm.actV s x.plain), .int .i64 (Pm.actE s x.plain)]) ∧ Both B w' b c s' ∧ Below B w w' := by
  obtain ⟨F, G, g0, g1, g2, g3, pa, pc, h1, h2, h3, h4, h5⟩ := h
  refine (refs_any h2 (fun k hk => (h4 k hk).2) hm hp hst x hx hxl (fun hl y hy q => by have := hAB hl y hy; have := h4 _ q; omega)).mono ?_
  rintro e w' ⟨he, G', pa', pc', q1, q2, q3, q4⟩
  rw [← hs'] at q1
  refine ⟨he, ⟨F, G', g0, g1, g2, g3, pa', pc', h1.kept q4.size (fun k hk hl => q4.block k hl (fun g => h5 k hk g)), q1, fun k hk => ⟨(h3 k hk).1, Nat.lt_of_lt_of_le (h3 k hk).2 q4.size⟩, fun k hk => ?_, fun k hk hg => ?_⟩, q4.below (fun k hk => (h4 k hk).1) hB⟩
  · rcases q2 k hk with q | q
    · have := h4 k q
      have := q4.size
      omega
    · omega
  · rcases q2 k hg with q | q
    · exact h5 k hk q
    · have := h3 k hk
      omega
theorem ok_below {x : Ac} {w w' : World} (h : x.ok w) (hb : Below w.heap.size w w') : x.ok w' := ⟨h.1, h.2.1, h.2.2.1, h.2.2.2.below hb⟩
theorem arg_block {k : IntKind} {w : World} {a : Option Addr} {len cap : Nat} {zs : List Int} (h : Arg k w a len cap zs) (hp : 0 < len) : ∀ y, a = some y → y.block < w.heap.size := by
  intro y hy
  obtain ⟨_, h0 | ⟨b, off, hb, hlt, _⟩⟩ := h.2.2.1
  · omega
  · rw [hy] at hb
    cases hb
    exact hlt
end Go.Proofs.Ytnaenokegomoeaa

namespace Go.Proofs.Ytnaenokegomoeaa
set_option linter.unusedVariables false
set_option linter.unusedSimpArgs false
open Go.RowKit

theorem POwn.image {B : Nat} {w : World} {b : Nat} {s : Pm.D} (h : POwn B w b s) (hm : s.ws.length ≤ 40000) :
    Calls Try.prog 20 #[.pointer (some ⟨b, 0, none⟩)] w fun e w' => ∃ a cap, e = .returned (.slice a (8 * s.ws.length) cap) ∧ 8 * s.ws.length ≤ cap ∧ Row .u8 w' a (8 * s.ws.length) (octs (Pm.lastL s.ws)) ∧ Below w.heap.size w w' := by
  obtain ⟨F, h1, _⟩ := h
  exact pimage_any h1 hm
theorem POwn.view {B : Nat} {w : World} {b : Nat} {s : Pm.D} (h : POwn B w b s) (hm : s.ws.length ≤ 40000) :
    Calls Try.prog 23 #[.pointer (some ⟨b, 0, none⟩)] w fun e w' => ∃ a cap, e = .returned (.slice a (8 * s.ws.length) cap) ∧ 8 * s.ws.length ≤ cap ∧ Row .u8 w' a (8 * s.ws.length) (octs (Pm.storedL s.ws)) ∧ Below w.heap.size w w' := by
  obtain ⟨F, h1, _⟩ := h
  exact pview_any h1 hm
theorem POwn.fates {B : Nat} {w : World} {b : Nat} {s : Pm.D} (h : POwn B w b s) (hm : s.ws.length ≤ 40000) :
    Calls Try.prog 21 #[.pointer (some ⟨b, 0, none⟩)] w fun e w' => ∃ a cap, e = .returned (.slice a (Pm.fates s).length cap) ∧ (Pm.fates s).length ≤ cap ∧ FRow w' a (Pm.fates s) ∧ Below w.heap.size w w' := by
  obtain ⟨F, h1, _⟩ := h
  exact pfates_any h1 hm

end Go.Proofs.Ytnaenokegomoeaa

namespace Go.Proofs.Ytnaenokegomoeaa
set_option linter.unusedVariables false
set_option linter.unusedSimpArgs false
open Go.RowKit

set_option maxHeartbeats 1000000 in
/-- Image, with the block that it makes. -/
theorem pimage_new {w : World} {b : Nat} {s : Pm.D} {F : Nat → Prop} (h : PDev w b s F) (hm : s.ws.length ≤ 40000) :
    Calls Try.prog 20 #[.pointer (some ⟨b, 0, none⟩)] w fun e w' => ∃ g, e = .returned (.slice (some ⟨g, 0, none⟩) (8 * s.ws.length) (8 * s.ws.length)) ∧ w.heap.size ≤ g ∧ w'.heap[g]? = some (.cells (blk .u8 (octs (Pm.lastL s.ws))) 5 (0, 0)) ∧ Below w.heap.size w w' := by
  obtain ⟨g0, g1, c1, gm, n, tl, M, pa, pc, laid, h, hn⟩ := h
  have HO := hide (octets_any (some ⟨g0, 0, none⟩) s.ws.length s.ws.length (Pm.lastL s.ws) w (by omega) (row_of_block h.k0 (lastL_len _)) (wf_last h.ok))
  have HT : Hid (octTo (Pm.lastL s.ws) s.ws.length = octs (Pm.lastL s.ws)) := by
    show _ = _
    have := octTo_all (Pm.lastL s.ws)
    rw [lastL_len] at this
    exact this
  obtain ⟨f0, f1, f2, f3, f4, f5, f6, f7⟩ := h.fields
  clear h f1 f2 f3 f4 f5 f6 f7 hn
  generalize s.ws.length = N at *
  go_enter Try.func20, Try.ntmps20
  go_wp2_with (go_at_call 40; refine HO.out.mono ?_; rintro e w1 ⟨rfl, hb, hg⟩)
  go_ret
  rw [HT.out] at hg
  exact ⟨_, rfl, Nat.le_refl _, hg, hb⟩
/-- Fates, with the row that it owns. -/
theorem pfates_own {w : World} {b : Nat} {s : Pm.D} {F : Nat → Prop} (h : PDev w b s F) (hm : s.ws.length ≤ 40000) :
    Calls Try.prog 21 #[.pointer (some ⟨b, 0, none⟩)] w fun e w' => ∃ v, e = .returned v ∧ w'.ownsRow w.heap.size 24 5 v (Pm.fates s).length (fateCells (Pm.fates s)) ∧ Below w.heap.size w w' := by
  obtain ⟨g0, g1, c1, gm, n, tl, M, pa, pc, laid, h, hn⟩ := h
  exact pfates_x h hm

theorem octs_append (a b : List Int) : octs (a ++ b) = octs a ++ octs b := by simp [octs]
theorem octs_cons (x : Int) (R : List Int) : octs (x :: R) = Nums.lay x 8 ++ octs R := by
  unfold octs
  rw [List.flatMap_cons]
theorem octs_mid (A R : List Int) (x v : Int) : splice (octs (A ++ x :: R)) (8 * A.length) (Nums.lay v 8) = octs (A ++ v :: R) := by
  have l1 : (octs A).length = 8 * A.length := octs_length A
  unfold splice
  rw [octs_append, octs_append, octs_cons, octs_cons, Nums.length_lay, List.take_left' l1, List.drop_append, List.drop_of_length_le (by omega), l1, List.nil_append]
  have e : 8 * A.length + 8 - 8 * A.length = 8 := by omega
  rw [e, List.drop_left' (Nums.length_lay 8 x)]
theorem octs_set {L : List Int} {i : Nat} (v : Int) (h : i < L.length) : splice (octs L) (8 * i) (Nums.lay v 8) = octs (L.set i v) := by
  have e1 : L = L.take i ++ L[i] :: L.drop (i + 1) := by simp
  have e2 : L.set i v = L.take i ++ v :: L.drop (i + 1) := List.set_eq_take_append_cons_drop.trans (if_pos h)
  have e3 := octs_mid (L.take i) (L.drop (i + 1)) L[i] v
  rw [← e1, ← e2, List.length_take, Nat.min_eq_left (by omega)] at e3
  exact e3
theorem octs_at {L : List Int} {i : Nat} (h : i < L.length) : ((octs L).drop (8 * i)).take 8 = Nums.lay (L.getD i 0) 8 := by
  have e := oct_at L L.length i h (Nat.le_refl _)
  rw [octTo_all] at e
  exact e
theorem copied_snoc (now : List Int) (fs : List Pm.F) (f : Pm.F) (was : List Int) : Pm.copied now (fs ++ [f]) was = (Pm.copied now fs was).set f.at' (now.getD f.at' 0) := by
  induction fs generalizing was with
  | nil => rfl
  | cons g r ih =>
    rw [List.cons_append, Pm.copied, ih]
    rfl
theorem copied_step (now : List Int) {fs : List Pm.F} {k : Nat} {f : Pm.F} (was : List Int) (h : fs[k]? = some f) : Pm.copied now (fs.take (k + 1)) was = (Pm.copied now (fs.take k) was).set f.at' (now.getD f.at' 0) := by
  have hlt := (List.getElem?_eq_some_iff.1 h).1
  have e : fs.take (k + 1) = fs.take k ++ [f] := by
    rw [List.take_add_one, h]
    rfl
  rw [e, copied_snoc]

/-- what holds of a device while acts are done. -/
structure Doing (n k : Nat) (s : Pm.D) : Prop where
  len : s.ws.length = n
  plan : s.plan.length ≤ 40
  steps : s.steps ≤ k
theorem Doing.act {n k : Nat} {s : Pm.D} (h : Doing n k s) (a : Pm.A) (hl : a.l.length ≤ 40) : Doing n (k + 1) (Pm.act s a) := by
  refine ⟨by rw [Pm.act_length]; exact h.len, ?_, ?_⟩
  · rcases act_plan s a with e | e | e
    · rw [e]; exact h.plan
    · rw [e]; exact hl
    · rw [e]; simp
  · have := h.steps
    rcases Pm.act_steps s a with e | e <;> rw [e] <;> omega
end Go.Proofs.Ytnaenokegomoeaa
