/-
  Layer 5's statements: PmemActs.
-/
import Derived.Test.YtjkiehfjbldkkaaPmLawA
namespace Go.Proofs.Ytjkiehfjbldkkaa
set_option linter.unusedVariables false
set_option linter.unusedSimpArgs false
open Go.RowKit

theorem act_plan (s : Pm.D) (a : Pm.A) : (Pm.act s a).plan = s.plan ∨ (Pm.act s a).plan = a.l ∨ (Pm.act s a).plan = [] := by
  unfold Pm.act Pm.store Pm.flush Pm.fence Pm.arm
  repeat' split
  all_goals first | exact .inl rfl | exact .inr (.inl rfl) | exact .inr (.inr rfl)

/-- the program's device and the document's, side by side. -/
def Both (B : Nat) (w : World) (b c : Nat) (s : Pm.D) : Prop := ∃ F G g0 g1 g2 g3 pa pc, PDev w b s F ∧ RDev w c s G g0 g1 g2 g3 pa pc ∧ (∀ k, F k → B ≤ k ∧ k < w.heap.size) ∧ (∀ k, G k → B ≤ k ∧ k < w.heap.size) ∧ ∀ k, F k → ¬ G k

set_option maxHeartbeats 1000000 in
theorem acts_great {w : World} (n : Int) {a : Option Addr} {len cap : Nat} {xs : List Ac} (hA : Acts w a len cap xs) (h : smallB xs 60 = false ∨ (smallB xs 60 = true ∧ 20 < n ∧ n ≤ 4096)) :
    Calls Try.prog 3 #[.int .i64 n, .slice a len cap] w fun e w' => e = .returned (.bool true) ∧ Below w.heap.size w w' := by
  have HA := hide hA
  clear hA
  rcases h with h | ⟨h, h1, h2⟩
  · go_enter Try.func3, Try.ntmps3
    go_wp2_with fail
    refine (awake_any _).mono ?_
    rintro e w1 ⟨rfl, hb1⟩
    have HB1 := hide hb1
    clear hb1
    go_wp2_with fail
    refine (small_any (HA.out.below HB1.out) 60 (by decide)).mono ?_
    rintro e w2 ⟨rfl, hb2⟩
    have HB2 := hide (HB1.out.trans (hb2.mono HB1.out.size))
    clear hb2
    go_wp2_with fail
    refine (awake_any _).mono ?_
    rintro e w3 ⟨rfl, hb3⟩
    have HB3 := hide (HB2.out.trans (hb3.mono HB2.out.size))
    clear hb3
    go_wp2_with fail
    go_ret
    exact ⟨rfl, HB3.out⟩
  · go_enter Try.func3, Try.ntmps3
    go_wp2_with fail
    refine (awake_any _).mono ?_
    rintro e w1 ⟨rfl, hb1⟩
    have HB1 := hide hb1
    clear hb1
    go_wp2_with fail
    refine (small_any (HA.out.below HB1.out) 60 (by decide)).mono ?_
    rintro e w2 ⟨rfl, hb2⟩
    have HB2 := hide (HB1.out.trans (hb2.mono HB1.out.size))
    clear hb2
    go_wp2_with fail
    refine (awake_any _).mono ?_
    rintro e w3 ⟨rfl, hb3⟩
    have HB3 := hide (HB2.out.trans (hb3.mono HB2.out.size))
    clear hb3
    go_wp2_with fail
    go_ret
    exact ⟨rfl, HB3.out⟩

set_option maxHeartbeats 1000000 in
theorem acts_no {w : World} (n : Int) {a : Option Addr} {len cap : Nat} {xs : List Ac} (hA : Acts w a len cap xs) (h : smallB xs 60 = true) (hn : n < 0 ∨ 4096 < n) :
    Calls Try.prog 3 #[.int .i64 n, .slice a len cap] w fun e w' => e = .returned (.bool true) ∧ Below w.heap.size w w' := by
  have HA := hide hA
  have HN := hide (fun W => pnew_no W n hn)
  clear hA
  rcases (show (n < 0 ∧ ¬ 20 < n) ∨ (¬ n < 0 ∧ 20 < n ∧ ¬ n ≤ 4096 ∧ 4096 < n) by omega) with ⟨h1, h2⟩ | ⟨h1, h2, h3, h4⟩
  all_goals
    clear hn
    go_enter Try.func3, Try.ntmps3
    go_wp2_with fail
    refine (awake_any _).mono ?_
    rintro e w1 ⟨rfl, hb1⟩
    have HB1 := hide hb1
    clear hb1
    go_wp2_with fail
    refine (small_any (HA.out.below HB1.out) 60 (by decide)).mono ?_
    rintro e w2 ⟨rfl, hb2⟩
    have HB2 := hide (HB1.out.trans (hb2.mono HB1.out.size))
    clear hb2
    go_wp2_with fail
    refine (HN.out _).mono ?_
    rintro e w3 ⟨rfl, hb3⟩
    have HB3 := hide (HB2.out.trans (hb3.mono HB2.out.size))
    clear hb3
    go_wp2_with fail
    go_ret
    exact ⟨rfl, HB3.out⟩

theorem Both.below {B : Nat} {w w' : World} {b c : Nat} {s : Pm.D} (h : Both B w b c s) (hb : Below w.heap.size w w') : Both B w' b c s := by
  obtain ⟨F, G, g0, g1, g2, g3, pa, pc, h1, h2, h3, h4, h5⟩ := h
  exact ⟨F, G, g0, g1, g2, g3, pa, pc, h1.kept hb.size (fun k _ hk => hb.block k hk), h2.kept hb.size (fun k _ hk => hb.block k hk), fun k hk => ⟨(h3 k hk).1, Nat.lt_of_lt_of_le (h3 k hk).2 hb.size⟩, fun k hk => ⟨(h4 k hk).1, Nat.lt_of_lt_of_le (h4 k hk).2 hb.size⟩, h5⟩
/-- the program's device does an act, the document's does it behind. -/
def Half (B : Nat) (w : World) (b c : Nat) (s s' : Pm.D) : Prop := ∃ F G g0 g1 g2 g3 pa pc, PDev w b s' F ∧ RDev w c s G g0 g1 g2 g3 pa pc ∧ (∀ k, F k → B ≤ k ∧ k < w.heap.size) ∧ (∀ k, G k → B ≤ k ∧ k < w.heap.size) ∧ ∀ k, F k → ¬ G k
theorem both_do {B : Nat} {w : World} {b c : Nat} {s : Pm.D} (h : Both B w b c s) (hB : B ≤ w.heap.size) (hm : s.ws.length ≤ 40000) (hp : s.plan.length ≤ 40000) (hst : s.steps ≤ 1000000) (x : Ac) (hx : x.ok w) (hxl : x.len ≤ 40000) (hAB : 0 < x.len → ∀ y, x.a = some y → y.block < B) :
    Calls Try.prog 14 #[.pointer (some ⟨b, 0, none⟩), .agg x.cells.toArray] w fun e w' => e = .returned (.tuple #[.int .u64 (Pm.actV s x.plain), .int .i64 (Pm.actE s x.plain)]) ∧ Half B w' b c s (Pm.act s x.plain) ∧ Below B w w' := by
  obtain ⟨F, G, g0, g1, g2, g3, pa, pc, h1, h2, h3, h4, h5⟩ := h
  refine (do_any h1 (fun k hk => (h3 k hk).2) hm hp hst x hx hxl (fun hl y hy q => by have := hAB hl y hy; have := h3 _ q; omega)).mono ?_
  rintro e w' ⟨he, F', q1, q2, q3, q4⟩
  refine ⟨he, ⟨F', G, g0, g1, g2, g3, pa, pc, q1, h2.kept q4.size (fun k hk hl => q4.block k hl (fun f => h5 k f hk)), fun k hk => ?_, fun k hk => ⟨(h4 k hk).1, Nat.lt_of_lt_of_le (h4 k hk).2 q4.size⟩, fun k hk hg => ?_⟩, q4.below (fun k hk => (h3 k hk).1) hB⟩
  · rcases q2 k hk with q | q
    · have := h3 k q
      have := q4.size
      omega
    · omega
  · rcases q2 k hk with q | q
    · exact h5 k q hg
    · have := h4 k hg
      omega
theorem half_refs {B : Nat} {w : World} {b c : Nat} {s s' : Pm.D} (h : Half B w b c s s') (hB : B ≤ w.heap.size) (hm : s.ws.length ≤ 40000) (hp : s.plan.length ≤ 40000) (hst : s.steps ≤ 1000000) (x : Ac) (hx : x.ok w) (hxl : x.len ≤ 40000) (hAB : 0 < x.len → ∀ y, x.a = some y → y.block < B) (hs' : s' = Pm.act s x.plain) :
    Calls Try.prog 15 #[.pointer (some ⟨c, 0, none⟩), .agg x.cells.toArray] w fun e w' => e = .returned (.tuple #[.int .u64 (Pm.actV s x.plain), .int .i64 (Pm.actE s x.plain)]) ∧ Both B w' b c s' ∧ Below B w w' := by
  obtain ⟨F, G, g0, g1, g2, g3, pa, pc, h1, h2, h3, h4, h5⟩ := h
  refine (refs_any h2 (fun k hk => (h4 k hk).2) hm hp hst x hx hxl (fun hl y hy q => by have := hAB hl y hy; have := h4 _ q; omega)).mono ?_
  rintro e w' ⟨he, G', pa', pc', q1, q2, q3, q4⟩
  rw [← hs'] at q1
  refine ⟨he, ⟨F, G', g0, g1, g2, g3, pa', pc', h1.kept q4.size (fun k hk hl => q4.block k hl (fun g => h5 k hk g)), q1, fun k hk => ⟨(h3 k hk).1, Nat.lt_of_lt_of_le (h3 k hk).2 q4.size⟩, fun k hk => ?_, fun k hk hg => ?_⟩, q4.below (fun k hk => (h4 k hk).1) hB⟩
  · rcases q2 k hk with q | q
    · have := h4 k q
      have := q4.size
      omega
    · omega
  · rcases q2 k hg with q | q
    · exact h5 k hk q
    · have := h3 k hk
      omega
theorem ok_below {x : Ac} {w w' : World} (h : x.ok w) (hb : Below w.heap.size w w') : x.ok w' := ⟨h.1, h.2.1, h.2.2.1, h.2.2.2.below hb⟩
theorem arg_block {k : IntKind} {w : World} {a : Option Addr} {len cap : Nat} {zs : List Int} (h : Arg k w a len cap zs) (hp : 0 < len) : ∀ y, a = some y → y.block < w.heap.size := by
  intro y hy
  obtain ⟨_, h0 | ⟨b, off, hb, hlt, _⟩⟩ := h.2.2.1
  · omega
  · rw [hy] at hb
    cases hb
    exact hlt
end Go.Proofs.Ytjkiehfjbldkkaa
