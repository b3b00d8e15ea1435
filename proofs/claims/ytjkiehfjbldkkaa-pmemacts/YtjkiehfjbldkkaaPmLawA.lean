/-
  Layer 5's statements: the first question; a device of one's own.
-/
import Derived.Test.YtjkiehfjbldkkaaPmDo
namespace Go.Proofs.Ytjkiehfjbldkkaa
set_option linter.unusedVariables false
set_option linter.unusedSimpArgs false
open Go.RowKit

/-- a device of the program's in memory that was made from B on. -/
def POwn (B : Nat) (w : World) (b : Nat) (s : Pm.D) : Prop := ∃ F, PDev w b s F ∧ ∀ k, F k → B ≤ k ∧ k < w.heap.size
theorem PNext.own {B : Nat} {w w' : World} {b : Nat} {s' : Pm.D} {F : Nat → Prop} (h : PNext w b s' F w') (hF : ∀ k, F k → B ≤ k ∧ k < w.heap.size) (hB : B ≤ w.heap.size) : POwn B w' b s' ∧ Below B w w' := by
  obtain ⟨F', h1, h2, h3, h4⟩ := h
  refine ⟨⟨F', h1, fun k hk => ?_⟩, h4.below (fun k hk => (hF k hk).1) hB⟩
  rcases h2 k hk with q | q
  · have := hF k q
    have := h4.size
    omega
  · omega
theorem POwn.below {B : Nat} {w w' : World} {b : Nat} {s : Pm.D} (h : POwn B w b s) (hb : Below w.heap.size w w') : POwn B w' b s := by
  obtain ⟨F, h1, h2⟩ := h
  exact ⟨F, h1.kept hb.size (fun k _ hk => hb.block k hk), fun k hk => ⟨(h2 k hk).1, Nat.lt_of_lt_of_le (h2 k hk).2 hb.size⟩⟩
theorem POwn.ok {B : Nat} {w : World} {b : Nat} {s : Pm.D} (h : POwn B w b s) : s.Ok := by
  obtain ⟨F, h1, _⟩ := h
  exact h1.ok

theorem new_own (w : World) (n : Nat) (hn : n ≤ 4096) : Calls Try.prog 11 #[.int .i64 n] w fun e w' => ∃ b, e = .returned (.tuple #[.pointer (some ⟨b, 0, none⟩), .int .i64 0]) ∧ POwn w.heap.size w' b (Pm.new (8 * n)) ∧ Below w.heap.size w w' :=
  (pnew_yes w n hn).mono fun e w' ⟨b, F, he, h1, h2, h3⟩ => ⟨b, he, ⟨F, h1, h2⟩, h3⟩
theorem store_own {B : Nat} {w : World} {b : Nat} {s : Pm.D} (h : POwn B w b s) (hB : B ≤ w.heap.size) (a v : Int) (hm : s.ws.length ≤ 40000) (hp : s.plan.length ≤ 40000) (hst : s.steps ≤ 1000000) (ha : (Lit.int .i64 a).wf = true) (hv : (Lit.int .u64 v).wf = true) :
    Calls Try.prog 26 #[.pointer (some ⟨b, 0, none⟩), .int .i64 a, .int .u64 v] w fun e w' => e = .returned (.int .i64 (Pm.err s a s.ws.length)) ∧ POwn B w' b (Pm.store s a v) ∧ Below B w w' := by
  obtain ⟨F, h1, h2⟩ := h
  exact (pstore_any h1 (fun k hk => (h2 k hk).2) a v hm hp hst ha hv).mono fun e w' ⟨he, hn⟩ => ⟨he, hn.own h2 hB⟩
theorem load_own {B : Nat} {w : World} {b : Nat} {s : Pm.D} (h : POwn B w b s) (hB : B ≤ w.heap.size) (a : Int) (hm : s.ws.length ≤ 40000) (ha : (Lit.int .i64 a).wf = true) :
    Calls Try.prog 34 #[.pointer (some ⟨b, 0, none⟩), .int .i64 a] w fun e w' => e = .returned (.tuple #[.int .u64 (Pm.load s a), .int .i64 (Pm.err s a s.ws.length)]) ∧ POwn B w' b s ∧ Below B w w' := by
  obtain ⟨F, h1, h2⟩ := h
  exact (pload_any h1 (fun k hk => (h2 k hk).2) a hm ha).mono fun e w' ⟨he, hn⟩ => ⟨he, hn.own h2 hB⟩
theorem flush_own {B : Nat} {w : World} {b : Nat} {s : Pm.D} (h : POwn B w b s) (hB : B ≤ w.heap.size) (a : Int) (hm : s.ws.length ≤ 40000) (hp : s.plan.length ≤ 40000) (hst : s.steps ≤ 1000000) (ha : (Lit.int .i64 a).wf = true) :
    Calls Try.prog 27 #[.pointer (some ⟨b, 0, none⟩), .int .i64 a] w fun e w' => e = .returned (.int .i64 (Pm.err s a (s.ws.length / 8))) ∧ POwn B w' b (Pm.flush s a) ∧ Below B w w' := by
  obtain ⟨F, h1, h2⟩ := h
  exact (pflush_any h1 (fun k hk => (h2 k hk).2) a hm hp hst ha).mono fun e w' ⟨he, hn⟩ => ⟨he, hn.own h2 hB⟩
theorem fence_own {B : Nat} {w : World} {b : Nat} {s : Pm.D} (h : POwn B w b s) (hB : B ≤ w.heap.size) (hm : s.ws.length ≤ 40000) (hp : s.plan.length ≤ 40000) (hst : s.steps ≤ 1000000) :
    Calls Try.prog 28 #[.pointer (some ⟨b, 0, none⟩)] w fun e w' => e = .returned (.int .i64 (Pm.err s 0 1)) ∧ POwn B w' b (Pm.fence s) ∧ Below B w w' := by
  obtain ⟨F, h1, h2⟩ := h
  exact (pfence_any h1 (fun k hk => (h2 k hk).2) hm hp hst).mono fun e w' ⟨he, hn⟩ => ⟨he, hn.own h2 hB⟩
theorem arm_own {B : Nat} {w : World} {b : Nat} {s : Pm.D} (h : POwn B w b s) (hB : B ≤ w.heap.size) (n : Int) (hn : (Lit.int .i64 n).wf = true) :
    Calls Try.prog 32 #[.pointer (some ⟨b, 0, none⟩), .int .i64 n] w fun e w' => e = .returned (.tuple #[]) ∧ POwn B w' b (Pm.arm s n) ∧ Below B w w' := by
  obtain ⟨F, h1, h2⟩ := h
  exact (parm_any h1 (fun k hk => (h2 k hk).2) n hn).mono fun e w' ⟨he, hn⟩ => ⟨he, hn.own h2 hB⟩
/-- a list that came in lies below B. -/
theorem crash_own {B : Nat} {w : World} {b : Nat} {s : Pm.D} (h : POwn B w b s) (hB : B ≤ w.heap.size) (hm : s.ws.length ≤ 40000) {a : Option Addr} {len cap : Nat} {l : List Int} (hA : Arg .i64 w a len cap l) (hl : len ≤ 40000) (hAB : 0 < len → ∀ x, a = some x → x.block < B) :
    Calls Try.prog 29 #[.pointer (some ⟨b, 0, none⟩), .slice a len cap] w fun e w' => e = .returned (.tuple #[]) ∧ POwn B w' b (Pm.crash s l) ∧ Below B w w' := by
  obtain ⟨F, h1, h2⟩ := h
  exact (pcrash_any h1 (fun k hk => (h2 k hk).2) hm hA hl (fun hl x hx q => by have := hAB hl x hx; have := h2 _ q; omega)).mono fun e w' ⟨he, hn⟩ => ⟨he, hn.own h2 hB⟩
theorem plan_own {B : Nat} {w : World} {b : Nat} {s : Pm.D} (h : POwn B w b s) (hB : B ≤ w.heap.size) {a : Option Addr} {len cap : Nat} {l : List Int} (hA : Arg .i64 w a len cap l) (hl : len ≤ 40000) (hAB : 0 < len → ∀ x, a = some x → x.block < B) :
    Calls Try.prog 33 #[.pointer (some ⟨b, 0, none⟩), .slice a len cap] w fun e w' => e = .returned (.tuple #[]) ∧ POwn B w' b (Pm.lay s l) ∧ Below B w w' := by
  obtain ⟨F, h1, h2⟩ := h
  exact (pplan_any h1 (fun k hk => (h2 k hk).2) hA hl (fun hl x hx q => by have := hAB hl x hx; have := h2 _ q; omega)).mono fun e w' ⟨he, hn⟩ => ⟨he, hn.own h2 hB⟩
theorem do_own {B : Nat} {w : World} {b : Nat} {s : Pm.D} (h : POwn B w b s) (hB : B ≤ w.heap.size) (hm : s.ws.length ≤ 40000) (hp : s.plan.length ≤ 40000) (hst : s.steps ≤ 1000000) (x : Ac) (hx : x.ok w) (hxl : x.len ≤ 40000) (hAB : 0 < x.len → ∀ y, x.a = some y → y.block < B) :
    Calls Try.prog 14 #[.pointer (some ⟨b, 0, none⟩), .agg x.cells.toArray] w fun e w' => e = .returned (.tuple #[.int .u64 (Pm.actV s x.plain), .int .i64 (Pm.actE s x.plain)]) ∧ POwn B w' b (Pm.act s x.plain) ∧ Below B w w' := by
  obtain ⟨F, h1, h2⟩ := h
  exact (do_any h1 (fun k hk => (h2 k hk).2) hm hp hst x hx hxl (fun hl y hy q => by have := hAB hl y hy; have := h2 _ q; omega)).mono fun e w' ⟨he, hn⟩ => ⟨he, hn.own h2 hB⟩

theorem arg_nil (w : World) : Arg .i64 w none 0 0 [] := arg_of (zs := []) (.inl ⟨rfl, rfl, rfl, rfl⟩)

theorem awk_err : Pm.err (Pm.new 8) 0 8 = 0 := by decide +kernel
theorem awk_load : Pm.load (Pm.crash (Pm.fence (Pm.store (Pm.flush (Pm.store (Pm.new 8) 0 5) 0) 0 6)) []) 0 = 5 ∧ Pm.err (Pm.crash (Pm.fence (Pm.store (Pm.flush (Pm.store (Pm.new 8) 0 5) 0) 0 6)) []) 0 (Pm.crash (Pm.fence (Pm.store (Pm.flush (Pm.store (Pm.new 8) 0 5) 0) 0 6)) []).ws.length = 0 := by decide +kernel

set_option maxHeartbeats 1000000 in
theorem awake_any (w : World) : Calls Try.prog 9 #[] w fun e w' => e = .returned (.bool true) ∧ Below w.heap.size w w' := by
  have HN := hide (new_own w 1 (by decide))
  obtain ⟨s1, h1⟩ : ∃ s, Pm.store (Pm.new (8 * 1)) 0 5 = s := ⟨_, rfl⟩
  obtain ⟨s2, h2⟩ : ∃ s, Pm.flush s1 0 = s := ⟨_, rfl⟩
  obtain ⟨s3, h3⟩ : ∃ s, Pm.store s2 0 6 = s := ⟨_, rfl⟩
  obtain ⟨s4, h4⟩ : ∃ s, Pm.fence s3 = s := ⟨_, rfl⟩
  obtain ⟨s5, h5⟩ : ∃ s, Pm.crash s4 [] = s := ⟨_, rfl⟩
  have b1 : s1.ws.length ≤ 40000 ∧ s1.plan.length ≤ 40000 ∧ s1.steps ≤ 1000000 := by subst h1; decide +kernel
  have b2 : s2.ws.length ≤ 40000 ∧ s2.plan.length ≤ 40000 ∧ s2.steps ≤ 1000000 := by subst h1 h2; decide +kernel
  have b3 : s3.ws.length ≤ 40000 ∧ s3.plan.length ≤ 40000 ∧ s3.steps ≤ 1000000 := by subst h1 h2 h3; decide +kernel
  have b4 : s4.ws.length ≤ 40000 ∧ s4.plan.length ≤ 40000 ∧ s4.steps ≤ 1000000 := by subst h1 h2 h3 h4; decide +kernel
  have b5 : s5.ws.length ≤ 40000 := by subst h1 h2 h3 h4 h5; decide +kernel
  have HL : Hid (Pm.load s5 0 = 5 ∧ Pm.err s5 0 s5.ws.length = 0) := by
    subst h1 h2 h3 h4 h5
    exact awk_load
  have H1 := hide h1
  have H2 := hide h2
  have H3 := hide h3
  have H4 := hide h4
  have H5 := hide h5
  clear h1 h2 h3 h4 h5
  go_enter Try.func9, Try.ntmps9
  go_wp2_with fail
  refine HN.out.mono ?_
  rintro e w1 ⟨b, rfl, ho1, hb1⟩
  have HO1 := hide ho1
  have HB1 := hide hb1
  clear ho1 hb1
  go_wp2_with fail
  refine (store_own HO1.out HB1.out.size 0 5 (by decide) (by decide) (by decide) rfl rfl).mono ?_
  rintro e w2 ⟨rfl, ho, hb⟩
  rw [H1.out] at ho
  have HO2 := hide ho
  have HB2 := hide (HB1.out.trans hb)
  clear ho hb
  go_wp2_with fail
  refine (flush_own HO2.out HB2.out.size 0 b1.1 b1.2.1 b1.2.2 rfl).mono ?_
  rintro e w3 ⟨rfl, ho, hb⟩
  rw [H2.out] at ho
  have HO3 := hide ho
  have HB3 := hide (HB2.out.trans hb)
  clear ho hb
  go_wp2_with fail
  refine (store_own HO3.out HB3.out.size 0 6 b2.1 b2.2.1 b2.2.2 rfl rfl).mono ?_
  rintro e w4 ⟨rfl, ho, hb⟩
  rw [H3.out] at ho
  have HO4 := hide ho
  have HB4 := hide (HB3.out.trans hb)
  clear ho hb
  go_wp2_with fail
  refine (fence_own HO4.out HB4.out.size b3.1 b3.2.1 b3.2.2).mono ?_
  rintro e w5 ⟨rfl, ho, hb⟩
  rw [H4.out] at ho
  have HO5 := hide ho
  have HB5 := hide (HB4.out.trans hb)
  clear ho hb
  go_wp2_with fail
  refine (crash_own HO5.out HB5.out.size b4.1 (arg_nil _) (by decide) (fun _ x hx => by cases hx)).mono ?_
  rintro e w6 ⟨rfl, ho, hb⟩
  rw [H5.out] at ho
  have HO6 := hide ho
  have HB6 := hide (HB5.out.trans hb)
  clear ho hb
  go_wp2_with fail
  refine (load_own HO6.out HB6.out.size 0 b5 rfl).mono ?_
  rintro e w7 ⟨he, ho, hb⟩
  rw [HL.out.1, HL.out.2] at he
  subst he
  have HB7 := hide (HB6.out.trans hb)
  clear ho hb
  go_wp2_with fail
  go_ret
  exact ⟨rfl, HB7.out⟩
end Go.Proofs.Ytjkiehfjbldkkaa
