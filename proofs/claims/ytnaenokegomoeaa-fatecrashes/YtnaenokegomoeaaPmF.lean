/-
  The program's device (layer 5): Store.
-/
import Derived.Test.YtnaenokegomoeaaPmE
namespace Go.Proofs.Ytnaenokegomoeaa
set_option linter.unusedVariables false
set_option linter.unusedSimpArgs false
open Go.RowKit

theorem run_func (fn : Fn) (first cap : Array Value) (w : World) : (Instr.makeFunc fn first cap).run Try.prog w = .ok (.func fn first cap) w := rfl

/-- the device where its blocks and all that was there are as they were. -/
theorem PX.over {w : World} {b : Nat} {s : Pm.D} {F : Nat → Prop} {g0 g1 c1 gm n : Nat} {tl : List Value} {M : DataW Unit} {pa : Option Addr} {pc : Nat} {laid : Int} (h : PX w b s F g0 g1 c1 gm n tl M pa pc laid) {X W : World} (hX : X.heap = W.heap) (hb : Below w.heap.size w W) : PX X b s F g0 g1 c1 gm n tl M pa pc laid := by
  refine h.kept ?_ (fun k _ hk => ?_)
  · rw [hX]; exact hb.size
  · rw [hX]; exact hb.block k hk
/-- from a later world on. -/
theorem PMid.since {w X w' : World} {b : Nat} {s : Pm.D} {F : Nat → Prop} {m : Nat} (h : PMid X b s F m w') (hX : Only F w X) : PMid w b s F m w' := by
  obtain ⟨F', h1, h2, h3, h4⟩ := h
  refine ⟨F', h1, fun k hk => ?_, h3, hX.trans h4⟩
  rcases h2 k hk with h | ⟨h, h'⟩
  · exact .inl h
  · exact .inr ⟨Nat.le_trans hX.size h, h'⟩

/-- a word that was stored. -/
theorem PX.put {w : World} {b : Nat} {s : Pm.D} {F : Nat → Prop} {g0 g1 c1 gm n : Nat} {tl : List Value} {M : DataW Unit} {pa : Option Addr} {pc : Nat} {laid : Int} (h : PX w b s F g0 g1 c1 gm n tl M pa pc laid) {i : Nat} (hi : i < s.ws.length) {v : Int} (hv0 : 0 ≤ v) (hv1 : v ≤ 18446744073709551615) {X : World} (hX : X.heap = (w.setCell ⟨g1, i, none⟩ (.int .u64 v)).heap) : PX X b { s with ws := Pm.put s.ws i v } F g0 g1 c1 gm n tl M pa pc laid := by
  obtain ⟨n1, n2, n3, n4, n5, n6⟩ := h.ne
  obtain ⟨e1, _, _⟩ := put_lists s.ws i v hi
  have hl := Pm.put_length s.ws i v
  refine ⟨?_, ?_, ?_, ?_, ?_, ?_, ?_, h.apart, h.mine, h.ne, h.lay, h.laid0, ⟨Pm.put_ok h.ok.ws i hv0 hv1, h.ok.plan, h.ok.left, h.ok.since⟩⟩
  · rw [hX, heap_set_other n2]
    simp only [hl]
    exact h.dev
  · rw [hX, heap_set_other n4]
    simp only [e1]
    exact h.k0
  · rw [hX, heap_set h.k1, blkT_set _ _ _ _ (by rw [storedL_len]; exact hi)]
    simp only [Pm.put_stored]
  · exact ownsMap_block h.mp (by rw [hX]; exact heap_set_other (Ne.symm n6) _ _)
  · refine h.sent.same hl (fun j hj => ?_)
    unfold Pm.put
    rw [getD_set _ hi]
    by_cases e : j = i
    · subst e
      rw [if_pos rfl]
      exact ⟨rfl, rfl⟩
    · rw [if_neg e]
      exact ⟨rfl, rfl⟩
  · simp only [hl]
    exact h.cap
  · exact h.row' (by rw [hX]; simp [World.setCell]) (fun k _ _ q1 _ hlt => by rw [hX]; exact heap_set_other q1 _ _)

set_option maxHeartbeats 1000000 in
theorem pstore1_x {w : World} {b : Nat} {s : Pm.D} {F : Nat → Prop} {g0 g1 c1 gm n : Nat} {tl : List Value} {M : DataW Unit} {pa : Option Addr} {pc : Nat} {laid : Int} (h : PX w b s F g0 g1 c1 gm n tl M pa pc laid) {bw bd ba : Nat} (i : Nat) (v : Int) (hi : i < s.ws.length) (hm : s.ws.length ≤ 40000) (hv0 : 0 ≤ v) (hv1 : v ≤ 18446744073709551615)
    (k0 : w.cell? ⟨bw, 0, none⟩ = some (.int .u64 v)) (k1 : w.cell? ⟨bd, 0, none⟩ = some (.pointer (some ⟨b, 0, none⟩))) (k2 : w.cell? ⟨ba, 0, none⟩ = some (.int .i64 i)) (m0 : ¬ F bw) (m1 : ¬ F bd) (m2 : ¬ F ba) :
    Calls Try.prog 45 #[.pointer (some ⟨bw, 0, none⟩), .pointer (some ⟨bd, 0, none⟩), .pointer (some ⟨ba, 0, none⟩)] w fun e w' => e = .returned (.tuple #[]) ∧ PX w' b { s with ws := Pm.put s.ws i v } F g0 g1 c1 gm n tl M pa pc laid ∧ Only F w w' := by
  obtain ⟨f0, f1, f2, f3, f4, f5, f6, f7⟩ := h.fields
  obtain ⟨n1, n2, n3, n4, n5, n6⟩ := h.ne
  obtain ⟨q1, z1⟩ := cell_blkT h.k1 (i := i) (by rw [storedL_len]; exact hi)
  have HE := hide (fun X : World => h.put hi hv0 hv1 (X := X))
  have HM := hide h.mine
  have p0 : g1 ≠ bw := fun e => m0 (e ▸ h.mine.2.2.1)
  have p1 : g1 ≠ bd := fun e => m1 (e ▸ h.mine.2.2.1)
  have p2 : g1 ≠ ba := fun e => m2 (e ▸ h.mine.2.2.1)
  have p3 := Ne.symm n2
  have hin : (i : Int) < (s.ws.length : Int) := by omega
  clear h
  generalize (Pm.storedL s.ws).getD i 0 = y1 at *
  generalize s.ws.length = N at *
  have hlt1 := World.block_lt_of_cell? w _ q1
  go_enter Try.func45, Try.ntmps45
  go_wp2_with fail
  go_region_held3 (fun w' => w'.cell? ⟨b, 1, none⟩ = some (.slice (some ⟨g1, 0, none⟩) N c1) ∧ w'.cell? ⟨bw, 0, none⟩ = some (.int .u64 v) ∧ w'.cell? ⟨bd, 0, none⟩ = some (.pointer (some ⟨b, 0, none⟩)) ∧ w'.cell? ⟨ba, 0, none⟩ = some (.int .i64 i)) (go_keep) (fail)
  go_wp2
  go_end0
  exact ⟨rfl, HE.out _ rfl, ((Only.refl F w).setCell (p := ⟨g1, i, none⟩) HM.out.2.2.1 (.int .u64 v)).trans (Only.drewN F _ 1)⟩

/-- a world that is as another, but for its draws. -/
def Like (X W : World) : Prop := X.heap = W.heap ∧ X.os = W.os ∧ X.tape = W.tape ∧ X.output = W.output
theorem like_drew (W : World) : Like W.drew W := ⟨rfl, rfl, rfl, rfl⟩
theorem Like.only {X W : World} (F : Nat → Prop) (h : Like X W) : Only F W X := ⟨h.2.1, h.2.2.1, h.2.2.2, by rw [h.1]; exact Nat.le_refl _, fun k _ _ => by rw [h.1]⟩
theorem Like.cell {X W : World} (h : Like X W) (p : Addr) : X.cell? p = W.cell? p := World.cell?_of_block (by rw [h.1])
theorem cell_alloc_new (w : World) (v : Value) (T : TypeId) : (w.alloc (.cells #[v] T)).cell? ⟨w.heap.size, 0, none⟩ = some v := by
  unfold World.cell?
  rw [heap_alloc_new w (.cells #[v] T)]
  rfl
theorem cell_alloc_old (w : World) (o : Obj) {p : Addr} (h : p.block < w.heap.size) : (w.alloc o).cell? p = w.cell? p := World.cell?_of_block (Below.heap_alloc _ _ _ h)
theorem PMid.only {w w' : World} {b : Nat} {s : Pm.D} {F : Nat → Prop} {m : Nat} (h : PMid w b s F m w') : Only F w w' := by
  obtain ⟨_, _, _, _, h⟩ := h
  exact h

set_option maxHeartbeats 2000000 in
theorem pstore_x {w : World} {b : Nat} {s : Pm.D} {F : Nat → Prop} {g0 g1 c1 gm n : Nat} {tl : List Value} {M : DataW Unit} {pa : Option Addr} {pc : Nat} {laid : Int} (h : PX w b s F g0 g1 c1 gm n tl M pa pc laid) (hF : ∀ k, F k → k < w.heap.size) (a v : Int) (hm : s.ws.length ≤ 40000) (hp : s.plan.length ≤ 40000) (hst : s.steps ≤ 1000000) (hv : (Lit.int .u64 v).wf = true) :
    Calls Try.prog 26 #[.pointer (some ⟨b, 0, none⟩), .int .i64 a, .int .u64 v] w fun e w' => e = .returned (.int .i64 (Pm.err s a s.ws.length)) ∧ PMid w b (Pm.store s a v) F n w' := by
  obtain ⟨hv0, hv1⟩ := bd_u64 hv
  obtain ⟨W, hW⟩ : ∃ W, W = ((w.alloc (.cells #[.pointer (some ⟨b, 0, none⟩)] 31)).alloc (.cells #[.int .i64 a] 3)).alloc (.cells #[.int .u64 v] 22) := ⟨_, rfl⟩
  have hbW : Below w.heap.size w W := by
    rw [hW]
    exact (((Below.refl _ _).alloc (Nat.le_refl _) _).alloc (by simp) _).alloc (by simp; omega) _
  have e1 : (w.alloc (.cells #[.pointer (some ⟨b, 0, none⟩)] 31)).heap.size = w.heap.size + 1 := by simp
  have e2 : ((w.alloc (.cells #[.pointer (some ⟨b, 0, none⟩)] 31)).alloc (.cells #[.int .i64 a] 3)).heap.size = w.heap.size + 1 + 1 := by simp
  have kd : W.cell? ⟨w.heap.size, 0, none⟩ = some (.pointer (some ⟨b, 0, none⟩)) := by
    rw [hW, cell_alloc_old _ _ (by rw [e2]; simp; omega), cell_alloc_old _ _ (by simp), cell_alloc_new]
  have ka : W.cell? ⟨w.heap.size + 1, 0, none⟩ = some (.int .i64 a) := by
    rw [hW, cell_alloc_old _ _ (by rw [e2]; simp), ← e1, cell_alloc_new]
  have kv : W.cell? ⟨w.heap.size + 1 + 1, 0, none⟩ = some (.int .u64 v) := by
    rw [hW, ← e2, cell_alloc_new]
  have x0 : ¬ F w.heap.size := fun q => by have := hF _ q; omega
  have x1 : ¬ F (w.heap.size + 1) := fun q => by have := hF _ q; omega
  have x2 : ¬ F (w.heap.size + 1 + 1) := fun q => by have := hF _ q; omega
  have HH := hide (fun (X : World) (hX : Like X W) => phas_x (h.over hX.1 hbW) a)
  have HS : Hid (∀ X : World, Like X W → Calls Try.prog 43 #[.pointer (some ⟨b, 0, none⟩), .bool (isAt a s.ws.length), .func (.func 45) #[] #[.pointer (some ⟨w.heap.size + 1 + 1, 0, none⟩), .pointer (some ⟨w.heap.size, 0, none⟩), .pointer (some ⟨w.heap.size + 1, 0, none⟩)]] X fun e w' => e = .returned (.int .i64 (Pm.err s a s.ws.length)) ∧ PMid w b (Pm.store s a v) F n w' ∧ Only F W w') := by
    show ∀ X, _ → _
    intro X hX
    have hx := h.over hX.1 hbW
    have hoX : Only F w X := (Only.of_below hbW).trans (hX.only F)
    refine (pstep_x hx (isAt a s.ws.length) 45 _ (Pm.put s.ws a.toNat v) n Try.call45 (by rw [Pm.put_length]; exact hm) hp hst (Nat.le_refl _) ?_).mono ?_
    · intro hr
      rw [refuse_err] at hr
      obtain ⟨_, a0, a1⟩ := Pm.err_at hr
      have ka' : X.cell? ⟨w.heap.size + 1, 0, none⟩ = some (.int .i64 (a.toNat : Int)) := by
        rw [hX.cell, ka, Int.toNat_of_nonneg a0]
      refine (pstore1_x hx a.toNat v a1 hm hv0 hv1 ((hX.cell _).trans kv) ((hX.cell _).trans kd) ka' x2 x0 x1).mono ?_
      rintro e w1 ⟨he, h1, ho1⟩
      exact ⟨he, h1.mid ho1 (Nat.le_refl _)⟩
    · rintro e w' ⟨he, hmid⟩
      rw [refuse_err] at he hmid
      exact ⟨he, hmid.since hoX, (hX.only F).trans hmid.only⟩
  have hmf := run_func
  clear h hbW e1 e2
  generalize Pm.err s a s.ws.length = x at *
  generalize isAt a s.ws.length = t at *
  generalize Pm.store s a v = s' at *
  have hsz : w.heap.size + 1 + 1 < W.heap.size := World.block_lt_of_cell? W _ kv
  go_enter Try.func26, Try.ntmps26
  go_wp2_with fail
  rw [← hW]
  clear hW
  generalize w.heap.size + 1 + 1 = B2 at *
  generalize w.heap.size + 1 = B1 at *
  generalize hB0 : w.heap.size = B0 at *
  have KD := hide kd
  have KA := hide ka
  have KV := hide kv
  go_region_held3 (fun w' => w'.cell? ⟨B0, 0, none⟩ = some (.pointer (some ⟨b, 0, none⟩)) ∧ w'.cell? ⟨B1, 0, none⟩ = some (.int .i64 a))
    (first
      | go_keep
      | exact ⟨(ho6.cell (World.block_lt_of_cell? W _ KD.out) x0).trans KD.out, (ho6.cell (World.block_lt_of_cell? W _ KA.out) x1).trans KA.out⟩)
    (first
      | (go_at_call 44; refine (HH.out _ (like_drew W)).mono ?_; rintro e w5 ⟨rfl, hw5⟩; obtain rfl := hw5.symm)
      | (go_at_call 43; refine (HS.out _ (like_drew W)).mono ?_; rintro e w6 ⟨rfl, hd6, ho6⟩))
  all_goals
    go_wp2
    go_ret
    exact ⟨rfl, hd6⟩
end Go.Proofs.Ytnaenokegomoeaa
