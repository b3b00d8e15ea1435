/-
  Acts, RefActs, RefRefs, in one text.
-/
import Derived.Test.YtnaenokegomoeaaGround
import Derived.WalkKit
import Derived.ProofKit
import Derived.OpenShut
import Derived.Deep.Matrix
import Derived.Test.YtnaenokegomoeaaRefSame
namespace Go.Proofs.Ytnaenokegomoeaa
set_option linter.unusedVariables false
set_option linter.unusedSimpArgs false
open Go.ChangeShapes Go.WideShapes Go.ChangeAt Go.RowKit

/-- an act in memory: its numbers, and where its list lies. -/
structure Ac where
  kind : Int
  at' : Int
  w : Int
  a : Option Addr
  len : Nat
  cap : Nat
  l : List Int

/-- what is known of one act. -/
def Ac.ok (x : Ac) (w : World) : Prop := (Lit.int .i64 x.kind).wf = true ∧ (Lit.int .i64 x.at').wf = true ∧ (Lit.int .u64 x.w).wf = true ∧ Arg .i64 w x.a x.len x.cap x.l
/-- an act's cells. -/
def Ac.cells (x : Ac) : List Value := [.int .i64 x.kind, .int .i64 x.at', .int .u64 x.w, .slice x.a x.len x.cap]
/-- what is known of a slice of acts. -/
def Acts (w : World) (a : Option Addr) (len cap : Nat) (xs : List Ac) : Prop := xs.length = len ∧ len ≤ cap ∧ cap ≤ maxLen ∧ (∀ x ∈ xs, x.ok w) ∧
  (len = 0 ∨ ∃ g off, a = some ⟨g, off, none⟩ ∧ g < w.heap.size ∧ ∀ i x, xs[i]? = some x → w.cell? ⟨g, off + i * 4, none⟩ = some (.int .i64 x.kind) ∧ w.cell? ⟨g, off + i * 4 + 1, none⟩ = some (.int .i64 x.at') ∧ w.cell? ⟨g, off + i * 4 + 2, none⟩ = some (.int .u64 x.w) ∧ w.cell? ⟨g, off + i * 4 + 3, none⟩ = some (.slice x.a x.len x.cap))

theorem Acts.below {w w' : World} {a : Option Addr} {len cap : Nat} {xs : List Ac} (h : Acts w a len cap xs) (hb : Below w.heap.size w w') : Acts w' a len cap xs := by
  obtain ⟨h1, h2, h3, h4, h5⟩ := h
  refine ⟨h1, h2, h3, fun x hx => ⟨(h4 x hx).1, (h4 x hx).2.1, (h4 x hx).2.2.1, (h4 x hx).2.2.2.below hb⟩, ?_⟩
  rcases h5 with h5 | ⟨g, off, e, hg, hc⟩
  · exact .inl h5
  · refine .inr ⟨g, off, e, Nat.lt_of_lt_of_le hg hb.size, fun i x hi => ?_⟩
    obtain ⟨q0, q1, q2, q3⟩ := hc i x hi
    exact ⟨(hb.cell (p := ⟨g, _, none⟩) hg).trans q0, (hb.cell (p := ⟨g, _, none⟩) hg).trans q1, (hb.cell (p := ⟨g, _, none⟩) hg).trans q2, (hb.cell (p := ⟨g, _, none⟩) hg).trans q3⟩

/-- an act out of its cells. -/
theorem ac_of {H : Type} {enc : TypeId × Value → H} {P : Program} {w : World} {base : Nat} {held : Bool} {t q : TypeId} {f0 f1 f2 f3 : Field} {fuel : Nat} {cs : List Value} {x : DataW H × List MemPlace}
    (ht : P.underlying t = some (.struct #[f0, f1, f2, f3])) (o0 : f0.offset = 0) (o1 : f1.offset = 1) (o2 : f2.offset = 2) (o3 : f3.offset = 3) (c0 : P.cellsOf f0.type = 1) (c1 : P.cellsOf f1.type = 1) (c2 : P.cellsOf f2.type = 1) (c3 : P.cellsOf f3.type = 1) (ct : P.cellsOf t = 4)
    (u0 : P.underlying f0.type = some (.int .i64)) (u1 : P.underlying f1.type = some (.int .i64)) (u2 : P.underlying f2.type = some (.int .u64)) (u3 : P.underlying f3.type = some (.slice q)) (uq : P.underlying q = some (.int .i64)) (cq : P.cellsOf q = 1)
    (h : DataW.trod enc P w base (fun _ => true) held fuel t cs = some x) : ∃ y : Ac, cs = y.cells ∧ y.ok w := by
  obtain ⟨ys, m, _, _, hlen, hyl, hy⟩ := DataW.trod_struct ht h
  rw [ct] at hlen
  have g0 := hy 0 f0 rfl
  have g1 := hy 1 f1 rfl
  have g2 := hy 2 f2 rfl
  have g3 := hy 3 f3 rfl
  have hyl' : ys.length = 4 := hyl
  rw [o0, c0, List.getElem?_eq_getElem (by omega)] at g0
  rw [o1, c1, List.getElem?_eq_getElem (by omega)] at g1
  rw [o2, c2, List.getElem?_eq_getElem (by omega)] at g2
  rw [o3, c3, List.getElem?_eq_getElem (by omega)] at g3
  match cs, hlen with
  | [v0, v1, v2, v3], _ =>
    obtain ⟨a, ea, _, wa⟩ := DataW.trod_int u0 g0
    obtain ⟨b, eb, _, wb⟩ := DataW.trod_int u1 g1
    obtain ⟨c, ec, _, wc⟩ := DataW.trod_int u2 g2
    simp at ea eb ec
    subst ea eb ec
    simp only [List.drop_succ_cons, List.drop_zero, List.take_succ_cons, List.take_zero] at g3
    rcases open_ints u3 uq cq g3 with ⟨hcs, _⟩ | ⟨a', len', cap', zs, hcs, hb', hl', hm', hz, _, hcell, hwz⟩
    · simp at hcs
      subst hcs
      exact ⟨⟨a, b, c, none, 0, 0, []⟩, rfl, wa, wb, wc, arg_of (zs := []) (.inl ⟨rfl, rfl, rfl, rfl⟩)⟩
    · simp at hcs
      subst hcs
      exact ⟨⟨a, b, c, some a', len', cap', zs.take len'⟩, rfl, wa, wb, wc, arg_of (zs := zs) (.inr ⟨a', rfl, hl', hm', by simpa using hz, hcell, hwz⟩)⟩

theorem acts_of {H : Type} {enc : TypeId × Value → H} {P : Program} {w : World} {base : Nat} {held : Bool} {t e q : TypeId} {f0 f1 f2 f3 : Field} {fuel : Nat} {x : DataW H × List MemPlace} (ht : P.underlying t = some (.slice e))
    (he : P.underlying e = some (.struct #[f0, f1, f2, f3])) (o0 : f0.offset = 0) (o1 : f1.offset = 1) (o2 : f2.offset = 2) (o3 : f3.offset = 3) (c0 : P.cellsOf f0.type = 1) (c1 : P.cellsOf f1.type = 1) (c2 : P.cellsOf f2.type = 1) (c3 : P.cellsOf f3.type = 1) (ct : P.cellsOf e = 4)
    (u0 : P.underlying f0.type = some (.int .i64)) (u1 : P.underlying f1.type = some (.int .i64)) (u2 : P.underlying f2.type = some (.int .u64)) (u3 : P.underlying f3.type = some (.slice q)) (uq : P.underlying q = some (.int .i64)) (cq : P.cellsOf q = 1)
    {a : Option Addr} {len cap : Nat} (h : DataW.trod enc P w base (fun _ => true) held fuel t (Value.slice a len cap).cells.toList = some x) : ∃ xs, Acts w a len cap xs := by
  rcases Go.Deep.open_slice ht h with ⟨hcs, _⟩ | ⟨a', len', cap', m, n, D, Pl, hcs, hb, hl, hm, hmm, _, hx⟩
  · simp [Value.cells] at hcs
    obtain ⟨rfl, rfl, rfl⟩ := hcs
    exact ⟨[], rfl, Nat.le_refl _, Nat.zero_le _, by simp, .inl rfl⟩
  · simp [Value.cells] at hcs
    obtain ⟨rfl, rfl, rfl⟩ := hcs
    simp only [if_true] at hmm
    subst hmm
    rw [ct] at hx
    have each : ∀ i, i < m → ∃ y : Ac, y.ok w ∧ ∀ j, j < 4 → w.cell? (a'.add (i * 4 + j)) = y.cells[j]? := fun i hi => by
      obtain ⟨cs', h1, h2⟩ := hx i hi
      obtain ⟨y, rfl, hy⟩ := ac_of he o0 o1 o2 o3 c0 c1 c2 c3 ct u0 u1 u2 u3 uq cq h2
      obtain ⟨_, _, h3⟩ := World.cells?_some h1
      refine ⟨y, hy, fun j hj => ?_⟩
      have := h3 j hj
      rwa [Addr.add_add] at this
    have inh : Inhabited Ac := ⟨⟨0, 0, 0, none, 0, 0, []⟩⟩
    obtain ⟨y, hy⟩ := Go.Deep.choose_lt each
    have hget : ∀ i z, ((List.range len).map y)[i]? = some z → i < len ∧ z = y i := fun i z hz => by
      rw [List.getElem?_map] at hz
      obtain ⟨r, hr1, rfl⟩ := Option.map_eq_some_iff.1 hz
      obtain ⟨hlt, hr2⟩ := List.getElem?_eq_some_iff.1 hr1
      rw [List.getElem_range] at hr2
      subst hr2
      exact ⟨by simpa using hlt, rfl⟩
    refine ⟨(List.range len).map y, by simp, hl, hm, fun z hz => ?_, ?_⟩
    · obtain ⟨r, hr1, rfl⟩ := List.mem_map.1 hz
      exact (hy r (by have := List.mem_range.1 hr1; omega)).1
    · by_cases h0 : len = 0
      · exact .inl h0
      · obtain ⟨b, off, spot⟩ := a'
        have hc0 := (hy 0 (by omega)).2 0 (by omega)
        have hs : spot = none := by
          have : (Addr.add ⟨b, off, spot⟩ (0 * 4 + 0)) = ⟨b, off, spot⟩ := by simp [Addr.add]
          rw [this] at hc0
          exact World.cell?_spot hc0
        subst hs
        have ea : ∀ k, (⟨b, off, none⟩ : Addr).add k = ⟨b, off + k, none⟩ := fun k => by unfold Addr.add; split <;> simp_all
        refine .inr ⟨b, off, rfl, ?_, fun i z hi => ?_⟩
        · rw [ea] at hc0
          exact World.block_lt_of_cell? w _ hc0
        · obtain ⟨hil, rfl⟩ := hget i z hi
          have hh := (hy i (by omega)).2
          have q0 := hh 0 (by omega)
          have q1 := hh 1 (by omega)
          have q2 := hh 2 (by omega)
          have q3 := hh 3 (by omega)
          rw [ea, ← Nat.add_assoc] at q0 q1 q2 q3
          exact ⟨q0, q1, q2, q3⟩
end Go.Proofs.Ytnaenokegomoeaa

namespace Go.Proofs.Ytnaenokegomoeaa
set_option linter.unusedVariables false
set_option linter.unusedSimpArgs false
open Go.RowKit

/-- are acts not too great? -/
def smallB (xs : List Ac) (most : Nat) : Bool := decide (xs.length ≤ most ∧ ∀ x ∈ xs, x.len ≤ 40)

set_option maxHeartbeats 1000000 in
theorem small_any {w : World} {a : Option Addr} {len cap : Nat} {xs : List Ac} (h : Acts w a len cap xs) (most : Nat) (hm : most ≤ 1000) :
    Calls Try.prog 30 #[.slice a len cap, .int .i64 most] w fun e w' => e = .returned (.bool (smallB xs most)) ∧ Below w.heap.size w w' := by
  have HA := hide h
  have hlen := h.1
  have hmax := Nat.le_trans h.2.1 h.2.2.1
  unfold maxLen at hmax
  clear h
  by_cases hgr : most < len
  · have hg : (most : Int) < (len : Int) := by omega
    have HS : Hid (smallB xs most = false) := by
      show _ = _
      unfold smallB
      simp only [decide_eq_false_iff_not]
      omega
    go_enter Try.func30, Try.ntmps30
    go_wp2_with fail
    go_ret
    exact ⟨by rw [HS.out]; rfl, Below.refl _ _⟩
  · have hg : ¬ (most : Int) < (len : Int) := by omega
    go_enter Try.func30, Try.ntmps30
    go_wp2_with fail
    go_loopw [5] (fun i wr => ∃ k : Nat, k ≤ len ∧ i = .int .i64 k ∧ (∀ x ∈ xs.take k, x.len ≤ 40) ∧ Below w.heap.size w wr) (fun i _ => len - (intOf i).toNat)
    case atStart => exact ⟨0, Nat.zero_le _, rfl, by simp, Below.refl _ _⟩
    case round =>
      obtain ⟨k, hk, rfl, hall, hb⟩ := hrel
      have HB := hide hb
      have HALL := hide hall
      clear hall
      by_cases hlt : k < len
      · have hkn : (k : Int) < (len : Int) := by omega
        have hkx : k < xs.length := by omega
        obtain ⟨x, hx⟩ : ∃ x, xs[k]? = some x := ⟨_, List.getElem?_eq_getElem hkx⟩
        obtain ⟨_, _, _, hok, h5⟩ := HA.out.below hb
        rcases h5 with h5 | ⟨g, off, rfl, hgw, hc⟩
        · omega
        obtain ⟨q0, q1, q2, q3⟩ := hc k x hx
        have hxm := hok x (List.mem_of_getElem? hx)
        have hxl := Nat.le_trans hxm.2.2.2.1 hxm.2.2.2.2.1
        unfold maxLen at hxl
        have HX := hide hx
        clear hc hb hok hxm q0 q1 q2 hx
        obtain ⟨xk, xat, xw, xa, xlen, xcap, xl⟩ := x
        simp only at q3 hxl
        by_cases h40 : 40 < xlen
        · have h40' : (40 : Int) < (xlen : Int) := by omega
          have HS : Hid (smallB xs most = false) := by
            show _ = _
            unfold smallB
            simp only [decide_eq_false_iff_not]
            intro ⟨_, h⟩
            have := h _ (List.mem_of_getElem? HX.out)
            simp only at this
            omega
          go_wp2_with fail
          go_ret
          exact ⟨by rw [HS.out]; rfl, HB.out⟩
        · have h40' : ¬ (40 : Int) < (xlen : Int) := by omega
          go_wp2_with fail
          go_roundw
          case rel =>
            refine ⟨k + 1, by omega, by go_num, fun y hy => ?_, HB.out⟩
            rw [List.take_succ_eq_append_getElem hkx] at hy
            rcases List.mem_append.1 hy with hy | hy
            · exact HALL.out y hy
            · have e : xs[k] = ⟨xk, xat, xw, xa, xlen, xcap, xl⟩ := by
                have := HX.out
                rw [List.getElem?_eq_getElem hkx] at this
                exact Option.some.inj this
              simp at hy
              rw [hy, e]
              simp only
              omega
          case measure => simp [intOf]; omega
      · have hkn : ¬ (k : Int) < (len : Int) := by omega
        have HS : Hid (smallB xs most = true) := by
          show _ = _
          unfold smallB
          simp only [decide_eq_true_eq]
          refine ⟨by omega, fun y hy => HALL.out y ?_⟩
          rw [List.take_of_length_le (by omega)]
          exact hy
        clear hb
        go_wp2_with fail
        go_ret
        exact ⟨by rw [HS.out]; rfl, HB.out⟩
end Go.Proofs.Ytnaenokegomoeaa

namespace Go.Proofs.Ytnaenokegomoeaa
set_option linter.unusedVariables false
set_option linter.unusedSimpArgs false
open Go.RowKit

/-- an act in memory, as the plain facts have it. -/
def Ac.plain (x : Ac) : Pm.A := ⟨x.kind, x.at', x.w, x.l⟩
theorem Ac.plain_ok {x : Ac} {w : World} (h : x.ok w) : x.plain.Ok := by
  obtain ⟨_, h2, h3, h4⟩ := h
  exact ⟨(bd_i64 h2).1, (bd_i64 h2).2, (bd_u64 h3).1, (bd_u64 h3).2, fun p hp => bd_i64 (h4.2.2.2.1 p hp)⟩

/-- what an act leaves of the document's device. -/
def RNext (w : World) (b : Nat) (s' : Pm.D) (F : Nat → Prop) (g0 g1 g2 g3 : Nat) (w' : World) : Prop := ∃ F' pa pc, RDev w' b s' F' g0 g1 g2 g3 pa pc ∧ Grows F w F' w' ∧ (∀ k, F k → F' k) ∧ Only F w w'

theorem RNext.same {w w' : World} {b : Nat} {s' : Pm.D} {F : Nat → Prop} {g0 g1 g2 g3 : Nat} {pa : Option Addr} {pc : Nat} (h : RDev w' b s' F g0 g1 g2 g3 pa pc) (ho : Only F w w') : RNext w b s' F g0 g1 g2 g3 w' := ⟨F, pa, pc, h, Grows.refl _ _ _, fun _ h => h, ho⟩

set_option maxHeartbeats 4000000 in
/-- Refs. -/
theorem refs_any {w : World} {b : Nat} {s : Pm.D} {F : Nat → Prop} {g0 g1 g2 g3 : Nat} {pa : Option Addr} {pc : Nat} (h : RDev w b s F g0 g1 g2 g3 pa pc) (hF : ∀ k, F k → k < w.heap.size) (hm : s.ws.length ≤ 40000) (hp : s.plan.length ≤ 40000) (hst : s.steps ≤ 1000000) (x : Ac) (hx : x.ok w) (hxl : x.len ≤ 40000) (hxF : 0 < x.len → ∀ y, x.a = some y → ¬ F y.block) :
    Calls Try.prog 33 #[.pointer (some ⟨b, 0, none⟩), .agg x.cells.toArray] w fun e w' => e = .returned (.tuple #[.int .u64 (Pm.actV s x.plain), .int .i64 (Pm.actE s x.plain)]) ∧ RNext w b (Pm.act s x.plain) F g0 g1 g2 g3 w' := by
  have hxo := hx
  obtain ⟨xk, xat, xw, xa, xlen, xcap, xl⟩ := x
  obtain ⟨hk, hat, hw, hA⟩ := hx
  simp only at hk hat hw hA hxl hxF
  show Calls Try.prog 33 #[.pointer (some ⟨b, 0, none⟩), .agg #[.int .i64 xk, .int .i64 xat, .int .u64 xw, .slice xa xlen xcap]] w _
  have hb1 : ∀ o, Below w.heap.size w (w.alloc o) := fun o => (Below.refl _ _).alloc (Nat.le_refl _) o
  have HD := hide (fun o => h.kept (hb1 o).size (fun k _ hk => (hb1 o).block k hk))
  have HF : Hid (∀ o k, F k → k < (w.alloc o).heap.size) := fun o k q => by have := hF k q; simp; omega
  have HA := hide (fun o => hA.below (hb1 o))
  have HO : Hid (∀ o w', Only F (w.alloc o) w' → Only F w w') := fun o w' q => (Only.of_below (hb1 o)).trans q
  have HG : Hid (∀ o F' w', Grows F (w.alloc o) F' w' → Grows F w F' w') := fun o F' w' q k hk => by
    rcases q k hk with q | q
    · exact .inl q
    · refine .inr ⟨?_, q.2⟩
      have := q.1
      simp at this
      omega
  have HR := hide (fun W => rest_any xk 7 W (by decide) (by decide) hk)
  obtain ⟨hat0, hat1⟩ := bd_i64 hat
  obtain ⟨hw0, hw1⟩ := bd_u64 hw
  have hr : xk % 7 = 0 ∨ xk % 7 = 1 ∨ xk % 7 = 2 ∨ xk % 7 = 3 ∨ xk % 7 = 4 ∨ xk % 7 = 5 ∨ xk % 7 = 6 := by omega
  clear hk hat hw hA h hb1 hxo
  rcases hr with hr | hr | hr | hr | hr | hr | hr
  · have HV : Hid (Pm.act s (Ac.plain ⟨xk, xat, xw, xa, xlen, xcap, xl⟩) = Pm.store s xat xw ∧ Pm.actV s (Ac.plain ⟨xk, xat, xw, xa, xlen, xcap, xl⟩) = 0 ∧ Pm.actE s (Ac.plain ⟨xk, xat, xw, xa, xlen, xcap, xl⟩) = Pm.err s xat s.ws.length) := by
      show _ ∧ _
      simp [Ac.plain, Pm.act, Pm.actV, Pm.actE, hr]
    rw [hr] at HR
    clear hr
    go_enter Try.func33, Try.ntmps33
    go_wp2_with fail
    refine (HR.out _).mono ?_
    rintro e w1 ⟨rfl, hw'⟩
    obtain rfl := hw'.symm
    go_wp2_with fail
    refine (rstore_any (HD.out _) xat xw hm hp hst hw0 hw1).mono ?_
    rintro e w2 ⟨rfl, hd, ho⟩
    have HD2 := hide hd
    have HO2 := hide (HO.out _ _ ho)
    clear hd ho
    go_wp2_with fail
    go_ret2
    exact ⟨by rw [HV.out.2.1, HV.out.2.2]; rfl, by rw [HV.out.1]; exact RNext.same HD2.out HO2.out⟩
  · have HV : Hid (Pm.act s (Ac.plain ⟨xk, xat, xw, xa, xlen, xcap, xl⟩) = s ∧ Pm.actV s (Ac.plain ⟨xk, xat, xw, xa, xlen, xcap, xl⟩) = Pm.load s xat ∧ Pm.actE s (Ac.plain ⟨xk, xat, xw, xa, xlen, xcap, xl⟩) = Pm.err s xat s.ws.length) := by
      show _ ∧ _
      simp [Ac.plain, Pm.act, Pm.actV, Pm.actE, hr]
    rw [hr] at HR
    clear hr
    go_enter Try.func33, Try.ntmps33
    go_wp2_with fail
    refine (HR.out _).mono ?_
    rintro e w1 ⟨rfl, hw'⟩
    obtain rfl := hw'.symm
    go_wp2_with fail
    refine (rload_any (HD.out _) xat hm).mono ?_
    rintro e w2 ⟨rfl, nn, rfl⟩
    go_wp2_with fail
    go_ret2
    exact ⟨by rw [HV.out.2.1, HV.out.2.2]; rfl, by rw [HV.out.1]; exact RNext.same ((HD.out _).drew _) (HO.out _ _ (Only.drewN F _ _))⟩
  · have HV : Hid (Pm.act s (Ac.plain ⟨xk, xat, xw, xa, xlen, xcap, xl⟩) = Pm.flush s xat ∧ Pm.actV s (Ac.plain ⟨xk, xat, xw, xa, xlen, xcap, xl⟩) = 0 ∧ Pm.actE s (Ac.plain ⟨xk, xat, xw, xa, xlen, xcap, xl⟩) = Pm.err s xat (s.ws.length / 8)) := by
      show _ ∧ _
      simp [Ac.plain, Pm.act, Pm.actV, Pm.actE, hr]
    rw [hr] at HR
    clear hr
    go_enter Try.func33, Try.ntmps33
    go_wp2_with fail
    refine (HR.out _).mono ?_
    rintro e w1 ⟨rfl, hw'⟩
    obtain rfl := hw'.symm
    go_wp2_with fail
    refine (rflush_any (HD.out _) xat hm hp hst).mono ?_
    rintro e w2 ⟨rfl, hd, ho⟩
    have HD2 := hide hd
    have HO2 := hide (HO.out _ _ ho)
    clear hd ho
    go_wp2_with fail
    go_ret2
    exact ⟨by rw [HV.out.2.1, HV.out.2.2]; rfl, by rw [HV.out.1]; exact RNext.same HD2.out HO2.out⟩
  · have HV : Hid (Pm.act s (Ac.plain ⟨xk, xat, xw, xa, xlen, xcap, xl⟩) = Pm.fence s ∧ Pm.actV s (Ac.plain ⟨xk, xat, xw, xa, xlen, xcap, xl⟩) = 0 ∧ Pm.actE s (Ac.plain ⟨xk, xat, xw, xa, xlen, xcap, xl⟩) = Pm.err s 0 1) := by
      show _ ∧ _
      simp [Ac.plain, Pm.act, Pm.actV, Pm.actE, hr]
    rw [hr] at HR
    clear hr
    go_enter Try.func33, Try.ntmps33
    go_wp2_with fail
    refine (HR.out _).mono ?_
    rintro e w1 ⟨rfl, hw'⟩
    obtain rfl := hw'.symm
    go_wp2_with fail
    refine (rfence_any (HD.out _) hm hp hst).mono ?_
    rintro e w2 ⟨rfl, hd, ho⟩
    have HD2 := hide hd
    have HO2 := hide (HO.out _ _ ho)
    clear hd ho
    go_wp2_with fail
    go_ret2
    exact ⟨by rw [HV.out.2.1, HV.out.2.2]; rfl, by rw [HV.out.1]; exact RNext.same HD2.out HO2.out⟩
  · have HV : Hid (Pm.act s (Ac.plain ⟨xk, xat, xw, xa, xlen, xcap, xl⟩) = Pm.arm s xat ∧ Pm.actV s (Ac.plain ⟨xk, xat, xw, xa, xlen, xcap, xl⟩) = 0 ∧ Pm.actE s (Ac.plain ⟨xk, xat, xw, xa, xlen, xcap, xl⟩) = 0) := by
      show _ ∧ _
      simp [Ac.plain, Pm.act, Pm.actV, Pm.actE, hr]
    rw [hr] at HR
    clear hr
    go_enter Try.func33, Try.ntmps33
    go_wp2_with fail
    refine (HR.out _).mono ?_
    rintro e w1 ⟨rfl, hw'⟩
    obtain rfl := hw'.symm
    go_wp2_with fail
    refine (rarm_any (HD.out _) xat hat1).mono ?_
    rintro e w2 ⟨rfl, hd, ho⟩
    have HD2 := hide hd
    have HO2 := hide (HO.out _ _ ho)
    clear hd ho
    go_wp2_with fail
    go_ret2
    exact ⟨by rw [HV.out.2.1, HV.out.2.2]; rfl, by rw [HV.out.1]; exact RNext.same HD2.out HO2.out⟩
  · have HV : Hid (Pm.act s (Ac.plain ⟨xk, xat, xw, xa, xlen, xcap, xl⟩) = Pm.lay s xl ∧ Pm.actV s (Ac.plain ⟨xk, xat, xw, xa, xlen, xcap, xl⟩) = 0 ∧ Pm.actE s (Ac.plain ⟨xk, xat, xw, xa, xlen, xcap, xl⟩) = 0) := by
      show _ ∧ _
      simp [Ac.plain, Pm.act, Pm.actV, Pm.actE, hr]
    rw [hr] at HR
    clear hr
    go_enter Try.func33, Try.ntmps33
    go_wp2_with fail
    refine (HR.out _).mono ?_
    rintro e w1 ⟨rfl, hw'⟩
    obtain rfl := hw'.symm
    go_wp2_with fail
    refine (rlay_any (HD.out _) (HA.out _) hxl).mono ?_
    rintro e w2 ⟨rfl, ⟨F', pa', pc', hd, hg, hs⟩, ho⟩
    have HN : Hid (RNext w b (Pm.lay s xl) F g0 g1 g2 g3 w2) := ⟨F', pa', pc', hd, HG.out _ _ _ hg, hs, HO.out _ _ ho⟩
    clear hd ho hg hs
    go_wp2_with fail
    go_ret2
    exact ⟨by rw [HV.out.2.1, HV.out.2.2]; rfl, by rw [HV.out.1]; exact HN.out⟩
  · have HV : Hid (Pm.act s (Ac.plain ⟨xk, xat, xw, xa, xlen, xcap, xl⟩) = Pm.crash s xl ∧ Pm.actV s (Ac.plain ⟨xk, xat, xw, xa, xlen, xcap, xl⟩) = 0 ∧ Pm.actE s (Ac.plain ⟨xk, xat, xw, xa, xlen, xcap, xl⟩) = 0) := by
      show _ ∧ _
      simp [Ac.plain, Pm.act, Pm.actV, Pm.actE, hr]
    rw [hr] at HR
    clear hr
    go_enter Try.func33, Try.ntmps33
    go_wp2_with fail
    refine (HR.out _).mono ?_
    rintro e w1 ⟨rfl, hw'⟩
    obtain rfl := hw'.symm
    go_wp2_with fail
    refine (rcrash_any (HD.out _) (HF.out _) hm (HA.out _) hxF hxl).mono ?_
    rintro e w2 ⟨rfl, hd, ho⟩
    have HD2 := hide hd
    have HO2 := hide (HO.out _ _ ho)
    clear hd ho
    go_wp2_with fail
    go_ret2
    exact ⟨by rw [HV.out.2.1, HV.out.2.2]; rfl, by rw [HV.out.1]; exact RNext.same HD2.out HO2.out⟩
end Go.Proofs.Ytnaenokegomoeaa
