/-
  Layer 5's statements: Refs (an act on the document's device).
-/
import Derived.Test.YtjkiehfjbldkkaaRefActs
namespace Go.Proofs.Ytjkiehfjbldkkaa
set_option linter.unusedVariables false
set_option linter.unusedSimpArgs false
open Go.RowKit

/-- an act in memory, as the plain facts have it. -/
def Ac.plain (x : Ac) : Pm.A := ⟨x.kind, x.at', x.w, x.l⟩
theorem Ac.plain_ok {x : Ac} {w : World} (h : x.ok w) : x.plain.Ok := by
  obtain ⟨_, h2, h3, h4⟩ := h
  exact ⟨(bd_i64 h2).1, (bd_i64 h2).2, (bd_u64 h3).1, (bd_u64 h3).2, fun p hp => bd_i64 (h4.2.2.2.1 p hp)⟩

/-- what an act leaves of the document's device. -/
def RNext (w : World) (b : Nat) (s' : Pm.D) (F : Nat → Prop) (g0 g1 g2 g3 : Nat) (w' : World) : Prop := ∃ F' pa pc, RDev w' b s' F' g0 g1 g2 g3 pa pc ∧ Grows F w F' w' ∧ (∀ k, F k → F' k) ∧ Only F w w'

theorem RNext.same {w w' : World} {b : Nat} {s' : Pm.D} {F : Nat → Prop} {g0 g1 g2 g3 : Nat} {pa : Option Addr} {pc : Nat} (h : RDev w' b s' F g0 g1 g2 g3 pa pc) (ho : Only F w w') : RNext w b s' F g0 g1 g2 g3 w' := ⟨F, pa, pc, h, Grows.refl _ _ _, fun _ h => h, ho⟩

set_option maxHeartbeats 4000000 in
/-- Refs. -/
theorem refs_any {w : World} {b : Nat} {s : Pm.D} {F : Nat → Prop} {g0 g1 g2 g3 : Nat} {pa : Option Addr} {pc : Nat} (h : RDev w b s F g0 g1 g2 g3 pa pc) (hF : ∀ k, F k → k < w.heap.size) (hm : s.ws.length ≤ 40000) (hp : s.plan.length ≤ 40000) (hst : s.steps ≤ 1000000) (x : Ac) (hx : x.ok w) (hxl : x.len ≤ 40000) (hxF : 0 < x.len → ∀ y, x.a = some y → ¬ F y.block) :
    Calls Try.prog 15 #[.pointer (some ⟨b, 0, none⟩), .agg x.cells.toArray] w fun e w' => e = .returned (.tuple #[.int .u64 (Pm.actV s x.plain), .int .i64 (Pm.actE s x.plain)]) ∧ RNext w b (Pm.act s x.plain) F g0 g1 g2 g3 w' := by
  have hxo := hx
  obtain ⟨xk, xat, xw, xa, xlen, xcap, xl⟩ := x
  obtain ⟨hk, hat, hw, hA⟩ := hx
  simp only at hk hat hw hA hxl hxF
  show Calls Try.prog 15 #[.pointer (some ⟨b, 0, none⟩), .agg #[.int .i64 xk, .int .i64 xat, .int .u64 xw, .slice xa xlen xcap]] w _
  have hb1 : ∀ o, Below w.heap.size w (w.alloc o) := fun o => (Below.refl _ _).alloc (Nat.le_refl _) o
  have HD := hide (fun o => h.kept (hb1 o).size (fun k _ hk => (hb1 o).block k hk))
  have HF : Hid (∀ o k, F k → k < (w.alloc o).heap.size) := fun o k q => by have := hF k q; simp; omega
  have HA := hide (fun o => hA.below (hb1 o))
  have HO : Hid (∀ o w', Only F (w.alloc o) w' → Only F w w') := fun o w' q => (Only.of_below (hb1 o)).trans q
  have HG : Hid (∀ o F' w', Grows F (w.alloc o) F' w' → Grows F w F' w') := fun o F' w' q k hk => by
    rcases q k hk with q | q
    · exact .inl q
    · refine .inr ⟨?_, q.2⟩
      have := q.1
      simp at this
      omega
  have HR := hide (fun W => rest_any xk 7 W (by decide) (by decide) hk)
  obtain ⟨hat0, hat1⟩ := bd_i64 hat
  obtain ⟨hw0, hw1⟩ := bd_u64 hw
  have hr : xk % 7 = 0 ∨ xk % 7 = 1 ∨ xk % 7 = 2 ∨ xk % 7 = 3 ∨ xk % 7 = 4 ∨ xk % 7 = 5 ∨ xk % 7 = 6 := by omega
  clear hk hat hw hA h hb1 hxo
  rcases hr with hr | hr | hr | hr | hr | hr | hr
  · have HV : Hid (Pm.act s (Ac.plain ⟨xk, xat, xw, xa, xlen, xcap, xl⟩) = Pm.store s xat xw ∧ Pm.actV s (Ac.plain ⟨xk, xat, xw, xa, xlen, xcap, xl⟩) = 0 ∧ Pm.actE s (Ac.plain ⟨xk, xat, xw, xa, xlen, xcap, xl⟩) = Pm.err s xat s.ws.length) := by
      show _ ∧ _
      simp [Ac.plain, Pm.act, Pm.actV, Pm.actE, hr]
    rw [hr] at HR
    clear hr
    go_enter Try.func15, Try.ntmps15
    go_wp2_with fail
    refine (HR.out _).mono ?_
    rintro e w1 ⟨rfl, hw'⟩
    obtain rfl := hw'.symm
    go_wp2_with fail
    refine (rstore_any (HD.out _) xat xw hm hp hst hw0 hw1).mono ?_
    rintro e w2 ⟨rfl, hd, ho⟩
    have HD2 := hide hd
    have HO2 := hide (HO.out _ _ ho)
    clear hd ho
    go_wp2_with fail
    go_ret2
    exact ⟨by rw [HV.out.2.1, HV.out.2.2]; rfl, by rw [HV.out.1]; exact RNext.same HD2.out HO2.out⟩
  · have HV : Hid (Pm.act s (Ac.plain ⟨xk, xat, xw, xa, xlen, xcap, xl⟩) = s ∧ Pm.actV s (Ac.plain ⟨xk, xat, xw, xa, xlen, xcap, xl⟩) = Pm.load s xat ∧ Pm.actE s (Ac.plain ⟨xk, xat, xw, xa, xlen, xcap, xl⟩) = Pm.err s xat s.ws.length) := by
      show _ ∧ _
      simp [Ac.plain, Pm.act, Pm.actV, Pm.actE, hr]
    rw [hr] at HR
    clear hr
    go_enter Try.func15, Try.ntmps15
    go_wp2_with fail
    refine (HR.out _).mono ?_
    rintro e w1 ⟨rfl, hw'⟩
    obtain rfl := hw'.symm
    go_wp2_with fail
    refine (rload_any (HD.out _) xat hm).mono ?_
    rintro e w2 ⟨rfl, nn, rfl⟩
    go_wp2_with fail
    go_ret2
    exact ⟨by rw [HV.out.2.1, HV.out.2.2]; rfl, by rw [HV.out.1]; exact RNext.same ((HD.out _).drew _) (HO.out _ _ (Only.drewN F _ _))⟩
  · have HV : Hid (Pm.act s (Ac.plain ⟨xk, xat, xw, xa, xlen, xcap, xl⟩) = Pm.flush s xat ∧ Pm.actV s (Ac.plain ⟨xk, xat, xw, xa, xlen, xcap, xl⟩) = 0 ∧ Pm.actE s (Ac.plain ⟨xk, xat, xw, xa, xlen, xcap, xl⟩) = Pm.err s xat (s.ws.length / 8)) := by
      show _ ∧ _
      simp [Ac.plain, Pm.act, Pm.actV, Pm.actE, hr]
    rw [hr] at HR
    clear hr
    go_enter Try.func15, Try.ntmps15
    go_wp2_with fail
    refine (HR.out _).mono ?_
    rintro e w1 ⟨rfl, hw'⟩
    obtain rfl := hw'.symm
    go_wp2_with fail
    refine (rflush_any (HD.out _) xat hm hp hst).mono ?_
    rintro e w2 ⟨rfl, hd, ho⟩
    have HD2 := hide hd
    have HO2 := hide (HO.out _ _ ho)
    clear hd ho
    go_wp2_with fail
    go_ret2
    exact ⟨by rw [HV.out.2.1, HV.out.2.2]; rfl, by rw [HV.out.1]; exact RNext.same HD2.out HO2.out⟩
  · have HV : Hid (Pm.act s (Ac.plain ⟨xk, xat, xw, xa, xlen, xcap, xl⟩) = Pm.fence s ∧ Pm.actV s (Ac.plain ⟨xk, xat, xw, xa, xlen, xcap, xl⟩) = 0 ∧ Pm.actE s (Ac.plain ⟨xk, xat, xw, xa, xlen, xcap, xl⟩) = Pm.err s 0 1) := by
      show _ ∧ _
      simp [Ac.plain, Pm.act, Pm.actV, Pm.actE, hr]
    rw [hr] at HR
    clear hr
    go_enter Try.func15, Try.ntmps15
    go_wp2_with fail
    refine (HR.out _).mono ?_
    rintro e w1 ⟨rfl, hw'⟩
    obtain rfl := hw'.symm
    go_wp2_with fail
    refine (rfence_any (HD.out _) hm hp hst).mono ?_
    rintro e w2 ⟨rfl, hd, ho⟩
    have HD2 := hide hd
    have HO2 := hide (HO.out _ _ ho)
    clear hd ho
    go_wp2_with fail
    go_ret2
    exact ⟨by rw [HV.out.2.1, HV.out.2.2]; rfl, by rw [HV.out.1]; exact RNext.same HD2.out HO2.out⟩
  · have HV : Hid (Pm.act s (Ac.plain ⟨xk, xat, xw, xa, xlen, xcap, xl⟩) = Pm.arm s xat ∧ Pm.actV s (Ac.plain ⟨xk, xat, xw, xa, xlen, xcap, xl⟩) = 0 ∧ Pm.actE s (Ac.plain ⟨xk, xat, xw, xa, xlen, xcap, xl⟩) = 0) := by
      show _ ∧ _
      simp [Ac.plain, Pm.act, Pm.actV, Pm.actE, hr]
    rw [hr] at HR
    clear hr
    go_enter Try.func15, Try.ntmps15
    go_wp2_with fail
    refine (HR.out _).mono ?_
    rintro e w1 ⟨rfl, hw'⟩
    obtain rfl := hw'.symm
    go_wp2_with fail
    refine (rarm_any (HD.out _) xat hat1).mono ?_
    rintro e w2 ⟨rfl, hd, ho⟩
    have HD2 := hide hd
    have HO2 := hide (HO.out _ _ ho)
    clear hd ho
    go_wp2_with fail
    go_ret2
    exact ⟨by rw [HV.out.2.1, HV.out.2.2]; rfl, by rw [HV.out.1]; exact RNext.same HD2.out HO2.out⟩
  · have HV : Hid (Pm.act s (Ac.plain ⟨xk, xat, xw, xa, xlen, xcap, xl⟩) = Pm.lay s xl ∧ Pm.actV s (Ac.plain ⟨xk, xat, xw, xa, xlen, xcap, xl⟩) = 0 ∧ Pm.actE s (Ac.plain ⟨xk, xat, xw, xa, xlen, xcap, xl⟩) = 0) := by
      show _ ∧ _
      simp [Ac.plain, Pm.act, Pm.actV, Pm.actE, hr]
    rw [hr] at HR
    clear hr
    go_enter Try.func15, Try.ntmps15
    go_wp2_with fail
    refine (HR.out _).mono ?_
    rintro e w1 ⟨rfl, hw'⟩
    obtain rfl := hw'.symm
    go_wp2_with fail
    refine (rlay_any (HD.out _) (HA.out _) hxl).mono ?_
    rintro e w2 ⟨rfl, ⟨F', pa', pc', hd, hg, hs⟩, ho⟩
    have HN : Hid (RNext w b (Pm.lay s xl) F g0 g1 g2 g3 w2) := ⟨F', pa', pc', hd, HG.out _ _ _ hg, hs, HO.out _ _ ho⟩
    clear hd ho hg hs
    go_wp2_with fail
    go_ret2
    exact ⟨by rw [HV.out.2.1, HV.out.2.2]; rfl, by rw [HV.out.1]; exact HN.out⟩
  · have HV : Hid (Pm.act s (Ac.plain ⟨xk, xat, xw, xa, xlen, xcap, xl⟩) = Pm.crash s xl ∧ Pm.actV s (Ac.plain ⟨xk, xat, xw, xa, xlen, xcap, xl⟩) = 0 ∧ Pm.actE s (Ac.plain ⟨xk, xat, xw, xa, xlen, xcap, xl⟩) = 0) := by
      show _ ∧ _
      simp [Ac.plain, Pm.act, Pm.actV, Pm.actE, hr]
    rw [hr] at HR
    clear hr
    go_enter Try.func15, Try.ntmps15
    go_wp2_with fail
    refine (HR.out _).mono ?_
    rintro e w1 ⟨rfl, hw'⟩
    obtain rfl := hw'.symm
    go_wp2_with fail
    refine (rcrash_any (HD.out _) (HF.out _) hm (HA.out _) hxF hxl).mono ?_
    rintro e w2 ⟨rfl, hd, ho⟩
    have HD2 := hide hd
    have HO2 := hide (HO.out _ _ ho)
    clear hd ho
    go_wp2_with fail
    go_ret2
    exact ⟨by rw [HV.out.2.1, HV.out.2.2]; rfl, by rw [HV.out.1]; exact RNext.same HD2.out HO2.out⟩
end Go.Proofs.Ytjkiehfjbldkkaa
