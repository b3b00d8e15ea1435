/-
  Layer 5's statements: Do (an act on the program's device).
-/
import Derived.Test.YtnaenokegomoeaaPmC
namespace Go.Proofs.Ytnaenokegomoeaa
set_option linter.unusedVariables false
set_option linter.unusedSimpArgs false
open Go.RowKit

set_option maxHeartbeats 4000000 in
/-- Do. -/
theorem do_any {w : World} {b : Nat} {s : Pm.D} {F : Nat → Prop} (h : PDev w b s F) (hF : ∀ k, F k → k < w.heap.size) (hm : s.ws.length ≤ 40000) (hp : s.plan.length ≤ 40000) (hst : s.steps ≤ 1000000) (x : Ac) (hx : x.ok w) (hxl : x.len ≤ 40000) (hxF : 0 < x.len → ∀ y, x.a = some y → ¬ F y.block) :
    Calls Try.prog 32 #[.pointer (some ⟨b, 0, none⟩), .agg x.cells.toArray] w fun e w' => e = .returned (.tuple #[.int .u64 (Pm.actV s x.plain), .int .i64 (Pm.actE s x.plain)]) ∧ PNext w b (Pm.act s x.plain) F w' := by
  have hxo := hx
  obtain ⟨xk, xat, xw, xa, xlen, xcap, xl⟩ := x
  obtain ⟨hk, hat, hw, hA⟩ := hx
  simp only at hk hat hw hA hxl hxF
  show Calls Try.prog 32 #[.pointer (some ⟨b, 0, none⟩), .agg #[.int .i64 xk, .int .i64 xat, .int .u64 xw, .slice xa xlen xcap]] w _
  have hb1 : ∀ o, Below w.heap.size w (w.alloc o) := fun o => (Below.refl _ _).alloc (Nat.le_refl _) o
  have HD := hide (fun o => h.kept (hb1 o).size (fun k _ hk => (hb1 o).block k hk))
  have HF : Hid (∀ o k, F k → k < (w.alloc o).heap.size) := fun o k q => by have := hF k q; simp; omega
  have HA := hide (fun o => hA.below (hb1 o))
  have HO : Hid (∀ o w', Only F (w.alloc o) w' → Only F w w') := fun o w' q => (Only.of_below (hb1 o)).trans q
  have HG : Hid (∀ o F' w', Grows F (w.alloc o) F' w' → Grows F w F' w') := fun o F' w' q k hk => by
    rcases q k hk with q | q
    · exact .inl q
    · refine .inr ⟨?_, q.2⟩
      have := q.1
      simp at this
      omega
  have HR := hide (fun W => rest_any xk 7 W (by decide) (by decide) hk)
  obtain ⟨hat0, hat1⟩ := bd_i64 hat
  obtain ⟨hw0, hw1⟩ := bd_u64 hw
  have hr : xk % 7 = 0 ∨ xk % 7 = 1 ∨ xk % 7 = 2 ∨ xk % 7 = 3 ∨ xk % 7 = 4 ∨ xk % 7 = 5 ∨ xk % 7 = 6 := by omega
  have HN : Hid (∀ o s' w', PNext (w.alloc o) b s' F w' → PNext w b s' F w') := fun o s' w' ⟨F', q1, q2, q3, q4⟩ => ⟨F', q1, HG.out _ _ _ q2, q3, HO.out _ _ q4⟩
  have HAT := hide hat
  have HWF := hide hw
  clear hk hat hw hA h hb1 hxo
  rcases hr with hr | hr | hr | hr | hr | hr | hr
  · have HV : Hid (Pm.act s (Ac.plain ⟨xk, xat, xw, xa, xlen, xcap, xl⟩) = Pm.store s xat xw ∧ Pm.actV s (Ac.plain ⟨xk, xat, xw, xa, xlen, xcap, xl⟩) = 0 ∧ Pm.actE s (Ac.plain ⟨xk, xat, xw, xa, xlen, xcap, xl⟩) = Pm.err s xat s.ws.length) := by
      show _ ∧ _
      simp [Ac.plain, Pm.act, Pm.actV, Pm.actE, hr]
    rw [hr] at HR
    clear hr
    go_enter Try.func32, Try.ntmps32
    go_wp2_with fail
    refine (HR.out _).mono ?_
    rintro e w1 ⟨rfl, hw'⟩
    obtain rfl := hw'.symm
    go_wp2_with fail
    refine (pstore_any (HD.out _) (HF.out _) xat xw hm hp hst HAT.out HWF.out).mono ?_
    rintro e w2 ⟨rfl, hd⟩
    have HD2 := hide (HN.out _ _ _ hd)
    clear hd
    go_wp2_with fail
    go_ret2
    exact ⟨by rw [HV.out.2.1, HV.out.2.2]; rfl, by rw [HV.out.1]; exact HD2.out⟩
  · have HV : Hid (Pm.act s (Ac.plain ⟨xk, xat, xw, xa, xlen, xcap, xl⟩) = s ∧ Pm.actV s (Ac.plain ⟨xk, xat, xw, xa, xlen, xcap, xl⟩) = Pm.load s xat ∧ Pm.actE s (Ac.plain ⟨xk, xat, xw, xa, xlen, xcap, xl⟩) = Pm.err s xat s.ws.length) := by
      show _ ∧ _
      simp [Ac.plain, Pm.act, Pm.actV, Pm.actE, hr]
    rw [hr] at HR
    clear hr
    go_enter Try.func32, Try.ntmps32
    go_wp2_with fail
    refine (HR.out _).mono ?_
    rintro e w1 ⟨rfl, hw'⟩
    obtain rfl := hw'.symm
    go_wp2_with fail
    refine (pload_any (HD.out _) (HF.out _) xat hm HAT.out).mono ?_
    rintro e w2 ⟨rfl, hd⟩
    have HD2 := hide (HN.out _ _ _ hd)
    clear hd
    go_wp2_with fail
    go_ret2
    exact ⟨by rw [HV.out.2.1, HV.out.2.2]; rfl, by rw [HV.out.1]; exact HD2.out⟩
  · have HV : Hid (Pm.act s (Ac.plain ⟨xk, xat, xw, xa, xlen, xcap, xl⟩) = Pm.flush s xat ∧ Pm.actV s (Ac.plain ⟨xk, xat, xw, xa, xlen, xcap, xl⟩) = 0 ∧ Pm.actE s (Ac.plain ⟨xk, xat, xw, xa, xlen, xcap, xl⟩) = Pm.err s xat (s.ws.length / 8)) := by
      show _ ∧ _
      simp [Ac.plain, Pm.act, Pm.actV, Pm.actE, hr]
    rw [hr] at HR
    clear hr
    go_enter Try.func32, Try.ntmps32
    go_wp2_with fail
    refine (HR.out _).mono ?_
    rintro e w1 ⟨rfl, hw'⟩
    obtain rfl := hw'.symm
    go_wp2_with fail
    refine (pflush_any (HD.out _) (HF.out _) xat hm hp hst HAT.out).mono ?_
    rintro e w2 ⟨rfl, hd⟩
    have HD2 := hide (HN.out _ _ _ hd)
    clear hd
    go_wp2_with fail
    go_ret2
    exact ⟨by rw [HV.out.2.1, HV.out.2.2]; rfl, by rw [HV.out.1]; exact HD2.out⟩
  · have HV : Hid (Pm.act s (Ac.plain ⟨xk, xat, xw, xa, xlen, xcap, xl⟩) = Pm.fence s ∧ Pm.actV s (Ac.plain ⟨xk, xat, xw, xa, xlen, xcap, xl⟩) = 0 ∧ Pm.actE s (Ac.plain ⟨xk, xat, xw, xa, xlen, xcap, xl⟩) = Pm.err s 0 1) := by
      show _ ∧ _
      simp [Ac.plain, Pm.act, Pm.actV, Pm.actE, hr]
    rw [hr] at HR
    clear hr
    go_enter Try.func32, Try.ntmps32
    go_wp2_with fail
    refine (HR.out _).mono ?_
    rintro e w1 ⟨rfl, hw'⟩
    obtain rfl := hw'.symm
    go_wp2_with fail
    refine (pfence_any (HD.out _) (HF.out _) hm hp hst).mono ?_
    rintro e w2 ⟨rfl, hd⟩
    have HD2 := hide (HN.out _ _ _ hd)
    clear hd
    go_wp2_with fail
    go_ret2
    exact ⟨by rw [HV.out.2.1, HV.out.2.2]; rfl, by rw [HV.out.1]; exact HD2.out⟩
  · have HV : Hid (Pm.act s (Ac.plain ⟨xk, xat, xw, xa, xlen, xcap, xl⟩) = Pm.arm s xat ∧ Pm.actV s (Ac.plain ⟨xk, xat, xw, xa, xlen, xcap, xl⟩) = 0 ∧ Pm.actE s (Ac.plain ⟨xk, xat, xw, xa, xlen, xcap, xl⟩) = 0) := by
      show _ ∧ _
      simp [Ac.plain, Pm.act, Pm.actV, Pm.actE, hr]
    rw [hr] at HR
    clear hr
    go_enter Try.func32, Try.ntmps32
    go_wp2_with fail
    refine (HR.out _).mono ?_
    rintro e w1 ⟨rfl, hw'⟩
    obtain rfl := hw'.symm
    go_wp2_with fail
    refine (parm_any (HD.out _) (HF.out _) xat HAT.out).mono ?_
    rintro e w2 ⟨rfl, hd⟩
    have HD2 := hide (HN.out _ _ _ hd)
    clear hd
    go_wp2_with fail
    go_ret2
    exact ⟨by rw [HV.out.2.1, HV.out.2.2]; rfl, by rw [HV.out.1]; exact HD2.out⟩
  · have HV : Hid (Pm.act s (Ac.plain ⟨xk, xat, xw, xa, xlen, xcap, xl⟩) = Pm.lay s xl ∧ Pm.actV s (Ac.plain ⟨xk, xat, xw, xa, xlen, xcap, xl⟩) = 0 ∧ Pm.actE s (Ac.plain ⟨xk, xat, xw, xa, xlen, xcap, xl⟩) = 0) := by
      show _ ∧ _
      simp [Ac.plain, Pm.act, Pm.actV, Pm.actE, hr]
    rw [hr] at HR
    clear hr
    go_enter Try.func32, Try.ntmps32
    go_wp2_with fail
    refine (HR.out _).mono ?_
    rintro e w1 ⟨rfl, hw'⟩
    obtain rfl := hw'.symm
    go_wp2_with fail
    refine (pplan_any (HD.out _) (HF.out _) (HA.out _) hxl hxF).mono ?_
    rintro e w2 ⟨rfl, hd⟩
    have HD2 := hide (HN.out _ _ _ hd)
    clear hd
    go_wp2_with fail
    go_ret2
    exact ⟨by rw [HV.out.2.1, HV.out.2.2]; rfl, by rw [HV.out.1]; exact HD2.out⟩
  · have HV : Hid (Pm.act s (Ac.plain ⟨xk, xat, xw, xa, xlen, xcap, xl⟩) = Pm.crash s xl ∧ Pm.actV s (Ac.plain ⟨xk, xat, xw, xa, xlen, xcap, xl⟩) = 0 ∧ Pm.actE s (Ac.plain ⟨xk, xat, xw, xa, xlen, xcap, xl⟩) = 0) := by
      show _ ∧ _
      simp [Ac.plain, Pm.act, Pm.actV, Pm.actE, hr]
    rw [hr] at HR
    clear hr
    go_enter Try.func32, Try.ntmps32
    go_wp2_with fail
    refine (HR.out _).mono ?_
    rintro e w1 ⟨rfl, hw'⟩
    obtain rfl := hw'.symm
    go_wp2_with fail
    refine (pcrash_any (HD.out _) (HF.out _) hm (HA.out _) hxl hxF).mono ?_
    rintro e w2 ⟨rfl, hd⟩
    have HD2 := hide (HN.out _ _ _ hd)
    clear hd
    go_wp2_with fail
    go_ret2
    exact ⟨by rw [HV.out.2.1, HV.out.2.2]; rfl, by rw [HV.out.1]; exact HD2.out⟩
end Go.Proofs.Ytnaenokegomoeaa
