/-
  Layer 5's statements: PmemActs, its loop.
-/
import Derived.Test.YtjkiehfjbldkkaaPmLawB
import Derived.Deep.RegionHeldLaw
namespace Go.Proofs.Ytjkiehfjbldkkaa
set_option linter.unusedVariables false
set_option linter.unusedSimpArgs false
open Go.RowKit

set_option maxRecDepth 100000 in
set_option maxHeartbeats 4000000 in
theorem acts_yes {w : World} (n : Nat) (hn : n ≤ 20) {a : Option Addr} {len cap : Nat} {xs : List Ac} (hA : Acts w a len cap xs) (h : smallB xs 60 = true) :
    Calls Try.prog 3 #[.int .i64 n, .slice a len cap] w fun e w' => e = .returned (.bool true) ∧ Below w.heap.size w w' := by
  have HA := hide hA
  have HSM : Hid (xs.length ≤ 60 ∧ ∀ x ∈ xs, x.len ≤ 40) := by
    show _ ∧ _
    unfold smallB at h
    simpa using h
  have hlen := hA.1
  have hl60 : len ≤ 60 := by have := HSM.out.1; omega
  have HN := hide (fun W => pnew_yes W n (by omega))
  have HM := hide (fun W => rnew_any W n (by omega))
  have k1 : ¬ (20 : Int) < (n : Int) := by omega
  have k2 : ¬ (n : Int) < 0 := by omega
  have k3 : ¬ (4096 : Int) < (n : Int) := by omega
  clear hA
  go_enter Try.func3, Try.ntmps3
  go_wp2_with fail
  refine (awake_any _).mono ?_
  rintro e w1 ⟨rfl, hb1⟩
  have HB1 := hide hb1
  clear hb1
  go_wp2_with fail
  refine (small_any (HA.out.below HB1.out) 60 (by decide)).mono ?_
  rintro e w2 ⟨rfl, hb2⟩
  have HB2 := hide (HB1.out.trans (hb2.mono HB1.out.size))
  clear hb2
  go_wp2_with fail
  refine (HN.out _).mono ?_
  rintro e w3 ⟨b, F, rfl, hP, hFB, hb3⟩
  have HP := hide hP
  have HFB := hide hFB
  have HB3 := hide (HB2.out.trans (hb3.mono HB2.out.size))
  have HB23 := hide hb3.size
  have hlines := plines_any hP (by simp [Pm.new]; omega)
  have hq : (Pm.new (8 * n)).ws.length / 8 = n := by simp [Pm.new]
  rw [hq] at hlines
  have HL := hide hlines
  clear hP hFB hb3 hlines hq
  go_wp2_with fail
  refine HL.out.mono ?_
  rintro e w4 ⟨rfl, hw⟩
  obtain rfl := hw.symm
  go_wp2_with fail
  refine (HM.out _).mono ?_
  rintro e w5 ⟨c, G, g0, g1, g2, g3, rfl, hR, hGB, hb5⟩
  have HB5 := hide (HB3.out.trans (hb5.mono HB3.out.size))
  have HBO : Hid (Both w.heap.size w5 b c (Pm.new (8 * n))) := by
    refine ⟨F, G, g0, g1, g2, g3, none, 0, HP.out.kept hb5.size (fun k _ hk => hb5.block k hk), hR, fun k hk => ?_, fun k hk => ?_, fun k hk hg => ?_⟩
    · have := HFB.out k hk
      have := HB2.out.size
      have := hb5.size
      omega
    · have := hGB k hk
      have := HB3.out.size
      omega
    · have := HFB.out k hk
      have := hGB k hg
      omega
  clear hR hGB hb5
  go_wp2_with fail
  go_loopw [8] (fun i wr => ∃ (k : Nat) (s : Pm.D), k ≤ len ∧ i = .int .i64 k ∧ s.ws.length = 8 * n ∧ s.plan.length ≤ 40 ∧ s.steps ≤ k ∧ Both w.heap.size wr b c s ∧ Below w.heap.size w wr) (fun i _ => len - (intOf i).toNat)
  case atStart => exact ⟨0, Pm.new (8 * n), Nat.zero_le _, rfl, by simp [Pm.new], by simp [Pm.new], by simp [Pm.new], HBO.out, HB5.out⟩
  case round =>
    obtain ⟨k, s, hk, rfl, hsl, hpl, hst, hbo, hbr⟩ := hrel
    have HBr := hide hbr
    have HBb := hide hbo
    clear hbo
    by_cases hlt : k < len
    · have hkn : (k : Int) < (len : Int) := by omega
      have hkx : k < xs.length := by omega
      obtain ⟨x, hx⟩ : ∃ x, xs[k]? = some x := ⟨_, List.getElem?_eq_getElem hkx⟩
      have hxm := List.mem_of_getElem? hx
      have hx40 := HSM.out.2 x hxm
      have hxok := HA.out.2.2.2.1 x hxm
      have hxl : x.l.length = x.len := hxok.2.2.2.2.2.1.1
      have hAB : 0 < x.len → ∀ y, x.a = some y → y.block < w.heap.size := arg_block hxok.2.2.2
      obtain ⟨_, _, _, _, h5⟩ := HA.out.below hbr
      rcases h5 with h5 | ⟨ga, off, rfl, hgw, hc⟩
      · omega
      obtain ⟨q0, q1, q2, q3⟩ := hc k x hx
      have HDO := hide (both_do HBb.out HBr.out.size (by omega) (by omega) (by omega) x (ok_below hxok hbr) (by omega) hAB)
      have HRF : Hid (∀ W, Below w.heap.size w W → Half w.heap.size W b c s (Pm.act s x.plain) → Calls Try.prog 15 #[.pointer (some ⟨c, 0, none⟩), .agg x.cells.toArray] W fun e w' => e = .returned (.tuple #[.int .u64 (Pm.actV s x.plain), .int .i64 (Pm.actE s x.plain)]) ∧ Both w.heap.size w' b c (Pm.act s x.plain) ∧ Below w.heap.size W w') :=
        fun W hbW hW => half_refs hW hbW.size (by omega) (by omega) (by omega) x (ok_below hxok hbW) (by omega) hAB rfl
      have HNX : Hid ((Pm.act s x.plain).ws.length = 8 * n ∧ (Pm.act s x.plain).plan.length ≤ 40 ∧ (Pm.act s x.plain).steps ≤ k + 1) := by
        refine ⟨by rw [Pm.act_length]; exact hsl, ?_, by rcases Pm.act_steps s x.plain with e | e <;> rw [e] <;> omega⟩
        rcases act_plan s x.plain with e | e | e
        · rw [e]; exact hpl
        · rw [e]; show x.l.length ≤ 40; omega
        · rw [e]; simp
      have hcl : x.cells.toArray = #[.int .i64 x.kind, .int .i64 x.at', .int .u64 x.w, .slice x.a x.len x.cap] := rfl
      rw [hcl] at HDO HRF
      have hga : ga < w.heap.size := by
        obtain ⟨_, _, _, _, h5'⟩ := HA.out
        rcases h5' with h5' | ⟨ga', off', e, hg', _⟩
        · omega
        · cases e
          exact hg'
      have HQ := hide (fun W (hb : Below w.heap.size wr W) => (⟨(hb.cell (p := ⟨ga, off + k * 4, none⟩) hga).trans q0, (hb.cell (p := ⟨ga, off + k * 4 + 1, none⟩) hga).trans q1, (hb.cell (p := ⟨ga, off + k * 4 + 2, none⟩) hga).trans q2, (hb.cell (p := ⟨ga, off + k * 4 + 3, none⟩) hga).trans q3⟩ : W.cell? ⟨ga, off + k * 4, none⟩ = some (.int .i64 x.kind) ∧ W.cell? ⟨ga, off + k * 4 + 1, none⟩ = some (.int .i64 x.at') ∧ W.cell? ⟨ga, off + k * 4 + 2, none⟩ = some (.int .u64 x.w) ∧ W.cell? ⟨ga, off + k * 4 + 3, none⟩ = some (.slice x.a x.len x.cap)))
      generalize Pm.act s x.plain = s' at *
      generalize Pm.actV s x.plain = av at *
      generalize Pm.actE s x.plain = ae at *
      obtain ⟨xk, xat, xw, xa, xlen, xcap, xl⟩ := x
      simp only at q0 q1 q2 q3 HDO HRF
      clear hc hbr hxok hxm hcl hx hx40 hxl hAB
      go_wp2_with fail
      refine HDO.out.mono ?_
      rintro e W1 ⟨rfl, hh, hb⟩
      obtain ⟨q0, q1, q2, q3⟩ := HQ.out W1 hb
      have HH1 := hide hh
      have HB1' := hide (HBr.out.trans hb)
      clear hh hb
      go_wp2_with fail
      refine (HRF.out W1 HB1'.out HH1.out).mono ?_
      rintro e W2 ⟨rfl, hh, hb⟩
      have HH2 := hide hh
      have HB2' := hide (HB1'.out.trans hb)
      clear hb q0 q1 q2 q3
      obtain ⟨F', G', h0, h1, h2, h3, pa, pc, hP, hR, hF, hG, hFG⟩ := hh
      have hkp : ∀ {W : World}, Below W2.heap.size W2 W → PDev W b s' F' := fun hb => hP.kept hb.size (fun k _ hk => hb.block k hk)
      have hkr : ∀ {W : World}, Below W2.heap.size W2 W → RDev W c s' G' h0 h1 h2 h3 pa pc := fun hb => hR.kept hb.size (fun k _ hk => hb.block k hk)
      have hs40 : s'.ws.length ≤ 40000 := by have := HNX.out.1; omega
      have HST := hide (fun W (hb : Below W2.heap.size W2 W) => psteps_any (hkp hb))
      have HUP := hide (fun W (hb : Below W2.heap.size W2 W) => pup_any (hkp hb))
      have HFA := hide (fun W (hb : Below W2.heap.size W2 W) => pfates_any (hkp hb) hs40)
      have HFM := hide (fun W (hb : Below W2.heap.size W2 W) => rfates_any (hkr hb) hs40)
      have BD : Hid (Below W2.heap.size W2 W2.drew) := ⟨rfl, rfl, rfl, Nat.le_refl _, fun _ _ => rfl⟩
      obtain ⟨f0, f1, f2, f3, f4, f5, f6, f7⟩ := hR.fields
      have hcW : c < W2.heap.size := (Array.getElem?_eq_some_iff.1 hR.dev).1
      have HS6 := hide f6
      have HS7 := hide f7
      have HFL : Hid ((Pm.fates s').length ≤ 40000) := Nat.le_trans (fates_length s'.ws 0) hs40
      have hfl := HFL.out
      have hst' : s'.steps ≤ 100 := by have := HNX.out.2.2; omega
      clear hP hR hF hG hFG f0 f1 f2 f3 f4 f5
      obtain ⟨fs, hfs⟩ : ∃ fs, Pm.fates s' = fs := ⟨_, rfl⟩
      rw [hfs] at HFA HFM hfl
      clear hfs hkp hkr
      go_wp2_with fail
      go_region_held3 (fun w' => w'.cell? ⟨c, 6, none⟩ = some (.int .i64 s'.left) ∧ w'.cell? ⟨c, 7, none⟩ = some (.int .i64 s'.steps))
        (first
          | go_keep
          | exact ⟨(hb7.cell hcW).trans HS6.out, (hb7.cell hcW).trans HS7.out⟩
          | exact ⟨(hb6.cell hcW).trans HS6.out, (hb6.cell hcW).trans HS7.out⟩
          | exact ⟨(hb5.cell hcW).trans HS6.out, (hb5.cell hcW).trans HS7.out⟩)
        (first
          | (go_at_call 16; refine (HST.out _ BD.out).mono ?_; rintro e w4 ⟨rfl, rfl⟩)
          | (go_at_call 17; refine (HUP.out _ BD.out).mono ?_; rintro e w4 ⟨rfl, rfl⟩)
          | (go_at_call 19; refine (HFA.out _ BD.out).mono ?_; rintro e w5 ⟨ax, cx, rfl, hcx, hrx, hb5'⟩; have hb5 := BD.out.trans hb5'; clear hb5')
          | (go_at_call 20; refine (HFM.out _ hb5).mono ?_; rintro e w6 ⟨vy, rfl, hoy, hb6'⟩; have hb6 := hb5.trans (hb6'.mono hb5.size); have hrx2 := hrx.below hb6'; obtain ⟨ay, cy, rfl, hry⟩ := frow_of_own hoy; clear hb6' hoy)
          | (go_at_call 18; refine (rsame_any hrx2 hry hfl).mono ?_; rintro e w7 ⟨rfl, hb7'⟩; have hb7 := hb6.trans (hb7'.mono hb6.size); clear hb7'))
      have HH7 := hide (HH2.out.below hb7)
      have HB7 := hide (HB2'.out.trans (hb7.mono HB2'.out.size))
      clear hb7 hb6 hb5 hrx hrx2 hry hcx HST HUP HFA HFM BD HS6 HS7 f6 f7 hcW hst'
      obtain ⟨F8, G8, y0, y1, y2, y3, pa8, pc8, hP, hR, hF, hG, hFG⟩ := HH7.out
      have hkp : ∀ {W : World}, Below w7.heap.size w7 W → PDev W b s' F8 := fun hb => hP.kept hb.size (fun k _ hk => hb.block k hk)
      have hkr : ∀ {W : World}, Below w7.heap.size w7 W → RDev W c s' G8 y0 y1 y2 y3 pa8 pc8 := fun hb => hR.kept hb.size (fun k _ hk => hb.block k hk)
      have HIM := hide (fun W (hb : Below w7.heap.size w7 W) => pimage_any (hkp hb) hs40)
      have HVW := hide (fun W (hb : Below w7.heap.size w7 W) => pview_any (hkp hb) hs40)
      have hwb : ∀ x ∈ s'.ws, x.Ok := hR.ok.ws
      have HT0 := hide (fun W (hb : Below w7.heap.size w7 W) => rtext_any (cap := s'.ws.length) (row_of_block (hkr hb).c0 (lastL_len _)) (fun v hv => by obtain ⟨x, hx, rfl⟩ := List.mem_map.1 hv; exact ⟨(hwb x hx).l0, (hwb x hx).l1⟩) hs40)
      have HT1 := hide (fun W (hb : Below w7.heap.size w7 W) => rtext_any (cap := s'.ws.length) (row_of_block (hkr hb).c1 (storedL_len _)) (fun v hv => by obtain ⟨x, hx, rfl⟩ := List.mem_map.1 hv; exact ⟨(hwb x hx).s0, (hwb x hx).s1⟩) hs40)
      have BD : Hid (Below w7.heap.size w7 w7.drew) := ⟨rfl, rfl, rfl, Nat.le_refl _, fun _ _ => rfl⟩
      obtain ⟨f0, f1, f2, f3, f4, f5, f6, f7⟩ := hR.fields
      have hcW : c < w7.heap.size := (Array.getElem?_eq_some_iff.1 hR.dev).1
      have HS0 := hide f0
      have HS1 := hide f1
      clear hP hR hF hG hFG f2 f3 f4 f5 f6 f7 hkp hkr hwb
      generalize hT0 : strOfNums (octs (Pm.lastL s'.ws)) = T0 at HT0
      generalize hT1 : strOfNums (octs (Pm.storedL s'.ws)) = T1 at HT1
      have HC0 := hide (fun W (a : Option Addr) (l cp : Nat) (h : Row .u8 W a l (octs (Pm.lastL s'.ws))) => conv_bytes cp h)
      have HC1 := hide (fun W (a : Option Addr) (l cp : Nat) (h : Row .u8 W a l (octs (Pm.storedL s'.ws))) => conv_bytes cp h)
      rw [hT0] at HC0
      rw [hT1] at HC1
      clear hT0 hT1
      generalize hn8 : s'.ws.length = n8 at f0 f1 HS0 HS1 HIM HVW HT0 HT1 hs40
      have HN8 := hide hn8
      clear hn8
      go_wp2_with fail
      go_region_held_law (fun w' => w'.cell? ⟨c, 0, none⟩ = some (.slice (some ⟨y0, 0, none⟩) n8 n8) ∧ w'.cell? ⟨c, 1, none⟩ = some (.slice (some ⟨y1, 0, none⟩) n8 n8))
        (first
          | go_keep
          | exact ⟨(hb11.cell hcW).trans HS0.out, (hb11.cell hcW).trans HS1.out⟩
          | exact ⟨(hb10.cell hcW).trans HS0.out, (hb10.cell hcW).trans HS1.out⟩
          | exact ⟨(hb9.cell hcW).trans HS0.out, (hb9.cell hcW).trans HS1.out⟩
          | exact ⟨(hb8.cell hcW).trans HS0.out, (hb8.cell hcW).trans HS1.out⟩)
        (first
          | (go_at_call 21; refine (HIM.out _ BD.out).mono ?_; rintro e w8 ⟨ax, cx, rfl, hcx, hrow8, hb8'⟩; have hb8 := BD.out.trans hb8'; have hcv8 := HC0.out w8 _ _ cx hrow8; clear hb8')
          | (go_at_call 23; refine (HVW.out _ hb9).mono ?_; rintro e w10 ⟨az, cz, rfl, hcz, hrow10, hb10'⟩; have hb10 := hb9.trans (hb10'.mono hb9.size); have hcv10 := HC1.out w10 _ _ cz hrow10; clear hb10')
          | (go_at_call_of 22 (Value.slice (some ⟨y0, 0, none⟩) n8 n8); refine (HT0.out _ hb8).mono ?_; rintro e w9 ⟨rfl, hb9'⟩; have hb9 := hb8.trans (hb9'.mono hb8.size); have hcv9 := HC0.out w9 _ _ cx (hrow8.below hb9'); clear hb9')
          | (go_at_call_of 22 (Value.slice (some ⟨y1, 0, none⟩) n8 n8); refine (HT1.out _ hb10).mono ?_; rintro e w11 ⟨rfl, hb11'⟩; have hb11 := hb10.trans (hb11'.mono hb10.size); have hcv11 := HC1.out w11 _ _ cz (hrow10.below hb11'); clear hb11'))
      all_goals
        have HH11 := hide (HH7.out.below hb11)
        have HB11 := hide (HB7.out.trans (hb11.mono HB7.out.size))
        clear hb11 hb10 hb9 hb8 hrow8 hrow10 hcv8 hcv9 hcv10 hcv11 hcx hcz
        go_wp2_with fail
        go_roundw
        case rel => exact ⟨k + 1, s', by omega, by go_num, HNX.out.1, HNX.out.2.1, HNX.out.2.2, HH11.out, HB11.out⟩
        case measure => simp [intOf]; omega
    · have hkn : ¬ (k : Int) < (len : Int) := by omega
      clear hbr
      go_wp2_with fail
      go_ret
      exact ⟨rfl, HBr.out⟩
end Go.Proofs.Ytjkiehfjbldkkaa
