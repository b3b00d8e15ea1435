/-
  Layer 5's statements: PmemPlans.
-/
import Derived.Test.YtjkiehfjbldkkaaPmLawS
namespace Go.Proofs.Ytjkiehfjbldkkaa
set_option linter.unusedVariables false
set_option linter.unusedSimpArgs false
open Go.RowKit

/-- two devices of the program's, side by side. -/
def Two (B : Nat) (w : World) (b c : Nat) (s t : Pm.D) : Prop := ∃ F G, PDev w b s F ∧ PDev w c t G ∧ (∀ k, F k → B ≤ k ∧ k < w.heap.size) ∧ (∀ k, G k → B ≤ k ∧ k < w.heap.size) ∧ ∀ k, F k → ¬ G k
theorem Two.swap {B : Nat} {w : World} {b c : Nat} {s t : Pm.D} (h : Two B w b c s t) : Two B w c b t s := by
  obtain ⟨F, G, h1, h2, h3, h4, h5⟩ := h
  exact ⟨G, F, h2, h1, h4, h3, fun k hk hg => h5 k hg hk⟩
theorem Two.one {B : Nat} {w : World} {b c : Nat} {s t : Pm.D} (h : Two B w b c s t) : POwn B w b s := by
  obtain ⟨F, G, h1, h2, h3, h4, h5⟩ := h
  exact ⟨F, h1, h3⟩
theorem Two.below {B : Nat} {w w' : World} {b c : Nat} {s t : Pm.D} (h : Two B w b c s t) (hb : Below w.heap.size w w') : Two B w' b c s t := by
  obtain ⟨F, G, h1, h2, h3, h4, h5⟩ := h
  exact ⟨F, G, h1.kept hb.size (fun k _ hk => hb.block k hk), h2.kept hb.size (fun k _ hk => hb.block k hk), fun k hk => ⟨(h3 k hk).1, Nat.lt_of_lt_of_le (h3 k hk).2 hb.size⟩, fun k hk => ⟨(h4 k hk).1, Nat.lt_of_lt_of_le (h4 k hk).2 hb.size⟩, h5⟩
theorem two_next {B : Nat} {w w' : World} {b c : Nat} {s s' t : Pm.D} {F G : Nat → Prop} (hn : PNext w b s' F w') (h2 : PDev w c t G) (h3 : ∀ k, F k → B ≤ k ∧ k < w.heap.size) (h4 : ∀ k, G k → B ≤ k ∧ k < w.heap.size) (h5 : ∀ k, F k → ¬ G k) (hB : B ≤ w.heap.size) : Two B w' b c s' t ∧ Below B w w' := by
  obtain ⟨F', q1, q2, q3, q4⟩ := hn
  refine ⟨⟨F', G, q1, h2.kept q4.size (fun k hk hl => q4.block k hl (fun f => h5 k f hk)), fun k hk => ?_, fun k hk => ⟨(h4 k hk).1, Nat.lt_of_lt_of_le (h4 k hk).2 q4.size⟩, fun k hk hg => ?_⟩, q4.below (fun k hk => (h3 k hk).1) hB⟩
  · rcases q2 k hk with q | q
    · have := h3 k q
      have := q4.size
      omega
    · omega
  · rcases q2 k hk with q | q
    · exact h5 k q hg
    · have := h4 k hg
      omega
theorem two_do {B : Nat} {w : World} {b c : Nat} {s t : Pm.D} (h : Two B w b c s t) (hB : B ≤ w.heap.size) (hm : s.ws.length ≤ 40000) (hp : s.plan.length ≤ 40000) (hst : s.steps ≤ 1000000) (x : Ac) (hx : x.ok w) (hxl : x.len ≤ 40000) (hAB : 0 < x.len → ∀ y, x.a = some y → y.block < B) :
    Calls Try.prog 14 #[.pointer (some ⟨b, 0, none⟩), .agg x.cells.toArray] w fun e w' => e = .returned (.tuple #[.int .u64 (Pm.actV s x.plain), .int .i64 (Pm.actE s x.plain)]) ∧ Two B w' b c (Pm.act s x.plain) t ∧ Below B w w' := by
  obtain ⟨F, G, h1, h2, h3, h4, h5⟩ := h
  refine (do_any h1 (fun k hk => (h3 k hk).2) hm hp hst x hx hxl (fun hl y hy q => by have := hAB hl y hy; have := h3 _ q; omega)).mono ?_
  rintro e w' ⟨he, hn⟩
  exact ⟨he, two_next (s := s) hn h2 h3 h4 h5 hB⟩
theorem two_plan {B : Nat} {w : World} {b c : Nat} {s t : Pm.D} (h : Two B w b c s t) (hB : B ≤ w.heap.size) {a : Option Addr} {len cap : Nat} {l : List Int} (hA : Arg .i64 w a len cap l) (hl : len ≤ 40000) (hAB : 0 < len → ∀ x, a = some x → x.block < B) :
    Calls Try.prog 33 #[.pointer (some ⟨b, 0, none⟩), .slice a len cap] w fun e w' => e = .returned (.tuple #[]) ∧ Two B w' b c (Pm.lay s l) t ∧ Below B w w' := by
  obtain ⟨F, G, h1, h2, h3, h4, h5⟩ := h
  refine (pplan_any h1 (fun k hk => (h3 k hk).2) hA hl (fun hl x hx q => by have := hAB hl x hx; have := h3 _ q; omega)).mono ?_
  rintro e w' ⟨he, hn⟩
  exact ⟨he, two_next (s := s) hn h2 h3 h4 h5 hB⟩

set_option maxRecDepth 100000 in
set_option maxHeartbeats 1000000 in
theorem plans_great {w : World} {p : Option Addr} {pl pc : Nat} {l : List Int} (hP : Arg .i64 w p pl pc l) {a : Option Addr} {len cap : Nat} {xs : List Ac} (hA : Acts w a len cap xs) (h : smallB xs 40 = false ∨ (smallB xs 40 = true ∧ 40 < pl)) :
    Calls Try.prog 8 #[.slice p pl pc, .slice a len cap] w fun e w' => e = .returned (.bool true) ∧ Below w.heap.size w w' := by
  have HA := hide hA
  clear hA
  rcases h with h | ⟨h, h1⟩
  · go_enter Try.func8, Try.ntmps8
    go_wp2_with fail
    refine (awake_any _).mono ?_
    rintro e w1 ⟨rfl, hb1⟩
    have HB1 := hide hb1
    clear hb1
    go_wp2_with fail
    refine (small_any (HA.out.below HB1.out) 40 (by decide)).mono ?_
    rintro e w2 ⟨rfl, hb2⟩
    have HB2 := hide (HB1.out.trans (hb2.mono HB1.out.size))
    clear hb2
    go_wp2_with fail
    refine (awake_any _).mono ?_
    rintro e w3 ⟨rfl, hb3⟩
    have HB3 := hide (HB2.out.trans (hb3.mono HB2.out.size))
    clear hb3
    go_wp2_with fail
    go_ret
    exact ⟨rfl, HB3.out⟩
  · have h1' : (40 : Int) < (pl : Int) := by omega
    go_enter Try.func8, Try.ntmps8
    go_wp2_with fail
    refine (awake_any _).mono ?_
    rintro e w1 ⟨rfl, hb1⟩
    have HB1 := hide hb1
    clear hb1
    go_wp2_with fail
    refine (small_any (HA.out.below HB1.out) 40 (by decide)).mono ?_
    rintro e w2 ⟨rfl, hb2⟩
    have HB2 := hide (HB1.out.trans (hb2.mono HB1.out.size))
    clear hb2
    go_wp2_with fail
    refine (awake_any _).mono ?_
    rintro e w3 ⟨rfl, hb3⟩
    have HB3 := hide (HB2.out.trans (hb3.mono HB2.out.size))
    clear hb3
    go_wp2_with fail
    go_ret
    exact ⟨rfl, HB3.out⟩

/-- what holds of the two devices while their acts are done. -/
structure Pair (l : List Int) (k : Nat) (s t : Pm.D) : Prop where
  beside : Pm.Beside l s t
  len : s.ws.length = 24
  steps : s.steps ≤ k
theorem Pair.act {l : List Int} {k : Nat} {s t : Pm.D} (h : Pair l k s t) (a : Pm.A) (h5 : a.kind % 7 ≠ 5) (h6 : a.kind % 7 ≠ 6) : Pair l (k + 1) (Pm.act s a) (Pm.act t a) ∧ Pm.actV s a = Pm.actV t a ∧ Pm.actE s a = Pm.actE t a := by
  obtain ⟨q1, q2⟩ := Pm.beside_act h.beside a h5 h6
  refine ⟨⟨q1, by rw [Pm.act_length]; exact h.len, ?_⟩, q2⟩
  have := h.steps
  rcases Pm.act_steps s a with e | e <;> rw [e] <;> omega

set_option maxRecDepth 100000 in
set_option maxHeartbeats 4000000 in
theorem plans_yes {w : World} {p : Option Addr} {pl pc : Nat} {l : List Int} (hP : Arg .i64 w p pl pc l) (hpl : pl ≤ 40) {a : Option Addr} {len cap : Nat} {xs : List Ac} (hA : Acts w a len cap xs) (h : smallB xs 40 = true) :
    Calls Try.prog 8 #[.slice p pl pc, .slice a len cap] w fun e w' => e = .returned (.bool true) ∧ Below w.heap.size w w' := by
  have HA := hide hA
  have HPL := hide hP
  have HSM : Hid (xs.length ≤ 40 ∧ ∀ x ∈ xs, x.len ≤ 40) := by
    show _ ∧ _
    unfold smallB at h
    simpa using h
  have hlen := hA.1
  have hll := hP.2.2.1.1
  have hl40 : len ≤ 40 := by have := HSM.out.1; omega
  have hp1 : ¬ (40 : Int) < (pl : Int) := by omega
  have HN := hide (fun W => pnew_yes W 3 (by decide))
  have HPB : Hid (0 < pl → ∀ x, p = some x → x.block < w.heap.size) := arg_block hP
  clear hA hP
  go_enter Try.func8, Try.ntmps8
  go_wp2_with fail
  refine (awake_any _).mono ?_
  rintro e w1 ⟨rfl, hb1⟩
  have HB1 := hide hb1
  clear hb1
  go_wp2_with fail
  refine (small_any (HA.out.below HB1.out) 40 (by decide)).mono ?_
  rintro e w2 ⟨rfl, hb2⟩
  have HB2 := hide (HB1.out.trans (hb2.mono HB1.out.size))
  clear hb2
  go_wp2_with fail
  refine (HN.out _).mono ?_
  rintro e w3 ⟨b, F, rfl, hD, hFB, hb3⟩
  have HD := hide hD
  have HFB := hide hFB
  have HB3 := hide (HB2.out.trans (hb3.mono HB2.out.size))
  clear hD hFB hb3
  go_wp2_with fail
  refine (HN.out _).mono ?_
  rintro e w4 ⟨c, G, rfl, hC, hGB, hb4⟩
  have HB4 := hide (HB3.out.trans (hb4.mono HB3.out.size))
  have HTW : Hid (Two w.heap.size w4 b c (Pm.new (8 * 3)) (Pm.new (8 * 3))) := by
    refine ⟨F, G, HD.out.kept hb4.size (fun k _ hk => hb4.block k hk), hC, fun k hk => ?_, fun k hk => ?_, fun k hk hg => ?_⟩
    · have := HFB.out k hk
      have := HB2.out.size
      have := hb4.size
      omega
    · have := hGB k hk
      have := HB3.out.size
      omega
    · have := HFB.out k hk
      have := hGB k hg
      omega
  clear hC hGB hb4
  go_wp2_with fail
  refine (two_plan HTW.out HB4.out.size (HPL.out.below HB4.out) (by omega) HPB.out).mono ?_
  rintro e w5 ⟨rfl, hT5, hb5⟩
  have HT5 := hide hT5
  have HB5 := hide (HB4.out.trans hb5)
  have HPR : Hid (Pair l 0 (Pm.lay (Pm.new (8 * 3)) l) (Pm.new (8 * 3))) := ⟨Pm.beside_new l _, by simp [Pm.lay, Pm.new], by simp [Pm.lay, Pm.new]⟩
  clear hT5 hb5
  go_wp2_with fail
  go_loopw [9] (fun i wr => ∃ (k : Nat) (s t : Pm.D), k ≤ len ∧ i = .int .i64 k ∧ Pair l k s t ∧ Two w.heap.size wr b c s t ∧ Below w.heap.size w wr) (fun i _ => len - (intOf i).toNat)
  case atStart => exact ⟨0, _, _, Nat.zero_le _, rfl, HPR.out, HT5.out, HB5.out⟩
  case round =>
    obtain ⟨k, s, t, hk, rfl, hpr, htw, hbr⟩ := hrel
    have HBr := hide hbr
    have HTw := hide htw
    have HPr := hide hpr
    have hm24 : s.ws.length ≤ 40000 := by rw [hpr.len]; omega
    have ht24 : t.ws.length ≤ 40000 := by rw [← hpr.beside.len, hpr.len]; omega
    have hst := hpr.steps
    clear htw hpr
    by_cases hlt : k < len
    · have hkn : (k : Int) < (len : Int) := by omega
      have hkx : k < xs.length := by omega
      obtain ⟨x, hx⟩ : ∃ x, xs[k]? = some x := ⟨_, List.getElem?_eq_getElem hkx⟩
      have hxm := List.mem_of_getElem? hx
      have hx40 := HSM.out.2 x hxm
      have hxok := HA.out.2.2.2.1 x hxm
      have hAB : 0 < x.len → ∀ y, x.a = some y → y.block < w.heap.size := arg_block hxok.2.2.2
      obtain ⟨_, _, _, _, h5⟩ := HA.out.below hbr
      rcases h5 with h5 | ⟨ga, off, rfl, hgw, hc⟩
      · omega
      obtain ⟨q0, q1, q2, q3⟩ := hc k x hx
      have hga : ga < w.heap.size := by
        obtain ⟨_, _, _, _, h5'⟩ := HA.out
        rcases h5' with h5' | ⟨ga', off', e, hg', _⟩
        · omega
        · cases e
          exact hg'
      have HRK := hide (fun W => rest_any x.kind 7 W (by decide) (by decide) hxok.1)
      by_cases h56 : x.kind % 7 = 5 ∨ x.kind % 7 = 6
      · obtain ⟨xk, xat, xw, xa, xlen, xcap, xl⟩ := x
        simp only at q0 q1 q2 q3 HRK h56
        clear hc hbr hxok hxm hx hx40 hAB
        rcases h56 with h56 | h56
        all_goals
          rw [h56] at HRK
          clear h56
          go_wp2_with fail
          refine (HRK.out _).mono ?_
          rintro e W0 ⟨rfl, hw⟩
          obtain rfl := hw.symm
          go_wp2_with fail
          go_roundw
          case rel => exact ⟨k + 1, s, t, by omega, by go_num, ⟨HPr.out.beside, HPr.out.len, by omega⟩, HTw.out, HBr.out⟩
          case measure => simp [intOf]; omega
      · have h5 : ¬ x.kind % 7 = 5 := fun e => h56 (.inl e)
        have h6 : ¬ x.kind % 7 = 6 := fun e => h56 (.inr e)
        have HDO := hide (two_do HTw.out HBr.out.size hm24 (by rw [HPr.out.beside.dp]; omega) (by omega) x (ok_below hxok hbr) (by omega) hAB)
        have HDC := hide (fun W (hb : Below w.heap.size w W) (hW : Two w.heap.size W b c (Pm.act s x.plain) t) => two_do hW.swap hb.size ht24 (by rw [HPr.out.beside.cp]; simp) (by rw [← HPr.out.beside.steps]; omega) x (ok_below hxok hb) (by omega) hAB)
        obtain ⟨hpn, hav, hae⟩ := HPr.out.act x.plain h5 h6
        have HPN := hide hpn
        rw [← hav, ← hae] at HDC
        have hcl : x.cells.toArray = #[.int .i64 x.kind, .int .i64 x.at', .int .u64 x.w, .slice x.a x.len x.cap] := rfl
        rw [hcl] at HDO HDC
        have HQ := hide (fun W (hb : Below w.heap.size wr W) => (⟨(hb.cell (p := ⟨ga, off + k * 4, none⟩) hga).trans q0, (hb.cell (p := ⟨ga, off + k * 4 + 1, none⟩) hga).trans q1, (hb.cell (p := ⟨ga, off + k * 4 + 2, none⟩) hga).trans q2, (hb.cell (p := ⟨ga, off + k * 4 + 3, none⟩) hga).trans q3⟩ : W.cell? ⟨ga, off + k * 4, none⟩ = some (.int .i64 x.kind) ∧ W.cell? ⟨ga, off + k * 4 + 1, none⟩ = some (.int .i64 x.at') ∧ W.cell? ⟨ga, off + k * 4 + 2, none⟩ = some (.int .u64 x.w) ∧ W.cell? ⟨ga, off + k * 4 + 3, none⟩ = some (.slice x.a x.len x.cap)))
        clear hav hae hpn
        generalize Pm.act s x.plain = s' at *
        generalize Pm.act t x.plain = t' at *
        generalize Pm.actV s x.plain = av at *
        generalize Pm.actE s x.plain = ae at *
        have h5' : (x.kind % 7 == 5) = false := beq_eq_false_iff_ne.2 h5
        have h6' : (x.kind % 7 == 6) = false := beq_eq_false_iff_ne.2 h6
        generalize x.kind % 7 = r at *
        obtain ⟨xk, xat, xw, xa, xlen, xcap, xl⟩ := x
        simp only at q0 q1 q2 q3 HDO HDC HRK HQ
        clear hc hbr hxok hxm hcl hx hx40 hAB h56
        go_wp2_with fail
        refine (HRK.out _).mono ?_
        rintro e W0 ⟨rfl, hw⟩
        obtain rfl := hw.symm
        go_wp2_with fail
        refine HDO.out.mono ?_
        rintro e W1 ⟨rfl, hh, hb⟩
        obtain ⟨q0, q1, q2, q3⟩ := HQ.out W1 hb
        have HH1 := hide hh
        have HB1' := hide (HBr.out.trans hb)
        clear hh hb
        go_wp2_with fail
        refine (HDC.out W1 HB1'.out HH1.out).mono ?_
        rintro e W2 ⟨rfl, hh, hb⟩
        have HH2 := hide hh.swap
        have HB2' := hide (HB1'.out.trans hb)
        clear hh hb q0 q1 q2 q3
        have hm' : s'.ws.length ≤ 40000 := by rw [HPN.out.len]; omega
        have ht' : t'.ws.length ≤ 40000 := by rw [← HPN.out.beside.len, HPN.out.len]; omega
        have HVD := hide (fun W (hb : Below W2.heap.size W2 W) => (HH2.out.one.below hb).view hm')
        have HVC := hide (fun W (hb : Below W2.heap.size W2 W) => (HH2.out.swap.one.below hb).view ht')
        have HSD := hide (fun W (hb : Below W2.heap.size W2 W) => (HH2.out.one.below hb).steps)
        have HSC := hide (fun W (hb : Below W2.heap.size W2 W) => (HH2.out.swap.one.below hb).steps)
        rw [← HPN.out.beside.len, ← HPN.out.beside.same, HPN.out.len] at HVC
        rw [HPN.out.len] at HVD
        rw [← HPN.out.beside.steps] at HSC
        obtain ⟨T1, hT1⟩ : ∃ T, strOfNums (octs (Pm.storedL s'.ws)) = T := ⟨_, rfl⟩
        have HC1 := hide (fun W (a : Option Addr) (l cp : Nat) (h : Row .u8 W a l (octs (Pm.storedL s'.ws))) => conv_bytes cp h)
        rw [hT1] at HC1
        clear hT1
        have BD : Hid (Below W2.heap.size W2 W2.drew) := ⟨rfl, rfl, rfl, Nat.le_refl _, fun _ _ => rfl⟩
        have hsz := Nat.le_refl W2.heap.size
        go_wp2_with fail
        go_cut [108] from 49 to 108 (fun u wx => u = .bool false ∧ Below W2.heap.size W2 wx)
        case first =>
          go_region_held_law (fun w' => W2.heap.size ≤ w'.heap.size)
            (first
              | exact hb10.size
              | exact hb8.size
              | exact hsz)
            (first
              | (go_at_call_of 23 (Value.pointer (some ⟨b, 0, none⟩)); refine (HVD.out _ BD.out).mono ?_; rintro e w8 ⟨ay, cy, rfl, hcy, hr8, hb8'⟩; have hb8 := BD.out.trans hb8'; have hcv8 := HC1.out w8 ay _ cy hr8; clear hb8')
              | (go_at_call_of 23 (Value.pointer (some ⟨c, 0, none⟩)); refine (HVC.out _ hb8).mono ?_; rintro e w10 ⟨az, cz, rfl, hcz, hr10, hb10'⟩; have hb10 := hb8.trans (hb10'.mono hb8.size); have hcv10 := HC1.out w10 az _ cz hr10; have hcw10 := HC1.out w10 ay _ cy (hr8.below hb10'); clear hb10' hr10)
              | (go_at_call_of 16 (Value.pointer (some ⟨b, 0, none⟩)); refine (HSD.out _ hb10).mono ?_; rintro e w4 ⟨rfl, rfl⟩)
              | (go_at_call_of 16 (Value.pointer (some ⟨c, 0, none⟩)); refine (HSC.out _ hb10).mono ?_; rintro e w4 ⟨rfl, rfl⟩))
          all_goals
            go_wp2_with fail
            go_meet
            case rel => exact ⟨rfl, hb10⟩
        case rest =>
          obtain ⟨rfl, hb10⟩ := hcut
          have HTN := hide (HH2.out.below hb10)
          have HBN := hide (HB2'.out.trans (hb10.mono HB2'.out.size))
          clear hb10
          go_wp2_with fail
          go_roundw
          case rel => exact ⟨k + 1, s', t', by omega, by go_num, HPN.out, HTN.out, HBN.out⟩
          case measure => simp [intOf]; omega
    · have hkn : ¬ (k : Int) < (len : Int) := by omega
      have HST := hide HTw.out.one.steps
      have hrow := HPL.out.2.2.1.below hbr
      clear hbr
      by_cases c1 : 0 < s.steps
      · have c1' : (0 : Int) < (s.steps : Int) := by omega
        by_cases c2 : 0 < pl
        · have c2' : (0 : Int) < (pl : Int) := by omega
          obtain ⟨_, h0 | ⟨pb, po, rfl, hpb, hpc⟩⟩ := hrow
          · omega
          obtain ⟨j, hj⟩ : ∃ j, (s.steps - 1) % pl = j := ⟨_, rfl⟩
          have hjl : j < pl := by rw [← hj]; exact Nat.mod_lt _ c2
          have hmod : ((s.steps : Int) - 1).tmod (pl : Int) = (j : Int) := by rw [show (s.steps : Int) - 1 = ((s.steps - 1 : Nat) : Int) by omega, Int.tmod_eq_emod_of_nonneg (by omega), ← hj, Int.natCast_emod]
          have hcj := hpc j hjl
          have hvm : l.getD j 0 ∈ l := by
            rw [List.getD_eq_getElem?_getD, List.getElem?_eq_getElem (by omega)]
            exact List.getElem_mem (by omega)
          have hvb := bd_i64 (HPL.out.2.2.2.1 _ hvm)
          obtain ⟨v, hv⟩ : ∃ v, l.getD j 0 = v := ⟨_, rfl⟩
          rw [hv] at hcj hvb
          have hnz : ((pl : Int) == 0) = false := beq_eq_false_iff_ne.2 (by omega)
          have hjp : (j : Int) < (pl : Int) := by omega
          clear hpc hvm
          by_cases c3 : 0 ≤ v
          · obtain ⟨i, hi⟩ : ∃ i, v.toNat % 24 = i := ⟨_, rfl⟩
            have hil : i < 24 := by omega
            have hmod2 : v.tmod 24 = (i : Int) := by rw [Int.tmod_eq_emod_of_nonneg c3]; omega
            have HOUT : Hid (((octs (Pm.lastL s.ws)).drop (8 * i)).take 8 = ((octs (Pm.storedL s.ws)).drop (8 * i)).take 8) := by
              show _ = _
              have hlp : l ≠ [] := fun e => by rw [e] at hll; simp at hll; omega
              obtain ⟨x, hx1, hx2⟩ := HPr.out.beside.out c1 hlp (by rw [HPr.out.len]; decide) (by rw [hll, hj, hv]; exact c3)
              rw [hll, hj, hv, HPr.out.len, hi] at hx1
              have g1 : (Pm.lastL s.ws).getD i 0 = x.lasts := by simp [Pm.lastL, List.getElem?_map, hx1]
              have g2 : (Pm.storedL s.ws).getD i 0 = x.stored := by simp [Pm.storedL, List.getElem?_map, hx1]
              have e1 := oct_at (Pm.lastL s.ws) (Pm.lastL s.ws).length i (by rw [lastL_len, HPr.out.len]; exact hil) (Nat.le_refl _)
              have e2 := oct_at (Pm.storedL s.ws) (Pm.storedL s.ws).length i (by rw [storedL_len, HPr.out.len]; exact hil) (Nat.le_refl _)
              rw [octTo_all, g1] at e1
              rw [octTo_all, g2] at e2
              unfold octs
              rw [e1, e2, hx2]
            have HIM := hide (HTw.out.one.image hm24)
            have HVW := hide (fun W (hb : Below wr.heap.size wr W) => (HTw.out.one.below hb).view hm24)
            rw [HPr.out.len] at HIM HVW
            clear hj hi hv
            have HA2 := hide hjl
            go_wp2_with fail
            refine HST.out.mono ?_
            rintro e W1 ⟨rfl, hw⟩
            obtain rfl := hw.symm
            go_wp2_with fail
            refine HIM.out.mono ?_
            rintro e w8 ⟨ax, cx, rfl, hcx, hr8, hb8⟩
            have HB8 := hide hb8
            have HR8 := hide hr8
            clear hb8 hr8
            go_wp2_with fail
            refine (HVW.out _ HB8.out).mono ?_
            rintro e w10 ⟨ay, cy, rfl, hcy, hr10, hb10⟩
            have HB10 := hide (HBr.out.trans ((HB8.out.trans (hb10.mono HB8.out.size)).mono HBr.out.size))
            have hr8' := HR8.out.below hb10
            obtain ⟨xb, xo, rfl, hxr⟩ := hr8'.cut (8 * i) 8 (by omega) (by omega)
            obtain ⟨yb, yo, rfl, hyr⟩ := hr10.cut (8 * i) 8 (by omega) (by omega)
            rw [HOUT.out] at hxr
            obtain ⟨T, hT⟩ : ∃ T, strOfNums (((octs (Pm.storedL s.ws)).drop (8 * i)).take 8) = T := ⟨_, rfl⟩
            have hcvx := conv_bytes (w := w10.drew) (cx - 8 * i) hxr
            have hcvy := conv_bytes (w := w10.drew) (cy - 8 * i) hyr
            have hsz := Nat.le_refl w10.heap.size
            rw [hT] at hcvx hcvy
            clear hT hxr hyr hr8' hr10 hb10
            have hw1 : IntKind.i64.wrap (8 * (i : Int)) = 8 * (i : Int) := by rw [IntKind.wrap_i64]; omega
            have hw2 : IntKind.i64.wrap (8 * (i : Int) + 8) = 8 * (i : Int) + 8 := by rw [IntKind.wrap_i64]; omega
            have ht1 : (8 * (i : Int)).toNat = 8 * i := by omega
            have ht2 : (8 * (i : Int) + 8).toNat = 8 * i + 8 := by omega
            have hp0 : (0 : Int) ≤ 8 * (i : Int) := by omega
            have hp2 : (8 : Int) * (i : Int) ≤ 8 * (i : Int) + 8 := by omega
            have hp3 : (8 : Int) * (i : Int) + 8 ≤ (cx : Int) := by omega
            have hp4 : (8 : Int) * (i : Int) + 8 ≤ (cy : Int) := by omega
            have hd8 : 8 * i + 8 - 8 * i = 8 := by omega
            have hn1 : ¬ cx = 8 * i := by omega
            have hn2 : ¬ cy = 8 * i := by omega
            go_wp2_with fail
            go_region_held_law (fun w' => w10.heap.size ≤ w'.heap.size) (exact hsz) (fail)
            all_goals
              go_wp2_with fail
              go_ret
              exact ⟨rfl, HB10.out.trans ⟨rfl, rfl, rfl, Nat.le_refl _, fun _ _ => rfl⟩⟩
          · have c3' : ¬ (0 : Int) ≤ v := c3
            go_wp2_with fail
            refine HST.out.mono ?_
            rintro e W1 ⟨rfl, hw⟩
            obtain rfl := hw.symm
            go_wp2_with fail
            go_ret
            exact ⟨rfl, HBr.out⟩
        · have c2' : ¬ (0 : Int) < (pl : Int) := by omega
          go_wp2_with fail
          refine HST.out.mono ?_
          rintro e W1 ⟨rfl, hw⟩
          obtain rfl := hw.symm
          go_wp2_with fail
          go_ret
          exact ⟨rfl, HBr.out⟩
      · have c1' : ¬ (0 : Int) < (s.steps : Int) := by omega
        go_wp2_with fail
        refine HST.out.mono ?_
        rintro e W1 ⟨rfl, hw⟩
        obtain rfl := hw.symm
        go_wp2_with fail
        go_ret
        exact ⟨rfl, HBr.out⟩

theorem plans_any {w : World} {p : Option Addr} {pl pc : Nat} {l : List Int} (hP : Arg .i64 w p pl pc l) {a : Option Addr} {len cap : Nat} {xs : List Ac} (hA : Acts w a len cap xs) :
    Calls Try.prog 8 #[.slice p pl pc, .slice a len cap] w fun e w' => e = .returned (.bool true) ∧ Below w.heap.size w w' := by
  cases h : smallB xs 40 with
  | false => exact plans_great hP hA (.inl h)
  | true =>
    by_cases h2 : pl ≤ 40
    · exact plans_yes hP h2 hA h
    · exact plans_great hP hA (.inr ⟨h, by omega⟩)
end Go.Proofs.Ytjkiehfjbldkkaa
