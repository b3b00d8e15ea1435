/-
  Layer 6's statements: the first question; a device behind some acts.
-/
import Derived.Test.YtnaenokegomoeaaFtD
import Derived.Lib.AppendZerosOnto
namespace Go.Proofs.Ytnaenokegomoeaa
set_option linter.unusedVariables false
set_option linter.unusedSimpArgs false
open Go.RowKit

/-- the document's example. -/
def exD : Pm.D := Pm.store (Pm.flush (Pm.store (Pm.new 8) 0 5) 0) 0 6
def exZ : List Int := 6 :: List.replicate 63 0
theorem ex_count : Pm.counted (Pm.fates exD) = 3 := by decide +kernel
theorem ex_may : mayB exD exZ = true := by decide +kernel
theorem ex_choices : choicesB exD exZ = [2, 0, 0, 0, 0, 0, 0, 0] := by decide +kernel
theorem ex_bd : exD.ws.length ≤ 40000 ∧ exD.ws.length % 8 = 0 := by decide +kernel
theorem zero_u8 (n : Nat) : (Builtin.zeroCells #[Value.int .u8 0] n).toList = (List.replicate n (0 : Int)).map (Value.int .u8) := by
  simp [Builtin.zeroCells]
  apply List.ext_getElem
  · simp
  · intro i h1 h2
    simp [Nat.mod_one]

theorem POwn.count {B : Nat} {w : World} {b : Nat} {s : Pm.D} (h : POwn B w b s) (hm : s.ws.length ≤ 40000) :
    Calls Try.prog 13 #[.pointer (some ⟨b, 0, none⟩)] w fun e w' => e = .returned (.int .i64 (Pm.counted (Pm.fates s))) ∧ Below w.heap.size w w' := by
  obtain ⟨F, h1, _⟩ := h
  exact fcount_any h1 hm
theorem POwn.choose {B : Nat} {w : World} {b : Nat} {s : Pm.D} (h : POwn B w b s) (hm : s.ws.length ≤ 40000) (h8 : s.ws.length % 8 = 0) {a : Option Addr} {len cap : Nat} {zs : List Int} (hA : Arg .u8 w a len cap zs) (hl : len ≤ 400000) :
    Calls Try.prog 15 #[.pointer (some ⟨b, 0, none⟩), .slice a len cap] w fun e w' => ∃ v, e = .returned (.tuple #[v, .bool (mayB s zs)]) ∧ (mayB s zs = false → v = .slice none 0 0) ∧ (mayB s zs = true → w'.ownsRow w.heap.size 3 1 v (choicesB s zs).length ((choicesB s zs).map (Value.int .i64))) ∧ Below w.heap.size w w' := by
  obtain ⟨F, h1, _⟩ := h
  exact fchoose_any h1 hm h8 hA hl
theorem POwn.may {B : Nat} {w : World} {b : Nat} {s : Pm.D} (h : POwn B w b s) (hm : s.ws.length ≤ 40000) (h8 : s.ws.length % 8 = 0) {a : Option Addr} {len cap : Nat} {zs : List Int} (hA : Arg .u8 w a len cap zs) (hl : len ≤ 400000) :
    Calls Try.prog 17 #[.pointer (some ⟨b, 0, none⟩), .slice a len cap] w fun e w' => e = .returned (.bool (mayB s zs)) ∧ Below w.heap.size w w' := by
  obtain ⟨F, h1, _⟩ := h
  exact fmay_any h1 hm h8 hA hl

/-- append([]byte{6}, make([]byte, 63)...). -/
theorem run_zeros (W : World) (g : Nat) (hg : W.heap[g]? = some (.cells #[.int .u8 6] 5 (0, 0))) (ty : TypeId) :
    (Builtin.append_ #[38, 3] ty #[.slice (some ⟨g, 0, none⟩) 1 1, .int .i64 63]).run Try.prog W =
      .ok (.slice (some ⟨W.heap.size, 0, none⟩) 64 (grownCap W 64 1 5)) (W.drew.alloc (.cells (#[Value.int .u8 6] ++ Builtin.zeroCells #[Value.int .u8 0] 63 ++ Builtin.zeroCells #[Value.int .u8 0] (grownCap W 64 1 5 - 64)) 5)) := by
  obtain ⟨i0, hi, hz0, hz1, hz2⟩ := info_parts info_byte
  have hold : (Builtin.firstCells i0.size 1 (.slice (some ⟨g, 0, none⟩) 1 1)).run Try.prog W.drew = .ok [Value.int .u8 6].toArray W.drew := by
    refine run_firstCells_some _ _ _ _ _ _ _ (by rw [hz1]; rfl) (fun j v hj => ?_)
    cases j with
    | zero =>
      simp at hj
      subst hj
      show W.cell? ⟨g, 0, none⟩ = _
      simp [World.cell?, hg]
    | succ j => simp at hj
  have := Lib.run_append_grow_zeros W 38 3 ty 5 i0 (.int .u8 0) .i64 .i64 Try.underlying38 Try.underlying3 hi hz0 (some ⟨g, 0, none⟩) 1 1 [Value.int .u8 6] hold 63 (by decide) (by omega) (by decide) (by decide) (by rw [hz2]; decide) (by rw [hz2]; decide)
  exact this
theorem arg_zeros (W : World) : Arg .u8 (W.drew.alloc (.cells (#[Value.int .u8 6] ++ Builtin.zeroCells #[Value.int .u8 0] 63 ++ Builtin.zeroCells #[Value.int .u8 0] (grownCap W 64 1 5 - 64)) 5)) (some ⟨W.heap.size, 0, none⟩) 64 (grownCap W 64 1 5) exZ := by
  have hnew := heap_alloc_new W.drew (.cells (#[Value.int .u8 6] ++ Builtin.zeroCells #[Value.int .u8 0] 63 ++ Builtin.zeroCells #[Value.int .u8 0] (grownCap W 64 1 5 - 64)) 5)
  have e : (#[Value.int .u8 6] ++ Builtin.zeroCells #[Value.int .u8 0] 63 ++ Builtin.zeroCells #[Value.int .u8 0] (grownCap W 64 1 5 - 64)) = (exZ.map (Value.int .u8) ++ (Builtin.zeroCells #[Value.int .u8 0] (grownCap W 64 1 5 - 64)).toList).toArray := by
    apply Array.toList_inj.1
    rw [Array.toList_append, Array.toList_append, zero_u8 63]
    rfl
  rw [e] at hnew ⊢
  refine ⟨grownCap_ge _ _ _ _, grownCap_le_maxLen _ _ _ _ (by decide), row_append hnew rfl, fun z hz => ?_, .inr ⟨_, _, rfl⟩⟩
  have : z = 6 ∨ z = 0 := by
    unfold exZ at hz
    rcases List.mem_cons.1 hz with h | h
    · exact .inl h
    · exact .inr (List.eq_of_mem_replicate h)
  rcases this with rfl | rfl <;> rfl

theorem zeros_any (W : World) (g : Nat) (hg : W.heap[g]? = some (.cells #[.int .u8 6] 5 (0, 0))) : ∃ g' cap W', (∀ ty, (Builtin.append_ #[38, 3] ty #[.slice (some ⟨g, 0, none⟩) 1 1, .int .i64 63]).run Try.prog W = .ok (.slice (some ⟨g', 0, none⟩) 64 cap) W') ∧ Arg .u8 W' (some ⟨g', 0, none⟩) 64 cap exZ ∧ Below W.heap.size W W' :=
  ⟨_, _, _, fun ty => run_zeros W g hg ty, arg_zeros W, ((Below.refl W.heap.size W).drew).alloc (Nat.le_refl _) _⟩

set_option maxRecDepth 100000 in
set_option maxHeartbeats 2000000 in
theorem fawake_any (w : World) : Calls Try.prog 8 #[] w fun e w' => e = .returned (.bool true) ∧ Below w.heap.size w w' := by
  have HN := hide (new_own w 1 (by decide))
  obtain ⟨s1, h1⟩ : ∃ s, Pm.store (Pm.new (8 * 1)) 0 5 = s := ⟨_, rfl⟩
  obtain ⟨s2, h2⟩ : ∃ s, Pm.flush s1 0 = s := ⟨_, rfl⟩
  obtain ⟨s3, h3⟩ : ∃ s, Pm.store s2 0 6 = s := ⟨_, rfl⟩
  have b1 : s1.ws.length ≤ 40000 ∧ s1.plan.length ≤ 40000 ∧ s1.steps ≤ 1000000 := by subst h1; decide +kernel
  have b2 : s2.ws.length ≤ 40000 ∧ s2.plan.length ≤ 40000 ∧ s2.steps ≤ 1000000 := by subst h1 h2; decide +kernel
  have H3x : Hid (s3 = exD) := by
    subst h1 h2 h3
    rfl
  have H1 := hide h1
  have H2 := hide h2
  have H3 := hide h3
  clear h1 h2 h3
  go_enter Try.func8, Try.ntmps8
  go_wp2_with fail
  refine HN.out.mono ?_
  rintro e w1 ⟨b, rfl, ho1, hb1⟩
  have HO1 := hide ho1
  have HB1 := hide hb1
  clear ho1 hb1
  go_wp2_with fail
  refine (store_own HO1.out HB1.out.size 0 5 (by decide) (by decide) (by decide) rfl rfl).mono ?_
  rintro e w2 ⟨rfl, ho, hb⟩
  rw [H1.out] at ho
  have HO2 := hide ho
  have HB2 := hide (HB1.out.trans hb)
  clear ho hb
  go_wp2_with fail
  refine (flush_own HO2.out HB2.out.size 0 b1.1 b1.2.1 b1.2.2 rfl).mono ?_
  rintro e w3 ⟨rfl, ho, hb⟩
  rw [H2.out] at ho
  have HO3 := hide ho
  have HB3 := hide (HB2.out.trans hb)
  clear ho hb
  go_wp2_with fail
  refine (store_own HO3.out HB3.out.size 0 6 b2.1 b2.2.1 b2.2.2 rfl rfl).mono ?_
  rintro e w4 ⟨rfl, ho, hb⟩
  rw [H3.out, H3x.out] at ho
  have HO4 := hide ho
  have HB4 := hide (HB3.out.trans hb)
  clear ho hb
  obtain ⟨W, hW⟩ : ∃ W, W = w4.alloc (.cells #[.int .u8 6] 5) := ⟨_, rfl⟩
  have hg : W.heap[w4.heap.size]? = some (.cells #[.int .u8 6] 5 (0, 0)) := by rw [hW]; exact heap_alloc_new _ _
  obtain ⟨g', cap, W', hrun, harg, hbz⟩ := zeros_any W w4.heap.size hg
  have hbW : Below w4.heap.size w4 W := by rw [hW]; exact (Below.refl _ _).alloc (Nat.le_refl _) _
  have hbZ : Below w4.heap.size w4 W' := hbW.trans (hbz.mono hbW.size)
  rw [hW] at hrun
  have HRUN := hide hrun
  have HARG := hide harg
  have HBZ := hide hbZ
  have HOZ := hide (HO4.out.below hbZ)
  clear hW hg hrun harg hbz hbW hbZ
  go_wp2_with (at_builtin; refine Lib.wpList_append_run _ rfl _ _ _ _ rfl _ _ rfl rfl _ _ (HRUN.out _) ?_)
  have hch := HOZ.out.choose ex_bd.1 ex_bd.2 HARG.out (by decide)
  rw [ex_may, ex_choices] at hch
  refine hch.mono ?_
  rintro e w5 ⟨v, rfl, _, hown, hb5⟩
  have hown := hown rfl
  obtain ⟨la, lc, rfl, _, _, _, hrow⟩ := row_of_own (zs := [2, 0, 0, 0, 0, 0, 0, 0]) hown
  obtain ⟨_, h0 | ⟨lb, lo, rfl, hlw, hlc⟩⟩ := hrow
  · exact absurd h0 (by decide)
  have HO5 := hide (HOZ.out.below hb5)
  have HB5 := hide (HBZ.out.trans (hb5.mono HBZ.out.size))
  have c0 : w5.cell? ⟨lb, lo, none⟩ = some (.int .i64 2) := hlc 0 (by decide)
  have c1 : w5.cell? ⟨lb, lo + 1, none⟩ = some (.int .i64 0) := hlc 1 (by decide)
  have HC0 := hide c0
  have HC1 := hide c1
  clear hch hown hb5 hlc c0 c1
  go_wp2_with fail
  have hct := HO5.out.count ex_bd.1
  rw [ex_count] at hct
  refine hct.mono ?_
  rintro e w6 ⟨rfl, hb6⟩
  have c0 := (hb6.cell (p := ⟨lb, lo, none⟩) hlw).trans HC0.out
  have c1 := (hb6.cell (p := ⟨lb, lo + 1, none⟩) hlw).trans HC1.out
  have HB6 := hide (HB4.out.trans ((HB5.out.trans (hb6.mono HB5.out.size)).mono HB4.out.size))
  clear hct hb6
  go_wp2_with fail
  go_ret
  exact ⟨rfl, HB6.out⟩

/-- a device behind the first acts. -/
def doneTo (n : Nat) (xs : List Ac) (k : Nat) : Pm.D := (xs.take k).foldl (fun s x => Pm.act s x.plain) (Pm.new (8 * n))
theorem doneTo_step {n : Nat} {xs : List Ac} {k : Nat} {x : Ac} (h : xs[k]? = some x) : doneTo n xs (k + 1) = Pm.act (doneTo n xs k) x.plain := by
  unfold doneTo
  rw [List.take_add_one, h, List.foldl_append]
  rfl
/-- a device behind all acts. -/
def madeD (n : Nat) (xs : List Ac) : Pm.D := doneTo n xs xs.length
theorem doing_to {n : Nat} {xs : List Ac} (h : ∀ x ∈ xs, x.l.length ≤ 40) (k : Nat) (hk : k ≤ xs.length) : Doing (8 * n) k (doneTo n xs k) := by
  induction k with
  | zero => exact ⟨by simp [doneTo, Pm.new], by simp [doneTo, Pm.new], by simp [doneTo, Pm.new]⟩
  | succ k ih =>
    obtain ⟨x, hx⟩ : ∃ x, xs[k]? = some x := ⟨_, List.getElem?_eq_getElem (by omega)⟩
    rw [doneTo_step hx]
    exact (ih (by omega)).act _ (h x (List.mem_of_getElem? hx))

set_option maxRecDepth 100000 in
set_option maxHeartbeats 4000000 in
theorem made_no {w : World} (l : Nat) (hl : l ≤ 255) {a : Option Addr} {len cap : Nat} {xs : List Ac} (hA : Acts w a len cap xs) (h : smallB xs 40 = false) :
    Calls Try.prog 12 #[.int .u8 l, .slice a len cap] w fun e w' => e = .returned (.tuple #[.pointer none, .pointer none]) ∧ Below w.heap.size w w' := by
  have HA := hide hA
  obtain ⟨n, hn⟩ : ∃ n, l % 4 = n := ⟨_, rfl⟩
  have hr1 : Int.tmod (l : Int) 4 = (n : Int) := by rw [← hn]; exact (Int.ofNat_tmod l 4).symm
  have hr2 : (l : Int) % 4 = (n : Int) := by rw [← hn]; simp
  have HN := hide (fun W => pnew_yes W n (by omega))
  clear hA hn
  go_enter Try.func12, Try.ntmps12
  go_wp2_with fail
  refine (HN.out _).mono ?_
  rintro e w1 ⟨b, F, rfl, hP, hFB, hb1⟩
  have HB1 := hide hb1
  clear hP hFB hb1
  go_wp2_with fail
  refine (small_any (HA.out.below HB1.out) 40 (by decide)).mono ?_
  rintro e w2 ⟨rfl, hb2⟩
  rw [h]
  have HB2 := hide (HB1.out.trans (hb2.mono HB1.out.size))
  clear hb2
  go_wp2_with fail
  go_ret2
  exact ⟨rfl, HB2.out⟩

set_option maxRecDepth 100000 in
set_option maxHeartbeats 4000000 in
theorem made_yes {w : World} (l : Nat) (hl : l ≤ 255) {a : Option Addr} {len cap : Nat} {xs : List Ac} (hA : Acts w a len cap xs) (h : smallB xs 40 = true) :
    Calls Try.prog 12 #[.int .u8 l, .slice a len cap] w fun e w' => ∃ b c, e = .returned (.tuple #[.pointer (some ⟨b, 0, none⟩), .pointer (some ⟨c, 0, none⟩)]) ∧ Both w.heap.size w' b c (madeD (l % 4) xs) ∧ Below w.heap.size w w' := by
  have HA := hide hA
  have HSM : Hid (xs.length ≤ 40 ∧ ∀ x ∈ xs, x.len ≤ 40) := by
    show _ ∧ _
    unfold smallB at h
    simpa using h
  have hlen := hA.1
  have hl40 : len ≤ 40 := by have := HSM.out.1; omega
  obtain ⟨n, hn⟩ : ∃ n, l % 4 = n := ⟨_, rfl⟩
  have hn4 : n < 4 := by omega
  have hr1 : Int.tmod (l : Int) 4 = (n : Int) := by rw [← hn]; exact (Int.ofNat_tmod l 4).symm
  have hr2 : (l : Int) % 4 = (n : Int) := by rw [← hn]; simp
  have HN := hide (fun W => pnew_yes W n (by omega))
  have HM := hide (fun W => rnew_any W n (by omega))
  have HDG := hide (fun k hk => doing_to (n := n) (xs := xs) (fun x hx => by rw [(HA.out.2.2.2.1 x hx).2.2.2.2.2.1.1]; exact HSM.out.2 x hx) k hk)
  rw [hn]
  clear hA hn
  go_enter Try.func12, Try.ntmps12
  go_wp2_with fail
  refine (HN.out _).mono ?_
  rintro e w1 ⟨b, F, rfl, hP, hFB, hb1⟩
  have HP := hide hP
  have HFB := hide hFB
  have HB1 := hide hb1
  clear hP hFB hb1
  go_wp2_with fail
  refine (small_any (HA.out.below HB1.out) 40 (by decide)).mono ?_
  rintro e w2 ⟨rfl, hb2⟩
  rw [h]
  have HB2 := hide (HB1.out.trans (hb2.mono HB1.out.size))
  have HP2 := hide (HP.out.kept hb2.size (fun k _ hk => hb2.block k hk))
  have hs12 := hb2.size
  have HS12 := hide hs12
  clear hb2 hs12 HP
  go_wp2_with fail
  refine (HM.out _).mono ?_
  rintro e w5 ⟨c, G, g0, g1, g2, g3, rfl, hR, hGB, hb5⟩
  have HB5 := hide (HB2.out.trans (hb5.mono HB2.out.size))
  have HBO : Hid (Both w.heap.size w5 b c (Pm.new (8 * n))) := by
    refine ⟨F, G, g0, g1, g2, g3, none, 0, HP2.out.kept hb5.size (fun k _ hk => hb5.block k hk), hR, fun k hk => ?_, fun k hk => ?_, fun k hk hg => ?_⟩
    · have := HFB.out k hk
      have := HS12.out
      have := hb5.size
      omega
    · have := hGB k hk
      have := HB2.out.size
      omega
    · have := HFB.out k hk
      have := hGB k hg
      have := HS12.out
      omega
  clear hR hGB hb5
  go_wp2_with fail
  go_loopw [10] (fun i wr => ∃ k : Nat, k ≤ len ∧ i = .int .i64 k ∧ Both w.heap.size wr b c (doneTo n xs k) ∧ Below w.heap.size w wr) (fun i _ => len - (intOf i).toNat)
  case atStart => exact ⟨0, Nat.zero_le _, rfl, HBO.out, HB5.out⟩
  case round =>
    obtain ⟨k, hk, rfl, hbo, hbr⟩ := hrel
    have HBr := hide hbr
    have HBb := hide hbo
    clear hbo
    by_cases hlt : k < len
    · have hkn : (k : Int) < (len : Int) := by omega
      have hkx : k < xs.length := by omega
      obtain ⟨x, hx⟩ : ∃ x, xs[k]? = some x := ⟨_, List.getElem?_eq_getElem hkx⟩
      have hxm := List.mem_of_getElem? hx
      have hx40 := HSM.out.2 x hxm
      have hxok := HA.out.2.2.2.1 x hxm
      have hAB : 0 < x.len → ∀ y, x.a = some y → y.block < w.heap.size := arg_block hxok.2.2.2
      have HSTEP := hide (doneTo_step (n := n) hx)
      have hdg := HDG.out k (by omega)
      obtain ⟨s, hs⟩ : ∃ s, doneTo n xs k = s := ⟨_, rfl⟩
      rw [hs] at hdg HBb HSTEP
      obtain ⟨hsl, hpl, hst⟩ := hdg
      obtain ⟨_, _, _, _, h5⟩ := HA.out.below hbr
      rcases h5 with h5 | ⟨ga, off, rfl, hgw, hc⟩
      · omega
      obtain ⟨q0, q1, q2, q3⟩ := hc k x hx
      have HDO := hide (both_do HBb.out HBr.out.size (by omega) (by omega) (by omega) x (ok_below hxok hbr) (by omega) hAB)
      have HRF : Hid (∀ W, Below w.heap.size w W → Half w.heap.size W b c s (Pm.act s x.plain) → Calls Try.prog 33 #[.pointer (some ⟨c, 0, none⟩), .agg x.cells.toArray] W fun e w' => e = .returned (.tuple #[.int .u64 (Pm.actV s x.plain), .int .i64 (Pm.actE s x.plain)]) ∧ Both w.heap.size w' b c (Pm.act s x.plain) ∧ Below w.heap.size W w') :=
        fun W hbW hW => half_refs hW hbW.size (by omega) (by omega) (by omega) x (ok_below hxok hbW) (by omega) hAB rfl
      have hcl : x.cells.toArray = #[.int .i64 x.kind, .int .i64 x.at', .int .u64 x.w, .slice x.a x.len x.cap] := rfl
      rw [hcl] at HDO HRF
      have hga : ga < w.heap.size := by
        obtain ⟨_, _, _, _, h5'⟩ := HA.out
        rcases h5' with h5' | ⟨ga', off', e, hg', _⟩
        · omega
        · cases e
          exact hg'
      have HQ := hide (fun W (hb : Below w.heap.size wr W) => (⟨(hb.cell (p := ⟨ga, off + k * 4, none⟩) hga).trans q0, (hb.cell (p := ⟨ga, off + k * 4 + 1, none⟩) hga).trans q1, (hb.cell (p := ⟨ga, off + k * 4 + 2, none⟩) hga).trans q2, (hb.cell (p := ⟨ga, off + k * 4 + 3, none⟩) hga).trans q3⟩ : W.cell? ⟨ga, off + k * 4, none⟩ = some (.int .i64 x.kind) ∧ W.cell? ⟨ga, off + k * 4 + 1, none⟩ = some (.int .i64 x.at') ∧ W.cell? ⟨ga, off + k * 4 + 2, none⟩ = some (.int .u64 x.w) ∧ W.cell? ⟨ga, off + k * 4 + 3, none⟩ = some (.slice x.a x.len x.cap)))
      generalize Pm.act s x.plain = s' at *
      generalize Pm.actV s x.plain = av at *
      generalize Pm.actE s x.plain = ae at *
      obtain ⟨xk, xat, xw, xa, xlen, xcap, xl⟩ := x
      simp only at q0 q1 q2 q3 HDO HRF
      clear hc hbr hxok hxm hcl hx hx40 hAB hs hsl hpl hst
      go_wp2_with fail
      refine HDO.out.mono ?_
      rintro e W1 ⟨rfl, hh, hb⟩
      obtain ⟨q0, q1, q2, q3⟩ := HQ.out W1 hb
      have HH1 := hide hh
      have HB1' := hide (HBr.out.trans hb)
      clear hh hb
      go_wp2_with fail
      refine (HRF.out W1 HB1'.out HH1.out).mono ?_
      rintro e W2 ⟨rfl, hh, hb⟩
      have HH2 := hide hh
      have HB2' := hide (HB1'.out.trans hb)
      clear hh hb q0 q1 q2 q3
      go_wp2_with fail
      go_roundw
      case rel => exact ⟨k + 1, by omega, by go_num, by rw [HSTEP.out]; exact HH2.out, HB2'.out⟩
      case measure => simp [intOf]; omega
    · have hkn : ¬ (k : Int) < (len : Int) := by omega
      have hke : k = len := by omega
      have HE : Hid (doneTo n xs k = madeD n xs) := by
        show _ = _
        unfold madeD
        rw [hlen, hke]
      rw [HE.out] at HBb
      clear hbr
      go_wp2_with fail
      go_ret2
      exact ⟨b, c, rfl, HBb.out, HBr.out⟩
theorem madeD_len {n : Nat} {xs : List Ac} (h : ∀ x ∈ xs, x.l.length ≤ 40) : (madeD n xs).ws.length = 8 * n := (doing_to h xs.length (Nat.le_refl _)).len
end Go.Proofs.Ytnaenokegomoeaa
