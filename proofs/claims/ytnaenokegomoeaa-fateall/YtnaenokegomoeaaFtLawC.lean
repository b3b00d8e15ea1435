/-
  Layer 6's statements: FateChooses.
-/
import Derived.Test.YtnaenokegomoeaaFtLawB
import Derived.Test.YtnaenokegomoeaaRefFtC
import Derived.Test.YtnaenokegomoeaaRefFtD
namespace Go.Proofs.Ytnaenokegomoeaa
set_option linter.unusedVariables false
set_option linter.unusedSimpArgs false
open Go.RowKit

theorem small_len {w : World} {a : Option Addr} {len cap : Nat} {xs : List Ac} (hA : Acts w a len cap xs) (n : Nat) (h : smallB xs 40 = true) : (madeD n xs).ws.length = 8 * n := madeD_len (fun x hx => by
  rw [(hA.2.2.2.1 x hx).2.2.2.2.2.1.1]
  unfold smallB at h
  have : xs.length ≤ 40 ∧ ∀ x ∈ xs, x.len ≤ 40 := by simpa using h
  exact this.2 x hx)

/-- a list of one's own as an argument. -/
theorem arg_of_own {w : World} {B : Nat} {T : TypeId} {v : Value} {L : List Int} (h : w.ownsRow B T 1 v L.length (L.map (Value.int .i64))) (hw : ∀ x ∈ L, (Lit.int .i64 x).wf = true) : ∃ a cap, v = .slice a L.length cap ∧ Arg .i64 w a L.length cap L ∧ (0 < L.length → ∀ x, a = some x → B ≤ x.block) := by
  rcases h.2 with ⟨hv, h0⟩ | ⟨g, cap, cur, hv, hB, hg, hle, hmax, hcs, htake⟩
  · have hL : L = [] := List.eq_nil_of_length_eq_zero h0
    subst hL
    exact ⟨none, 0, hv, ⟨Nat.le_refl _, Nat.zero_le _, ⟨rfl, .inl rfl⟩, hw, .inl rfl⟩, fun h => absurd h (by decide)⟩
  · obtain ⟨a', cap', hv', _, _, _, hrow⟩ := row_of_own h
    rw [hv] at hv'
    cases hv'
    exact ⟨_, cap, hv, ⟨hle, hmax, hrow, hw, .inr ⟨g, 0, rfl⟩⟩, fun _ x hx => by cases hx; exact hB⟩
theorem least_le (x : Pm.W) (v : Int) : Pm.least x v ≤ 2 := by
  unfold Pm.least
  split
  · omega
  · split <;> omega
theorem choices_wf (ws : List Pm.W) (L : List Int) : ∀ x ∈ Pm.choices ws L, (Lit.int .i64 x).wf = true := by
  induction ws generalizing L with
  | nil => intro x hx; cases hx
  | cons y r ih =>
    intro x hx
    unfold Pm.choices at hx
    split at hx
    · rcases List.mem_cons.1 hx with rfl | hx
      · have := least_le y (L.headD 0)
        exact wf_of_bd ⟨by omega, by omega⟩
      · exact ih _ x hx
    · exact ih _ x hx
/-- a crash with what is told leaves that image. -/
theorem crash_told {s : Pm.D} {zs : List Int} (hz : Nums.Bytes zs) (h : mayB s zs = true) : octs (Pm.lastL (Pm.crash s (choicesB s zs)).ws) = zs := by
  obtain ⟨h1, h2⟩ := mayB_true h
  have e : Pm.lastL (Pm.crash s (choicesB s zs)).ws = wordsTo zs s.ws.length := Pm.crash_choices h2
  rw [e]
  exact words_back hz h1

set_option maxRecDepth 100000 in
set_option maxHeartbeats 1000000 in
theorem chooses_great {w : World} (l : Nat) {a : Option Addr} {len cap : Nat} {ia : Option Addr} {il ic : Nat} (h : 300 < il) :
    Calls Try.prog 5 #[.int .u8 l, .slice a len cap, .slice ia il ic] w fun e w' => e = .returned (.bool true) ∧ Below w.heap.size w w' := by
  have HAW := hide (fun W => fawake_any W)
  have hI : (300 : Int) < (il : Int) := by omega
  go_enter Try.func5, Try.ntmps5
  go_wp2_with fail
  refine (HAW.out _).mono ?_
  rintro e w1 ⟨rfl, hb1⟩
  have HB1 := hide hb1
  clear hb1
  go_wp2_with fail
  refine (HAW.out _).mono ?_
  rintro e w2 ⟨rfl, hb2⟩
  have HB2 := hide (HB1.out.trans (hb2.mono HB1.out.size))
  clear hb2
  go_wp2_with fail
  go_ret
  exact ⟨rfl, HB2.out⟩

set_option maxRecDepth 100000 in
set_option maxHeartbeats 1000000 in
theorem chooses_nil {w : World} (l : Nat) (hl : l ≤ 255) {a : Option Addr} {len cap : Nat} {xs : List Ac} (hA : Acts w a len cap xs) {ia : Option Addr} {il ic : Nat} (h : il ≤ 300) (hs : smallB xs 40 = false) :
    Calls Try.prog 5 #[.int .u8 l, .slice a len cap, .slice ia il ic] w fun e w' => e = .returned (.bool true) ∧ Below w.heap.size w w' := by
  have HAW := hide (fun W => fawake_any W)
  have HA := hide hA
  have hI : ¬ (300 : Int) < (il : Int) := by omega
  clear hA
  go_enter Try.func5, Try.ntmps5
  go_wp2_with fail
  refine (HAW.out _).mono ?_
  rintro e w1 ⟨rfl, hb1⟩
  have HB1 := hide hb1
  clear hb1
  go_wp2_with fail
  refine (made_no l hl (HA.out.below HB1.out) hs).mono ?_
  rintro e w2 ⟨rfl, hb2⟩
  have HB2 := hide (HB1.out.trans (hb2.mono HB1.out.size))
  clear hb2
  go_wp2_with fail
  go_ret
  exact ⟨rfl, HB2.out⟩

set_option maxRecDepth 100000 in
set_option maxHeartbeats 4000000 in
theorem chooses_some {w : World} (l : Nat) (hl : l ≤ 255) {a : Option Addr} {len cap : Nat} {xs : List Ac} (hA : Acts w a len cap xs) {ia : Option Addr} {il ic : Nat} {zs : List Int} (hI : Arg .u8 w ia il ic zs) (h : il ≤ 300) (hs : smallB xs 40 = true) :
    Calls Try.prog 5 #[.int .u8 l, .slice a len cap, .slice ia il ic] w fun e w' => e = .returned (.bool true) ∧ Below w.heap.size w w' := by
  have HAW := hide (fun W => fawake_any W)
  have HA := hide hA
  have HI := hide hI
  have hIi : ¬ (300 : Int) < (il : Int) := by omega
  have HLN := hide (small_len hA (l % 4) hs)
  have hzl : zs.length = il := hI.2.2.1.1
  have HZL := hide hzl
  have HZB := hide hI.bytes
  clear hA hI hzl
  go_enter Try.func5, Try.ntmps5
  go_wp2_with fail
  refine (HAW.out _).mono ?_
  rintro e w1 ⟨rfl, hb1⟩
  have HB1 := hide hb1
  clear hb1
  go_wp2_with fail
  refine (made_yes l hl (HA.out.below HB1.out) hs).mono ?_
  rintro e w2 ⟨b, c, rfl, hbo, hb2⟩
  obtain ⟨s, hS⟩ : ∃ s, madeD (l % 4) xs = s := ⟨_, rfl⟩
  rw [hS] at hbo HLN
  have hs40 : s.ws.length ≤ 40000 := by have := HLN.out; omega
  have hs8 : s.ws.length % 8 = 0 := by have := HLN.out; omega
  have HB2 := hide (HB1.out.trans (hb2.mono HB1.out.size))
  obtain ⟨F, G, g0, g1, g2, g3, pa, pc, hP, hR, hF, hG, _⟩ := hbo
  have HP := hide hP
  have HR := hide hR
  have HF := hide hF
  clear hb2 hP hR hF hG hS
  go_wp2_with fail
  refine (fchoose_any HP.out hs40 hs8 (HI.out.below HB2.out) (by omega)).mono ?_
  rintro e w3 ⟨v, rfl, hno, hyes, hb3⟩
  have HNO := hide hno
  have HYES := hide hyes
  have HB23 := hide hb3
  have HB3 := hide (HB2.out.trans (hb3.mono HB2.out.size))
  have HP3 := hide (HP.out.kept hb3.size (fun k _ hk => hb3.block k hk))
  have HR3 := hide (HR.out.kept hb3.size (fun k _ hk => hb3.block k hk))
  have hcv := conv_bytes ic (HI.out.below HB3.out).2.2.1
  clear hno hyes hb3
  obtain ⟨T, hT⟩ : ∃ T, strOfNums zs = T := ⟨_, rfl⟩
  have HT := hide hT
  rw [hT] at hcv
  have HRC := hide (rchoose_any HR3.out hs40 (zs := zs) (by rw [HZL.out]; omega) HZB.out)
  rw [hT] at HRC
  clear hT
  cases hmay : mayB s zs with
  | false =>
    rw [hmay] at HNO HRC
    obtain rfl := HNO.out rfl
    have HMAY := hide (fun W (hb : Below w3.heap.size w3 W) => fmay_any (HP3.out.kept hb.size (fun k _ hk => hb.block k hk)) hs40 hs8 ((HI.out.below HB3.out).below hb) (by omega))
    rw [hmay] at HMAY
    go_wp2_with fail
    refine HRC.out.mono ?_
    rintro e w4 ⟨u, rfl, _, hb4⟩
    have HB4 := hide hb4
    clear hb4 hcv
    go_wp2_with fail
    refine (HMAY.out _ HB4.out).mono ?_
    rintro e w5 ⟨rfl, hb5⟩
    have HB5 := hide (HB3.out.trans ((HB4.out.trans (hb5.mono HB4.out.size)).mono HB3.out.size))
    clear hb5
    go_wp2_with fail
    go_ret
    exact ⟨rfl, HB5.out⟩
  | true =>
    rw [hmay] at HYES HRC
    have hown := HYES.out rfl
    obtain ⟨la, lc, rfl, harg, hlB⟩ := arg_of_own hown (choices_wf _ _)
    have HARG := hide harg
    have HLB := hide hlB
    have HMAY := hide (fun W (hb : Below w3.heap.size w3 W) => fmay_any (HP3.out.kept hb.size (fun k _ hk => hb.block k hk)) hs40 hs8 ((HI.out.below HB3.out).below hb) (by omega))
    rw [hmay] at HMAY
    have HTOLD := hide (crash_told HZB.out hmay)
    have HCL : Hid ((choicesB s zs).length ≤ 40000) := by
      show _ ≤ _
      unfold choicesB
      rw [Pm.choices_length s.ws _ 0]
      exact Nat.le_trans (fates_length s.ws 0) hs40
    have HCW : Hid ((Pm.crash s (choicesB s zs)).ws.length = s.ws.length) := by
      show _ = _
      exact Pm.crashW_length _ _
    clear hown harg hlB hmay
    generalize choicesB s zs = CH at *
    have hchl := HCL.out
    go_wp2_with fail
    refine HRC.out.mono ?_
    rintro e w4 ⟨u, rfl, hu, hb4⟩
    obtain ⟨ua, uc, rfl, _, _, _, hurow⟩ := row_of_own (hu (by first | rfl | trivial))
    have HUR := hide hurow
    have HB34 := hide hb4
    clear hu hb4 hcv hurow
    go_wp2_with fail
    refine (HMAY.out _ HB34.out).mono ?_
    rintro e w5 ⟨rfl, hb5⟩
    have HB35 := hide (HB34.out.trans (hb5.mono HB34.out.size))
    have HUR5 := hide (HUR.out.below hb5)
    clear hb5
    have HINTS := hide (fun c1 c2 => ints_same la ua CH.length c1 c2 CH w5 (by omega) (HARG.out.below HB35.out).2.2.1 HUR5.out)
    go_wp2_with fail
    refine (HINTS.out _ _).mono ?_
    rintro e w6 ⟨rfl, hb6⟩
    have HB36 := hide (HB35.out.trans (hb6.mono HB35.out.size))
    have HP6 := hide (HP3.out.kept HB36.out.size (fun k _ hk => HB36.out.block k hk))
    have HCR : Hid (Calls Try.prog 19 #[.pointer (some ⟨b, 0, none⟩), .slice la CH.length lc] w6 fun e w' => e = .returned (.tuple #[]) ∧ PNext w6 b (Pm.crash s CH) F w') := by
      refine pcrash_any HP6.out (fun k hk => ?_) hs40 (HARG.out.below HB36.out) hchl (fun hp x hx hf => ?_)
      · have h1 := (HF.out k hk).2
        have h2 := HB23.out.size
        have h3 := HB36.out.size
        omega
      · have h1 := (HF.out _ hf).2
        have h2 := HLB.out hp x hx
        omega
    clear hb6
    go_wp2_with fail
    refine HCR.out.mono ?_
    rintro e w7 ⟨rfl, F', hP7, _, _, hO7⟩
    have hB7 : Below w.heap.size w w7 := by
      have h1 : Below w.heap.size w w6 := HB3.out.trans (HB36.out.mono HB3.out.size)
      refine h1.trans (hO7.below (fun k hk => ?_) h1.size)
      have := (HF.out k hk).1
      have := HB1.out.size
      omega
    have HB7 := hide hB7
    have HIM := hide (fun W (hb : Below w7.heap.size w7 W) => pimage_any (hP7.kept hb.size (fun k _ hk => hb.block k hk)) (by rw [HCW.out]; exact hs40))
    rw [HTOLD.out, HCW.out] at HIM
    have HCI := hide (fun W (hb : Below w7.heap.size w7 W) => conv_bytes ic ((HI.out.below HB7.out).below hb).2.2.1)
    have HC0 := hide (fun W (a : Option Addr) (l cp : Nat) (h : Row .u8 W a l zs) => conv_bytes cp h)
    rw [HT.out] at HCI HC0
    have BD : Hid (Below w7.heap.size w7 w7.drew) := ⟨rfl, rfl, rfl, Nat.le_refl _, fun _ _ => rfl⟩
    have B0 : Hid (Below w7.heap.size w7 w7) := Below.refl _ _
    clear hP7 hO7 hB7
    generalize s.ws.length = N at *
    go_wp2_with fail
    go_region_held_law (fun w' => (convert 38 9 (.slice ia il ic)).run Try.prog w' = .ok (.string T) w')
      (first
        | exact HCI.out _ hb8
        | exact HCI.out _ BD.out
        | exact HCI.out _ B0.out)
      (first
        | (go_at_call 20; refine (HIM.out _ BD.out).mono ?_; rintro e w8 ⟨ax, cx, rfl, hcx, hrow8, hb8'⟩; have hb8 := BD.out.trans hb8'; have hcv8 := HC0.out w8 _ _ cx hrow8; clear hb8'))
    all_goals
      have HB8 := hide (HB7.out.trans (hb8.mono HB7.out.size))
      clear hb8 hrow8 hcv8
      go_wp2_with fail
      go_ret
      exact ⟨rfl, HB8.out⟩

theorem fatechooses_own {w : World} {n : Int} (hn : (Lit.int .u8 n).wf = true) {a : Option Addr} {len cap : Nat} {xs : List Ac} (hA : Acts w a len cap xs) {ia : Option Addr} {il ic : Nat} {zs : List Int} (hI : Arg .u8 w ia il ic zs) :
    Calls Try.prog 5 #[.int .u8 n, .slice a len cap, .slice ia il ic] w fun e w' => e = .returned (.bool true) ∧ Below w.heap.size w w' := by
  obtain ⟨h0, h1⟩ := bd_u8 hn
  obtain ⟨l, rfl⟩ : ∃ l : Nat, n = (l : Int) := ⟨n.toNat, by omega⟩
  by_cases h : 300 < il
  · exact chooses_great l h
  · cases hs : smallB xs 40 with
    | false => exact chooses_nil l (by omega) hA (by omega) hs
    | true => exact chooses_some l (by omega) hA hI (by omega) hs
end Go.Proofs.Ytnaenokegomoeaa
