/-
  The document's answers (layer 6): Choose; Ints (layer 1).
-/
import Derived.Test.YtnaenokegomoeaaFtD
import Derived.Test.YtnaenokegomoeaaRefText
import Derived.Test.YtnaenokegomoeaaClones
namespace Go.Proofs.Ytnaenokegomoeaa
set_option linter.unusedVariables false
set_option linter.unusedSimpArgs false
open Go.RowKit

/-- the least number from the back on, behind so many tries. -/
def bst (f : Pm.F) (z : Int) : Nat → Int
  | 0 => -1
  | d + 1 => if f.value (2 - (d : Int)) = z then 2 - (d : Int) else bst f z d
theorem bst_three (f : Pm.F) (z : Int) : bst f z 3 = if f.least z < 3 then (f.least z : Int) else -1 := by
  have e0 : f.value 0 = f.lasts := rfl
  have e1 : f.value 1 = if f.flushed = true then f.sent else f.lasts := by
    unfold Pm.F.value
    cases f.flushed <;> rfl
  have e2 : f.value 2 = f.stored := rfl
  show (if f.value 0 = z then (0 : Int) else if f.value 1 = z then 1 else if f.value 2 = z then 2 else -1) = _
  rw [e0, e1, e2]
  unfold Pm.F.least
  by_cases h0 : z = f.lasts
  · rw [if_pos h0.symm, if_pos h0]
    rfl
  · rw [if_neg (Ne.symm h0), if_neg h0]
    cases hf : f.flushed
    · have e3 : (if false = true then f.sent else f.lasts) = f.lasts := rfl
      rw [e3, if_neg (Ne.symm h0), if_neg (show ¬ (false = true ∧ z = f.sent) from fun h => by cases h.1)]
      by_cases h2 : z = f.stored
      · rw [if_pos h2.symm, if_pos h2]
        rfl
      · rw [if_neg (Ne.symm h2), if_neg h2]
        rfl
    · have e3 : (if true = true then f.sent else f.lasts) = f.sent := rfl
      rw [e3]
      by_cases h1 : z = f.sent
      · rw [if_pos h1.symm, if_pos (show true = true ∧ z = f.sent from ⟨rfl, h1⟩)]
        rfl
      · rw [if_neg (Ne.symm h1), if_neg (show ¬ (true = true ∧ z = f.sent) from fun h => h1 h.2)]
        by_cases h2 : z = f.stored
        · rw [if_pos h2.symm, if_pos h2]
          rfl
        · rw [if_neg (Ne.symm h2), if_neg h2]
          rfl
theorem bst_range (f : Pm.F) (z : Int) (d : Nat) (h : d ≤ 3) : -1 ≤ bst f z d ∧ bst f z d ≤ 2 := by
  induction d with
  | zero => unfold bst; omega
  | succ d ih =>
    unfold bst
    split
    · omega
    · exact ih (by omega)
/-- the words behind so many tries. -/
def tried (cur : List Int) (fa : Nat) (f : Pm.F) (z : Int) (d : Nat) : List Int := if bst f z d < 0 then cur else cur.set fa z
theorem tried_length (cur : List Int) (fa : Nat) (f : Pm.F) (z : Int) (d : Nat) : (tried cur fa f z d).length = cur.length := by
  unfold tried
  split <;> simp
theorem tried_yes {cur : List Int} {fa : Nat} {f : Pm.F} {z : Int} {d : Nat} (hd : d < 3) (h : f.value (2 - (d : Int)) = z) : bst f z (d + 1) = 2 - (d : Int) ∧ (tried cur fa f z d).set fa z = tried cur fa f z (d + 1) := by
  have e : bst f z (d + 1) = 2 - (d : Int) := if_pos h
  refine ⟨e, ?_⟩
  unfold tried
  rw [e, if_neg (show ¬ (2 - (d : Int)) < 0 by omega)]
  split
  · rfl
  · rw [List.set_set]
theorem tried_no {cur : List Int} {fa : Nat} {f : Pm.F} {z : Int} {d : Nat} (h : ¬ f.value (2 - (d : Int)) = z) : bst f z (d + 1) = bst f z d ∧ tried cur fa f z (d + 1) = tried cur fa f z d := by
  have e : bst f z (d + 1) = bst f z d := if_neg h
  refine ⟨e, ?_⟩
  unfold tried
  rw [e]
theorem lay8_inj {x y : Int} (hx : 0 ≤ x ∧ x ≤ 18446744073709551615) (hy : 0 ≤ y ∧ y ≤ 18446744073709551615) (h : Nums.lay x 8 = Nums.lay y 8) : x = y := by
  rw [← rd_lay8 hx.1 hx.2, ← rd_lay8 hy.1 hy.2, h]
theorem octs_one (x : Int) : octs [x] = Nums.lay x 8 := by simp [octs]
theorem words_back {zs : List Int} (hz : Nums.Bytes zs) {n : Nat} (h : zs.length = 8 * n) : octs (wordsTo zs n) = zs := by
  have := oct_words zs hz n (by omega)
  rw [List.take_of_length_le (by omega)] at this
  exact this

set_option maxRecDepth 100000 in
set_option maxHeartbeats 1000000 in
theorem rchoose_short {w : World} {b : Nat} {s : Pm.D} {F : Nat → Prop} {g0 g1 g2 g3 : Nat} {pa : Option Addr} {pc : Nat} (h : RDev w b s F g0 g1 g2 g3 pa pc) (hm : s.ws.length ≤ 40000) {zs : List Int} (hl : zs.length ≤ 400000) (hne : ¬ zs.length = 8 * s.ws.length) :
    Calls Try.prog 16 #[.pointer (some ⟨b, 0, none⟩), .string (strOfNums zs)] w fun e w' => e = .returned (.tuple #[.slice none 0 0, .bool false]) ∧ Below w.heap.size w w' := by
  have f0 := h.fields.1
  clear h
  have hsz := size_str zs
  generalize strOfNums zs = T at *
  obtain ⟨n, hn⟩ : ∃ n, zs.length = n := ⟨_, rfl⟩
  rw [hn] at hsz hl hne
  generalize s.ws.length = N at *
  have hnn : ¬ (n : Int) = 8 * (N : Int) := by omega
  clear hn hne
  go_enter Try.func16, Try.ntmps16
  go_wp2_with fail
  go_ret2
  exact ⟨rfl, Below.refl _ _⟩

set_option maxRecDepth 100000 in
set_option maxHeartbeats 8000000 in
theorem rchoose_long {w : World} {b : Nat} {s : Pm.D} {F : Nat → Prop} {g0 g1 g2 g3 : Nat} {pa : Option Addr} {pc : Nat} (h : RDev w b s F g0 g1 g2 g3 pa pc) (hm : s.ws.length ≤ 40000) {L : List Int} (hL : L.length = s.ws.length) (hbd : ∀ v ∈ L, 0 ≤ v ∧ v ≤ 18446744073709551615) :
    Calls Try.prog 16 #[.pointer (some ⟨b, 0, none⟩), .string (strOfNums (octs L))] w fun e w' => ∃ v, e = .returned (.tuple #[v, .bool (decide (L ∈ Pm.images s.ws))]) ∧ (L ∈ Pm.images s.ws → w'.ownsRow w.heap.size 3 1 v (chosen s L (Pm.fates s).length).length ((chosen s L (Pm.fates s).length).map (Value.int .i64))) ∧ Below w.heap.size w w' := by
  obtain ⟨i0, hi, hz0, hz1, hz2⟩ := info_parts info_int64
  have f0 := h.fields.1
  have HD := hide h
  have HLL := hide hL
  have HBD := hide hbd
  have HIFF := hide (Pm.may_iff (ws := s.ws) (L := L) hL)
  have hsz := size_str (octs L)
  rw [octs_length, hL] at hsz
  obtain ⟨T, hT⟩ : ∃ T, strOfNums (octs L) = T := ⟨_, rfl⟩
  rw [hT] at hsz ⊢
  have HT := hide hT
  obtain ⟨N, hN⟩ : ∃ N, s.ws.length = N := ⟨_, rfl⟩
  have HN := hide hN
  have HA : Hid (Arg .u64 w (some ⟨g0, 0, none⟩) N N (Pm.lastL s.ws)) := ⟨Nat.le_refl _, by unfold maxLen; omega, row_of_block h.c0 (by rw [lastL_len, hN]), wf_last h.ok, .inr ⟨g0, 0, rfl⟩⟩
  rw [hN] at hsz f0 hm
  have hszI : (T.size : Int) = 8 * (N : Int) := by omega
  have hbw : b < w.heap.size := heap_lt h.dev
  have HSZ := hide hsz
  clear h hL hbd hT hN hsz
  go_enter Try.func16, Try.ntmps16
  go_wp2_with (at_builtin; refine wpList_clone_u64 rfl _ _ rfl w.heap.size rfl ?q1 w.heap.size w ?q2 (Nat.le_refl _) (some ⟨g0, 0, none⟩) N N (Pm.lastL s.ws) rfl ?q3 (by omega) ?_)
  case q1 => exact heap_alloc_new _ _
  case q2 => exact (Below.refl _ _).alloc (Nat.le_refl _) _
  case q3 => exact HA.out.below ((Below.refl _ _).alloc (Nat.le_refl _) _)
  intro gl cap' tail w1 hb1 hBg hg hle hmax
  have HB1 := hide hb1
  have HG1 : Hid (w1.heap[gl]? = some (.cells (blkT (Pm.lastL s.ws) tail) 22 (0, 0))) := hg
  have HD1 := hide (HD.out.kept hb1.size (fun k _ hk => hb1.block k hk))
  have HGL := hide hBg
  clear hb1 hg hBg f0
  go_wp2_with fail
  refine (rfates_any HD1.out (by rw [HN.out]; exact hm)).mono ?_
  rintro e w4 ⟨v, rfl, hown, hb4⟩
  have HOW := hide hown
  have HB4 := hide (HB1.out.trans (hb4.mono HB1.out.size))
  have HK4 := hide ((hb4.block gl (heap_lt HG1.out)).trans HG1.out)
  have hl3 := heap_lt HG1.out
  have HOK := hide (fate_ok HD.out.ok.ws 0)
  have HLB : Hid (∀ v ∈ Pm.lastL s.ws, 0 ≤ v ∧ v ≤ 18446744073709551615) := fun v hv => bd_u64 (wf_last HD.out.ok v hv)
  clear hown hb4 HG1 HB1 HD1 HD
  obtain ⟨xa, cp, rfl⟩ := own_len HOW.out
  have HFL := hide (fates_length s.ws 0)
  have HFLb : Hid ((Pm.fates s).length ≤ 40000) := Nat.le_trans HFL.out (by rw [HN.out]; exact hm)
  have hflb := HFLb.out
  generalize hnf : (Pm.fates s).length = nf at hflb ⊢
  have HNF := hide hnf
  clear hnf HFLb HFL
  go_wp2_with fail
  go_loopw [8, 9] (fun v i wr => ∃ k : Nat, k ≤ nf ∧ i = .int .i64 k ∧ wr.ownsRow w4.heap.size 3 1 v k ((chosen s L k).map (Value.int .i64)) ∧ (∀ f ∈ (Pm.fates s).take k, f.least (L.getD f.at' 0) < 3) ∧ wr.heap[gl]? = some (.cells (blkT (Pm.copied L ((Pm.fates s).take k) (Pm.lastL s.ws)) tail) 22 (0, 0)) ∧ Only (fun j => j = gl) w4 wr) (fun _ i _ => nf - (intOf i).toNat)
  case atStart => exact ⟨0, Nat.zero_le _, rfl, ⟨rfl, .inl ⟨rfl, rfl⟩⟩, fun f hf => by simp at hf, HK4.out, Only.refl _ _⟩
  case round =>
    obtain ⟨k, hk, rfl, hown, hall, hkl, ho⟩ := hrel
    have HO := hide hown
    have HALL := hide hall
    have HKL := hide hkl
    have HON := hide ho
    clear hown hall hkl ho
    have hsz4 := HON.out.size
    have hgl4 := heap_lt HK4.out
    by_cases hlt : k < nf
    · have hkn : (k : Int) < (nf : Int) := by omega
      obtain ⟨f, hf⟩ : ∃ f, (Pm.fates s)[k]? = some f := ⟨_, List.getElem?_eq_getElem (by rw [HNF.out]; exact hlt)⟩
      obtain ⟨gg, cpp, hxa, hcp, hgB, hggw, hcells⟩ := fates_row HOW.out (by rw [HNF.out]; omega)
      cases hxa
      obtain ⟨q0, q1, q2, q3, q4⟩ := hcells k f hf
      have hgg : gg ≠ gl := by omega
      have hfm := List.mem_of_getElem? hf
      have hfa : f.at' < N := by
        obtain ⟨j, x, hx, _, rfl⟩ := Pm.mem_fates.1 hfm
        have := (List.getElem?_eq_some_iff.1 hx).1
        rw [HN.out] at this
        show 0 + j < N
        omega
      have HCS := hide (chosen_step (L := L) hf)
      have HCO := hide (copied_step L (Pm.lastL s.ws) hf)
      have HAL : Hid (f.least (L.getD f.at' 0) < 3 → ∀ g ∈ (Pm.fates s).take (k + 1), g.least (L.getD g.at' 0) < 3) := fun h3 g hg => by
        rw [List.take_add_one, hf] at hg
        rcases List.mem_append.1 hg with hg | hg
        · exact HALL.out g hg
        · have : g = f := by simpa using hg
          rw [this]
          exact h3
      have HNO : Hid (¬ f.least (L.getD f.at' 0) < 3 → decide (L ∈ Pm.images s.ws) = false) := fun h3 => decide_eq_false fun hm => h3 ((HIFF.out.1 hm).1 f hfm)
      have HB3 := hide (bst_three f (L.getD f.at' 0))
      obtain ⟨o0, o1, o2⟩ := HOK.out f hfm
      have HVB : Hid (∀ n, 0 ≤ f.value n ∧ f.value n ≤ 18446744073709551615) := fun n => by
        unfold Pm.F.value
        split
        · exact bd_u64 o2
        · split
          · exact bd_u64 o1
          · exact bd_u64 o0
      have HZB : Hid (0 ≤ L.getD f.at' 0 ∧ L.getD f.at' 0 ≤ 18446744073709551615) := by
        refine HBD.out _ ?_
        rw [List.getD_eq_getElem?_getD, List.getElem?_eq_getElem (by rw [HLL.out, HN.out]; exact hfa)]
        exact List.getElem_mem _
      have HEX : Hid (T.extract (8 * f.at') (8 * f.at' + 8) = strOfNums (Nums.lay (L.getD f.at' 0) 8)) := by
        show _ = _
        rw [← HT.out, str_cut, show 8 * f.at' + 8 - 8 * f.at' = 8 by omega, octs_at (by rw [HLL.out, HN.out]; exact hfa)]
      have HVA := hide (fun (n : Int) (hn : (Lit.int .i64 n).wf = true) W => rvalue_any f n W hn)
      obtain ⟨cur, hcur⟩ : ∃ cur, Pm.copied L ((Pm.fates s).take k) (Pm.lastL s.ws) = cur := ⟨_, rfl⟩
      have HCL : Hid (cur.length = N) := by rw [← hcur]; show _ = _; rw [Pm.copied_length, lastL_len, HN.out]
      rw [hcur] at HKL HCO
      clear hf hfm hcur
      generalize hzz : L.getD f.at' 0 = z at *
      obtain ⟨m, hmm⟩ : ∃ m, f.least z = m := ⟨_, rfl⟩
      rw [hmm] at HCS HAL HNO HB3
      clear hmm hzz o0 o1 o2
      obtain ⟨fa, hfa'⟩ : ∃ fa, f.at' = fa := ⟨_, rfl⟩
      rw [hfa'] at q0 hfa HCO HEX
      have HGGW := hide hggw
      have hgn : gg < wr.heap.size := by omega
      obtain ⟨wo, hwo⟩ : ∃ wo, wo = wr := ⟨_, rfl⟩
      subst hwo
      go_wp2_with fail
      go_loopw [10, 11] (fun kk nn wx => ∃ d : Nat, d ≤ 3 ∧ nn = .int .i64 (2 - (d : Int)) ∧ kk = .int .i64 (bst f z d) ∧ wx.heap[gl]? = some (.cells (blkT (tried cur fa f z d) tail) 22 (0, 0)) ∧ Only (fun j => j = gl) wo wx) (fun _ nn _ => (intOf nn + 1).toNat)
      case atStart => exact ⟨0, by omega, rfl, rfl, HKL.out, Only.refl _ _⟩
      case round =>
        obtain ⟨d, hd, rfl, rfl, hkx, hox⟩ := hrel
        have HKX := hide hkx
        have HOX := hide hox
        have hszx := hox.size
        clear hkx hox
        by_cases hd3 : d < 3
        · have hd0 : (0 : Int) ≤ 2 - (d : Int) := by omega
          have hgg4 : gg < w4.heap.size := HGGW.out
          have hOO := HON.out.trans HOX.out
          have r0 := (hOO.cell (p := ⟨gg, k * 5, none⟩) hgg4 hgg).trans q0
          have r1 := (hOO.cell (p := ⟨gg, k * 5 + 1, none⟩) hgg4 hgg).trans q1
          have r2 := (hOO.cell (p := ⟨gg, k * 5 + 2, none⟩) hgg4 hgg).trans q2
          have r3 := (hOO.cell (p := ⟨gg, k * 5 + 3, none⟩) hgg4 hgg).trans q3
          have r4 := (hOO.cell (p := ⟨gg, k * 5 + 4, none⟩) hgg4 hgg).trans q4
          have HVN := hide (fun W => HVA.out (2 - (d : Int)) (wf_of_bd ⟨by omega, by omega⟩) W)
          have hVF : fateV f = [.int .i64 fa, .int .u64 f.lasts, .bool f.flushed, .int .u64 f.sent, .int .u64 f.stored] := by rw [← hfa']; rfl
          rw [hVF] at HVN
          clear hOO hVF
          have hbs := bst_range f z d hd
          obtain ⟨nn, hnn⟩ : ∃ nn : Int, 2 - (d : Int) = nn := ⟨_, rfl⟩
          have HNN := hide hnn
          rw [hnn] at HVN hd0 ⊢
          have hnb : nn ≤ 2 := by omega
          obtain ⟨y, hy⟩ : ∃ y, f.value nn = y := ⟨_, rfl⟩
          rw [hy] at HVN
          have HY := hide hy
          have HYB : Hid (0 ≤ y ∧ y ≤ 18446744073709551615) := by rw [← hy]; exact HVB.out nn
          clear hnn hy
          generalize hkb : bst f z d = kb at hbs ⊢
          have HKB := hide hkb
          clear hkb
          go_wp2_with fail
          refine (HVN.out _).mono ?_
          rintro e w5 ⟨rfl, hb5⟩
          have p0 := (hb5.cell (p := ⟨gg, k * 5, none⟩) (by simp only; omega)).trans r0
          have hgn5 : gg < w5.heap.size := Nat.lt_of_lt_of_le (by omega) hb5.size
          have HK5 := hide ((hb5.block gl (by omega)).trans HKX.out)
          have HO5 := hide (HOX.out.trans (Only.of_below hb5))
          have hs5 := hb5.size
          clear r0 r1 r2 r3 r4 hb5
          have HTX : Hid (Calls Try.prog 11 #[.slice (some ⟨w5.heap.size, 0, none⟩) 1 1] (w5.alloc (.cells #[.int .u64 y] 22)).drew fun e w' => e = .returned (.string (strOfNums (Nums.lay y 8))) ∧ Below w5.heap.size w5 w') := by
            have hrow : Row .u64 (w5.alloc (.cells #[.int .u64 y] 22)).drew (some ⟨w5.heap.size, 0, none⟩) 1 [y] := row_of_block (zs := [y]) (heap_alloc_new w5 (.cells (blk .u64 [y]) 22)) rfl
            have := rtext_any (cap := 1) hrow (fun v hv => by rw [List.mem_singleton.1 hv]; exact HYB.out) (by omega)
            rw [octs_one] at this
            refine this.mono ?_
            rintro e w' ⟨rfl, hb⟩
            exact ⟨rfl, ((Below.refl w5.heap.size w5).alloc (Nat.le_refl _) _).drew.trans (hb.mono (by simp))⟩
          have hfaI : 8 * (fa : Int) + 8 ≤ 8 * (N : Int) := by omega
          have hw1 : IntKind.i64.wrap (8 * (fa : Int)) = 8 * (fa : Int) := by rw [IntKind.wrap_i64]; omega
          have hw2 : IntKind.i64.wrap (8 * (fa : Int) + 8) = 8 * (fa : Int) + 8 := by rw [IntKind.wrap_i64]; omega
          have hn1 : (8 * (fa : Int)).toNat = 8 * fa := by omega
          have hn2 : (8 * (fa : Int) + 8).toNat = 8 * fa + 8 := by omega
          have hp1 : (0 : Int) ≤ 8 * (fa : Int) := by omega
          have hp2 : (0 : Int) ≤ 8 * (fa : Int) + 8 := by omega
          have hp3 : 8 * (fa : Int) ≤ 8 * (fa : Int) + 8 := by omega
          obtain ⟨Xz, hXz⟩ : ∃ Xz, T.extract (8 * fa) (8 * fa + 8) = Xz := ⟨_, rfl⟩
          have HXZ := hide (HEX.out.symm.trans hXz)
          obtain ⟨X, hX⟩ : ∃ X, strOfNums (Nums.lay y 8) = X := ⟨_, rfl⟩
          rw [hX] at HTX
          by_cases hyz : y = z
          · have hXX : X = Xz := by rw [← hX, ← HXZ.out, hyz]
            subst hXX
            clear hX
            subst hyz
            go_wp2_with fail
            go_region_held3 (fun w' => w'.cell? ⟨gg, k * 5, none⟩ = some (.int .i64 fa))
              (first
                | go_keep
                | exact (hb6.cell hgn5).trans p0)
              (first
                | (go_at_call 11; refine HTX.out.mono ?_; rintro e w6 ⟨rfl, hb6⟩))
            have p6 := (hb6.cell (p := ⟨gg, k * 5, none⟩) hgn5).trans p0
            have HK6 := hide ((hb6.block gl (by omega)).trans HK5.out)
            have HO6 := hide (HO5.out.trans (Only.of_below hb6))
            obtain ⟨c6, z6⟩ := cell_blkT HK6.out (i := fa) (by rw [tried_length, HCL.out]; exact hfa)
            have hgn6 : gg < w6.heap.size := Nat.lt_of_lt_of_le hgn5 hb6.size
            have HVAL := hide (tried_yes (cur := cur) (fa := fa) hd3 (show f.value (2 - (d : Int)) = y by rw [HNN.out]; exact HY.out))
            have HEND : Hid ((w6.setCell ⟨gl, fa, none⟩ (.int .u64 y)).heap[gl]? = some (.cells (blkT (tried cur fa f y (d + 1)) tail) 22 (0, 0)) ∧ Only (fun j => j = gl) wo (w6.setCell ⟨gl, fa, none⟩ (.int .u64 y))) := by
              refine ⟨?_, HO6.out.setCell (p := ⟨gl, fa, none⟩) rfl _⟩
              rw [heap_set HK6.out, blkT_set _ _ _ _ (by rw [tried_length, HCL.out]; exact hfa), HVAL.out.2]
            generalize (tried cur fa f y d).getD fa 0 = y0 at c6
            have hfin : (fa : Int) < (N : Int) := by omega
            clear p0 hb6
            go_wp2_with fail
            go_roundw
            case rel => exact ⟨d + 1, by omega, by have := HNN.out; go_num, by rw [HVAL.out.1, HNN.out], HEND.out.1, HEND.out.2⟩
            case measure => have := HNN.out; simp [intOf]; omega
          · have hXX : ¬ X = Xz := fun e => hyz (by
              rw [← hX, ← HXZ.out] at e
              exact lay8_inj HYB.out HZB.out (str_inj (Nums.bytes_lay _ _) (Nums.bytes_lay _ _) e))
            have hbeq := str_ne hXX
            have HVAL := hide (tried_no (cur := cur) (fa := fa) (show ¬ f.value (2 - (d : Int)) = z by rw [HNN.out, HY.out]; exact hyz))
            clear hX
            go_wp2_with fail
            go_region_held3 (fun w' => w'.cell? ⟨gg, k * 5, none⟩ = some (.int .i64 fa))
              (first
                | go_keep
                | exact (hb6.cell hgn5).trans p0)
              (first
                | (go_at_call 11; refine HTX.out.mono ?_; rintro e w6 ⟨rfl, hb6⟩))
            have HK6 := hide ((hb6.block gl (by omega)).trans HK5.out)
            have HO6 := hide (HO5.out.trans (Only.of_below hb6))
            clear p0 hb6
            go_wp2_with fail
            go_roundw
            case rel => exact ⟨d + 1, by omega, by have := HNN.out; go_num, by rw [HVAL.out.1, HKB.out], by rw [HVAL.out.2]; exact HK6.out, HO6.out⟩
            case measure => have := HNN.out; simp [intOf]; omega
        · obtain rfl : d = 3 := by omega
          have hd0 : ¬ (0 : Int) ≤ 2 - ((3 : Nat) : Int) := by omega
          rw [HB3.out]
          by_cases hm3 : m < 3
          · have HTR : Hid (tried cur fa f z 3 = Pm.copied L ((Pm.fates s).take (k + 1)) (Pm.lastL s.ws)) := by
              show _ = _
              unfold tried
              rw [HB3.out, if_pos hm3, if_neg (by omega), HCO.out]
            have hmI : ¬ (m : Int) < 0 := by omega
            have hmB : (m : Int) ≤ 2 := by omega
            rw [if_pos hm3]
            have HOX' : Hid (Only (fun j => j = gl) w4 wr) := HON.out.trans HOX.out
            have HOW5 : Hid (wr.ownsRow w4.heap.size 3 1 u8 k ((chosen s L k).map (Value.int .i64))) := by
              refine ⟨HO.out.1, ?_⟩
              rcases HO.out.2 with q | ⟨g, cap, cu, q1, q2, q3, q4⟩
              · exact .inl q
              · exact .inr ⟨g, cap, cu, q1, q2, (HOX.out.block g (heap_lt q3) (by omega)).trans q3, q4⟩
            go_wp2_with (at_builtin; refine wpList_append_own _ rfl _ _ 39 rfl w4.heap.size 3 i0 _ 1 8 Try.underlying39 hi hz0 hz1 hz2 rfl (by decide) u8 k ((chosen s L k).map (Value.int .i64)) rfl (HOW5.out.alloc _) ⟨wr.heap.size, 0, none⟩ 1 1 [.int .i64 m] rfl rfl (cell_one_new _ _ _) (by simp [Value.oneCell']) (by unfold maxLen; omega) (by omega) (by simp; omega) ?_; intro v' w6 hown6 hgrow hiff)
            have HK6 : Hid (w6.heap[gl]? = some (.cells (blkT (Pm.copied L ((Pm.fates s).take (k + 1)) (Pm.lastL s.ws)) tail) 22 (0, 0))) := by
              show _ = _
              have e : (wr.alloc (.cells #[.int .i64 m] 3)).heap[gl]? = wr.heap[gl]? := Below.heap_alloc _ _ _ (by omega)
              rw [hgrow.block gl (by simp; omega) (fun e' => by have := (HOW5.out.lt gl e'.symm).1; omega), e, ← HTR.out]
              exact HKX.out
            have HO6 : Hid (Only (fun j => j = gl) w4 w6) := (HOX'.out.alloc _).grownNew hgrow (fun q hq => (HOW5.out.lt q hq).1)
            have HON6 := hide hown6
            clear hown6 hgrow hiff
            go_wp2_with fail
            go_roundw
            case rel => exact ⟨k + 1, by omega, by go_num, by rw [HCS.out, List.map_append]; exact HON6.out, HAL.out hm3, HK6.out, HO6.out⟩
            case measure => simp [intOf]; omega
          · have HR := hide (HNO.out hm3)
            have HBR : Hid (Below w.heap.size w wr) := HB4.out.trans ((HON.out.trans HOX.out).below (fun j hj => by rw [hj]; exact HGL.out) HB4.out.size)
            rw [if_neg hm3]
            go_wp2_with fail
            go_ret2
            exact ⟨_, by rw [HR.out]; rfl, fun h => absurd (decide_eq_true h) (by rw [HR.out]; decide), HBR.out⟩
    · have hkn : ¬ (k : Int) < (nf : Int) := by omega
      obtain rfl : k = nf := by omega
      have HE : Hid ((Pm.fates s).take k = Pm.fates s) := List.take_of_length_le (by rw [HNF.out]; exact Nat.le_refl _)
      rw [HE.out] at HALL HKL
      have hbr : Below w.heap.size w wr := HB4.out.trans (HON.out.below (fun j hj => by rw [hj]; exact HGL.out) HB4.out.size)
      have HBR := hide hbr
      obtain ⟨cur, hcur⟩ : ∃ cur, Pm.copied L (Pm.fates s) (Pm.lastL s.ws) = cur := ⟨_, rfl⟩
      have HIFF2 := hide HIFF.out
      rw [show Pm.fatesFrom 0 s.ws = Pm.fates s from rfl, hcur] at HIFF2
      rw [hcur] at HKL
      have hcl : cur.length = N := by rw [← hcur, Pm.copied_length, lastL_len, HN.out]
      have hcb : ∀ v ∈ cur, 0 ≤ v ∧ v ≤ 18446744073709551615 := fun v hv => by
        rw [← hcur] at hv
        obtain ⟨j, hj⟩ := List.getElem?_of_mem hv
        have hjl : j < (Pm.lastL s.ws).length := by
          have := (List.getElem?_eq_some_iff.1 hj).1
          rw [Pm.copied_length] at this
          exact this
        rcases Pm.copied_at L (Pm.fates s) (Pm.lastL s.ws) j with e | ⟨_, e⟩
        · rw [hj] at e
          exact HLB.out v (List.mem_of_getElem? e.symm)
        · have e' := e hjl
          rw [hj] at e'
          rw [Option.some.inj e']
          refine HBD.out _ ?_
          rw [lastL_len] at hjl
          rw [List.getD_eq_getElem?_getD, List.getElem?_eq_getElem (by rw [HLL.out]; exact hjl)]
          exact List.getElem_mem _
      have HTX := hide (fun (c : Nat) => rtext_any (w := wr) (cap := c) (row_append (tail := tail) HKL.out hcl) hcb (by omega))
      obtain ⟨X, hX⟩ : ∃ X, strOfNums (octs cur) = X := ⟨_, rfl⟩
      rw [hX] at HTX
      by_cases heq : cur = L
      · have hXT : X = T := by rw [← hX, heq, HT.out]
        have hmem : L ∈ Pm.images s.ws := HIFF2.out.2 ⟨HALL.out, heq⟩
        have HD : Hid (decide (L ∈ Pm.images s.ws) = true) := decide_eq_true hmem
        subst hXT
        clear hX heq hmem hcl hcb hbr
        go_wp2_with fail
        refine (HTX.out _).mono ?_
        rintro e w6 ⟨rfl, hb6⟩
        have HB6 := hide hb6
        clear hb6
        go_wp2_with fail
        go_ret2
        refine ⟨u8, by rw [HD.out]; rfl, fun _ => ?_, HBR.out.trans (HB6.out.mono HBR.out.size)⟩
        rw [chosen_length (Nat.le_refl _), HNF.out]
        exact own_base (own_kept HO.out HB6.out) HB4.out.size
      · have hXT : ¬ X = T := fun e => heq (by
          rw [← hX, ← HT.out] at e
          have e2 := str_inj (octs_bytes _) (octs_bytes _) e
          have e3 := words_oct cur (fun v hv => wf_u64 (hcb v hv).1 (hcb v hv).2)
          have e4 := words_oct L (fun v hv => wf_u64 (HBD.out v hv).1 (HBD.out v hv).2)
          rw [octTo_all] at e3 e4
          have hll : L.length = cur.length := by rw [hcl, HLL.out, HN.out]
          rw [← e3, ← e4, hll]
          show wordsTo (octs cur) _ = wordsTo (octs L) _
          rw [e2])
        have hbeq := str_ne hXT
        have HD : Hid (decide (L ∈ Pm.images s.ws) = false) := decide_eq_false fun hm => heq (HIFF2.out.1 hm).2
        clear hX heq hcl hcb hbr
        go_wp2_with fail
        refine (HTX.out _).mono ?_
        rintro e w6 ⟨rfl, hb6⟩
        have HB6 := hide hb6
        clear hb6
        go_wp2_with fail
        go_ret2
        exact ⟨_, by rw [HD.out]; rfl, fun h => absurd (decide_eq_true h) (by rw [HD.out]; decide), HBR.out.trans (HB6.out.mono HBR.out.size)⟩

theorem rchoose_any {w : World} {b : Nat} {s : Pm.D} {F : Nat → Prop} {g0 g1 g2 g3 : Nat} {pa : Option Addr} {pc : Nat} (h : RDev w b s F g0 g1 g2 g3 pa pc) (hm : s.ws.length ≤ 40000) {zs : List Int} (hl : zs.length ≤ 400000) (hz : Nums.Bytes zs) :
    Calls Try.prog 16 #[.pointer (some ⟨b, 0, none⟩), .string (strOfNums zs)] w fun e w' => ∃ v, e = .returned (.tuple #[v, .bool (mayB s zs)]) ∧ (mayB s zs = true → w'.ownsRow w.heap.size 3 1 v (choicesB s zs).length ((choicesB s zs).map (Value.int .i64))) ∧ Below w.heap.size w w' := by
  by_cases hlen : zs.length = 8 * s.ws.length
  · have e := words_back hz hlen
    have hll := length_wordsTo zs s.ws.length
    have hbd : ∀ v ∈ wordsTo zs s.ws.length, 0 ≤ v ∧ v ≤ 18446744073709551615 := fun v hv => bd_u64 (wf_words zs hz _ v hv)
    have hr := rchoose_long h hm hll hbd
    rw [e] at hr
    have hmay : mayB s zs = decide (wordsTo zs s.ws.length ∈ Pm.images s.ws) := by
      unfold mayB
      exact decide_eq_decide.2 ⟨fun h => h.2, fun h => ⟨hlen, h⟩⟩
    rw [hmay]
    refine hr.mono ?_
    rintro e w' ⟨v, rfl, h1, h2⟩
    refine ⟨v, rfl, fun ht => ?_, h2⟩
    have hmem : wordsTo zs s.ws.length ∈ Pm.images s.ws := of_decide_eq_true ht
    have hc : choicesB s zs = chosen s (wordsTo zs s.ws.length) (Pm.fates s).length := by
      unfold choicesB chosen
      rw [List.take_length]
      exact Pm.choices_fates hmem
    rw [hc]
    exact h1 hmem
  · refine (rchoose_short h hm hl hlen).mono ?_
    rintro e w' ⟨rfl, hb⟩
    have hn : mayB s zs = false := by
      unfold mayB
      exact decide_eq_false fun q => hlen q.1
    exact ⟨_, by rw [hn], fun q => (by rw [hn] at q; cases q), hb⟩
end Go.Proofs.Ytnaenokegomoeaa
