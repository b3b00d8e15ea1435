/-
  The document's answers (layer 13): Get.
-/
import Derived.Test.YtmildaofmgeceaaRefSpC
import Derived.Test.YtmildaofmgeceaaRefBkB
import Derived.Test.YtmildaofmgeceaaRefNdC
import Derived.Test.YtmildaofmgeceaaOwnMore
import Derived.Laws.ResultCell
import Derived.Laws.Tables
import Derived.Deep.AppendLies
namespace Go.Proofs.Ytmildaofmgeceaa
set_option linter.unusedVariables false
set_option linter.unusedSimpArgs false
open Go.RowKit

theorem sp_step_call1 {P : Program} {ops : Array Oper} {o : Oper} {a : Act} {w : World} {K : Act → World → Prop} {Q : Exit → Act → World → Prop} {E : Prop}
    (hgd : o.guard = none) (f : FuncId) (hcf : ∀ args w, (callFunc f args).run P w = .ok (.enter f args) w) (x : Operand) (tys : Array TypeId) (hop : o.op = .call { callee := .value (.func f), args := #[x], argTypes := tys })
    (u : Value) (hx : a.eval x = u) {R : Ending → World → Prop} (hc : Calls P f #[u] w R)
    (h : ∀ e w', R e w' → ∃ v, e = .returned v ∧ K (a.put o.dst v) w') :
    if Region.wanted o (yielded ops a.tmps) = true then Oper.wp P o a w K Q else E :=
  step_call hgd f hcf #[x] tys hop #[u] (by simp [hx]) hc h

theorem sp_arg_setRow {w : World} {a : Option Addr} {n cap g : Nat} {l : List Int} (h : Arg .i64 w a n cap l) (hg : 0 < n → ∀ x, a = some x → g ≠ x.block) (cs : Array Value) : Arg .i64 (w.setRow g cs) a n cap l := by
  obtain ⟨h1, h2, ⟨h3, h4⟩, h5⟩ := h
  refine ⟨h1, h2, ⟨h3, ?_⟩, h5⟩
  rcases h4 with h4 | ⟨b, off, rfl, hb, hc⟩
  · exact .inl h4
  · by_cases hn : n = 0
    · exact .inl hn
    · refine .inr ⟨b, off, rfl, by simpa [World.setRow] using hb, fun i hi => ?_⟩
      rw [← hc i hi]
      exact World.cell?_of_block (setRow_far (Ne.symm (hg (by omega) ⟨b, off, none⟩ rfl)))

/-- a superblock's value in a world. -/
def SuperV (w : World) (v : Value) (s : Sp.S) : Prop := ∃ a cap, v = .agg (superC s a s.charts.length cap) ∧ Arg .i64 w a s.charts.length cap s.charts
theorem SuperV.below {w w' : World} {v : Value} {s : Sp.S} (h : SuperV w v s) (hb : Below w.heap.size w w') : SuperV w' v s := by
  obtain ⟨a, cap, e, hA⟩ := h
  exact ⟨a, cap, e, hA.below hb⟩
theorem superV_zero (w : World) : SuperV w (.agg #[Value.int .i64 0, Value.int .i64 0, Value.int .i64 0, Value.int .i64 0, Value.int .i64 0, Value.int .i64 0, Value.int .i64 0, Value.int .i64 0, Value.slice none 0 0]) Sp.zero :=
  ⟨none, 0, rfl, Nat.le_refl _, Nat.zero_le _, ⟨rfl, .inl rfl⟩, (fun z hz => by cases hz), .inl rfl⟩
theorem info_super : (Try.prog.info? 28).map (·.size) = some 9 := by kernel_rfl
theorem superC_one (s : Sp.S) (a : Option Addr) (len cap : Nat) : (superC s a len cap).all (·.oneCell') = true := by simp [superC, Value.oneCell']
theorem sp_byte {zs : List Int} (hz : Nums.Bytes zs) (i : Nat) : 0 ≤ zs.getD i 0 ∧ zs.getD i 0 ≤ 255 := by
  rw [List.getD_eq_getElem?_getD]
  by_cases h : i < zs.length
  · rw [List.getElem?_eq_getElem h]
    exact hz _ (List.getElem_mem _)
  · rw [List.getElem?_eq_none (by omega)]
    decide

set_option maxRecDepth 100000 in
set_option maxHeartbeats 2000000 in
theorem rspget_other {w : World} {a : Option Addr} {len cap : Nat} {zs : List Int} (hA : Arg .u8 w a len cap zs) (hl : len ≤ 100000) (h : ¬ (Bk.isB zs = true ∧ zs.getD 4 0 = 7 ∧ zs.getD 5 0 ≤ 8)) :
    Calls Try.prog 16 #[.slice a len cap] w fun e w' => ∃ v, e = .returned (.tuple #[v, .bool (Sp.got zs)]) ∧ SuperV w' v (Sp.tells zs) ∧ Below w.heap.size w w' := by
  have hg : Sp.got zs = false := decide_eq_false fun e => h ⟨e.1, e.2.1, e.2.2.1⟩
  have ht : Sp.tells zs = Sp.zero := by unfold Sp.tells; rw [hg]; rfl
  rw [hg, ht]
  obtain ⟨W, hW⟩ : ∃ W, W = w.alloc (.cells #[Value.int .i64 0, Value.int .i64 0, Value.int .i64 0, Value.int .i64 0, Value.int .i64 0, Value.int .i64 0, Value.int .i64 0, Value.int .i64 0, Value.slice none 0 0] 28) := ⟨_, rfl⟩
  have hb0 : Below w.heap.size w W := by rw [hW]; exact (Below.refl _ _).alloc (Nat.le_refl _) _
  have hg0 : W.heap[w.heap.size]? = some (.cells #[Value.int .i64 0, Value.int .i64 0, Value.int .i64 0, Value.int .i64 0, Value.int .i64 0, Value.int .i64 0, Value.int .i64 0, Value.int .i64 0, Value.slice none 0 0] 28 (0, 0)) := by rw [hW]; exact heap_alloc_new w _
  have HO := hide (ropen_any (hA.below hb0) hl)
  have HB0 := hide hb0
  have HG0 := hide hg0
  have hz4 := sp_byte hA.bytes 4
  have hz5 := sp_byte hA.bytes 5
  clear hA hg ht hb0 hg0
  by_cases hB : Bk.isB zs = true
  · rw [if_pos hB] at HO
    by_cases h4 : zs.getD 4 0 = 7
    · have h5 : (8 : Int) < zs.getD 5 0 := by
        have : ¬ zs.getD 5 0 ≤ 8 := fun e => h ⟨hB, h4, e⟩
        omega
      rw [h4] at HO
      clear h hB h4 hz4
      generalize zs.getD 5 0 = t at *
      generalize strOfNums (zs.drop 8) = S at *
      go_enter Try.func16, Try.ntmps16
      go_wp2_with fail
      rw [← hW]
      refine HO.out.mono ?_
      rintro e w1 ⟨rfl, hb1⟩
      have HG1 := hide ((hb1.block _ ((Array.getElem?_eq_some_iff.1 HG0.out).1)).trans HG0.out)
      have HB1 := hide (HB0.out.trans (hb1.mono HB0.out.size))
      clear hb1
      go_wp2_with (refine wpList_store_row rfl 28 _ _ rfl w.heap.size #[Value.int .i64 0, Value.int .i64 0, Value.int .i64 0, Value.int .i64 0, Value.int .i64 0, Value.int .i64 0, Value.int .i64 0, Value.int .i64 0, Value.slice none 0 0] rfl rfl 28 #[Value.int .i64 0, Value.int .i64 0, Value.int .i64 0, Value.int .i64 0, Value.int .i64 0, Value.int .i64 0, Value.int .i64 0, Value.int .i64 0, Value.slice none 0 0] HG1.out info_super rfl (superC_one Sp.zero none 0 0) ?_)
      (try simp only [Exit.inBlock, Exit.then]); refine bodyPost_ret (results_row rfl Try.underlying28 _ _ w.heap.size #[Value.int .i64 0, Value.int .i64 0, Value.int .i64 0, Value.int .i64 0, Value.int .i64 0, Value.int .i64 0, Value.int .i64 0, Value.int .i64 0, Value.slice none 0 0] rfl (setRow_heap _ _ _ _ _ _ HG1.out) info_super) rfl ?_
      exact ⟨_, rfl, superV_zero _, below_setRow HB1.out (Nat.le_refl _) _⟩
    · clear h hB
      generalize zs.getD 4 0 = k at *
      generalize zs.getD 5 0 = t at *
      generalize strOfNums (zs.drop 8) = S at *
      have hk1 : (k != 7) = true := by simpa using h4
      go_enter Try.func16, Try.ntmps16
      go_wp2_with fail
      rw [← hW]
      refine HO.out.mono ?_
      rintro e w1 ⟨rfl, hb1⟩
      have HG1 := hide ((hb1.block _ ((Array.getElem?_eq_some_iff.1 HG0.out).1)).trans HG0.out)
      have HB1 := hide (HB0.out.trans (hb1.mono HB0.out.size))
      clear hb1
      go_wp2_with (refine wpList_store_row rfl 28 _ _ rfl w.heap.size #[Value.int .i64 0, Value.int .i64 0, Value.int .i64 0, Value.int .i64 0, Value.int .i64 0, Value.int .i64 0, Value.int .i64 0, Value.int .i64 0, Value.slice none 0 0] rfl rfl 28 #[Value.int .i64 0, Value.int .i64 0, Value.int .i64 0, Value.int .i64 0, Value.int .i64 0, Value.int .i64 0, Value.int .i64 0, Value.int .i64 0, Value.slice none 0 0] HG1.out info_super rfl (superC_one Sp.zero none 0 0) ?_)
      (try simp only [Exit.inBlock, Exit.then]); refine bodyPost_ret (results_row rfl Try.underlying28 _ _ w.heap.size #[Value.int .i64 0, Value.int .i64 0, Value.int .i64 0, Value.int .i64 0, Value.int .i64 0, Value.int .i64 0, Value.int .i64 0, Value.int .i64 0, Value.slice none 0 0] rfl (setRow_heap _ _ _ _ _ _ HG1.out) info_super) rfl ?_
      exact ⟨_, rfl, superV_zero _, below_setRow HB1.out (Nat.le_refl _) _⟩
  · rw [if_neg hB] at HO
    clear h hB
    go_enter Try.func16, Try.ntmps16
    go_wp2_with fail
    rw [← hW]
    refine HO.out.mono ?_
    rintro e w1 ⟨rfl, hb1⟩
    have HG1 := hide ((hb1.block _ ((Array.getElem?_eq_some_iff.1 HG0.out).1)).trans HG0.out)
    have HB1 := hide (HB0.out.trans (hb1.mono HB0.out.size))
    clear hb1
    go_wp2_with (refine wpList_store_row rfl 28 _ _ rfl w.heap.size #[Value.int .i64 0, Value.int .i64 0, Value.int .i64 0, Value.int .i64 0, Value.int .i64 0, Value.int .i64 0, Value.int .i64 0, Value.int .i64 0, Value.slice none 0 0] rfl rfl 28 #[Value.int .i64 0, Value.int .i64 0, Value.int .i64 0, Value.int .i64 0, Value.int .i64 0, Value.int .i64 0, Value.int .i64 0, Value.int .i64 0, Value.slice none 0 0] HG1.out info_super rfl (superC_one Sp.zero none 0 0) ?_)
    (try simp only [Exit.inBlock, Exit.then]); refine bodyPost_ret (results_row rfl Try.underlying28 _ _ w.heap.size #[Value.int .i64 0, Value.int .i64 0, Value.int .i64 0, Value.int .i64 0, Value.int .i64 0, Value.int .i64 0, Value.int .i64 0, Value.int .i64 0, Value.slice none 0 0] rfl (setRow_heap _ _ _ _ _ _ HG1.out) info_super) rfl ?_
    exact ⟨_, rfl, superV_zero _, below_setRow HB1.out (Nat.le_refl _) _⟩

theorem chartsOf_wf {s : List Int} (hz : Nums.Bytes s) (t : Nat) : ∀ x ∈ Sp.chartsOf s t, (Lit.int .i64 x).wf = true := fun x hx => by
  obtain ⟨i, _, rfl⟩ := List.mem_map.1 hx
  have hb := Nums.bytes_take (Nums.bytes_drop hz (32 + 2 * i)) 2
  have h := Nums.rd_bounds _ hb
  have hq : (256 : Int) ^ ((s.drop (32 + 2 * i)).take 2).length ≤ 256 ^ 2 := by
    rw [show (256 : Int) ^ ((s.drop (32 + 2 * i)).take 2).length = ((256 ^ ((s.drop (32 + 2 * i)).take 2).length : Nat) : Int) from (Int.natCast_pow 256 _).symm, show (256 : Int) ^ 2 = ((256 ^ 2 : Nat) : Int) from rfl]
    exact Int.ofNat_le.2 (Nat.pow_le_pow_right (by decide) (by simp; omega))
  exact wf_of_bd ⟨by omega, by omega⟩

set_option maxRecDepth 100000 in
set_option maxHeartbeats 4000000 in
theorem rspget_super {w : World} {a : Option Addr} {len cap : Nat} {zs : List Int} (hA : Arg .u8 w a len cap zs) (hl : len ≤ 100000) (hB : Bk.isB zs = true) (h4 : zs.getD 4 0 = 7) (h5 : zs.getD 5 0 ≤ 8) :
    Calls Try.prog 16 #[.slice a len cap] w fun e w' => ∃ v, e = .returned (.tuple #[v, .bool (Sp.got zs)]) ∧ SuperV w' v (Sp.tells zs) ∧ Below w.heap.size w w' := by
  have hz := hA.bytes
  have hb5 := sp_byte hz 5
  obtain ⟨t, ht⟩ : ∃ t : Nat, zs.getD 5 0 = t := ⟨(zs.getD 5 0).toNat, by omega⟩
  have ht8 : t ≤ 8 := by omega
  have hzl : zs.length = 64 := (of_decide_eq_true hB).1
  obtain ⟨s, hs⟩ : ∃ s, s = zs.drop 8 := ⟨_, rfl⟩
  have hsz : Nums.Bytes s := by rw [hs]; exact Nums.bytes_drop hz 8
  have hsl : s.length = 56 := by rw [hs]; simp; omega
  obtain ⟨W, hW⟩ : ∃ W, W = w.alloc (.cells #[Value.int .i64 0, Value.int .i64 0, Value.int .i64 0, Value.int .i64 0, Value.int .i64 0, Value.int .i64 0, Value.int .i64 0, Value.int .i64 0, Value.slice none 0 0] 28) := ⟨_, rfl⟩
  have hb0 : Below w.heap.size w W := by rw [hW]; exact (Below.refl _ _).alloc (Nat.le_refl _) _
  have hg0 : W.heap[w.heap.size]? = some (.cells #[Value.int .i64 0, Value.int .i64 0, Value.int .i64 0, Value.int .i64 0, Value.int .i64 0, Value.int .i64 0, Value.int .i64 0, Value.int .i64 0, Value.slice none 0 0] 28 (0, 0)) := by rw [hW]; exact heap_alloc_new w _
  have hO := ropen_any (hA.below hb0) hl
  rw [if_pos hB, h4, ht, ← hs] at hO
  have HT : Hid (Sp.told zs = ⟨Nd.sgn (Nums.rd ((s.drop 0).take 8)), Nums.rd ((s.drop 8).take 4), Nums.rd ((s.drop 12).take 4), Nums.rd ((s.drop 16).take 4), Nums.rd ((s.drop 28).take 2), Nums.rd ((s.drop 20).take 4), Nums.rd ((s.drop 24).take 4), Nums.rd ((s.drop 30).take 2), Sp.chartsOf s t⟩) := by
    show Sp.told zs = _
    unfold Sp.told
    rw [ht, ← hs, Int.toNat_natCast]
    rfl
  have HP0 := hide (fun W => piece8 W s hsz 0 8 (by decide))
  have HP1 := hide (fun W => piece W s hsz 8 4 (by decide))
  have HP2 := hide (fun W => piece W s hsz 12 4 (by decide))
  have HP3 := hide (fun W => piece W s hsz 16 4 (by decide))
  have HP5 := hide (fun W => piece W s hsz 20 4 (by decide))
  have HP6 := hide (fun W => piece W s hsz 24 4 (by decide))
  have HP4 := hide (fun W => piece W s hsz 28 2 (by decide))
  have HP7 := hide (fun W => piece W s hsz 30 2 (by decide))
  have HPK := hide (fun W j => piece W s hsz (32 + 2 * j) 2 (by decide))
  have hSz := size_str s
  rw [hsl] at hSz
  have HO := hide hO
  have HB0 := hide hb0
  have HG0 := hide hg0
  generalize hx0 : Nd.sgn (Nums.rd ((s.drop 0).take 8)) = x0 at *
  generalize hx1 : Nums.rd ((s.drop 8).take 4) = x1 at *
  generalize hx2 : Nums.rd ((s.drop 12).take 4) = x2 at *
  generalize hx3 : Nums.rd ((s.drop 16).take 4) = x3 at *
  generalize hx5 : Nums.rd ((s.drop 20).take 4) = x5 at *
  generalize hx6 : Nums.rd ((s.drop 24).take 4) = x6 at *
  generalize hx4 : Nums.rd ((s.drop 28).take 2) = x4 at *
  generalize hx7 : Nums.rd ((s.drop 30).take 2) = x7 at *
  generalize strOfNums s = S at *
  obtain ⟨S0, hS0⟩ : ∃ x, S.extract 0 (0 + 8) = x := ⟨_, rfl⟩
  rw [hS0] at HP0
  obtain ⟨S1, hS1⟩ : ∃ x, S.extract 8 (8 + 4) = x := ⟨_, rfl⟩
  rw [hS1] at HP1
  obtain ⟨S2, hS2⟩ : ∃ x, S.extract 12 (12 + 4) = x := ⟨_, rfl⟩
  rw [hS2] at HP2
  obtain ⟨S3, hS3⟩ : ∃ x, S.extract 16 (16 + 4) = x := ⟨_, rfl⟩
  rw [hS3] at HP3
  obtain ⟨S5, hS5⟩ : ∃ x, S.extract 20 (20 + 4) = x := ⟨_, rfl⟩
  rw [hS5] at HP5
  obtain ⟨S6, hS6⟩ : ∃ x, S.extract 24 (24 + 4) = x := ⟨_, rfl⟩
  rw [hS6] at HP6
  obtain ⟨S4, hS4⟩ : ∃ x, S.extract 28 (28 + 2) = x := ⟨_, rfl⟩
  rw [hS4] at HP4
  obtain ⟨S7, hS7⟩ : ∃ x, S.extract 30 (30 + 2) = x := ⟨_, rfl⟩
  rw [hS7] at HP7
  have HKW := hide (chartsOf_wf hsz)
  have HA := hide hA
  have HGG : Hid (Bk.isB zs = true ∧ zs.getD 4 0 = 7 ∧ zs.getD 5 0 ≤ 8) := ⟨hB, h4, h5⟩
  clear hA hO hb0 hg0 hx0 hx1 hx2 hx3 hx5 hx6 hx4 hx7 hB h4 h5 hb5 ht hzl hs hsz hsl
  have hs0 : S.extract 0 8 = S0 := hS0
  have hs1 : S.extract 8 12 = S1 := hS1
  have hs2 : S.extract 12 16 = S2 := hS2
  have hs3 : S.extract 16 20 = S3 := hS3
  have hs5 : S.extract 20 24 = S5 := hS5
  have hs6 : S.extract 24 28 = S6 := hS6
  have hs4 : S.extract 28 30 = S4 := hS4
  have hs7 : S.extract 30 32 = S7 := hS7
  clear hS0 hS1 hS2 hS3 hS5 hS6 hS4 hS7
  have ht' : ¬ (8 : Int) < (t : Int) := by omega
  go_enter Try.func16, Try.ntmps16
  go_wp2_with fail
  rw [← hW]
  refine HO.out.mono ?_
  rintro e w1 ⟨rfl, hb1⟩
  have HG1 := hide ((hb1.block _ ((Array.getElem?_eq_some_iff.1 HG0.out).1)).trans HG0.out)
  have HB1 := hide (HB0.out.trans (hb1.mono HB0.out.size))
  clear hb1
  have HGW0 : Hid (w.heap.size < w1.heap.size) := (Array.getElem?_eq_some_iff.1 HG1.out).1
  go_wp2_with fail
  obtain ⟨G, hG⟩ : ∃ G, G = w1.heap.size := ⟨_, rfl⟩
  have HG := hide hG
  obtain ⟨X0, hX⟩ : ∃ X, X = w1.alloc (.cells #[Value.int .i64 0, Value.int .i64 0, Value.int .i64 0, Value.int .i64 0, Value.int .i64 0, Value.int .i64 0, Value.int .i64 0, Value.int .i64 0, Value.slice none 0 0] 28) := ⟨_, rfl⟩
  have hg : X0.heap[G]? = some (.cells #[Value.int .i64 0, Value.int .i64 0, Value.int .i64 0, Value.int .i64 0, Value.int .i64 0, Value.int .i64 0, Value.int .i64 0, Value.int .i64 0, Value.slice none 0 0] 28 (0, 0)) := by rw [hX, hG]; exact heap_alloc_new w1 _
  have hb : Below G w1 X0 := by rw [hX, hG]; exact (Below.refl _ _).alloc (Nat.le_refl _) _
  rw [← hX, ← hG]
  have HX0 := hide hg
  have HY0 := hide hb
  have c0 : X0.cell? ⟨G, 0, none⟩ = some (.int .i64 0) := by simp [World.cell?, hg]
  have f0 : X0.frozen? ⟨G, 0, none⟩ = false := by simp [World.frozen?, hg]
  clear hX hg hb hG
  refine (HP0.out _).mono ?_
  rintro e w' ⟨rfl, hw'⟩
  obtain rfl := hw'.symm
  go_wp2_with fail
  obtain ⟨X1, hX⟩ : ∃ X, X = X0.setCell ⟨G, 0, none⟩ (.int .i64 x0) := ⟨_, rfl⟩
  have hg : X1.heap[G]? = some (.cells #[Value.int .i64 x0, Value.int .i64 0, Value.int .i64 0, Value.int .i64 0, Value.int .i64 0, Value.int .i64 0, Value.int .i64 0, Value.int .i64 0, Value.slice none 0 0] 28 (0, 0)) := by rw [hX, heap_set HX0.out]; rfl
  have hb : Below G w1 X1 := by rw [hX]; exact HY0.out.setCell (p := ⟨G, 0, none⟩) (Nat.le_refl G) _
  rw [← hX]
  have HX1 := hide hg
  have HY1 := hide hb
  clear c0 f0
  have c0 : X1.cell? ⟨G, 1, none⟩ = some (.int .i64 0) := by simp [World.cell?, hg]
  have f0 : X1.frozen? ⟨G, 1, none⟩ = false := by simp [World.frozen?, hg]
  clear hX hg hb hs0
  refine (HP1.out _).mono ?_
  rintro e w' ⟨rfl, hw'⟩
  obtain rfl := hw'.symm
  go_wp2_with fail
  obtain ⟨X2, hX⟩ : ∃ X, X = X1.setCell ⟨G, 1, none⟩ (.int .i64 x1) := ⟨_, rfl⟩
  have hg : X2.heap[G]? = some (.cells #[Value.int .i64 x0, Value.int .i64 x1, Value.int .i64 0, Value.int .i64 0, Value.int .i64 0, Value.int .i64 0, Value.int .i64 0, Value.int .i64 0, Value.slice none 0 0] 28 (0, 0)) := by rw [hX, heap_set HX1.out]; rfl
  have hb : Below G w1 X2 := by rw [hX]; exact HY1.out.setCell (p := ⟨G, 1, none⟩) (Nat.le_refl G) _
  rw [← hX]
  have HX2 := hide hg
  have HY2 := hide hb
  clear c0 f0
  have c0 : X2.cell? ⟨G, 2, none⟩ = some (.int .i64 0) := by simp [World.cell?, hg]
  have f0 : X2.frozen? ⟨G, 2, none⟩ = false := by simp [World.frozen?, hg]
  clear hX hg hb hs1
  refine (HP2.out _).mono ?_
  rintro e w' ⟨rfl, hw'⟩
  obtain rfl := hw'.symm
  go_wp2_with fail
  obtain ⟨X3, hX⟩ : ∃ X, X = X2.setCell ⟨G, 2, none⟩ (.int .i64 x2) := ⟨_, rfl⟩
  have hg : X3.heap[G]? = some (.cells #[Value.int .i64 x0, Value.int .i64 x1, Value.int .i64 x2, Value.int .i64 0, Value.int .i64 0, Value.int .i64 0, Value.int .i64 0, Value.int .i64 0, Value.slice none 0 0] 28 (0, 0)) := by rw [hX, heap_set HX2.out]; rfl
  have hb : Below G w1 X3 := by rw [hX]; exact HY2.out.setCell (p := ⟨G, 2, none⟩) (Nat.le_refl G) _
  rw [← hX]
  have HX3 := hide hg
  have HY3 := hide hb
  clear c0 f0
  have c0 : X3.cell? ⟨G, 3, none⟩ = some (.int .i64 0) := by simp [World.cell?, hg]
  have f0 : X3.frozen? ⟨G, 3, none⟩ = false := by simp [World.frozen?, hg]
  clear hX hg hb hs2
  refine (HP3.out _).mono ?_
  rintro e w' ⟨rfl, hw'⟩
  obtain rfl := hw'.symm
  go_wp2_with fail
  obtain ⟨X4, hX⟩ : ∃ X, X = X3.setCell ⟨G, 3, none⟩ (.int .i64 x3) := ⟨_, rfl⟩
  have hg : X4.heap[G]? = some (.cells #[Value.int .i64 x0, Value.int .i64 x1, Value.int .i64 x2, Value.int .i64 x3, Value.int .i64 0, Value.int .i64 0, Value.int .i64 0, Value.int .i64 0, Value.slice none 0 0] 28 (0, 0)) := by rw [hX, heap_set HX3.out]; rfl
  have hb : Below G w1 X4 := by rw [hX]; exact HY3.out.setCell (p := ⟨G, 3, none⟩) (Nat.le_refl G) _
  rw [← hX]
  have HX4 := hide hg
  have HY4 := hide hb
  clear c0 f0
  have c0 : X4.cell? ⟨G, 5, none⟩ = some (.int .i64 0) := by simp [World.cell?, hg]
  have f0 : X4.frozen? ⟨G, 5, none⟩ = false := by simp [World.frozen?, hg]
  clear hX hg hb hs3
  refine (HP5.out _).mono ?_
  rintro e w' ⟨rfl, hw'⟩
  obtain rfl := hw'.symm
  go_wp2_with fail
  obtain ⟨X5, hX⟩ : ∃ X, X = X4.setCell ⟨G, 5, none⟩ (.int .i64 x5) := ⟨_, rfl⟩
  have hg : X5.heap[G]? = some (.cells #[Value.int .i64 x0, Value.int .i64 x1, Value.int .i64 x2, Value.int .i64 x3, Value.int .i64 0, Value.int .i64 x5, Value.int .i64 0, Value.int .i64 0, Value.slice none 0 0] 28 (0, 0)) := by rw [hX, heap_set HX4.out]; rfl
  have hb : Below G w1 X5 := by rw [hX]; exact HY4.out.setCell (p := ⟨G, 5, none⟩) (Nat.le_refl G) _
  rw [← hX]
  have HX5 := hide hg
  have HY5 := hide hb
  clear c0 f0
  have c0 : X5.cell? ⟨G, 6, none⟩ = some (.int .i64 0) := by simp [World.cell?, hg]
  have f0 : X5.frozen? ⟨G, 6, none⟩ = false := by simp [World.frozen?, hg]
  clear hX hg hb hs5
  refine (HP6.out _).mono ?_
  rintro e w' ⟨rfl, hw'⟩
  obtain rfl := hw'.symm
  go_wp2_with fail
  obtain ⟨X6, hX⟩ : ∃ X, X = X5.setCell ⟨G, 6, none⟩ (.int .i64 x6) := ⟨_, rfl⟩
  have hg : X6.heap[G]? = some (.cells #[Value.int .i64 x0, Value.int .i64 x1, Value.int .i64 x2, Value.int .i64 x3, Value.int .i64 0, Value.int .i64 x5, Value.int .i64 x6, Value.int .i64 0, Value.slice none 0 0] 28 (0, 0)) := by rw [hX, heap_set HX5.out]; rfl
  have hb : Below G w1 X6 := by rw [hX]; exact HY5.out.setCell (p := ⟨G, 6, none⟩) (Nat.le_refl G) _
  rw [← hX]
  have HX6 := hide hg
  have HY6 := hide hb
  clear c0 f0
  have c0 : X6.cell? ⟨G, 4, none⟩ = some (.int .i64 0) := by simp [World.cell?, hg]
  have f0 : X6.frozen? ⟨G, 4, none⟩ = false := by simp [World.frozen?, hg]
  clear hX hg hb hs6
  refine (HP4.out _).mono ?_
  rintro e w' ⟨rfl, hw'⟩
  obtain rfl := hw'.symm
  go_wp2_with fail
  obtain ⟨X7, hX⟩ : ∃ X, X = X6.setCell ⟨G, 4, none⟩ (.int .i64 x4) := ⟨_, rfl⟩
  have hg : X7.heap[G]? = some (.cells #[Value.int .i64 x0, Value.int .i64 x1, Value.int .i64 x2, Value.int .i64 x3, Value.int .i64 x4, Value.int .i64 x5, Value.int .i64 x6, Value.int .i64 0, Value.slice none 0 0] 28 (0, 0)) := by rw [hX, heap_set HX6.out]; rfl
  have hb : Below G w1 X7 := by rw [hX]; exact HY6.out.setCell (p := ⟨G, 4, none⟩) (Nat.le_refl G) _
  rw [← hX]
  have HX7 := hide hg
  have HY7 := hide hb
  clear c0 f0
  have c0 : X7.cell? ⟨G, 7, none⟩ = some (.int .i64 0) := by simp [World.cell?, hg]
  have f0 : X7.frozen? ⟨G, 7, none⟩ = false := by simp [World.frozen?, hg]
  clear hX hg hb hs4
  refine (HP7.out _).mono ?_
  rintro e w' ⟨rfl, hw'⟩
  obtain rfl := hw'.symm
  go_wp2_with fail
  obtain ⟨X8, hX⟩ : ∃ X, X = X7.setCell ⟨G, 7, none⟩ (.int .i64 x7) := ⟨_, rfl⟩
  have hg : X8.heap[G]? = some (.cells #[Value.int .i64 x0, Value.int .i64 x1, Value.int .i64 x2, Value.int .i64 x3, Value.int .i64 x4, Value.int .i64 x5, Value.int .i64 x6, Value.int .i64 x7, Value.slice none 0 0] 28 (0, 0)) := by rw [hX, heap_set HX7.out]; rfl
  have hb : Below G w1 X8 := by rw [hX]; exact HY7.out.setCell (p := ⟨G, 7, none⟩) (Nat.le_refl G) _
  rw [← hX]
  have HX8 := hide hg
  have HY8 := hide hb
  clear c0 f0
  clear hX hg hb hs7
  obtain ⟨i0, hi, hz0, hz1, hz2⟩ := info_parts info_int64
  go_wp2_with fail
  go_loopw [9] (fun i wr => ∃ (j : Nat) (v : Value), j ≤ t ∧ i = .int .i64 j ∧ wr.ownsRow (G + 1) 3 1 v j ((Sp.chartsOf s j).map (Value.int .i64)) ∧ wr.heap[G]? = some (.cells #[.int .i64 x0, .int .i64 x1, .int .i64 x2, .int .i64 x3, .int .i64 x4, .int .i64 x5, .int .i64 x6, .int .i64 x7, v] 28 (0, 0)) ∧ Below G w1 wr) (fun i _ => t - (intOf i).toNat)
  case atStart => exact ⟨0, .slice none 0 0, Nat.zero_le _, rfl, ⟨rfl, .inl ⟨rfl, rfl⟩⟩, HX8.out, HY8.out⟩
  case round =>
    obtain ⟨j, v, hj, rfl, hown, hgn, hbr⟩ := hrel
    have HOW := hide hown
    have HGR := hide hgn
    have HBR := hide hbr
    have hGlt : G < wr.heap.size := (Array.getElem?_eq_some_iff.1 hgn).1
    by_cases hlt : j < t
    · have hjI : (j : Int) < (t : Int) := by omega
      have c4 : wr.cell? ⟨G, 8, none⟩ = some v := by simp [World.cell?, hgn]
      have f4 : wr.frozen? ⟨G, 8, none⟩ = false := by simp [World.frozen?, hgn]
      have ag := own_block_ne hown (Nat.lt_succ_self G)
      have HKS := hide (Sp.chartsOf_succ s j)
      have HPJ := hide (fun W => HPK.out W j)
      obtain ⟨xj, hxj⟩ : ∃ x, Nums.rd ((s.drop (32 + 2 * j)).take 2) = x := ⟨_, rfl⟩
      rw [hxj] at HKS HPJ
      obtain ⟨Sj, hSj⟩ : ∃ x, S.extract (32 + 2 * j) (32 + 2 * j + 2) = x := ⟨_, rfl⟩
      rw [hSj] at HPJ
      have hsj : S.extract (32 + 2 * j) (34 + 2 * j) = Sj := by rw [← hSj]; congr 1; omega
      have w1' : IntKind.i64.wrap (2 * (j : Int)) = 2 * (j : Int) := by rw [IntKind.wrap_i64]; omega
      have w2' : IntKind.i64.wrap (32 + 2 * (j : Int)) = 32 + 2 * (j : Int) := by rw [IntKind.wrap_i64]; omega
      have w3' : IntKind.i64.wrap (34 + 2 * (j : Int)) = 34 + 2 * (j : Int) := by rw [IntKind.wrap_i64]; omega
      have n2' : (32 + 2 * (j : Int)).toNat = 32 + 2 * j := by omega
      have n3' : (34 + 2 * (j : Int)).toNat = 34 + 2 * j := by omega
      have p2' : (0 : Int) ≤ 32 + 2 * (j : Int) := by omega
      have p3' : (0 : Int) ≤ 34 + 2 * (j : Int) := by omega
      have q2' : (32 + 2 * (j : Int)) ≤ 34 + 2 * (j : Int) := by omega
      have q3' : (34 + 2 * (j : Int)) ≤ 56 := by omega
      have q4' : 34 + 2 * j ≤ 56 := by omega
      have F0 : ∀ x : Int, ((wr.alloc (.cells #[.int .i64 x] 3)).drew).frozen? ⟨G, 8, none⟩ = false := fun x => (Below.frozen (((Below.refl wr.heap.size wr).alloc (Nat.le_refl _) _).drew) hGlt).trans f4
      have C0 : ∀ x : Int, ((wr.alloc (.cells #[.int .i64 x] 3)).drew).cell? ⟨G, 8, none⟩ = some v := fun x => (Below.cell (((Below.refl wr.heap.size wr).alloc (Nat.le_refl _) _).drew) hGlt).trans c4
      clear hown hgn hbr hxj hSj
      go_wp2_with fail
      go_region_law (first
          | (refine sp_step_call1 rfl 36 Try.call36 _ _ rfl (.string Sj) (by go_simp) (HPJ.out _) ?_; rintro e w' ⟨rfl, rfl⟩; refine ⟨_, rfl, ?_⟩)
          | (refine step_append_lies _ (by rfl) _ _ _ (by rfl) (G + 1) 3 i0 _ 1 8 Try.underlying26 hi hz0 hz1 hz2 rfl (by omega) v j ((Sp.chartsOf s j).map (Value.int .i64)) (by rfl) ((HOW.out.alloc _).drew) ⟨wr.heap.size, 0, none⟩ 1 1 [.int .i64 xj] (by rfl) (by rfl) (World.news_of_block (cs := #[.int .i64 xj]) (t := 3) (fr := (0, 0)) (heap_alloc_new wr _)) (by simp [Value.oneCell']) (by omega) (by unfold maxLen; omega) (by omega) (by simp; omega) (wr.heap.size + 1) (by simp) ?_; intro gg cp w5 hown1 hgrow hat hlt1; have f5 := (hgrow.frozen_far ⟨G, 8, none⟩ (by simp; omega) (Ne.symm ag)).trans (F0 xj); have c5 := (hgrow.cell_far ⟨G, 8, none⟩ (by simp; omega) (Ne.symm ag)).trans (C0 xj)))
      all_goals
        have hgb : w5.heap[G]? = some (.cells #[.int .i64 x0, .int .i64 x1, .int .i64 x2, .int .i64 x3, .int .i64 x4, .int .i64 x5, .int .i64 x6, .int .i64 x7, v] 28 (0, 0)) := by
          rw [hgrow.block G (by simp; omega) (Ne.symm ag)]
          exact (Below.heap_alloc wr _ G hGlt).trans HGR.out
        have HGB := hide hgb
        have HON : Hid ((w5.setCell ⟨G, 8, none⟩ (.slice (some ⟨gg, 0, none⟩) (j + 1) cp)).ownsRow (G + 1) 3 1 (.slice (some ⟨gg, 0, none⟩) (j + 1) cp) (j + 1) ((Sp.chartsOf s (j + 1)).map (Value.int .i64))) := by
          refine own_set (w := w5) (g := G) ?_ (Nat.lt_succ_self G)
          rw [HKS.out, List.map_append]
          exact hown1
        have HBN : Hid (Below G w1 (w5.setCell ⟨G, 8, none⟩ (.slice (some ⟨gg, 0, none⟩) (j + 1) cp))) := by
          exact Below.setCell (own_below ((HOW.out.alloc _).drew) hgrow (by simp; omega) ((HBR.out.alloc (Nat.le_of_lt hGlt) _).drew) (Nat.le_succ G)) (Nat.le_refl G) _
        clear hown1 hgrow hat hlt1 f5 c5 hgb
        go_wp2_with fail
        go_roundw
        case rel => exact ⟨j + 1, _, by omega, by go_num, HON.out, by rw [heap_set HGB.out]; rfl, HBN.out⟩
        case measure => simp [intOf]; omega
    · have hjI : ¬ (j : Int) < (t : Int) := by omega
      obtain rfl : j = t := by omega
      have hKL := Sp.chartsOf_length s j
      have hown' : wr.ownsRow (G + 1) 3 1 v (Sp.chartsOf s j).length ((Sp.chartsOf s j).map (Value.int .i64)) := by rw [hKL]; exact hown
      obtain ⟨ka, kc, hv, hKA, hKB⟩ := arg_of_own hown' (HKW.out j)
      rw [hKL] at hv hKA
      subst hv
      have hGw : w.heap.size < G := by rw [HG.out]; exact (Array.getElem?_eq_some_iff.1 HG1.out).1
      have HGW : Hid (wr.heap[w.heap.size]? = some (.cells #[Value.int .i64 0, Value.int .i64 0, Value.int .i64 0, Value.int .i64 0, Value.int .i64 0, Value.int .i64 0, Value.int .i64 0, Value.int .i64 0, Value.slice none 0 0] 28 (0, 0))) := (hbr.block _ hGw).trans HG1.out
      have HBw : Hid (Below w.heap.size w wr) := HB1.out.trans (hbr.mono (by omega))
      have k0 : ∀ x : Later wr, x.val.heap[G]? = some (.cells #[.int .i64 x0, .int .i64 x1, .int .i64 x2, .int .i64 x3, .int .i64 x4, .int .i64 x5, .int .i64 x6, .int .i64 x7, .slice ka j kc] 28 (0, 0)) := fun x => (x.property.block _ hGlt).trans hgn
      have c0 : ∀ x : Later wr, x.val.cell? ⟨G, 0, none⟩ = some (.int .i64 x0) := fun x => by simp [World.cell?, k0 x]
      have c1 : ∀ x : Later wr, x.val.cell? ⟨G, 1, none⟩ = some (.int .i64 x1) := fun x => by simp [World.cell?, k0 x]
      have c2 : ∀ x : Later wr, x.val.cell? ⟨G, 2, none⟩ = some (.int .i64 x2) := fun x => by simp [World.cell?, k0 x]
      have c3 : ∀ x : Later wr, x.val.cell? ⟨G, 3, none⟩ = some (.int .i64 x3) := fun x => by simp [World.cell?, k0 x]
      have c4 : ∀ x : Later wr, x.val.cell? ⟨G, 4, none⟩ = some (.int .i64 x4) := fun x => by simp [World.cell?, k0 x]
      have c5 : ∀ x : Later wr, x.val.cell? ⟨G, 5, none⟩ = some (.int .i64 x5) := fun x => by simp [World.cell?, k0 x]
      have c6 : ∀ x : Later wr, x.val.cell? ⟨G, 6, none⟩ = some (.int .i64 x6) := fun x => by simp [World.cell?, k0 x]
      have c7 : ∀ x : Later wr, x.val.cell? ⟨G, 7, none⟩ = some (.int .i64 x7) := fun x => by simp [World.cell?, k0 x]
      have c8 : ∀ x : Later wr, x.val.cell? ⟨G, 8, none⟩ = some (.slice ka j kc) := fun x => by simp [World.cell?, k0 x]
      have hne := later_some wr
      have hcv := fun x : Later wr => conv_bytes cap ((HA.out.2.2.1.below HBw.out).below x.property)
      have HR := hide (fun x : Later wr => rspright_any ⟨x0, x1, x2, x3, x4, x5, x6, x7, Sp.chartsOf s j⟩ ka j kc (hKA.below x.property))
      have HPT := hide (fun (hr : Sp.right ⟨x0, x1, x2, x3, x4, x5, x6, x7, Sp.chartsOf s j⟩ = true) (x : Later wr) => rspput_any ⟨x0, x1, x2, x3, x4, x5, x6, x7, Sp.chartsOf s j⟩ ka j kc (hKA.below x.property) hr)
      have HKA := hide hKA
      have HKB : Hid (0 < j → ∀ x, ka = some x → w.heap.size ≠ x.block) := fun h0 x hx => by have := hKB (by rw [hKL]; exact h0) x hx; omega
      have HGN := hide hgn
      have hsz := HBw.out.size
      clear k0 hown hown' hbr hKA hgn hKB
      have hws : w.heap.size < wr.heap.size := by omega
      by_cases hr : Sp.right ⟨x0, x1, x2, x3, x4, x5, x6, x7, Sp.chartsOf s j⟩ = true
      · have HPU := hide (HPT.out hr)
        rw [hr] at HR
        by_cases he : Sp.block ⟨x0, x1, x2, x3, x4, x5, x6, x7, Sp.chartsOf s j⟩ = zs
        · rw [he] at HPU
          have HGOT : Hid (Sp.got zs = true) := decide_eq_true ⟨HGG.out.1, HGG.out.2.1, HGG.out.2.2, by rw [HT.out]; exact hr, by rw [HT.out]; exact he⟩
          have HTELL : Hid (Sp.tells zs = ⟨x0, x1, x2, x3, x4, x5, x6, x7, Sp.chartsOf s j⟩) := by show Sp.tells zs = _; unfold Sp.tells; rw [HGOT.out, if_pos rfl, HT.out]
          clear he hr HPT
          generalize strOfNums zs = X at *
          go_wp2_with fail
          refine wp_region_later (by kernel_rfl) (by kernel_rfl) ?_
          repeat (go_big_quiet_step (first | (go_at_call 9; refine calls_later (HR.out _)) | (go_at_call 12; refine calls_later (HPU.out _))))
          refine wpQuiet_nil ?_
          intro w9 hw9
          obtain ⟨⟨w9', hb9⟩, rfl⟩ := hw9
          have HG9 := hide ((hb9.block _ (by omega)).trans HGW.out)
          have HB9 := hide (HBw.out.trans (hb9.mono HBw.out.size))
          have HGx := hide ((hb9.block _ hGlt).trans HGN.out)
          have HNV : Hid (∀ cs, SuperV (w9.setRow w.heap.size cs) (.agg #[.int .i64 x0, .int .i64 x1, .int .i64 x2, .int .i64 x3, .int .i64 x4, .int .i64 x5, .int .i64 x6, .int .i64 x7, .slice ka j kc]) ⟨x0, x1, x2, x3, x4, x5, x6, x7, Sp.chartsOf s j⟩) := fun cs => by
            refine ⟨ka, kc, by rw [Sp.chartsOf_length]; rfl, ?_⟩
            show Arg .i64 _ ka (Sp.chartsOf s j).length kc (Sp.chartsOf s j)
            rw [Sp.chartsOf_length]
            exact sp_arg_setRow (HKA.out.below hb9) HKB.out cs
          clear hb9 c0 c1 c2 c3 c4 c5 c6 c7 c8 hne hcv
          go_wp2_with (first | (refine wpList_load_row rfl 28 _ rfl G rfl 28 #[.int .i64 x0, .int .i64 x1, .int .i64 x2, .int .i64 x3, .int .i64 x4, .int .i64 x5, .int .i64 x6, .int .i64 x7, .slice ka j kc] (0, 0) _ HGx.out Try.underlying28 rfl info_super ?_) | (refine wpList_store_row rfl 28 _ _ rfl w.heap.size #[.int .i64 x0, .int .i64 x1, .int .i64 x2, .int .i64 x3, .int .i64 x4, .int .i64 x5, .int .i64 x6, .int .i64 x7, .slice ka j kc] rfl rfl 28 #[Value.int .i64 0, Value.int .i64 0, Value.int .i64 0, Value.int .i64 0, Value.int .i64 0, Value.int .i64 0, Value.int .i64 0, Value.int .i64 0, Value.slice none 0 0] HG9.out info_super rfl (superC_one ⟨x0, x1, x2, x3, x4, x5, x6, x7, []⟩ ka j kc) ?_))
          (try simp only [Exit.inBlock, Exit.then]); refine bodyPost_ret (results_row rfl Try.underlying28 _ _ w.heap.size #[.int .i64 x0, .int .i64 x1, .int .i64 x2, .int .i64 x3, .int .i64 x4, .int .i64 x5, .int .i64 x6, .int .i64 x7, .slice ka j kc] rfl (setRow_heap _ _ _ _ _ _ HG9.out) info_super) rfl ?_
          exact ⟨_, by rw [HGOT.out]; rfl, by rw [HTELL.out]; exact HNV.out _, below_setRow HB9.out (Nat.le_refl _) _⟩
        · have hbeq := str_ne (s := strOfNums (Sp.block ⟨x0, x1, x2, x3, x4, x5, x6, x7, Sp.chartsOf s j⟩)) (t := strOfNums zs) (fun e => he (str_inj (Sp.block_bytes hr) HA.out.bytes e))
          have HGOT : Hid (Sp.got zs = false) := decide_eq_false fun e => he (by have := e.2.2.2.2; rw [HT.out] at this; exact this)
          have HTELL : Hid (Sp.tells zs = Sp.zero) := by show Sp.tells zs = _; unfold Sp.tells; rw [HGOT.out]; rfl
          clear he hr HPT
          generalize strOfNums (Sp.block ⟨x0, x1, x2, x3, x4, x5, x6, x7, Sp.chartsOf s j⟩) = Y at *
          generalize strOfNums zs = X at *
          go_wp2_with fail
          refine wp_region_later (by kernel_rfl) (by kernel_rfl) ?_
          repeat (go_big_quiet_step (first | (go_at_call 9; refine calls_later (HR.out _)) | (go_at_call 12; refine calls_later (HPU.out _))))
          refine wpQuiet_nil ?_
          intro w9 hw9
          obtain ⟨⟨w9', hb9⟩, rfl⟩ := hw9
          have HG9 := hide ((hb9.block _ (by omega)).trans HGW.out)
          have HB9 := hide (HBw.out.trans (hb9.mono HBw.out.size))
          clear hb9 c0 c1 c2 c3 c4 c5 c6 c7 c8 hne hcv
          go_wp2_with (refine wpList_store_row rfl 28 _ _ rfl w.heap.size #[Value.int .i64 0, Value.int .i64 0, Value.int .i64 0, Value.int .i64 0, Value.int .i64 0, Value.int .i64 0, Value.int .i64 0, Value.int .i64 0, Value.slice none 0 0] rfl rfl 28 #[Value.int .i64 0, Value.int .i64 0, Value.int .i64 0, Value.int .i64 0, Value.int .i64 0, Value.int .i64 0, Value.int .i64 0, Value.int .i64 0, Value.slice none 0 0] HG9.out info_super rfl (superC_one Sp.zero none 0 0) ?_)
          (try simp only [Exit.inBlock, Exit.then]); refine bodyPost_ret (results_row rfl Try.underlying28 _ _ w.heap.size #[Value.int .i64 0, Value.int .i64 0, Value.int .i64 0, Value.int .i64 0, Value.int .i64 0, Value.int .i64 0, Value.int .i64 0, Value.int .i64 0, Value.slice none 0 0] rfl (setRow_heap _ _ _ _ _ _ HG9.out) info_super) rfl ?_
          exact ⟨_, by rw [HGOT.out]; rfl, by rw [HTELL.out]; exact superV_zero _, below_setRow HB9.out (Nat.le_refl _) _⟩
      · have HGOT : Hid (Sp.got zs = false) := decide_eq_false fun e => hr (by have := e.2.2.2.1; rw [HT.out] at this; exact this)
        have HTELL : Hid (Sp.tells zs = Sp.zero) := by show Sp.tells zs = _; unfold Sp.tells; rw [HGOT.out]; rfl
        rw [show Sp.right ⟨x0, x1, x2, x3, x4, x5, x6, x7, Sp.chartsOf s j⟩ = false by simpa using hr] at HR
        clear hr HPT
        generalize strOfNums zs = X at *
        go_wp2_with fail
        refine wp_region_later (by kernel_rfl) (by kernel_rfl) ?_
        repeat (go_big_quiet_step ((go_at_call 9; refine calls_later (HR.out _))))
        refine wpQuiet_nil ?_
        intro w9 hw9
        obtain ⟨⟨w9', hb9⟩, rfl⟩ := hw9
        have HG9 := hide ((hb9.block _ (by omega)).trans HGW.out)
        have HB9 := hide (HBw.out.trans (hb9.mono HBw.out.size))
        clear hb9 c0 c1 c2 c3 c4 c5 c6 c7 c8 hne hcv
        go_wp2_with (refine wpList_store_row rfl 28 _ _ rfl w.heap.size #[Value.int .i64 0, Value.int .i64 0, Value.int .i64 0, Value.int .i64 0, Value.int .i64 0, Value.int .i64 0, Value.int .i64 0, Value.int .i64 0, Value.slice none 0 0] rfl rfl 28 #[Value.int .i64 0, Value.int .i64 0, Value.int .i64 0, Value.int .i64 0, Value.int .i64 0, Value.int .i64 0, Value.int .i64 0, Value.int .i64 0, Value.slice none 0 0] HG9.out info_super rfl (superC_one Sp.zero none 0 0) ?_)
        (try simp only [Exit.inBlock, Exit.then]); refine bodyPost_ret (results_row rfl Try.underlying28 _ _ w.heap.size #[Value.int .i64 0, Value.int .i64 0, Value.int .i64 0, Value.int .i64 0, Value.int .i64 0, Value.int .i64 0, Value.int .i64 0, Value.int .i64 0, Value.slice none 0 0] rfl (setRow_heap _ _ _ _ _ _ HG9.out) info_super) rfl ?_
        exact ⟨_, by rw [HGOT.out]; rfl, by rw [HTELL.out]; exact superV_zero _, below_setRow HB9.out (Nat.le_refl _) _⟩

theorem rspget_any {w : World} {a : Option Addr} {len cap : Nat} {zs : List Int} (hA : Arg .u8 w a len cap zs) (hl : len ≤ 100000) :
    Calls Try.prog 16 #[.slice a len cap] w fun e w' => ∃ v, e = .returned (.tuple #[v, .bool (Sp.got zs)]) ∧ SuperV w' v (Sp.tells zs) ∧ Below w.heap.size w w' := by
  by_cases h : Bk.isB zs = true ∧ zs.getD 4 0 = 7 ∧ zs.getD 5 0 ≤ 8
  · exact rspget_super hA hl h.1 h.2.1 h.2.2
  · exact rspget_other hA hl h
end Go.Proofs.Ytmildaofmgeceaa
