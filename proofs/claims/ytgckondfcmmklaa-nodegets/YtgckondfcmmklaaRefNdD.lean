/-
  The document's answers (layer 8): Get.
-/
import Derived.Test.YtgckondfcmmklaaRefNdB
import Derived.Test.YtgckondfcmmklaaRefNdC
import Derived.Test.YtgckondfcmmklaaOwnMore
import Derived.Laws.ResultCell
import Derived.Laws.Tables
import Derived.Deep.AppendLies
namespace Go.Proofs.Ytgckondfcmmklaa
set_option linter.unusedVariables false
set_option linter.unusedSimpArgs false
open Go.RowKit

theorem step_call1 {P : Program} {ops : Array Oper} {o : Oper} {a : Act} {w : World} {K : Act → World → Prop} {Q : Exit → Act → World → Prop} {E : Prop}
    (hgd : o.guard = none) (f : FuncId) (hcf : ∀ args w, (callFunc f args).run P w = .ok (.enter f args) w) (x : Operand) (tys : Array TypeId) (hop : o.op = .call { callee := .value (.func f), args := #[x], argTypes := tys })
    (u : Value) (hx : a.eval x = u) {R : Ending → World → Prop} (hc : Calls P f #[u] w R)
    (h : ∀ e w', R e w' → ∃ v, e = .returned v ∧ K (a.put o.dst v) w') :
    if Region.wanted o (yielded ops a.tmps) = true then Oper.wp P o a w K Q else E :=
  step_call hgd f hcf #[x] tys hop #[u] (by simp [hx]) hc h

theorem setRow_far {w : World} {g k : Nat} {cs : Array Value} (h : k ≠ g) : (w.setRow g cs).heap[k]? = w.heap[k]? := by
  simp [World.setRow, Array.getElem?_modify, Ne.symm h]
theorem arg_setRow {w : World} {a : Option Addr} {n cap g : Nat} {l : List Int} (h : Arg .i64 w a n cap l) (hg : 0 < n → ∀ x, a = some x → g ≠ x.block) (cs : Array Value) : Arg .i64 (w.setRow g cs) a n cap l := by
  obtain ⟨h1, h2, ⟨h3, h4⟩, h5⟩ := h
  refine ⟨h1, h2, ⟨h3, ?_⟩, h5⟩
  rcases h4 with h4 | ⟨b, off, rfl, hb, hc⟩
  · exact .inl h4
  · by_cases hn : n = 0
    · exact .inl hn
    · refine .inr ⟨b, off, rfl, by simpa [World.setRow] using hb, fun i hi => ?_⟩
      rw [← hc i hi]
      exact World.cell?_of_block (setRow_far (Ne.symm (hg (by omega) ⟨b, off, none⟩ rfl)))

/-- a node's value in a world. -/
def NodeV (w : World) (v : Value) (n : Nd.N) : Prop := ∃ a cap, v = .agg #[.int .i64 n.slot, .int .i64 n.gen, .int .i64 n.key, .int .i64 n.val, .slice a n.kids.length cap] ∧ Arg .i64 w a n.kids.length cap n.kids
theorem NodeV.below {w w' : World} {v : Value} {n : Nd.N} (h : NodeV w v n) (hb : Below w.heap.size w w') : NodeV w' v n := by
  obtain ⟨a, cap, e, hA⟩ := h
  exact ⟨a, cap, e, hA.below hb⟩
def Nd.zero : Nd.N := ⟨0, 0, 0, 0, []⟩
/-- what Get tells. -/
def Nd.tells (zs : List Int) : Nd.N := if Nd.got zs = true then Nd.told zs else Nd.zero
theorem nodeV_zero (w : World) : NodeV w (.agg #[.int .i64 0, .int .i64 0, .int .i64 0, .int .i64 0, .slice none 0 0]) Nd.zero :=
  ⟨none, 0, rfl, Nat.le_refl _, Nat.zero_le _, ⟨rfl, .inl rfl⟩, (fun z hz => by cases hz), .inl rfl⟩

theorem info_node : (Try.prog.info? 28).map (·.size) = some 5 := by kernel_rfl
/-- a node's cell and another value, answered. -/
theorem results_node {fn : Func} {p u : Tmp} (h : fn.results = #[.cell p 28, .tmp u]) (tmps : Array Value) (W : World) (g : Nat) (cs : Array Value) (hp : tmps.getD p undef = .pointer (some ⟨g, 0, none⟩)) (hg : W.heap[g]? = some (.cells cs 28 (0, 0))) (hcs : cs.size = 5) :
    (results fn tmps).run Try.prog W = .ok (.tuple #[.agg cs, tmps.getD u undef]) W := by
  have hl := run_loadVar_row W g 28 28 cs (0, 0) _ hg Try.underlying28 rfl (by rw [hcs]; exact info_node)
  rw [results_cell_tmp h, hp]
  simp [asAddr, hl, Result.andThen]

theorem node_one (s g k v : Int) (a : Option Addr) (len cap : Nat) : (#[Value.int .i64 s, .int .i64 g, .int .i64 k, .int .i64 v, .slice a len cap]).all (·.oneCell') = true := by simp [Value.oneCell']

theorem byte_at {zs : List Int} (hz : Nums.Bytes zs) (i : Nat) : 0 ≤ zs.getD i 0 ∧ zs.getD i 0 ≤ 255 := by
  rw [List.getD_eq_getElem?_getD]
  by_cases h : i < zs.length
  · rw [List.getElem?_eq_getElem h]
    exact hz _ (List.getElem_mem _)
  · rw [List.getElem?_eq_none (by omega)]
    decide

set_option maxRecDepth 100000 in
set_option maxHeartbeats 2000000 in
theorem rget_other {w : World} {a : Option Addr} {len cap : Nat} {zs : List Int} (hA : Arg .u8 w a len cap zs) (hl : len ≤ 100000) (h : ¬ (Bk.isB zs = true ∧ zs.getD 4 0 = 1 ∧ zs.getD 5 0 ≤ 12)) :
    Calls Try.prog 15 #[.slice a len cap] w fun e w' => ∃ v, e = .returned (.tuple #[v, .bool (Nd.got zs)]) ∧ NodeV w' v (Nd.tells zs) ∧ Below w.heap.size w w' := by
  have hg : Nd.got zs = false := decide_eq_false fun e => h ⟨e.1, e.2.1, e.2.2.1⟩
  have ht : Nd.tells zs = Nd.zero := by unfold Nd.tells; rw [hg]; rfl
  rw [hg, ht]
  obtain ⟨W, hW⟩ : ∃ W, W = w.alloc (.cells #[.int .i64 0, .int .i64 0, .int .i64 0, .int .i64 0, .slice none 0 0] 28) := ⟨_, rfl⟩
  have hb0 : Below w.heap.size w W := by rw [hW]; exact (Below.refl _ _).alloc (Nat.le_refl _) _
  have hg0 : W.heap[w.heap.size]? = some (.cells #[.int .i64 0, .int .i64 0, .int .i64 0, .int .i64 0, .slice none 0 0] 28 (0, 0)) := by rw [hW]; exact heap_alloc_new w _
  have HO := hide (ropen_any (hA.below hb0) hl)
  have HB0 := hide hb0
  have HG0 := hide hg0
  have HBT : Hid (∀ i, 0 ≤ zs.getD i 0 ∧ zs.getD i 0 ≤ 255) := fun i => byte_at hA.bytes i
  clear hA hg ht hb0 hg0
  by_cases hB : Bk.isB zs = true
  · rw [if_pos hB] at HO
    have hzs := hB
    have hz4 : 0 ≤ zs.getD 4 0 ∧ zs.getD 4 0 ≤ 255 := HBT.out 4
    have hz5 : 0 ≤ zs.getD 5 0 ∧ zs.getD 5 0 ≤ 255 := HBT.out 5
    clear hzs
    by_cases h4 : zs.getD 4 0 = 1
    · have h5 : ¬ zs.getD 5 0 ≤ 12 := fun e => h ⟨hB, h4, e⟩
      rw [h4] at HO
      clear h hB h4
      generalize zs.getD 5 0 = t at *
      generalize strOfNums (zs.drop 8) = S at *
      go_enter Try.func15, Try.ntmps15
      go_wp2_with fail
      rw [← hW]
      refine HO.out.mono ?_
      rintro e w1 ⟨rfl, hb1⟩
      have HG1 := hide ((hb1.block _ ((Array.getElem?_eq_some_iff.1 HG0.out).1)).trans HG0.out)
      have HB1 := hide (HB0.out.trans (hb1.mono HB0.out.size))
      clear hb1
      go_wp2_with (refine wpList_store_row rfl 28 _ _ rfl w.heap.size #[.int .i64 0, .int .i64 0, .int .i64 0, .int .i64 0, .slice none 0 0] rfl rfl 28 #[.int .i64 0, .int .i64 0, .int .i64 0, .int .i64 0, .slice none 0 0] HG1.out info_node rfl (node_one 0 0 0 0 none 0 0) ?_)
      (try simp only [Exit.inBlock, Exit.then]); refine bodyPost_ret (results_node rfl _ _ w.heap.size #[.int .i64 0, .int .i64 0, .int .i64 0, .int .i64 0, .slice none 0 0] rfl (setRow_heap _ _ _ _ _ _ HG1.out) rfl) rfl ?_
      exact ⟨_, rfl, nodeV_zero _, below_setRow HB1.out (Nat.le_refl _) _⟩
    · clear h hB
      generalize zs.getD 4 0 = k at *
      generalize zs.getD 5 0 = t at *
      generalize strOfNums (zs.drop 8) = S at *
      have hk1 : (k != 1) = true := by simpa using h4
      go_enter Try.func15, Try.ntmps15
      go_wp2_with fail
      rw [← hW]
      refine HO.out.mono ?_
      rintro e w1 ⟨rfl, hb1⟩
      have HG1 := hide ((hb1.block _ ((Array.getElem?_eq_some_iff.1 HG0.out).1)).trans HG0.out)
      have HB1 := hide (HB0.out.trans (hb1.mono HB0.out.size))
      clear hb1
      go_wp2_with (refine wpList_store_row rfl 28 _ _ rfl w.heap.size #[.int .i64 0, .int .i64 0, .int .i64 0, .int .i64 0, .slice none 0 0] rfl rfl 28 #[.int .i64 0, .int .i64 0, .int .i64 0, .int .i64 0, .slice none 0 0] HG1.out info_node rfl (node_one 0 0 0 0 none 0 0) ?_)
      (try simp only [Exit.inBlock, Exit.then]); refine bodyPost_ret (results_node rfl _ _ w.heap.size #[.int .i64 0, .int .i64 0, .int .i64 0, .int .i64 0, .slice none 0 0] rfl (setRow_heap _ _ _ _ _ _ HG1.out) rfl) rfl ?_
      exact ⟨_, rfl, nodeV_zero _, below_setRow HB1.out (Nat.le_refl _) _⟩
  · rw [if_neg hB] at HO
    go_enter Try.func15, Try.ntmps15
    go_wp2_with fail
    rw [← hW]
    refine HO.out.mono ?_
    rintro e w1 ⟨rfl, hb1⟩
    have HG1 := hide ((hb1.block _ ((Array.getElem?_eq_some_iff.1 HG0.out).1)).trans HG0.out)
    have HB1 := hide (HB0.out.trans (hb1.mono HB0.out.size))
    clear hb1
    go_wp2_with (refine wpList_store_row rfl 28 _ _ rfl w.heap.size #[.int .i64 0, .int .i64 0, .int .i64 0, .int .i64 0, .slice none 0 0] rfl rfl 28 #[.int .i64 0, .int .i64 0, .int .i64 0, .int .i64 0, .slice none 0 0] HG1.out info_node rfl (node_one 0 0 0 0 none 0 0) ?_)
    (try simp only [Exit.inBlock, Exit.then]); refine bodyPost_ret (results_node rfl _ _ w.heap.size #[.int .i64 0, .int .i64 0, .int .i64 0, .int .i64 0, .slice none 0 0] rfl (setRow_heap _ _ _ _ _ _ HG1.out) rfl) rfl ?_
    exact ⟨_, rfl, nodeV_zero _, below_setRow HB1.out (Nat.le_refl _) _⟩

def kidsTo (s : List Int) (t : Nat) : List Int := (List.range t).map fun i => Nums.rd ((s.drop (24 + 2 * i)).take 2)
theorem kidsTo_succ (s : List Int) (t : Nat) : kidsTo s (t + 1) = kidsTo s t ++ [Nums.rd ((s.drop (24 + 2 * t)).take 2)] := by
  simp [kidsTo, List.range_succ]
theorem kidsTo_length (s : List Int) (t : Nat) : (kidsTo s t).length = t := by simp [kidsTo]
theorem kidsTo_wf {s : List Int} (hz : Nums.Bytes s) (t : Nat) : ∀ x ∈ kidsTo s t, (Lit.int .i64 x).wf = true := fun x hx => by
  obtain ⟨i, _, rfl⟩ := List.mem_map.1 hx
  have hb := Nums.bytes_take (Nums.bytes_drop hz (24 + 2 * i)) 2
  have h := Nums.rd_bounds _ hb
  have hq : (256 : Int) ^ ((s.drop (24 + 2 * i)).take 2).length ≤ 256 ^ 2 := by
    rw [show (256 : Int) ^ ((s.drop (24 + 2 * i)).take 2).length = ((256 ^ ((s.drop (24 + 2 * i)).take 2).length : Nat) : Int) from (Int.natCast_pow 256 _).symm, show (256 : Int) ^ 2 = ((256 ^ 2 : Nat) : Int) from rfl]
    exact Int.ofNat_le.2 (Nat.pow_le_pow_right (by decide) (by simp; omega))
  exact wf_of_bd ⟨by omega, by omega⟩

set_option maxRecDepth 100000 in
set_option maxHeartbeats 4000000 in
theorem rget_node {w : World} {a : Option Addr} {len cap : Nat} {zs : List Int} (hA : Arg .u8 w a len cap zs) (hl : len ≤ 100000) (hB : Bk.isB zs = true) (h4 : zs.getD 4 0 = 1) (h5 : zs.getD 5 0 ≤ 12) :
    Calls Try.prog 15 #[.slice a len cap] w fun e w' => ∃ v, e = .returned (.tuple #[v, .bool (Nd.got zs)]) ∧ NodeV w' v (Nd.tells zs) ∧ Below w.heap.size w w' := by
  have hz := hA.bytes
  have hb5 := byte_at hz 5
  obtain ⟨t, ht⟩ : ∃ t : Nat, zs.getD 5 0 = t := ⟨(zs.getD 5 0).toNat, by omega⟩
  have ht12 : t ≤ 12 := by omega
  have hzl : zs.length = 64 := (of_decide_eq_true hB).1
  obtain ⟨s, hs⟩ : ∃ s, s = zs.drop 8 := ⟨_, rfl⟩
  have hsz : Nums.Bytes s := by rw [hs]; exact Nums.bytes_drop hz 8
  have hsl : s.length = 56 := by rw [hs]; simp; omega
  obtain ⟨W, hW⟩ : ∃ W, W = w.alloc (.cells #[.int .i64 0, .int .i64 0, .int .i64 0, .int .i64 0, .slice none 0 0] 28) := ⟨_, rfl⟩
  have hb0 : Below w.heap.size w W := by rw [hW]; exact (Below.refl _ _).alloc (Nat.le_refl _) _
  have hg0 : W.heap[w.heap.size]? = some (.cells #[.int .i64 0, .int .i64 0, .int .i64 0, .int .i64 0, .slice none 0 0] 28 (0, 0)) := by rw [hW]; exact heap_alloc_new w _
  have hO := ropen_any (hA.below hb0) hl
  rw [if_pos hB, h4, ht, ← hs] at hO
  have HT : Hid (Nd.told zs = ⟨Nums.rd ((s.drop 16).take 4), Nums.rd ((s.drop 20).take 4), Nd.sgn (Nums.rd ((s.drop 0).take 8)), Nd.sgn (Nums.rd ((s.drop 8).take 8)), kidsTo s t⟩) := by
    show Nd.told zs = _
    unfold Nd.told
    rw [ht, ← hs, Int.toNat_natCast]
    rfl
  have HP1 := hide (fun W => piece W s hsz 16 4 (by decide))
  have HP2 := hide (fun W => piece W s hsz 20 4 (by decide))
  have HP3 := hide (fun W => piece8 W s hsz 0 8 (by decide))
  have HP4 := hide (fun W => piece8 W s hsz 8 8 (by decide))
  have HPK := hide (fun W j => piece W s hsz (24 + 2 * j) 2 (by decide))
  have hSz := size_str s
  rw [hsl] at hSz
  have HO := hide hO
  have HB0 := hide hb0
  have HG0 := hide hg0
  have HW3 : Hid (Nd.wf (Nd.told zs)) := Nd.told_wf hz
  generalize hx1 : Nums.rd ((s.drop 16).take 4) = x1 at *
  generalize hx2 : Nums.rd ((s.drop 20).take 4) = x2 at *
  generalize hx3 : Nd.sgn (Nums.rd ((s.drop 0).take 8)) = x3 at *
  generalize hx4 : Nd.sgn (Nums.rd ((s.drop 8).take 8)) = x4 at *
  generalize strOfNums s = S at *
  obtain ⟨S1, hS1⟩ : ∃ x, S.extract 16 (16 + 4) = x := ⟨_, rfl⟩
  obtain ⟨S2, hS2⟩ : ∃ x, S.extract 20 (20 + 4) = x := ⟨_, rfl⟩
  obtain ⟨S3, hS3⟩ : ∃ x, S.extract 0 (0 + 8) = x := ⟨_, rfl⟩
  obtain ⟨S4, hS4⟩ : ∃ x, S.extract 8 (8 + 8) = x := ⟨_, rfl⟩
  rw [hS1] at HP1
  rw [hS2] at HP2
  rw [hS3] at HP3
  rw [hS4] at HP4
  have HKW := hide (kidsTo_wf hsz)
  have HA := hide hA
  have HGG : Hid (Bk.isB zs = true ∧ zs.getD 4 0 = 1 ∧ zs.getD 5 0 ≤ 12) := ⟨hB, h4, h5⟩
  clear hA hO hb0 hg0 hx1 hx2 hx3 hx4 hB h4 h5 hb5 ht hzl hs hsz hsl
  have hs1 : S.extract 16 20 = S1 := hS1
  have hs2 : S.extract 20 24 = S2 := hS2
  have hs3 : S.extract 0 8 = S3 := hS3
  have hs4 : S.extract 8 16 = S4 := hS4
  clear hS1 hS2 hS3 hS4
  have ht' : ¬ (12 : Int) < (t : Int) := by omega
  go_enter Try.func15, Try.ntmps15
  go_wp2_with fail
  rw [← hW]
  refine HO.out.mono ?_
  rintro e w1 ⟨rfl, hb1⟩
  have HG1 := hide ((hb1.block _ ((Array.getElem?_eq_some_iff.1 HG0.out).1)).trans HG0.out)
  have HB1 := hide (HB0.out.trans (hb1.mono HB0.out.size))
  clear hb1
  go_wp2_with fail
  go_cut [8] from 28 to 42 (fun u wx => u = .pointer (some ⟨w1.heap.size, 0, none⟩) ∧ wx = (w1.alloc (.cells #[.int .i64 x1, .int .i64 x2, .int .i64 x3, .int .i64 x4, .slice none 0 0] 28)).drew)
  case first =>
    go_region_held3 (fun _ => True) (exact trivial) (first
      | (go_at_call_of 31 (Value.string S1); refine (HP1.out _).mono ?_; rintro e w' ⟨rfl, hw'⟩; obtain rfl := hw'.symm)
      | (go_at_call_of 31 (Value.string S2); refine (HP2.out _).mono ?_; rintro e w' ⟨rfl, hw'⟩; obtain rfl := hw'.symm)
      | (go_at_call_of 31 (Value.string S3); refine (HP3.out _).mono ?_; rintro e w' ⟨rfl, hw'⟩; obtain rfl := hw'.symm)
      | (go_at_call_of 31 (Value.string S4); refine (HP4.out _).mono ?_; rintro e w' ⟨rfl, hw'⟩; obtain rfl := hw'.symm))
    all_goals
      go_wp2_with fail
      go_meet
      case rel => exact ⟨rfl, rfl⟩
  case rest =>
    obtain ⟨rfl, rfl⟩ := hcut
    obtain ⟨G, hG⟩ : ∃ G, G = w1.heap.size := ⟨_, rfl⟩
    obtain ⟨W2, hW2⟩ : ∃ W2, W2 = (w1.alloc (.cells #[.int .i64 x1, .int .i64 x2, .int .i64 x3, .int .i64 x4, .slice none 0 0] 28)).drew := ⟨_, rfl⟩
    have hgN : W2.heap[G]? = some (.cells #[.int .i64 x1, .int .i64 x2, .int .i64 x3, .int .i64 x4, .slice none 0 0] 28 (0, 0)) := by
      rw [hW2, hG]
      exact heap_alloc_new w1 _
    have hb2 : Below w1.heap.size w1 W2 := by rw [hW2]; exact ((Below.refl _ _).alloc (Nat.le_refl _) _).drew
    have HGN := hide hgN
    have HB2 := hide hb2
    rw [← hW2, ← hG]
    have HG := hide hG
    rw [← hG] at HB2
    clear hW2 hgN hb2 hs1 hs2 hs3 hs4 hG
    obtain ⟨i0, hi, hz0, hz1, hz2⟩ := info_parts info_int64
    go_wp2_with fail
    go_loopw [9] (fun i wr => ∃ (j : Nat) (v : Value), j ≤ t ∧ i = .int .i64 j ∧ wr.ownsRow (G + 1) 3 1 v j ((kidsTo s j).map (Value.int .i64)) ∧ wr.heap[G]? = some (.cells #[.int .i64 x1, .int .i64 x2, .int .i64 x3, .int .i64 x4, v] 28 (0, 0)) ∧ Below G w1 wr) (fun i _ => t - (intOf i).toNat)
    case atStart => exact ⟨0, .slice none 0 0, Nat.zero_le _, rfl, ⟨rfl, .inl ⟨rfl, rfl⟩⟩, HGN.out, HB2.out⟩
    case round =>
      obtain ⟨j, v, hj, rfl, hown, hgn, hbr⟩ := hrel
      have HOW := hide hown
      have HGR := hide hgn
      have HBR := hide hbr
      have hGlt : G < wr.heap.size := (Array.getElem?_eq_some_iff.1 hgn).1
      by_cases hlt : j < t
      · have hjI : (j : Int) < (t : Int) := by omega
        have c4 : wr.cell? ⟨G, 4, none⟩ = some v := by simp [World.cell?, hgn]
        have f4 : wr.frozen? ⟨G, 4, none⟩ = false := by simp [World.frozen?, hgn]
        have ag := own_block_ne hown (Nat.lt_succ_self G)
        have HKS := hide (kidsTo_succ s j)
        have HPJ := hide (fun W => HPK.out W j)
        obtain ⟨xj, hxj⟩ : ∃ x, Nums.rd ((s.drop (24 + 2 * j)).take 2) = x := ⟨_, rfl⟩
        rw [hxj] at HKS HPJ
        obtain ⟨Sj, hSj⟩ : ∃ x, S.extract (24 + 2 * j) (24 + 2 * j + 2) = x := ⟨_, rfl⟩
        rw [hSj] at HPJ
        have hsj : S.extract (24 + 2 * j) (26 + 2 * j) = Sj := by rw [← hSj]; congr 1; omega
        have w1' : IntKind.i64.wrap (2 * (j : Int)) = 2 * (j : Int) := by rw [IntKind.wrap_i64]; omega
        have w2' : IntKind.i64.wrap (24 + 2 * (j : Int)) = 24 + 2 * (j : Int) := by rw [IntKind.wrap_i64]; omega
        have w3' : IntKind.i64.wrap (26 + 2 * (j : Int)) = 26 + 2 * (j : Int) := by rw [IntKind.wrap_i64]; omega
        have n2' : (24 + 2 * (j : Int)).toNat = 24 + 2 * j := by omega
        have n3' : (26 + 2 * (j : Int)).toNat = 26 + 2 * j := by omega
        have p2' : (0 : Int) ≤ 24 + 2 * (j : Int) := by omega
        have p3' : (0 : Int) ≤ 26 + 2 * (j : Int) := by omega
        have q2' : (24 + 2 * (j : Int)) ≤ 26 + 2 * (j : Int) := by omega
        have q3' : (26 + 2 * (j : Int)) ≤ 56 := by omega
        have q4' : 26 + 2 * j ≤ 56 := by omega
        have F0 : ∀ x : Int, ((wr.alloc (.cells #[.int .i64 x] 3)).drew).frozen? ⟨G, 4, none⟩ = false := fun x => (Below.frozen (((Below.refl wr.heap.size wr).alloc (Nat.le_refl _) _).drew) hGlt).trans f4
        have C0 : ∀ x : Int, ((wr.alloc (.cells #[.int .i64 x] 3)).drew).cell? ⟨G, 4, none⟩ = some v := fun x => (Below.cell (((Below.refl wr.heap.size wr).alloc (Nat.le_refl _) _).drew) hGlt).trans c4
        clear hown hgn hbr hxj hSj
        go_wp2_with fail
        go_region_law (first
            | (refine step_call1 rfl 31 Try.call31 _ _ rfl (.string Sj) (by go_simp) (HPJ.out _) ?_; rintro e w' ⟨rfl, rfl⟩; refine ⟨_, rfl, ?_⟩)
            | (refine step_append_lies _ (by rfl) _ _ _ (by rfl) (G + 1) 3 i0 _ 1 8 Try.underlying26 hi hz0 hz1 hz2 rfl (by omega) v j ((kidsTo s j).map (Value.int .i64)) (by rfl) ((HOW.out.alloc _).drew) ⟨wr.heap.size, 0, none⟩ 1 1 [.int .i64 xj] (by rfl) (by rfl) (World.news_of_block (cs := #[.int .i64 xj]) (t := 3) (fr := (0, 0)) (heap_alloc_new wr _)) (by simp [Value.oneCell']) (by omega) (by unfold maxLen; omega) (by omega) (by simp; omega) (wr.heap.size + 1) (by simp) ?_; intro gg cp w5 hown1 hgrow hat hlt1; have f5 := (hgrow.frozen_far ⟨G, 4, none⟩ (by simp; omega) (Ne.symm ag)).trans (F0 xj); have c5 := (hgrow.cell_far ⟨G, 4, none⟩ (by simp; omega) (Ne.symm ag)).trans (C0 xj)))
        all_goals
          have hgb : w5.heap[G]? = some (.cells #[.int .i64 x1, .int .i64 x2, .int .i64 x3, .int .i64 x4, v] 28 (0, 0)) := by
            rw [hgrow.block G (by simp; omega) (Ne.symm ag)]
            exact (Below.heap_alloc wr _ G hGlt).trans HGR.out
          have HGB := hide hgb
          have HON : Hid ((w5.setCell ⟨G, 4, none⟩ (.slice (some ⟨gg, 0, none⟩) (j + 1) cp)).ownsRow (G + 1) 3 1 (.slice (some ⟨gg, 0, none⟩) (j + 1) cp) (j + 1) ((kidsTo s (j + 1)).map (Value.int .i64))) := by
            refine own_set (w := w5) (g := G) ?_ (Nat.lt_succ_self G)
            rw [HKS.out, List.map_append]
            exact hown1
          have HBN : Hid (Below G w1 (w5.setCell ⟨G, 4, none⟩ (.slice (some ⟨gg, 0, none⟩) (j + 1) cp))) := by
            exact Below.setCell (own_below ((HOW.out.alloc _).drew) hgrow (by simp; omega) ((HBR.out.alloc (Nat.le_of_lt hGlt) _).drew) (Nat.le_succ G)) (Nat.le_refl G) _
          clear hown1 hgrow hat hlt1 f5 c5 hgb
          go_wp2_with fail
          go_roundw
          case rel => exact ⟨j + 1, _, by omega, by go_num, HON.out, by rw [heap_set HGB.out]; rfl, HBN.out⟩
          case measure => simp [intOf]; omega
      · have hjI : ¬ (j : Int) < (t : Int) := by omega
        obtain rfl : j = t := by omega
        have hKL := kidsTo_length s j
        have hown' : wr.ownsRow (G + 1) 3 1 v (kidsTo s j).length ((kidsTo s j).map (Value.int .i64)) := by rw [hKL]; exact hown
        obtain ⟨ka, kc, hv, hKA, hKB⟩ := arg_of_own hown' (HKW.out j)
        rw [hKL] at hv hKA
        subst hv
        have hGw : w.heap.size < G := by rw [HG.out]; exact (Array.getElem?_eq_some_iff.1 HG1.out).1
        have HGW : Hid (wr.heap[w.heap.size]? = some (.cells #[.int .i64 0, .int .i64 0, .int .i64 0, .int .i64 0, .slice none 0 0] 28 (0, 0))) := (hbr.block _ hGw).trans HG1.out
        have HBw : Hid (Below w.heap.size w wr) := HB1.out.trans (hbr.mono (by omega))
        have k0 : ∀ x : Later wr, x.val.heap[G]? = some (.cells #[.int .i64 x1, .int .i64 x2, .int .i64 x3, .int .i64 x4, .slice ka j kc] 28 (0, 0)) := fun x => (x.property.block _ hGlt).trans hgn
        have c0 : ∀ x : Later wr, x.val.cell? ⟨G, 0, none⟩ = some (.int .i64 x1) := fun x => by simp [World.cell?, k0 x]
        have c1 : ∀ x : Later wr, x.val.cell? ⟨G, 1, none⟩ = some (.int .i64 x2) := fun x => by simp [World.cell?, k0 x]
        have c2 : ∀ x : Later wr, x.val.cell? ⟨G, 2, none⟩ = some (.int .i64 x3) := fun x => by simp [World.cell?, k0 x]
        have c3 : ∀ x : Later wr, x.val.cell? ⟨G, 3, none⟩ = some (.int .i64 x4) := fun x => by simp [World.cell?, k0 x]
        have c4 : ∀ x : Later wr, x.val.cell? ⟨G, 4, none⟩ = some (.slice ka j kc) := fun x => by simp [World.cell?, k0 x]
        have hne := later_some wr
        have hcv := fun x : Later wr => conv_bytes cap ((HA.out.2.2.1.below HBw.out).below x.property)
        have HR := hide (fun x : Later wr => rright_any x1 x2 x3 x4 (kidsTo s j) x.val ka j kc (hKA.below x.property) (by omega))
        have HPT := hide (fun (hr : Nd.right ⟨x1, x2, x3, x4, kidsTo s j⟩ = true) (hw : Nd.wf ⟨x1, x2, x3, x4, kidsTo s j⟩) (x : Later wr) => rput_any x1 x2 x3 x4 (kidsTo s j) x.val ka j kc (hKA.below x.property) hr hw)
        have HKA := hide hKA
        have HKB : Hid (0 < j → ∀ x, ka = some x → w.heap.size ≠ x.block) := fun h0 x hx => by have := hKB (by rw [hKL]; exact h0) x hx; omega
        have HGN := hide hgn
        have hsz := HBw.out.size
        clear k0 hown hown' hbr hKA hgn hKB
        have hws : w.heap.size < wr.heap.size := by omega
        by_cases hr : Nd.right ⟨x1, x2, x3, x4, kidsTo s j⟩ = true
        · have HPU := hide (HPT.out hr (by rw [← HT.out]; exact HW3.out))
          rw [hr] at HR
          by_cases he : Nd.block ⟨x1, x2, x3, x4, kidsTo s j⟩ = zs
          · rw [he] at HPU
            have HGOT : Hid (Nd.got zs = true) := decide_eq_true ⟨HGG.out.1, HGG.out.2.1, HGG.out.2.2, by rw [HT.out]; exact hr, by rw [HT.out]; exact he⟩
            have HTELL : Hid (Nd.tells zs = ⟨x1, x2, x3, x4, kidsTo s j⟩) := by show Nd.tells zs = _; unfold Nd.tells; rw [HGOT.out, if_pos rfl, HT.out]
            clear he hr HPT
            generalize strOfNums zs = X at *
            go_wp2_with fail
            refine wp_region_later (by kernel_rfl) (by kernel_rfl) ?_
            repeat (go_big_quiet_step (first | (go_at_call 9; refine calls_later (HR.out _)) | (go_at_call 12; refine calls_later (HPU.out _))))
            refine wpQuiet_nil ?_
            intro w9 hw9
            obtain ⟨⟨w9', hb9⟩, rfl⟩ := hw9
            have HG9 := hide ((hb9.block _ (by omega)).trans HGW.out)
            have HB9 := hide (HBw.out.trans (hb9.mono HBw.out.size))
            have HGx := hide ((hb9.block _ hGlt).trans HGN.out)
            have HNV : Hid (∀ cs, NodeV (w9.setRow w.heap.size cs) (.agg #[.int .i64 x1, .int .i64 x2, .int .i64 x3, .int .i64 x4, .slice ka j kc]) ⟨x1, x2, x3, x4, kidsTo s j⟩) := fun cs => by
              refine ⟨ka, kc, by rw [kidsTo_length], ?_⟩
              show Arg .i64 _ ka (kidsTo s j).length kc (kidsTo s j)
              rw [kidsTo_length]
              exact arg_setRow (HKA.out.below hb9) HKB.out cs
            clear hb9 c0 c1 c2 c3 c4 hne hcv
            go_wp2_with (first | (refine wpList_load_row rfl 28 _ rfl G rfl 28 #[.int .i64 x1, .int .i64 x2, .int .i64 x3, .int .i64 x4, .slice ka j kc] (0, 0) _ HGx.out Try.underlying28 rfl info_node ?_) | (refine wpList_store_row rfl 28 _ _ rfl w.heap.size #[.int .i64 x1, .int .i64 x2, .int .i64 x3, .int .i64 x4, .slice ka j kc] rfl rfl 28 #[.int .i64 0, .int .i64 0, .int .i64 0, .int .i64 0, .slice none 0 0] HG9.out info_node rfl (node_one x1 x2 x3 x4 ka j kc) ?_))
            (try simp only [Exit.inBlock, Exit.then]); refine bodyPost_ret (results_node rfl _ _ w.heap.size #[.int .i64 x1, .int .i64 x2, .int .i64 x3, .int .i64 x4, .slice ka j kc] rfl (setRow_heap _ _ _ _ _ _ HG9.out) rfl) rfl ?_
            exact ⟨_, by rw [HGOT.out]; rfl, by rw [HTELL.out]; exact HNV.out _, below_setRow HB9.out (Nat.le_refl _) _⟩
          · have hbeq := str_ne (s := strOfNums (Nd.block ⟨x1, x2, x3, x4, kidsTo s j⟩)) (t := strOfNums zs) (fun e => he (str_inj (Nd.block_bytes hr) HA.out.bytes e))
            have HGOT : Hid (Nd.got zs = false) := decide_eq_false fun e => he (by have := e.2.2.2.2; rw [HT.out] at this; exact this)
            have HTELL : Hid (Nd.tells zs = Nd.zero) := by show Nd.tells zs = _; unfold Nd.tells; rw [HGOT.out]; rfl
            clear he hr HPT
            generalize strOfNums (Nd.block ⟨x1, x2, x3, x4, kidsTo s j⟩) = Y at *
            generalize strOfNums zs = X at *
            go_wp2_with fail
            refine wp_region_later (by kernel_rfl) (by kernel_rfl) ?_
            repeat (go_big_quiet_step (first | (go_at_call 9; refine calls_later (HR.out _)) | (go_at_call 12; refine calls_later (HPU.out _))))
            refine wpQuiet_nil ?_
            intro w9 hw9
            obtain ⟨⟨w9', hb9⟩, rfl⟩ := hw9
            have HG9 := hide ((hb9.block _ (by omega)).trans HGW.out)
            have HB9 := hide (HBw.out.trans (hb9.mono HBw.out.size))
            clear hb9 c0 c1 c2 c3 c4 hne hcv
            go_wp2_with (refine wpList_store_row rfl 28 _ _ rfl w.heap.size #[.int .i64 0, .int .i64 0, .int .i64 0, .int .i64 0, .slice none 0 0] rfl rfl 28 #[.int .i64 0, .int .i64 0, .int .i64 0, .int .i64 0, .slice none 0 0] HG9.out info_node rfl (node_one 0 0 0 0 none 0 0) ?_)
            (try simp only [Exit.inBlock, Exit.then]); refine bodyPost_ret (results_node rfl _ _ w.heap.size #[.int .i64 0, .int .i64 0, .int .i64 0, .int .i64 0, .slice none 0 0] rfl (setRow_heap _ _ _ _ _ _ HG9.out) rfl) rfl ?_
            exact ⟨_, by rw [HGOT.out]; rfl, by rw [HTELL.out]; exact nodeV_zero _, below_setRow HB9.out (Nat.le_refl _) _⟩
        · have HGOT : Hid (Nd.got zs = false) := decide_eq_false fun e => hr (by have := e.2.2.2.1; rw [HT.out] at this; exact this)
          have HTELL : Hid (Nd.tells zs = Nd.zero) := by show Nd.tells zs = _; unfold Nd.tells; rw [HGOT.out]; rfl
          rw [show Nd.right ⟨x1, x2, x3, x4, kidsTo s j⟩ = false by simpa using hr] at HR
          clear hr HPT
          generalize strOfNums zs = X at *
          go_wp2_with fail
          refine wp_region_later (by kernel_rfl) (by kernel_rfl) ?_
          repeat (go_big_quiet_step ((go_at_call 9; refine calls_later (HR.out _))))
          refine wpQuiet_nil ?_
          intro w9 hw9
          obtain ⟨⟨w9', hb9⟩, rfl⟩ := hw9
          have HG9 := hide ((hb9.block _ (by omega)).trans HGW.out)
          have HB9 := hide (HBw.out.trans (hb9.mono HBw.out.size))
          clear hb9 c0 c1 c2 c3 c4 hne hcv
          go_wp2_with (refine wpList_store_row rfl 28 _ _ rfl w.heap.size #[.int .i64 0, .int .i64 0, .int .i64 0, .int .i64 0, .slice none 0 0] rfl rfl 28 #[.int .i64 0, .int .i64 0, .int .i64 0, .int .i64 0, .slice none 0 0] HG9.out info_node rfl (node_one 0 0 0 0 none 0 0) ?_)
          (try simp only [Exit.inBlock, Exit.then]); refine bodyPost_ret (results_node rfl _ _ w.heap.size #[.int .i64 0, .int .i64 0, .int .i64 0, .int .i64 0, .slice none 0 0] rfl (setRow_heap _ _ _ _ _ _ HG9.out) rfl) rfl ?_
          exact ⟨_, by rw [HGOT.out]; rfl, by rw [HTELL.out]; exact nodeV_zero _, below_setRow HB9.out (Nat.le_refl _) _⟩

theorem rget_any {w : World} {a : Option Addr} {len cap : Nat} {zs : List Int} (hA : Arg .u8 w a len cap zs) (hl : len ≤ 100000) :
    Calls Try.prog 15 #[.slice a len cap] w fun e w' => ∃ v, e = .returned (.tuple #[v, .bool (Nd.got zs)]) ∧ NodeV w' v (Nd.tells zs) ∧ Below w.heap.size w w' := by
  by_cases h : Bk.isB zs = true ∧ zs.getD 4 0 = 1 ∧ zs.getD 5 0 ≤ 12
  · exact rget_node hA hl h.1 h.2.1 h.2.2
  · exact rget_other hA hl h
end Go.Proofs.Ytgckondfcmmklaa
