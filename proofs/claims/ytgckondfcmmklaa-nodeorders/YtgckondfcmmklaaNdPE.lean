/-
  node.read: what it answers.
-/
import Derived.Test.YtgckondfcmmklaaNdPC
import Derived.Test.YtgckondfcmmklaaOcG
import Derived.Test.YtgckondfcmmklaaGround
namespace Go.Proofs.Ytgckondfcmmklaa
set_option linter.unusedVariables false
set_option linter.unusedSimpArgs false
open Go.RowKit

theorem i64_wrap_sgn {v : Int} (h : 0 ≤ v ∧ v < 18446744073709551616) : IntKind.i64.wrap v = Nd.sgn v := by
  rw [IntKind.wrap_i64]
  unfold Nd.sgn
  split <;> omega

theorem rd_word {zs : List Int} (hz : Nums.Bytes zs) (p n : Nat) (hn : n ≤ 8) : 0 ≤ Nums.rd ((zs.drop p).take n) ∧ Nums.rd ((zs.drop p).take n) < 18446744073709551616 := by
  have h := Nums.rd_bounds _ (Nums.bytes_take (Nums.bytes_drop hz p) n)
  have hq : (256 : Int) ^ ((zs.drop p).take n).length ≤ 256 ^ 8 := by
    rw [show (256 : Int) ^ ((zs.drop p).take n).length = ((256 ^ ((zs.drop p).take n).length : Nat) : Int) from (Int.natCast_pow 256 _).symm, show (256 : Int) ^ 8 = ((256 ^ 8 : Nat) : Int) from rfl]
    exact Int.ofNat_le.2 (Nat.pow_le_pow_right (by decide) (by simp; omega))
  have e : (256 : Int) ^ 8 = 18446744073709551616 := by decide
  omega

theorem make_ints (n : Nat) (h : n ≤ 35184372088832) (w : World) :
    (Instr.makeSlice 26 (.int .i64 (n : Int)) (.int .i64 (n : Int))).run Try.prog w = .ok (.slice (some ⟨w.heap.size, 0, none⟩) n n) (w.alloc (.cells (blk .i64 (List.replicate n 0)) 3)) := by
  have h := run_make_row' (P := Try.prog) 26 3 (.int .i64 0) 8 Try.underlying26 (by kernel_rfl) rfl .i64 .i64 n (by omega) (by omega) w
  rw [h, blk_made]

set_option maxRecDepth 100000 in
set_option maxHeartbeats 1000000 in
theorem ntake_any (n p : Nat) (w : World) (gb ga : Nat) (a : Option Addr) (cap : Nat) (zs : List Int) (hA : Arg .u8 w a 56 cap zs) (hb : w.heap[gb]? = some (.cells #[.slice a 56 cap] 30 (0, 0))) (ha : w.heap[ga]? = some (.cells #[.int .i64 p] 3 (0, 0))) (hn : 1 ≤ n) (hn8 : n ≤ 8) (hpn : p + n ≤ 56) :
    Calls Try.prog 37 #[.int .i64 n, .pointer (some ⟨gb, 0, none⟩), .pointer (some ⟨ga, 0, none⟩)] w fun e w' => e = .returned (.int .i64 (Nd.sgn (Nums.rd ((zs.drop p).take n)))) ∧ w'.heap[ga]? = some (.cells #[.int .i64 (p + n : Nat)] 3 (0, 0)) ∧ Only (· = ga) w w' := by
  have hz := hA.bytes
  have c0 : w.cell? ⟨gb, 0, none⟩ = some (.slice a 56 cap) := by simp [World.cell?, hb]
  have c1 : w.cell? ⟨ga, 0, none⟩ = some (.int .i64 p) := by simp [World.cell?, ha]
  have f1 : w.frozen? ⟨ga, 0, none⟩ = false := by simp [World.frozen?, ha]
  have HG := hide (get_yes a 56 cap p n zs w (by unfold maxLen; decide) hA.1 hA.2.2.1 hz hn hn8 hpn)
  have hy := rd_word hz p n hn8
  have hw := i64_wrap_sgn hy
  have HA := hide ha
  clear hA hb ha hz
  generalize Nums.rd ((zs.drop p).take n) = y at *
  generalize Nd.sgn y = s at *
  have hpI : (p : Int) + (n : Int) ≤ 56 := by omega
  go_enter Try.func37, Try.ntmps37
  go_wp2_with fail
  refine HG.out.mono ?_
  rintro e w1 ⟨rfl, hw1⟩
  obtain rfl := hw1.symm
  go_wp2_with fail
  go_ret
  exact ⟨rfl, by rw [heap_set HA.out]; simp, (Only.refl (· = ga) w).setCell (p := ⟨ga, 0, none⟩) rfl _⟩

theorem drew_heap (W : World) : W.drew.heap = W.heap := rfl
theorem set_five {w : World} {g : Nat} {c0 c1 c2 c3 c4 : Value} {T : TypeId} (h : w.heap[g]? = some (.cells #[c0, c1, c2, c3, c4] T (0, 0))) (u0 u1 u2 u3 u4 : Value) :
    Only (fun x => x = g) w (((((w.setCell ⟨g, 0, none⟩ u0).setCell ⟨g, 1, none⟩ u1).setCell ⟨g, 2, none⟩ u2).setCell ⟨g, 3, none⟩ u3).setCell ⟨g, 4, none⟩ u4).drew ∧
    (((((w.setCell ⟨g, 0, none⟩ u0).setCell ⟨g, 1, none⟩ u1).setCell ⟨g, 2, none⟩ u2).setCell ⟨g, 3, none⟩ u3).setCell ⟨g, 4, none⟩ u4).drew.heap[g]? = some (.cells #[u0, u1, u2, u3, u4] T (0, 0)) := by
  have o : ∀ (W : World) (i : Nat) (u : Value), Only (fun x => x = g) W (W.setCell ⟨g, i, none⟩ u) := fun W i u => (Only.refl (fun x => x = g) W).setCell (p := ⟨g, i, none⟩) rfl u
  have d : ∀ W : World, Only (fun x => x = g) W W.drew := fun W => ⟨rfl, rfl, rfl, Nat.le_refl _, fun _ _ _ => rfl⟩
  have h0 := heap_set h 0 u0
  have h1 := heap_set h0 1 u1
  have h2 := heap_set h1 2 u2
  have h3 := heap_set h2 3 u3
  have h4 := heap_set h3 4 u4
  refine ⟨(((((o w 0 u0).trans (o _ 1 u1)).trans (o _ 2 u2)).trans (o _ 3 u3)).trans (o _ 4 u4)).trans (d _), ?_⟩
  rw [drew_heap, h4]
  simp

/-- what lies in memory while a body is read: the body, the answer's place, how far it was read, the node so far. -/
structure Rd (w W : World) (a : Option Addr) (cap p : Nat) (x1 x2 x3 x4 : Int) (kv : Value) : Prop where
  body : W.heap[w.heap.size]? = some (.cells #[.slice a 56 cap] 30 (0, 0))
  res : W.heap[w.heap.size + 1]? = some (.cells #[.int .i64 0, .int .i64 0, .int .i64 0, .int .i64 0, .slice none 0 0] 28 (0, 0))
  at_ : W.heap[w.heap.size + 2]? = some (.cells #[.int .i64 p] 3 (0, 0))
  node : W.heap[w.heap.size + 3]? = some (.cells #[.int .i64 x1, .int .i64 x2, .int .i64 x3, .int .i64 x4, kv] 28 (0, 0))
  below : Below w.heap.size w W

theorem Rd.take {w W : World} {a : Option Addr} {cap p : Nat} {x1 x2 x3 x4 : Int} {kv : Value} (h : Rd w W a cap p x1 x2 x3 x4 kv) {zs : List Int} (hA : Arg .u8 w a 56 cap zs) (n : Nat) (hn : 1 ≤ n) (hn8 : n ≤ 8) (hpn : p + n ≤ 56) :
    Calls Try.prog 37 #[.int .i64 n, .pointer (some ⟨w.heap.size, 0, none⟩), .pointer (some ⟨w.heap.size + 2, 0, none⟩)] W fun e w' => e = .returned (.int .i64 (Nd.sgn (Nums.rd ((zs.drop p).take n)))) ∧ Rd w w' a cap (p + n) x1 x2 x3 x4 kv ∧ ∀ k, k < W.heap.size → k ≠ w.heap.size + 2 → w'.heap[k]? = W.heap[k]? := by
  refine (ntake_any n p W _ _ a cap zs (hA.below h.below) h.body h.at_ hn hn8 hpn).mono ?_
  rintro e w' ⟨rfl, h1, h2⟩
  have l3 := (Array.getElem?_eq_some_iff.1 h.node).1
  refine ⟨rfl, ⟨?_, ?_, h1, ?_, ?_⟩, fun k hk hne => h2.block k hk hne⟩
  · rw [h2.block _ (by omega) (by omega)]; exact h.body
  · rw [h2.block _ (by omega) (by omega)]; exact h.res
  · rw [h2.block _ (by omega) (by omega)]; exact h.node
  · exact h.below.trans (h2.below (fun k hk => by omega) (by omega))
theorem Rd.put {w W : World} {a : Option Addr} {cap p : Nat} {x1 x2 x3 x4 : Int} {kv : Value} (h : Rd w W a cap p x1 x2 x3 x4 kv) (i : Nat) (u : Value) {y1 y2 y3 y4 : Int} {kv' : Value} (he : (#[.int .i64 x1, .int .i64 x2, .int .i64 x3, .int .i64 x4, kv] : Array Value).setIfInBounds i u = #[.int .i64 y1, .int .i64 y2, .int .i64 y3, .int .i64 y4, kv']) : Rd w (W.setCell ⟨w.heap.size + 3, i, none⟩ u) a cap p y1 y2 y3 y4 kv' := by
  refine ⟨?_, ?_, ?_, ?_, h.below.setCell (by show w.heap.size ≤ w.heap.size + 3; omega) _⟩
  · rw [heap_set_other (by omega)]; exact h.body
  · rw [heap_set_other (by omega)]; exact h.res
  · rw [heap_set_other (by omega)]; exact h.at_
  · rw [heap_set h.node, he]
theorem Rd.cells {w W : World} {a : Option Addr} {cap p : Nat} {x1 x2 x3 x4 : Int} {kv : Value} (h : Rd w W a cap p x1 x2 x3 x4 kv) : W.cell? ⟨w.heap.size + 3, 0, none⟩ = some (.int .i64 x1) ∧ W.cell? ⟨w.heap.size + 3, 1, none⟩ = some (.int .i64 x2) ∧ W.cell? ⟨w.heap.size + 3, 2, none⟩ = some (.int .i64 x3) ∧ W.cell? ⟨w.heap.size + 3, 3, none⟩ = some (.int .i64 x4) ∧ W.cell? ⟨w.heap.size + 3, 4, none⟩ = some kv ∧ ∀ i, W.frozen? ⟨w.heap.size + 3, i, none⟩ = false := by
  refine ⟨?_, ?_, ?_, ?_, ?_, fun i => ?_⟩
  · simp [World.cell?, h.node]
  · simp [World.cell?, h.node]
  · simp [World.cell?, h.node]
  · simp [World.cell?, h.node]
  · simp [World.cell?, h.node]
  · simp [World.frozen?, h.node]
theorem Rd.other {w W W' : World} {a : Option Addr} {cap p : Nat} {x1 x2 x3 x4 : Int} {kv : Value} (h : Rd w W a cap p x1 x2 x3 x4 kv) {B : Nat} (hB : w.heap.size + 4 ≤ B) (hb : Below B W W') : Rd w W' a cap p x1 x2 x3 x4 kv := by
  refine ⟨(hb.block _ (by omega)).trans h.body, (hb.block _ (by omega)).trans h.res, (hb.block _ (by omega)).trans h.at_, (hb.block _ (by omega)).trans h.node, h.below.trans (hb.mono (by omega))⟩

set_option maxRecDepth 100000 in
set_option maxHeartbeats 2000000 in
theorem nread_any {w : World} {a : Option Addr} {cap : Nat} {zs : List Int} (hA : Arg .u8 w a 56 cap zs) (t : Nat) (ht : t ≤ 12) :
    Calls Try.prog 24 #[.slice a 56 cap, .int .i64 t] w fun e w' => ∃ gk a' c', e = .returned (.tuple #[.agg #[.int .i64 (Nd.sgn (Nums.rd ((zs.drop 16).take 4))), .int .i64 (Nd.sgn (Nums.rd ((zs.drop 20).take 4))), .int .i64 (Nd.sgn (Nums.rd ((zs.drop 0).take 8))), .int .i64 (Nd.sgn (Nums.rd ((zs.drop 8).take 8))), .slice (some ⟨gk, 0, none⟩) t t], .slice a' (56 - (24 + 2 * t)) c']) ∧ Arg .i64 w' (some ⟨gk, 0, none⟩) t t (kidsTo zs t) ∧ Arg .u8 w' a' (56 - (24 + 2 * t)) c' (zs.drop (24 + 2 * t)) ∧ w.heap.size ≤ gk ∧ Below w.heap.size w w' := by
  have hz := hA.bytes
  obtain ⟨X, hX⟩ : ∃ X, X = ((((w.alloc (.cells #[.slice a 56 cap] 30)).alloc (.cells #[.int .i64 0, .int .i64 0, .int .i64 0, .int .i64 0, .slice none 0 0] 28)).alloc (.cells #[.int .i64 0] 3)).alloc (.cells #[.int .i64 0, .int .i64 0, .int .i64 0, .int .i64 0, .slice none 0 0] 28)) := ⟨_, rfl⟩
  have hR0 : Rd w X a cap 0 0 0 0 0 (.slice none 0 0) := by
    refine ⟨?_, ?_, ?_, ?_, ?_⟩
    · rw [hX, Below.heap_alloc _ _ _ (by simp; omega), Below.heap_alloc _ _ _ (by simp; omega), Below.heap_alloc _ _ _ (by simp)]
      exact heap_alloc_new w _
    · rw [hX, Below.heap_alloc _ _ _ (by simp), Below.heap_alloc _ _ _ (by simp)]
      have := heap_alloc_new (w.alloc (.cells #[.slice a 56 cap] 30)) (.cells #[.int .i64 0, .int .i64 0, .int .i64 0, .int .i64 0, .slice none 0 0] 28)
      simpa using this
    · rw [hX, Below.heap_alloc _ _ _ (by simp)]
      have := heap_alloc_new ((w.alloc (.cells #[.slice a 56 cap] 30)).alloc (.cells #[.int .i64 0, .int .i64 0, .int .i64 0, .int .i64 0, .slice none 0 0] 28)) (.cells #[.int .i64 0] 3)
      simpa using this
    · rw [hX]
      have := heap_alloc_new (((w.alloc (.cells #[.slice a 56 cap] 30)).alloc (.cells #[.int .i64 0, .int .i64 0, .int .i64 0, .int .i64 0, .slice none 0 0] 28)).alloc (.cells #[.int .i64 0] 3)) (.cells #[.int .i64 0, .int .i64 0, .int .i64 0, .int .i64 0, .slice none 0 0] 28)
      simpa using this
    · rw [hX]
      exact ((((Below.refl w.heap.size w).alloc (Nat.le_refl _) _).alloc (by simp) _).alloc (by simp [Nat.add_assoc]) _).alloc (by simp [Nat.add_assoc]) _
  have HR0 := hide hR0
  have HA := hide hA
  have Y1 := hide (fun W (h : Rd w W a cap 0 0 0 0 0 (.slice none 0 0)) => h.take hA 8 (by decide) (by decide) (by decide))
  have Y2 := hide (fun W x3 (h : Rd w W a cap 8 0 0 x3 0 (.slice none 0 0)) => h.take hA 8 (by decide) (by decide) (by decide))
  have Y3 := hide (fun W x3 x4 (h : Rd w W a cap 16 0 0 x3 x4 (.slice none 0 0)) => h.take hA 4 (by decide) (by decide) (by decide))
  have Y4 := hide (fun W x1 x3 x4 (h : Rd w W a cap 20 x1 0 x3 x4 (.slice none 0 0)) => h.take hA 4 (by decide) (by decide) (by decide))
  rw [show ((8 : Nat) : Int) = 8 from rfl] at Y1 Y2
  rw [show ((4 : Nat) : Int) = 4 from rfl] at Y3 Y4
  generalize Nd.sgn (Nums.rd ((zs.drop 0).take 8)) = x3 at *
  generalize Nd.sgn (Nums.rd ((zs.drop 8).take 8)) = x4 at *
  generalize Nd.sgn (Nums.rd ((zs.drop 16).take 4)) = x1 at *
  generalize Nd.sgn (Nums.rd ((zs.drop 20).take 4)) = x2 at *
  have hmk := make_ints t (by omega)
  clear hA hR0
  go_enter Try.func24, Try.ntmps24
  go_wp2_with fail
  rw [← hX]
  clear hX
  simp only [Nat.add_assoc, Nat.reduceAdd]
  refine (Y1.out _ HR0.out).mono ?_
  rintro e w1 ⟨rfl, hR1, _⟩
  obtain ⟨_, _, c2, _, _, f⟩ := hR1.cells
  have HR1 : Hid (Rd w (w1.setCell ⟨w.heap.size + 3, 2, none⟩ (.int .i64 x3)) a cap 8 0 0 x3 0 (.slice none 0 0)) := hR1.put 2 _ rfl
  have f2 := f 2
  clear hR1 f
  go_wp2_with fail
  refine (Y2.out _ _ HR1.out).mono ?_
  rintro e w2 ⟨rfl, hR2, _⟩
  obtain ⟨_, _, _, c3, _, f⟩ := hR2.cells
  have HR2 : Hid (Rd w (w2.setCell ⟨w.heap.size + 3, 3, none⟩ (.int .i64 x4)) a cap 16 0 0 x3 x4 (.slice none 0 0)) := hR2.put 3 _ rfl
  have f3 := f 3
  clear hR2 f c2 f2
  go_wp2_with fail
  refine (Y3.out _ _ _ HR2.out).mono ?_
  rintro e w3 ⟨rfl, hR3, _⟩
  obtain ⟨c0, _, _, _, _, f⟩ := hR3.cells
  have HR3 : Hid (Rd w (w3.setCell ⟨w.heap.size + 3, 0, none⟩ (.int .i64 x1)) a cap 20 x1 0 x3 x4 (.slice none 0 0)) := hR3.put 0 _ rfl
  have f0 := f 0
  clear hR3 f c3 f3
  go_wp2_with fail
  refine (Y4.out _ _ _ _ HR3.out).mono ?_
  rintro e w4 ⟨rfl, hR4, _⟩
  obtain ⟨_, c1, _, _, _, f⟩ := hR4.cells
  obtain ⟨W4, hW4⟩ : ∃ W4, W4 = w4.setCell ⟨w.heap.size + 3, 1, none⟩ (.int .i64 x2) := ⟨_, rfl⟩
  have hR4' : Rd w W4 a cap 24 x1 x2 x3 x4 (.slice none 0 0) := by rw [hW4]; exact hR4.put 1 _ rfl
  have hs4 : w.heap.size + 4 ≤ W4.heap.size := (Array.getElem?_eq_some_iff.1 hR4'.node).1
  obtain ⟨G, hG⟩ : ∃ G, G = W4.heap.size := ⟨_, rfl⟩
  obtain ⟨W5, hW5⟩ : ∃ W5, W5 = W4.alloc (.cells (blk .i64 (List.replicate t 0)) 3) := ⟨_, rfl⟩
  have hR5 : Rd w W5 a cap 24 x1 x2 x3 x4 (.slice none 0 0) := by rw [hW5]; exact hR4'.other hs4 ((Below.refl _ _).alloc (Nat.le_refl _) _)
  have hg5 : W5.heap[G]? = some (.cells (blk .i64 (List.replicate t 0)) 3 (0, 0)) := by rw [hW5, hG]; exact heap_alloc_new W4 _
  obtain ⟨_, _, _, _, d4, f5⟩ := hR5.cells
  have e4 := f5 4
  have HR6 : Hid (Rd w (W5.setCell ⟨w.heap.size + 3, 4, none⟩ (.slice (some ⟨G, 0, none⟩) t t)) a cap 24 x1 x2 x3 x4 (.slice (some ⟨G, 0, none⟩) t t)) := hR5.put 4 _ rfl
  have HG6 : Hid ((W5.setCell ⟨w.heap.size + 3, 4, none⟩ (.slice (some ⟨G, 0, none⟩) t t)).heap[G]? = some (.cells (blk .i64 (List.replicate t 0)) 3 (0, 0))) := by
    show _ = _
    rw [heap_set_other (by omega)]; exact hg5
  have f1 := f 1
  have HGG : Hid (w.heap.size + 4 ≤ G) := by show _ ≤ _; omega
  clear hR4 f c0 f0 f5 hR5 hg5 hR4'
  rw [hW5, hW4] at d4 e4
  go_wp2_with fail
  have hG4 : w4.heap.size = G := by rw [hG, hW4]; simp [World.setCell]
  rw [← hW4, ← hW5, hG4]
  clear hW4 hW5 hG4 hG d4 e4 c1 f1 hmk
  go_loopw [33] (fun i wr => ∃ j : Nat, j ≤ t ∧ i = .int .i64 j ∧ Rd w wr a cap (24 + 2 * j) x1 x2 x3 x4 (.slice (some ⟨G, 0, none⟩) t t) ∧ wr.heap[G]? = some (.cells (blk .i64 (kidsTo zs j ++ List.replicate (t - j) 0)) 3 (0, 0))) (fun i _ => t - (intOf i).toNat)
  case atStart => exact ⟨0, Nat.zero_le _, rfl, HR6.out, by rw [Nat.sub_zero]; exact HG6.out⟩
  case round =>
    obtain ⟨j, hj, rfl, hRr, hgr⟩ := hrel
    have HRR := hide hRr
    by_cases hlt : j < t
    · have hjI : (j : Int) < (t : Int) := by omega
      obtain ⟨_, _, _, _, c4, _⟩ := hRr.cells
      have HY := hide (fun W (h : Rd w W a cap (24 + 2 * j) x1 x2 x3 x4 (.slice (some ⟨G, 0, none⟩) t t)) => h.take HA.out 2 (by decide) (by decide) (by omega))
      rw [sgn_small (Nums.bytes_take (Nums.bytes_drop hz (24 + 2 * j)) 2) (by simp; omega), show ((2 : Nat) : Int) = 2 from rfl] at HY
      have HKS := hide (kidsTo_succ zs j)
      generalize Nums.rd ((zs.drop (24 + 2 * j)).take 2) = y at *
      have HRD : Hid (Rd w wr.drew a cap (24 + 2 * j) x1 x2 x3 x4 (.slice (some ⟨G, 0, none⟩) t t)) := ⟨hRr.body, hRr.res, hRr.at_, hRr.node, hRr.below.drew⟩
      have hne3 : w.heap.size + 3 ≠ G := by have := HGG.out; omega
      have hgl : G < wr.heap.size := (Array.getElem?_eq_some_iff.1 hgr).1
      have HGR := hide hgr
      have hlen : (kidsTo zs j ++ List.replicate (t - j) 0).length = t := by simp [kidsTo_length]; omega
      have HLEN := hide hlen
      clear hRr hgr hlen
      go_wp2_with fail
      go_region_held3 (fun w' => w'.cell? ⟨w.heap.size + 3, 4, none⟩ = some (.slice (some ⟨G, 0, none⟩) t t)) (first | exact cc | exact (World.cell?_of_block (heap_set_other hne3 _ _)).trans cc | go_keep) ((go_at_call 37; refine (HY.out _ HRD.out).mono ?_; rintro e w5 ⟨rfl, hR5, hk5⟩; have cc := hR5.cells.2.2.2.2.1; have g5 : w5.heap[G]? = some (.cells (blk .i64 (kidsTo zs j ++ List.replicate (t - j) 0)) 3 (0, 0)) := (hk5 G hgl (by have := HGG.out; omega)).trans HGR.out; have k5 := (cell_blk g5 (i := j) (by rw [HLEN.out]; exact hlt)).1; have z5 := (cell_blk g5 (i := j) (by rw [HLEN.out]; exact hlt)).2; have HR5 := hide hR5; have HG5 := hide g5; clear hR5 g5 hk5))
      all_goals
        go_wp2_with fail
        go_roundw
        case rel =>
          refine ⟨j + 1, by omega, by go_num, ?_, ?_⟩
          · exact HR5.out.other HGG.out ((Below.refl G w5).setCell (p := ⟨G, j, none⟩) (Nat.le_refl _) _)
          · rw [heap_set HG5.out, blk_set, HKS.out]
            congr 3
            obtain ⟨m, rfl⟩ : ∃ m, t = j + 1 + m := ⟨t - (j + 1), by omega⟩
            rw [show j + 1 + m - j = m + 1 by omega, show j + 1 + m - (j + 1) = m by omega, List.set_append_right _ _ (by rw [kidsTo_length]; exact Nat.le_refl _), kidsTo_length, Nat.sub_self]
            simp [List.replicate_succ]
        case measure => simp [intOf]; omega
    · have hjI : ¬ (j : Int) < (t : Int) := by omega
      obtain rfl : j = t := by omega
      rw [Nat.sub_self, List.replicate_zero, List.append_nil] at hgr
      have HGR := hide hgr
      have c0 : wr.cell? ⟨w.heap.size, 0, none⟩ = some (.slice a 56 cap) := by simp [World.cell?, hRr.body]
      have c2 : wr.cell? ⟨w.heap.size + 2, 0, none⟩ = some (.int .i64 ((24 + 2 * j : Nat) : Int)) := by simp [World.cell?, hRr.at_]
      obtain ⟨n0, n1, n2, n3, n4, _⟩ := hRr.cells
      have r0 := hRr.res
      have hcap := HA.out.1
      have hcm := HA.out.2.1
      unfold maxLen at hcm
      obtain ⟨b, off, rfl⟩ : ∃ b off, a = some ⟨b, off, none⟩ := by
        obtain h | h := HA.out.2.2.2.2
        · omega
        · exact h
      have q0 : wr.cell? ⟨w.heap.size + 1, 0, none⟩ = some (.int .i64 0) := by simp [World.cell?, r0]
      have q1 : wr.cell? ⟨w.heap.size + 1, 1, none⟩ = some (.int .i64 0) := by simp [World.cell?, r0]
      have q2 : wr.cell? ⟨w.heap.size + 1, 2, none⟩ = some (.int .i64 0) := by simp [World.cell?, r0]
      have q3 : wr.cell? ⟨w.heap.size + 1, 3, none⟩ = some (.int .i64 0) := by simp [World.cell?, r0]
      have q4 : wr.cell? ⟨w.heap.size + 1, 4, none⟩ = some (.slice none 0 0) := by simp [World.cell?, r0]
      have z0 : wr.frozen? ⟨w.heap.size + 1, 0, none⟩ = false := by simp [World.frozen?, r0]
      have z1 : wr.frozen? ⟨w.heap.size + 1, 1, none⟩ = false := by simp [World.frozen?, r0]
      have z2 : wr.frozen? ⟨w.heap.size + 1, 2, none⟩ = false := by simp [World.frozen?, r0]
      have z3 : wr.frozen? ⟨w.heap.size + 1, 3, none⟩ = false := by simp [World.frozen?, r0]
      have z4 : wr.frozen? ⟨w.heap.size + 1, 4, none⟩ = false := by simp [World.frozen?, r0]
      have HR1 := hide r0
      obtain ⟨p, hp⟩ : ∃ p, p = 24 + 2 * j := ⟨_, rfl⟩
      rw [← hp] at c2
      have hp1 : (p : Int) ≤ 56 := by omega
      have hp2 : (p : Int) ≤ (cap : Int) := by omega
      have hp3 : ¬ cap = p := by omega
      have hp4 : (56 : Int) ≤ (cap : Int) := by omega
      have hp5 : (0 : Int) ≤ (p : Int) := by omega
      have HP := hide hp
      have HRest : Hid (Row .u8 w (some ⟨b, off + p, none⟩) (56 - p) (zs.drop p)) := by
        obtain ⟨b', off', e, h⟩ := HA.out.2.2.1.cut p (56 - p) (by omega) (by omega)
        cases e
        rw [List.take_of_length_le (by have := HA.out.2.2.1.1; simp; omega)] at h
        exact h
      have HJ := hide ht
      clear hRr hgr r0 hp hcap hcm ht
      go_wp2_with fail
      go_region_held3 (fun w' => w'.cell? ⟨w.heap.size, 0, none⟩ = some (.slice (some ⟨b, off, none⟩) 56 cap) ∧ w'.cell? ⟨w.heap.size + 2, 0, none⟩ = some (.int .i64 (p : Int)) ∧ w'.cell? ⟨w.heap.size + 3, 0, none⟩ = some (.int .i64 x1) ∧ w'.cell? ⟨w.heap.size + 3, 1, none⟩ = some (.int .i64 x2) ∧ w'.cell? ⟨w.heap.size + 3, 2, none⟩ = some (.int .i64 x3) ∧ w'.cell? ⟨w.heap.size + 3, 3, none⟩ = some (.int .i64 x4) ∧ w'.cell? ⟨w.heap.size + 3, 4, none⟩ = some (.slice (some ⟨G, 0, none⟩) j j)) (go_keep) (fail)
      obtain ⟨hO, hN⟩ := set_five HR1.out (.int .i64 x1) (.int .i64 x2) (.int .i64 x3) (.int .i64 x4) (.slice (some ⟨G, 0, none⟩) j j)
      have HO := hide hO
      have HN := hide hN
      clear hO hN
      generalize (((((wr.setCell ⟨w.heap.size + 1, 0, none⟩ (.int .i64 x1)).setCell ⟨w.heap.size + 1, 1, none⟩ (.int .i64 x2)).setCell ⟨w.heap.size + 1, 2, none⟩ (.int .i64 x3)).setCell ⟨w.heap.size + 1, 3, none⟩ (.int .i64 x4)).setCell ⟨w.heap.size + 1, 4, none⟩ (.slice (some ⟨G, 0, none⟩) j j)).drew = W9 at *
      go_wp2_with fail
      (try simp only [Exit.inBlock, Exit.then]); refine bodyPost_ret (results_node rfl _ _ (w.heap.size + 1) #[.int .i64 x1, .int .i64 x2, .int .i64 x3, .int .i64 x4, .slice (some ⟨G, 0, none⟩) j j] rfl HN.out rfl) rfl ?_
      have hB9 : Below w.heap.size w W9 := HRR.out.below.trans (HO.out.below (fun k hk => by omega) HRR.out.below.size)
      have hG9 : W9.heap[G]? = some (.cells (blk .i64 (kidsTo zs j)) 3 (0, 0)) := (HO.out.block G (Array.getElem?_eq_some_iff.1 HGR.out).1 (by have := HGG.out; omega)).trans HGR.out
      refine ⟨G, some ⟨b, off + p, none⟩, cap - p, by rw [← HP.out]; rfl, ⟨Nat.le_refl _, by have := HJ.out; unfold maxLen; omega, row_of_block hG9 (kidsTo_length zs j), kidsTo_wf hz j, .inr ⟨G, 0, rfl⟩⟩, ?_, by have := HGG.out; omega, hB9⟩
      rw [← HP.out]
      exact ⟨by omega, by have := HA.out.2.1; unfold maxLen at this ⊢; omega, HRest.out.below hB9, fun z hz' => HA.out.2.2.2.1 z (List.mem_of_mem_drop hz'), .inr ⟨_, _, rfl⟩⟩
end Go.Proofs.Ytgckondfcmmklaa
