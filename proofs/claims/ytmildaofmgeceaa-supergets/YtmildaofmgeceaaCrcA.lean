/-
  crc's step, and the document's Step and Steps: what each answers, for all arguments.
-/
import Derived.Test.YtmildaofmgeceaaGround
import Derived.Test.YtmildaofmgeceaaCrcNums
import Derived.Laws.BitsAllLaws
import Derived.Deep.WholeRow
namespace Go.Proofs.Ytmildaofmgeceaa
set_option linter.unusedVariables false
set_option linter.unusedSimpArgs false
open Go.RowKit

theorem step_odd {x : Nat} (h : x < 4294967296) (ho : x % 2 = 1) : bits .xor .u32 (((x / 2 : Nat) : Int)) 2197175160 = ((Crc.step x : Nat) : Int) := by
  have := u32_xor_nat (x / 2) 2197175160 (by omega) (by decide)
  rw [Crc.step, if_pos ho]
  exact this

set_option maxHeartbeats 400000 in
theorem step_any (x : Nat) (w : World) (h : x < 4294967296) :
    Calls Try.prog 58 #[.int .u32 x] w fun e w' => e = .returned (.int .u32 (Crc.step x)) ∧ w' = w := by
  by_cases ho : x % 2 = 1
  · have HS := hide (step_odd h ho)
    have hi : (x : Int) % 2 = 1 := by omega
    go_enter Try.func58, Try.ntmps58
    go_wp2
    go_ret
    exact ⟨congrArg (fun x => Ending.returned (Value.int .u32 x)) HS.out, rfl⟩
  · have HS : Hid (((x : Int) / 2) = ((Crc.step x : Nat) : Int)) := by rw [Crc.step, if_neg ho]; exact (by omega : (x : Int) / 2 = ((x / 2 : Nat) : Int))
    have hi : ¬ (x : Int) % 2 = 1 := by omega
    go_enter Try.func58, Try.ntmps58
    go_wp2
    go_ret
    exact ⟨congrArg (fun x => Ending.returned (Value.int .u32 x)) HS.out, rfl⟩

set_option maxHeartbeats 400000 in
theorem ref_step_any (x : Nat) (w : World) (h : x < 4294967296) :
    Calls Try.prog 60 #[.int .u32 x] w fun e w' => e = .returned (.int .u32 (Crc.step x)) ∧ w' = w := by
  by_cases ho : x % 2 = 1
  · have HS := hide (step_odd h ho)
    have hi : (x : Int) % 2 = 1 := by omega
    go_enter Try.func60, Try.ntmps60
    go_wp2
    go_ret
    exact ⟨congrArg (fun x => Ending.returned (Value.int .u32 x)) HS.out, rfl⟩
  · have HS : Hid (((x : Int) / 2) = ((Crc.step x : Nat) : Int)) := by rw [Crc.step, if_neg ho]; exact (by omega : (x : Int) / 2 = ((x / 2 : Nat) : Int))
    have hi : ¬ (x : Int) % 2 = 1 := by omega
    go_enter Try.func60, Try.ntmps60
    go_wp2
    go_ret
    exact ⟨congrArg (fun x => Ending.returned (Value.int .u32 x)) HS.out, rfl⟩

theorem steps_last (x k : Nat) : Crc.step (Crc.steps x k) = Crc.steps x (k + 1) := (Crc.steps_add k 1 x).symm

set_option maxHeartbeats 400000 in
theorem ref_steps_any (x n : Nat) (w : World) (h : x < 4294967296) (hn : n ≤ 1000) :
    Calls Try.prog 57 #[.int .u32 x, .int .i64 n] w fun e w' => e = .returned (.int .u32 (Crc.steps x n)) ∧ w' = w := by
  go_enter Try.func57, Try.ntmps57
  go_wp2
  go_loop [0, 5] (fun v i => ∃ k : Nat, k ≤ n ∧ i = .int .i64 k ∧ v = .int .u32 (Crc.steps x k)) (fun _ i => n - (intOf i).toNat)
  case atStart => exact ⟨0, Nat.zero_le _, rfl, rfl⟩
  case round =>
    obtain ⟨k, hk, rfl, rfl⟩ := hrel
    have hlt := Crc.steps_lt k h
    have HL := hide (steps_last x k)
    generalize hy : Crc.steps x k = y at *
    have HY := hide hy
    clear hy
    by_cases hkn : k < n
    · have hi : (k : Int) < (n : Int) := by omega
      go_wp2_with fail
      refine (ref_step_any y w hlt).mono ?_
      rintro e w1 ⟨rfl, hw1⟩
      obtain rfl := hw1.symm
      rw [HL.out]
      go_wp2_with fail
      go_round
      case rel => exact ⟨k + 1, by omega, by go_num, rfl⟩
      case measure => simp [intOf]; omega
    · have hi : ¬ (k : Int) < (n : Int) := by omega
      obtain rfl : k = n := by omega
      go_wp2_with fail
      go_ret
      exact ⟨by rw [HY.out]; rfl, rfl⟩

/-- an octet, taken into a register by a table. -/
def tk (ts : List Nat) (x z : Nat) : Nat :=
  ((x ^^^ z) / 16 ^^^ ts.getD ((x ^^^ z) % 16) 0) / 16 ^^^ ts.getD (((x ^^^ z) / 16 ^^^ ts.getD ((x ^^^ z) % 16) 0) % 16) 0

/-- a table in memory. -/
def Tab (w : World) (g : Nat) (ts : List Nat) : Prop := ∀ i, i < 16 → w.cell? ⟨g, i, none⟩ = some (.int .u32 (ts.getD i 0 : Nat))

theorem xor32 {x y : Nat} (h : x < 4294967296) (h' : y < 4294967296) : x ^^^ y < 4294967296 := Nat.xor_lt_two_pow (n := 32) h h'

/-- the parts of a taking, one by one. -/
structure Parts (ts : List Nat) (x z : Nat) (y q r t y2 q2 r2 t2 v : Nat) : Prop where
  b1 : bits .xor .u32 (x : Int) (z : Int) = (y : Int)
  y0 : 0 ≤ (y : Int) ∧ (y : Int) ≤ 4294967295
  d1 : (y : Int) / 16 = q
  m1 : (y : Int) % 16 = r
  r0 : r < 16
  g1 : ts.getD r 0 = t
  b2 : bits .xor .u32 (q : Int) (t : Int) = (y2 : Int)
  y20 : 0 ≤ (y2 : Int) ∧ (y2 : Int) ≤ 4294967295
  d2 : (y2 : Int) / 16 = q2
  m2 : (y2 : Int) % 16 = r2
  r20 : r2 < 16
  g2 : ts.getD r2 0 = t2
  b3 : bits .xor .u32 (q2 : Int) (t2 : Int) = (v : Int)
  e : v = tk ts x z

theorem getD_lt {ts : List Nat} (hl : ts.length = 16) (ht : ∀ t ∈ ts, t < 4294967296) (i : Nat) : ts.getD i 0 < 4294967296 := by
  by_cases h : i < ts.length
  · rw [List.getD_eq_getElem?_getD, List.getElem?_eq_getElem h]
    exact ht _ (List.getElem_mem h)
  · rw [List.getD_eq_getElem?_getD, List.getElem?_eq_none (by omega)]
    decide

theorem parts (ts : List Nat) (x z : Nat) (hx : x < 4294967296) (hz : z < 256) (hl : ts.length = 16) (ht : ∀ t ∈ ts, t < 4294967296) :
    ∃ y q r t y2 q2 r2 t2 v, Parts ts x z y q r t y2 q2 r2 t2 v := by
  have hy := xor32 hx (show z < 4294967296 by omega)
  have h1 := getD_lt hl ht ((x ^^^ z) % 16)
  have hy2 := xor32 (show (x ^^^ z) / 16 < 4294967296 by omega) h1
  have h2 := getD_lt hl ht (((x ^^^ z) / 16 ^^^ ts.getD ((x ^^^ z) % 16) 0) % 16)
  exact ⟨x ^^^ z, (x ^^^ z) / 16, (x ^^^ z) % 16, ts.getD ((x ^^^ z) % 16) 0, (x ^^^ z) / 16 ^^^ ts.getD ((x ^^^ z) % 16) 0, ((x ^^^ z) / 16 ^^^ ts.getD ((x ^^^ z) % 16) 0) / 16, ((x ^^^ z) / 16 ^^^ ts.getD ((x ^^^ z) % 16) 0) % 16, ts.getD (((x ^^^ z) / 16 ^^^ ts.getD ((x ^^^ z) % 16) 0) % 16) 0, tk ts x z,
    { b1 := u32_xor_nat _ _ hx (by omega), y0 := by omega, d1 := rfl, m1 := rfl, r0 := by omega, g1 := rfl, b2 := u32_xor_nat _ _ (by omega) h1, y20 := by omega, d2 := rfl, m2 := rfl, r20 := by omega, g2 := rfl, b3 := u32_xor_nat _ _ (by omega) h2, e := rfl }⟩

theorem tab_blk {w : World} {g : Nat} {e : TypeId} {ts : List Nat} (hl : ts.length = 16) (h : w.heap[g]? = some (.cells (blk .u32 (ts.map Int.ofNat)) e (0, 0))) : Tab w g ts := fun i hi => by
  simp [World.cell?, h, blk, hl, hi]

set_option maxHeartbeats 400000 in
theorem taken_any (ts : List Nat) (x z g : Nat) (w : World) (hx : x < 4294967296) (hz : z < 256) (hl : ts.length = 16) (ht : ∀ t ∈ ts, t < 4294967296) (hT : Tab w g ts) :
    Calls Try.prog 59 #[.pointer (some ⟨g, 0, none⟩), .int .u32 x, .int .u8 z] w fun e w' => e = .returned (.int .u32 (tk ts x z)) ∧ w' = w := by
  obtain ⟨y, q, r, t, y2, q2, r2, t2, v, P⟩ := parts ts x z hx hz hl ht
  have c1 := hT r P.r0
  have c2 := hT r2 P.r20
  rw [P.g1] at c1
  rw [P.g2] at c2
  have HE := hide P.e
  obtain ⟨b1, ⟨y0, y1⟩, d1, m1, r0, _, b2, ⟨y20, y21⟩, d2, m2, r20, _, b3, _⟩ := P
  clear hT ht hl
  go_enter Try.func59, Try.ntmps59
  go_wp2_with fail
  go_ret
  exact ⟨rfl, rfl⟩

theorem info_tab : (Try.prog.info? 75).map (·.size) = some 16 := by kernel_rfl

/-- a whole table out of a block. -/
theorem load_tab (W : World) (g : Nat) (B : Array Value) (e : TypeId) (h : W.heap[g]? = some (.cells B e (0, 0))) (hB : B.size = 16) :
    (Instr.loadAt 75 (.pointer (some ⟨g, 0, none⟩))).run Try.prog W = .ok (.agg B) W := by
  simp only [Instr.loadAt, Instr.sureAddr, Sem.run_bind, Sem.run_pure, Result.andThen]
  exact run_loadVar_row W g e 75 B (0, 0) _ h Try.underlying75 rfl (by rw [hB]; exact info_tab)

/-- a whole table into a block. -/
theorem store_tab (W : World) (g : Nat) (A B : Array Value) (e : TypeId) (h : W.heap[g]? = some (.cells A e (0, 0))) (hA : A.size = 16) (hB : B.size = 16) (h1 : B.all (·.oneCell') = true) :
    (Instr.storeAt 75 (.pointer (some ⟨g, 0, none⟩)) (.agg B)).run Try.prog W = .ok () (W.setRow g B) := by
  simp only [Instr.storeAt, Instr.sureAddr, Sem.run_bind, Sem.run_pure, Result.andThen]
  exact run_storeVar_row W g e 75 A B h (by rw [hB]; exact info_tab) (by omega) h1
end Go.Proofs.Ytmildaofmgeceaa
