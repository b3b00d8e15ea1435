/-
  Plain superblocks: which are right, their blocks, whose block octets are.
-/
import Derived.Test.YtmildaofmgeceaaNdMore
import Derived.Test.YtmildaofmgeceaaGmNums
namespace Go.Proofs.Ytmildaofmgeceaa
set_option linter.unusedVariables false
set_option linter.unusedSimpArgs false
namespace Sp

structure S where
  epoch : Int
  blocks : Int
  slots : Int
  gens : Int
  top : Int
  high : Int
  free : Int
  dir : Int
  charts : List Int

def inB (b x : Int) : Bool := decide (2 ≤ x ∧ x < b)
def needs (s : S) : List Int := (if s.high = 0 then [] else [s.top]) ++ (if s.dir = 0 then [] else [s.dir]) ++ s.charts
def unlikeTo (l : List Int) (j : Nat) : Bool := (List.range j).all fun i => (List.range i).all fun k => l.getD k 0 != l.getD i 0
def headB (s : S) : Bool := decide (1 ≤ s.epoch ∧ s.epoch ≤ 4611686018427387904) && Gm.right s.blocks s.slots s.gens
def midB (s : S) : Bool := decide ((0 ≤ s.high ∧ s.high ≤ s.slots) ∧ (0 ≤ s.free ∧ s.free ≤ s.high) ∧ s.charts.length = Gm.charts s.blocks.toNat)
def right (s : S) : Bool := ((headB s && midB s) && decide (s.high = 0 → s.top = 0)) && (unlikeTo s.charts s.charts.length && (needs s).all (inB s.blocks))
def body (s : S) : List Int := Nums.lay s.epoch 8 ++ Nums.lay s.blocks 4 ++ Nums.lay s.slots 4 ++ Nums.lay s.gens 4 ++ Nums.lay s.high 4 ++ Nums.lay s.free 4 ++ Nums.lay s.top 2 ++ Nums.lay s.dir 2 ++ Nd.kidsB s.charts
def block (s : S) : List Int := Bk.shut 7 s.charts.length (body s)
def chartsOf (s : List Int) (n : Nat) : List Int := (List.range n).map fun i => Nums.rd ((s.drop (32 + 2 * i)).take 2)
/-- what a body tells, 'int' of the epoch's word. -/
def parse (s : List Int) (t : Nat) : S := ⟨Nd.sgn (Nums.rd (s.take 8)), Nums.rd ((s.drop 8).take 4), Nums.rd ((s.drop 12).take 4), Nums.rd ((s.drop 16).take 4), Nums.rd ((s.drop 28).take 2), Nums.rd ((s.drop 20).take 4), Nums.rd ((s.drop 24).take 4), Nums.rd ((s.drop 30).take 2), chartsOf s t⟩
def told (zs : List Int) : S := parse (zs.drop 8) (zs.getD 5 0).toNat
def got (zs : List Int) : Bool := decide (Bk.isB zs = true ∧ zs.getD 4 0 = 7 ∧ zs.getD 5 0 ≤ 8 ∧ right (told zs) = true ∧ block (told zs) = zs)
def zero : S := ⟨0, 0, 0, 0, 0, 0, 0, 0, []⟩
def tells (zs : List Int) : S := if got zs = true then told zs else zero
def same (a b : S) : Bool := decide (a.epoch = b.epoch ∧ (a.blocks = b.blocks ∧ a.slots = b.slots ∧ a.gens = b.gens) ∧ a.high = b.high ∧ a.free = b.free ∧ a.top = b.top ∧ a.dir = b.dir ∧ a.charts = b.charts)
theorem same_iff {a b : S} : same a b = true ↔ a = b := by
  obtain ⟨a1, a2, a3, a4, a5, a6, a7, a8, a9⟩ := a
  obtain ⟨b1, b2, b3, b4, b5, b6, b7, b8, b9⟩ := b
  simp only [same, decide_eq_true_eq, S.mk.injEq]
  constructor
  · rintro ⟨h1, ⟨h2, h3, h4⟩, h5, h6, h7, h8, h9⟩
    exact ⟨h1, h2, h3, h4, h7, h5, h6, h8, h9⟩
  · rintro ⟨h1, h2, h3, h4, h7, h5, h6, h8, h9⟩
    exact ⟨h1, ⟨h2, h3, h4⟩, h5, h6, h7, h8, h9⟩

theorem right_parts {s : S} (h : right s = true) : (1 ≤ s.epoch ∧ s.epoch ≤ 4611686018427387904) ∧ Gm.right s.blocks s.slots s.gens = true ∧ ((0 ≤ s.high ∧ s.high ≤ s.slots) ∧ (0 ≤ s.free ∧ s.free ≤ s.high) ∧ s.charts.length = Gm.charts s.blocks.toNat) ∧ (s.high = 0 → s.top = 0) ∧ unlikeTo s.charts s.charts.length = true ∧ (needs s).all (inB s.blocks) = true := by
  unfold right headB midB at h
  obtain ⟨h1, h2⟩ := Bool.and_eq_true_iff.1 h
  obtain ⟨h3, h4⟩ := Bool.and_eq_true_iff.1 h1
  obtain ⟨h5, h6⟩ := Bool.and_eq_true_iff.1 h3
  obtain ⟨h7, h8⟩ := Bool.and_eq_true_iff.1 h5
  obtain ⟨h9, h10⟩ := Bool.and_eq_true_iff.1 h2
  exact ⟨of_decide_eq_true h7, h8, of_decide_eq_true h6, of_decide_eq_true h4, h9, h10⟩
/-- how great a right one's numbers are. -/
theorem right_bounds {s : S} (h : right s = true) : (1 ≤ s.epoch ∧ s.epoch ≤ 4611686018427387904) ∧ (16 ≤ s.blocks ∧ s.blocks ≤ 3072) ∧ (1 ≤ s.slots ∧ s.slots ≤ 1792) ∧ (1 ≤ s.gens ∧ s.gens ≤ 4294967295) ∧ (0 ≤ s.high ∧ s.high ≤ 1792) ∧ (0 ≤ s.free ∧ s.free ≤ 1792) ∧ (0 ≤ s.top ∧ s.top ≤ 3071) ∧ (0 ≤ s.dir ∧ s.dir ≤ 3071) ∧ s.charts.length ≤ 8 ∧ ∀ k ∈ s.charts, 2 ≤ k ∧ k ≤ 3071 := by
  obtain ⟨h1, h2, ⟨h3, h4, h5⟩, h6, h7, h8⟩ := right_parts h
  have hg := of_decide_eq_true h2
  have hall := List.all_eq_true.1 h8
  have hin : ∀ x ∈ needs s, 2 ≤ x ∧ x < s.blocks := fun x hx => of_decide_eq_true (hall x hx)
  have hc := Gm.charts_le (b := s.blocks.toNat) (by omega)
  have ht : 0 ≤ s.top ∧ s.top ≤ 3071 := by
    by_cases e : s.high = 0
    · have := h6 e; omega
    · have := hin s.top (by unfold needs; rw [if_neg e]; simp)
      omega
  have hd : 0 ≤ s.dir ∧ s.dir ≤ 3071 := by
    by_cases e : s.dir = 0
    · omega
    · have := hin s.dir (by unfold needs; rw [if_neg e]; simp)
      omega
  refine ⟨h1, hg.1, hg.2.1, hg.2.2, by omega, by omega, ht, hd, by omega, fun k hk => ?_⟩
  have := hin k (by unfold needs; simp [hk])
  omega
theorem body_length (s : S) : (body s).length = 32 + 2 * s.charts.length := by simp only [body, List.length_append, Nums.length_lay, Nd.kidsB_length]
theorem body_bytes (s : S) : Nums.Bytes (body s) := by
  unfold body
  repeat' apply Nums.bytes_append
  all_goals first | exact Nums.bytes_lay _ _ | exact Nd.kidsB_bytes _
theorem body_short {s : S} (h : right s = true) : (body s).length ≤ 56 := by
  have := (right_bounds h).2.2.2.2.2.2.2.2.1
  rw [body_length]
  omega
theorem tag_byte {s : S} (h : right s = true) : (0 : Int) ≤ (s.charts.length : Nat) ∧ ((s.charts.length : Nat) : Int) ≤ 255 := by
  have := (right_bounds h).2.2.2.2.2.2.2.2.1
  omega
theorem block_length {s : S} (h : right s = true) : (block s).length = 64 := Bk.shut_length (body_short h)
theorem block_bytes {s : S} (h : right s = true) : Nums.Bytes (block s) := Bk.shut_bytes (by decide) (tag_byte h) (body_bytes s)
theorem block_isB {s : S} (h : right s = true) : Bk.isB (block s) = true := Bk.shut_isB (by decide) (body_short h)
theorem chartsOf_length (s : List Int) (n : Nat) : (chartsOf s n).length = n := by simp [chartsOf]
theorem chartsOf_succ (s : List Int) (n : Nat) : chartsOf s (n + 1) = chartsOf s n ++ [Nums.rd ((s.drop (32 + 2 * n)).take 2)] := by simp [chartsOf, List.range_succ]

theorem parse_body {s : S} (h : right s = true) (tail : List Int) : parse (body s ++ tail) s.charts.length = s := by
  obtain ⟨ep, bl, sl, ge, tp, hi, fr, di, cs⟩ := s
  obtain ⟨b1, b2, b3, b4, b5, b6, b7, b8, _, b10⟩ := right_bounds h
  simp only at b1 b2 b3 b4 b5 b6 b7 b8 b10 ⊢
  obtain ⟨r9, hr9⟩ : ∃ r, r = Nd.kidsB cs ++ tail := ⟨_, rfl⟩
  have e : body ⟨ep, bl, sl, ge, tp, hi, fr, di, cs⟩ ++ tail = Nums.lay ep 8 ++ (Nums.lay bl 4 ++ (Nums.lay sl 4 ++ (Nums.lay ge 4 ++ (Nums.lay hi 4 ++ (Nums.lay fr 4 ++ (Nums.lay tp 2 ++ (Nums.lay di 2 ++ r9))))))) := by simp only [body, List.append_assoc, hr9]
  rw [e]
  have l8 : ∀ x, (Nums.lay x 8).length = 8 := fun x => Nums.length_lay 8 x
  have l4 : ∀ x, (Nums.lay x 4).length = 4 := fun x => Nums.length_lay 4 x
  have l2 : ∀ x, (Nums.lay x 2).length = 2 := fun x => Nums.length_lay 2 x
  obtain ⟨A, hA⟩ : ∃ A, A = Nums.lay ep 8 ++ (Nums.lay bl 4 ++ (Nums.lay sl 4 ++ (Nums.lay ge 4 ++ (Nums.lay hi 4 ++ (Nums.lay fr 4 ++ (Nums.lay tp 2 ++ (Nums.lay di 2 ++ r9))))))) := ⟨_, rfl⟩
  rw [← hA]
  have d8 : A.drop 8 = Nums.lay bl 4 ++ (Nums.lay sl 4 ++ (Nums.lay ge 4 ++ (Nums.lay hi 4 ++ (Nums.lay fr 4 ++ (Nums.lay tp 2 ++ (Nums.lay di 2 ++ r9)))))) := by rw [hA]; exact List.drop_left' (l8 _)
  have d12 : A.drop 12 = Nums.lay sl 4 ++ (Nums.lay ge 4 ++ (Nums.lay hi 4 ++ (Nums.lay fr 4 ++ (Nums.lay tp 2 ++ (Nums.lay di 2 ++ r9))))) := by rw [show 12 = 8 + 4 from rfl, ← List.drop_drop, d8]; exact List.drop_left' (l4 _)
  have d16 : A.drop 16 = Nums.lay ge 4 ++ (Nums.lay hi 4 ++ (Nums.lay fr 4 ++ (Nums.lay tp 2 ++ (Nums.lay di 2 ++ r9)))) := by rw [show 16 = 12 + 4 from rfl, ← List.drop_drop, d12]; exact List.drop_left' (l4 _)
  have d20 : A.drop 20 = Nums.lay hi 4 ++ (Nums.lay fr 4 ++ (Nums.lay tp 2 ++ (Nums.lay di 2 ++ r9))) := by rw [show 20 = 16 + 4 from rfl, ← List.drop_drop, d16]; exact List.drop_left' (l4 _)
  have d24 : A.drop 24 = Nums.lay fr 4 ++ (Nums.lay tp 2 ++ (Nums.lay di 2 ++ r9)) := by rw [show 24 = 20 + 4 from rfl, ← List.drop_drop, d20]; exact List.drop_left' (l4 _)
  have d28 : A.drop 28 = Nums.lay tp 2 ++ (Nums.lay di 2 ++ r9) := by rw [show 28 = 24 + 4 from rfl, ← List.drop_drop, d24]; exact List.drop_left' (l4 _)
  have d30 : A.drop 30 = Nums.lay di 2 ++ r9 := by rw [show 30 = 28 + 2 from rfl, ← List.drop_drop, d28]; exact List.drop_left' (l2 _)
  have d32 : A.drop 32 = r9 := by rw [show 32 = 30 + 2 from rfl, ← List.drop_drop, d30]; exact List.drop_left' (l2 _)
  have t8 : A.take 8 = Nums.lay ep 8 := by rw [hA]; exact List.take_left' (l8 _)
  have hk : chartsOf A cs.length = cs := by
    unfold chartsOf
    apply List.ext_getElem (by simp)
    intro i h1 h2
    rw [List.getElem_map, List.getElem_range, ← List.drop_drop, d32, hr9, Nd.kidsB_at cs tail i h2, Nums.rd_lay]
    have := b10 _ (List.getElem_mem h2)
    rw [List.getD_eq_getElem?_getD, List.getElem?_eq_getElem h2]
    simp only [Option.getD_some]
    omega
  unfold parse
  rw [d8, d12, d16, d20, d24, d28, d30, t8, hk]
  rw [List.take_left' (l4 bl), List.take_left' (l4 sl), List.take_left' (l4 ge), List.take_left' (l4 hi), List.take_left' (l4 fr), List.take_left' (l2 tp), List.take_left' (l2 di)]
  have q0 : Nd.sgn (Nums.rd (Nums.lay ep 8)) = ep := by rw [Nums.rd_lay]; exact Nd.sgn_mod ⟨by omega, by omega⟩
  have q1 : Nums.rd (Nums.lay bl 4) = bl := by rw [Nums.rd_lay]; omega
  have q2 : Nums.rd (Nums.lay sl 4) = sl := by rw [Nums.rd_lay]; omega
  have q3 : Nums.rd (Nums.lay ge 4) = ge := by rw [Nums.rd_lay]; omega
  have q4 : Nums.rd (Nums.lay hi 4) = hi := by rw [Nums.rd_lay]; omega
  have q5 : Nums.rd (Nums.lay fr 4) = fr := by rw [Nums.rd_lay]; omega
  have q6 : Nums.rd (Nums.lay tp 2) = tp := by rw [Nums.rd_lay]; omega
  have q7 : Nums.rd (Nums.lay di 2) = di := by rw [Nums.rd_lay]; omega
  rw [q0, q1, q2, q3, q4, q5, q6, q7]
theorem told_block {s : S} (h : right s = true) : told (block s) = s := by
  obtain ⟨_, h5, h8⟩ := Bk.shut_parts (k := 7) (t := ((s.charts.length : Nat) : Int)) (body := body s)
  unfold told block
  rw [h5, h8, Int.toNat_natCast]
  exact parse_body h _
theorem got_block {s : S} (h : right s = true) : got (block s) = true := by
  obtain ⟨h4, h5, _⟩ := Bk.shut_parts (k := 7) (t := ((s.charts.length : Nat) : Int)) (body := body s)
  have := (right_bounds h).2.2.2.2.2.2.2.2.1
  refine decide_eq_true ⟨block_isB h, h4, ?_, ?_, ?_⟩
  · unfold block
    rw [h5]
    omega
  · rw [told_block h]; exact h
  · rw [told_block h]
theorem tells_block {s : S} (h : right s = true) : tells (block s) = s := by unfold tells; rw [if_pos (got_block h), told_block h]
theorem block_inj {a b : S} (ha : right a = true) (hb : right b = true) (e : block a = block b) : a = b := by
  rw [← told_block ha, e, told_block hb]
/-- a block of which one octet is another one is none. -/
theorem octet_turned {s : S} (h : right s = true) {j v : Nat} (hj : j < 64) (h0 : v ≠ 0) (hv : v < 256) : got ((block s).set j ((((block s).getD j 0).toNat ^^^ v : Nat) : Int)) = false := by
  refine decide_eq_false fun e => ?_
  rw [Bk.octet_turned (block_bytes h) (block_isB h) hj h0 hv] at e
  exact absurd e.1 (by decide)
theorem kidsB_charts {s : List Int} (hs : Nums.Bytes s) : ∀ n, 32 + 2 * n ≤ s.length → Nd.kidsB (chartsOf s n) = (s.drop 32).take (2 * n)
  | 0, _ => rfl
  | n + 1, h => by
    rw [chartsOf_succ, Nd.kidsB_snoc, kidsB_charts hs n (by omega), Nd.lay_piece hs (32 + 2 * n) 2 (by omega), show 2 * (n + 1) = 2 * n + 2 by omega, List.take_add, List.drop_drop]
theorem body_parse {s : List Int} (hs : Nums.Bytes s) (t : Nat) (h : 32 + 2 * t ≤ s.length) : body (parse s t) = s.take (32 + 2 * t) := by
  unfold body parse
  simp only
  have e0 := Nd.lay_piece hs 0 8 (by omega)
  rw [List.drop_zero] at e0
  rw [Nd.lay_sgn, e0, Nd.lay_piece hs 8 4 (by omega), Nd.lay_piece hs 12 4 (by omega), Nd.lay_piece hs 16 4 (by omega), Nd.lay_piece hs 20 4 (by omega), Nd.lay_piece hs 24 4 (by omega), Nd.lay_piece hs 28 2 (by omega), Nd.lay_piece hs 30 2 (by omega), kidsB_charts hs t h]
  have a : s.take (32 + 2 * t) = s.take 32 ++ (s.drop 32).take (2 * t) := List.take_add
  have b : s.take 32 = s.take 30 ++ (s.drop 30).take 2 := List.take_add (i := 30) (j := 2)
  have c : s.take 30 = s.take 28 ++ (s.drop 28).take 2 := List.take_add (i := 28) (j := 2)
  have d : s.take 28 = s.take 24 ++ (s.drop 24).take 4 := List.take_add (i := 24) (j := 4)
  have e : s.take 24 = s.take 20 ++ (s.drop 20).take 4 := List.take_add (i := 20) (j := 4)
  have f : s.take 20 = s.take 16 ++ (s.drop 16).take 4 := List.take_add (i := 16) (j := 4)
  have g : s.take 16 = s.take 12 ++ (s.drop 12).take 4 := List.take_add (i := 12) (j := 4)
  have i : s.take 12 = s.take 8 ++ (s.drop 8).take 4 := List.take_add (i := 8) (j := 4)
  rw [a, b, c, d, e, f, g, i]
theorem got_asked {zs : List Int} (hz : Nums.Bytes zs) (hB : Bk.isB zs = true) (h4 : zs.getD 4 0 = 7) {t : Nat} (h5 : zs.getD 5 0 = (t : Int)) (ht : t ≤ 8) :
    got zs = (right (parse (zs.drop 8) t) && zeroB ((zs.drop 8).drop (32 + 2 * t))) := by
  have hl := (of_decide_eq_true hB).1
  have hs := Nums.bytes_drop hz 8
  have hsl : (zs.drop 8).length = 56 := by simp; omega
  have hT : told zs = parse (zs.drop 8) t := by unfold told; rw [h5, Int.toNat_natCast]
  have hnl : (parse (zs.drop 8) t).charts.length = t := chartsOf_length _ _
  have hbl : block (parse (zs.drop 8) t) = zs ↔ zeroB ((zs.drop 8).drop (32 + 2 * t)) = true := by
    rw [← Nd.fill_zero hsl (by omega), block, hnl, body_parse hs t (by omega)]
    constructor
    · intro h
      have := (Bk.shut_parts (k := 7) (t := (t : Int)) (body := (zs.drop 8).take (32 + 2 * t))).2.2
      rw [h] at this
      exact this.symm
    · intro h
      have e := Bk.isB_same hB
      rw [h4, h5] at e
      refine Eq.trans ?_ e
      simp only [Bk.shut, Bk.mid]
      rw [h, Bk.fill_full hsl]
  cases hq : (right (parse (zs.drop 8) t) && zeroB ((zs.drop 8).drop (32 + 2 * t))) with
  | true =>
    obtain ⟨q1, q2⟩ := Bool.and_eq_true_iff.1 hq
    exact decide_eq_true ⟨hB, h4, by omega, by rw [hT]; exact q1, by rw [hT]; exact hbl.2 q2⟩
  | false =>
    refine decide_eq_false fun h => ?_
    obtain ⟨_, _, _, q1, q2⟩ := h
    rw [hT] at q1 q2
    rw [q1, hbl.1 q2] at hq
    exact absurd hq (by decide)
theorem unlikeTo_succ (l : List Int) (j : Nat) : unlikeTo l (j + 1) = (unlikeTo l j && (List.range j).all fun k => l.getD k 0 != l.getD j 0) := by
  unfold unlikeTo
  rw [List.range_succ, List.all_append]
  simp
theorem unlikeTo_le {l : List Int} {j k : Nat} (h : unlikeTo l k = true) (hj : j ≤ k) : unlikeTo l j = true := by
  unfold unlikeTo at *
  rw [List.all_eq_true] at *
  exact fun i hi => h i (List.mem_range.2 (by have := List.mem_range.1 hi; omega))
end Sp
end Go.Proofs.Ytmildaofmgeceaa
