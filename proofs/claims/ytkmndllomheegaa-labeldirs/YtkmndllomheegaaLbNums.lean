/-
  Plain queues and directories: which are right, their blocks, whose block octets are.
-/
import Derived.Test.YtkmndllomheegaaNdMore
import Derived.Test.YtkmndllomheegaaNameP
namespace Go.Proofs.Ytkmndllomheegaa
set_option linter.unusedVariables false
set_option linter.unusedSimpArgs false
namespace Lb

/-- a rune of a name has at most three octets. -/
theorem dec_short {l : List Int} (h : ofR ((dec l).1 : Nat) = true) : (dec l).2 ≤ 3 := by
  have h1 : (dec l).1 ≤ 65519 := by
    have := of_decide_eq_true h
    omega
  unfold dec at *
  generalize (l.getD 0 0).toNat = b0 at *
  generalize (l.getD 1 0).toNat = b1 at *
  generalize (l.getD 2 0).toNat = b2 at *
  generalize (l.getD 3 0).toNat = b3 at *
  generalize l.length = n at *
  unfold Lib.decodeN at *
  repeat' split at *
  all_goals simp only at * <;> omega
theorem name_runes {l : List Int} (hz : Nums.Bytes l) (h : ∀ r ∈ runes l, ofR (r : Nat) = true) : l.length ≤ 3 * (runes l).length := by
  obtain ⟨n, hn⟩ : ∃ n, l.length ≤ n := ⟨_, Nat.le_refl _⟩
  induction n generalizing l with
  | zero => omega
  | succ n ih =>
    by_cases e : l = []
    · subst e; simp [runes_nil]
    · have hw := dec_width hz e
      rw [runes_cons hz e] at h ⊢
      have h3 := dec_short (h _ (List.mem_cons_self ..))
      have := ih (bytes_dropw hz _) (fun r hr => h r (List.mem_cons_of_mem _ hr)) (by simp; omega)
      simp only [List.length_drop, List.length_cons] at *
      omega
theorem name_short {l : List Int} (hz : Nums.Bytes l) (h : rightR (runes l) = true) : 1 ≤ l.length ∧ l.length ≤ 24 := by
  have h' := of_decide_eq_true h
  have h1 := name_runes hz h'.2.2
  have h2 := runes_length hz
  omega

/-- a queue: its name's octets, its count, its roots. -/
structure Q where
  name : List Int
  count : Int
  roots : List Int

def rootB (n i : Nat) (r : Int) : Bool := if n / 2 ^ i % 2 = 1 then Nd.kidB r else r == 0
def rootsTo (n : Nat) (l : List Int) (j : Nat) : Bool := (List.range j).all fun i => rootB n i (l.getD i 0)
def rightQ (q : Q) : Bool := (rightR (runes q.name) && decide (0 ≤ q.count ∧ q.count ≤ 4095)) && rootsTo q.count.toNat q.roots 12
def bodyQ (q : Q) : List Int := Nums.lay q.count 4 ++ Nd.kidsB q.roots ++ q.name
def blockQ (q : Q) : List Int := Bk.shut 5 q.name.length (bodyQ q)
def rootsOf (s : List Int) (n : Nat) : List Int := (List.range n).map fun i => Nums.rd ((s.drop (4 + 2 * i)).take 2)
def parseQ (s : List Int) (t : Nat) : Q := ⟨(s.drop 28).take t, Nums.rd (s.take 4), rootsOf s 12⟩
def toldQ (zs : List Int) : Q := parseQ (zs.drop 8) (zs.getD 5 0).toNat
def gotQ (zs : List Int) : Bool := decide (Bk.isB zs = true ∧ zs.getD 4 0 = 5 ∧ zs.getD 5 0 ≤ 28 ∧ rightQ (toldQ zs) = true ∧ blockQ (toldQ zs) = zs)
def nilQ : Q := ⟨[], 0, List.replicate 12 0⟩
def tellsQ (zs : List Int) : Q := if gotQ zs = true then toldQ zs else nilQ
/-- its octets are octets, and it has twelve roots. -/
def wfQ (q : Q) : Prop := Nums.Bytes q.name ∧ q.roots.length = 12

theorem rootsTo_succ (n : Nat) (l : List Int) (j : Nat) : rootsTo n l (j + 1) = (rootsTo n l j && rootB n j (l.getD j 0)) := by
  unfold rootsTo
  rw [List.range_succ, List.all_append]
  simp
theorem rootsTo_le {n : Nat} {l : List Int} {j k : Nat} (h : rootsTo n l k = true) (hj : j ≤ k) : rootsTo n l j = true := by
  unfold rootsTo at *
  rw [List.all_eq_true] at *
  exact fun i hi => h i (List.mem_range.2 (by have := List.mem_range.1 hi; omega))
theorem rootB_le {n i : Nat} {r : Int} (h : rootB n i r = true) : 0 ≤ r ∧ r ≤ 3071 := by
  unfold rootB at h
  split at h
  · have := of_decide_eq_true h; omega
  · have : r = 0 := by simpa using h
    omega
theorem right_parts {q : Q} (h : rightQ q = true) : rightR (runes q.name) = true ∧ (0 ≤ q.count ∧ q.count ≤ 4095) ∧ rootsTo q.count.toNat q.roots 12 = true := by
  unfold rightQ at h
  obtain ⟨h1, h2⟩ := Bool.and_eq_true_iff.1 h
  obtain ⟨h3, h4⟩ := Bool.and_eq_true_iff.1 h1
  exact ⟨h3, of_decide_eq_true h4, h2⟩
theorem right_roots {q : Q} (h : rightQ q = true) (hl : q.roots.length = 12) : ∀ r ∈ q.roots, 0 ≤ r ∧ r ≤ 3071 := fun r hr => by
  obtain ⟨i, hi, rfl⟩ := List.getElem_of_mem hr
  have h2 := (right_parts h).2.2
  unfold rootsTo at h2
  have := List.all_eq_true.1 h2 i (List.mem_range.2 (by omega))
  rw [List.getD_eq_getElem?_getD, List.getElem?_eq_getElem hi] at this
  exact rootB_le this
theorem body_length {q : Q} (h : wfQ q) : (bodyQ q).length = 28 + q.name.length := by
  simp only [bodyQ, List.length_append, Nums.length_lay, Nd.kidsB_length, h.2]
theorem body_bytes {q : Q} (h : wfQ q) : Nums.Bytes (bodyQ q) := Nums.bytes_append (Nums.bytes_append (Nums.bytes_lay _ _) (Nd.kidsB_bytes _)) h.1
theorem body_short {q : Q} (h : wfQ q) (hr : rightQ q = true) : (bodyQ q).length ≤ 56 := by
  rw [body_length h]
  have := name_short h.1 (right_parts hr).1
  omega
theorem tag_byte {q : Q} (h : wfQ q) (hr : rightQ q = true) : (0 : Int) ≤ (q.name.length : Nat) ∧ ((q.name.length : Nat) : Int) ≤ 255 := by
  have := name_short h.1 (right_parts hr).1
  omega
theorem block_length {q : Q} (h : wfQ q) (hr : rightQ q = true) : (blockQ q).length = 64 := Bk.shut_length (body_short h hr)
theorem block_bytes {q : Q} (h : wfQ q) (hr : rightQ q = true) : Nums.Bytes (blockQ q) := Bk.shut_bytes (by decide) (tag_byte h hr) (body_bytes h)
theorem block_isB {q : Q} (h : wfQ q) (hr : rightQ q = true) : Bk.isB (blockQ q) = true := Bk.shut_isB (by decide) (body_short h hr)
theorem rootsOf_length (s : List Int) (n : Nat) : (rootsOf s n).length = n := by simp [rootsOf]
theorem rootsOf_succ (s : List Int) (n : Nat) : rootsOf s (n + 1) = rootsOf s n ++ [Nums.rd ((s.drop (4 + 2 * n)).take 2)] := by simp [rootsOf, List.range_succ]
theorem parse_body {q : Q} (h : wfQ q) (hr : rightQ q = true) (tail : List Int) : parseQ (bodyQ q ++ tail) q.name.length = q := by
  obtain ⟨nm, c, rs⟩ := q
  have hc := (right_parts hr).2.1
  have hrr := right_roots hr h.2
  obtain ⟨_, hl⟩ := h
  simp only at hc hrr hl ⊢
  have e : bodyQ ⟨nm, c, rs⟩ ++ tail = Nums.lay c 4 ++ (Nd.kidsB rs ++ (nm ++ tail)) := by simp only [bodyQ, List.append_assoc]
  have d4 : (Nums.lay c 4 ++ (Nd.kidsB rs ++ (nm ++ tail))).drop 4 = Nd.kidsB rs ++ (nm ++ tail) := List.drop_left' (Nums.length_lay 4 c)
  have d28 : (Nums.lay c 4 ++ (Nd.kidsB rs ++ (nm ++ tail))).drop 28 = nm ++ tail := by
    rw [show 28 = 4 + 24 from rfl, ← List.drop_drop, d4]
    exact List.drop_left' (by rw [Nd.kidsB_length, hl])
  have hk : rootsOf (Nums.lay c 4 ++ (Nd.kidsB rs ++ (nm ++ tail))) 12 = rs := by
    unfold rootsOf
    apply List.ext_getElem (by simp [hl])
    intro i h1 h2
    rw [List.getElem_map, List.getElem_range, ← List.drop_drop, d4, Nd.kidsB_at rs _ i h2, Nums.rd_lay]
    have := hrr _ (List.getElem_mem h2)
    rw [List.getD_eq_getElem?_getD, List.getElem?_eq_getElem h2]
    simp only [Option.getD_some]
    omega
  unfold parseQ
  rw [e, d28, hk, List.take_left' rfl, List.take_left' (Nums.length_lay 4 c), Nums.rd_lay]
  congr 1
  omega
theorem told_block {q : Q} (h : wfQ q) (hr : rightQ q = true) : toldQ (blockQ q) = q := by
  obtain ⟨_, h5, h8⟩ := Bk.shut_parts (k := 5) (t := ((q.name.length : Nat) : Int)) (body := bodyQ q)
  unfold toldQ blockQ
  rw [h5, h8, Int.toNat_natCast]
  exact parse_body h hr _
theorem got_block {q : Q} (h : wfQ q) (hr : rightQ q = true) : gotQ (blockQ q) = true := by
  obtain ⟨h4, h5, _⟩ := Bk.shut_parts (k := 5) (t := ((q.name.length : Nat) : Int)) (body := bodyQ q)
  have := name_short h.1 (right_parts hr).1
  refine decide_eq_true ⟨block_isB h hr, h4, ?_, ?_, ?_⟩
  · unfold blockQ
    rw [h5]
    omega
  · rw [told_block h hr]; exact hr
  · rw [told_block h hr]
theorem tells_block {q : Q} (h : wfQ q) (hr : rightQ q = true) : tellsQ (blockQ q) = q := by unfold tellsQ; rw [if_pos (got_block h hr), told_block h hr]
theorem parse_wf {s : List Int} (hs : Nums.Bytes s) (t : Nat) : wfQ (parseQ s t) := ⟨Nums.bytes_take (Nums.bytes_drop hs 28) t, rootsOf_length _ _⟩
theorem told_wf {zs : List Int} (hz : Nums.Bytes zs) : wfQ (toldQ zs) := parse_wf (Nums.bytes_drop hz 8) _
theorem tells_wf {zs : List Int} (hz : Nums.Bytes zs) : wfQ (tellsQ zs) := by
  unfold tellsQ
  split
  · exact told_wf hz
  · exact ⟨fun z h => absurd h (List.not_mem_nil), rfl⟩

/-- directories. -/
def dirTo (l : List Int) (j : Nat) : Bool := (List.range j).all fun i => Nd.kidB (l.getD i 0) && (List.range i).all fun k => l.getD k 0 != l.getD i 0
def rightD (l : List Int) : Bool := decide (1 ≤ l.length ∧ l.length ≤ 16) && dirTo l l.length
def blockD (l : List Int) : List Int := Bk.shut 6 l.length (Nd.kidsB l)
def dirOf (s : List Int) (n : Nat) : List Int := (List.range n).map fun i => Nums.rd ((s.drop (2 * i)).take 2)
def toldD (zs : List Int) : List Int := dirOf (zs.drop 8) (zs.getD 5 0).toNat
def gotD (zs : List Int) : Bool := decide (Bk.isB zs = true ∧ zs.getD 4 0 = 6 ∧ zs.getD 5 0 ≤ 16 ∧ rightD (toldD zs) = true ∧ blockD (toldD zs) = zs)
def tellsD (zs : List Int) : List Int := if gotD zs = true then toldD zs else []
theorem dirTo_succ (l : List Int) (j : Nat) : dirTo l (j + 1) = (dirTo l j && (Nd.kidB (l.getD j 0) && (List.range j).all fun k => l.getD k 0 != l.getD j 0)) := by
  unfold dirTo
  rw [List.range_succ, List.all_append]
  simp
theorem dirTo_le {l : List Int} {j k : Nat} (h : dirTo l k = true) (hj : j ≤ k) : dirTo l j = true := by
  unfold dirTo at *
  rw [List.all_eq_true] at *
  exact fun i hi => h i (List.mem_range.2 (by have := List.mem_range.1 hi; omega))
theorem rightD_parts {l : List Int} (h : rightD l = true) : (1 ≤ l.length ∧ l.length ≤ 16) ∧ ∀ k ∈ l, 2 ≤ k ∧ k ≤ 3071 := by
  obtain ⟨h1, h2⟩ := Bool.and_eq_true_iff.1 h
  refine ⟨of_decide_eq_true h1, fun k hk => ?_⟩
  obtain ⟨i, hi, rfl⟩ := List.getElem_of_mem hk
  have := (Bool.and_eq_true_iff.1 (List.all_eq_true.1 h2 i (List.mem_range.2 hi))).1
  rw [List.getD_eq_getElem?_getD, List.getElem?_eq_getElem hi] at this
  exact of_decide_eq_true this
theorem blockD_length {l : List Int} (h : rightD l = true) : (blockD l).length = 64 := Bk.shut_length (by have := (rightD_parts h).1; rw [Nd.kidsB_length]; omega)
theorem blockD_bytes {l : List Int} (h : rightD l = true) : Nums.Bytes (blockD l) := Bk.shut_bytes (by decide) (by have := (rightD_parts h).1; omega) (Nd.kidsB_bytes l)
theorem blockD_isB {l : List Int} (h : rightD l = true) : Bk.isB (blockD l) = true := Bk.shut_isB (by decide) (by have := (rightD_parts h).1; rw [Nd.kidsB_length]; omega)
theorem dirOf_length (s : List Int) (n : Nat) : (dirOf s n).length = n := by simp [dirOf]
theorem dirOf_succ (s : List Int) (n : Nat) : dirOf s (n + 1) = dirOf s n ++ [Nums.rd ((s.drop (2 * n)).take 2)] := by simp [dirOf, List.range_succ]
theorem dirOf_kids {l : List Int} (h : rightD l = true) (tail : List Int) : dirOf (Nd.kidsB l ++ tail) l.length = l := by
  have hk := (rightD_parts h).2
  unfold dirOf
  apply List.ext_getElem (by simp)
  intro i h1 h2
  rw [List.getElem_map, List.getElem_range, Nd.kidsB_at l tail i h2, Nums.rd_lay]
  have := hk _ (List.getElem_mem h2)
  rw [List.getD_eq_getElem?_getD, List.getElem?_eq_getElem h2]
  simp only [Option.getD_some]
  omega
theorem toldD_block {l : List Int} (h : rightD l = true) : toldD (blockD l) = l := by
  obtain ⟨_, h5, h8⟩ := Bk.shut_parts (k := 6) (t := ((l.length : Nat) : Int)) (body := Nd.kidsB l)
  unfold toldD blockD
  rw [h5, h8, Int.toNat_natCast]
  exact dirOf_kids h _
theorem gotD_block {l : List Int} (h : rightD l = true) : gotD (blockD l) = true := by
  obtain ⟨h4, h5, _⟩ := Bk.shut_parts (k := 6) (t := ((l.length : Nat) : Int)) (body := Nd.kidsB l)
  have := (rightD_parts h).1
  refine decide_eq_true ⟨blockD_isB h, h4, ?_, ?_, ?_⟩
  · unfold blockD
    rw [h5]
    omega
  · rw [toldD_block h]; exact h
  · rw [toldD_block h]
theorem tellsD_block {l : List Int} (h : rightD l = true) : tellsD (blockD l) = l := by unfold tellsD; rw [if_pos (gotD_block h), toldD_block h]
/-- what is a queue's is no directory's. -/
theorem apartQD {zs : List Int} (h : gotQ zs = true) : gotD zs = false := decide_eq_false fun e => by
  have h1 := (of_decide_eq_true h).2.1
  have h2 := e.2.1
  omega

/-- a queue's block, told as a program may ask: right, and noughts behind the name. -/
theorem kidsB_roots {s : List Int} (hs : Nums.Bytes s) : ∀ n, 4 + 2 * n ≤ s.length → Nd.kidsB (rootsOf s n) = (s.drop 4).take (2 * n)
  | 0, _ => rfl
  | n + 1, h => by
    rw [rootsOf_succ, Nd.kidsB_snoc, kidsB_roots hs n (by omega), Nd.lay_piece hs (4 + 2 * n) 2 (by omega), show 2 * (n + 1) = 2 * n + 2 by omega, List.take_add, List.drop_drop]
theorem bodyQ_parse {s : List Int} (hs : Nums.Bytes s) (t : Nat) (h : 28 + t ≤ s.length) : bodyQ (parseQ s t) = s.take (28 + t) := by
  unfold bodyQ parseQ
  simp only
  have e0 := Nd.lay_piece hs 0 4 (by omega)
  rw [List.drop_zero] at e0
  rw [e0, kidsB_roots hs 12 (by omega)]
  have a : s.take (28 + t) = s.take 28 ++ (s.drop 28).take t := List.take_add
  have b : s.take 28 = s.take 4 ++ (s.drop 4).take (2 * 12) := List.take_add (i := 4) (j := 24)
  rw [a, b]
theorem gotQ_asked {zs : List Int} (hz : Nums.Bytes zs) (hB : Bk.isB zs = true) (h4 : zs.getD 4 0 = 5) {t : Nat} (h5 : zs.getD 5 0 = (t : Int)) (ht : t ≤ 28) :
    gotQ zs = (rightQ (parseQ (zs.drop 8) t) && zeroB ((zs.drop 8).drop (28 + t))) := by
  have hl := (of_decide_eq_true hB).1
  have hs := Nums.bytes_drop hz 8
  have hsl : (zs.drop 8).length = 56 := by simp; omega
  have hT : toldQ zs = parseQ (zs.drop 8) t := by unfold toldQ; rw [h5, Int.toNat_natCast]
  have hnl : (parseQ (zs.drop 8) t).name.length = t := by
    show (((zs.drop 8).drop 28).take t).length = t
    rw [List.length_take, List.length_drop, hsl]
    omega
  have hbl : blockQ (parseQ (zs.drop 8) t) = zs ↔ zeroB ((zs.drop 8).drop (28 + t)) = true := by
    rw [← Nd.fill_zero hsl (by omega), blockQ, hnl, bodyQ_parse hs t (by omega)]
    constructor
    · intro h
      have := (Bk.shut_parts (k := 5) (t := (t : Int)) (body := (zs.drop 8).take (28 + t))).2.2
      rw [h] at this
      exact this.symm
    · intro h
      have e := Bk.isB_same hB
      rw [h4, h5] at e
      refine Eq.trans ?_ e
      simp only [Bk.shut, Bk.mid]
      rw [h, Bk.fill_full hsl]
  cases hq : (rightQ (parseQ (zs.drop 8) t) && zeroB ((zs.drop 8).drop (28 + t))) with
  | true =>
    obtain ⟨q1, q2⟩ := Bool.and_eq_true_iff.1 hq
    exact decide_eq_true ⟨hB, h4, by omega, by rw [hT]; exact q1, by rw [hT]; exact hbl.2 q2⟩
  | false =>
    refine decide_eq_false fun h => ?_
    obtain ⟨_, _, _, q1, q2⟩ := h
    rw [hT] at q1 q2
    rw [q1, hbl.1 q2] at hq
    exact absurd hq (by decide)
theorem kidsB_dir {s : List Int} (hs : Nums.Bytes s) : ∀ n, 2 * n ≤ s.length → Nd.kidsB (dirOf s n) = s.take (2 * n)
  | 0, _ => rfl
  | n + 1, h => by
    rw [dirOf_succ, Nd.kidsB_snoc, kidsB_dir hs n (by omega), Nd.lay_piece hs (2 * n) 2 (by omega), show 2 * (n + 1) = 2 * n + 2 by omega, List.take_add]
theorem gotD_asked {zs : List Int} (hz : Nums.Bytes zs) (hB : Bk.isB zs = true) (h4 : zs.getD 4 0 = 6) {t : Nat} (h5 : zs.getD 5 0 = (t : Int)) (ht : t ≤ 16) :
    gotD zs = (rightD (dirOf (zs.drop 8) t) && zeroB ((zs.drop 8).drop (2 * t))) := by
  have hl := (of_decide_eq_true hB).1
  have hs := Nums.bytes_drop hz 8
  have hsl : (zs.drop 8).length = 56 := by simp; omega
  have hT : toldD zs = dirOf (zs.drop 8) t := by unfold toldD; rw [h5, Int.toNat_natCast]
  have hbl : blockD (dirOf (zs.drop 8) t) = zs ↔ zeroB ((zs.drop 8).drop (2 * t)) = true := by
    rw [← Nd.fill_zero hsl (by omega), blockD, dirOf_length, kidsB_dir hs t (by omega)]
    constructor
    · intro h
      have := (Bk.shut_parts (k := 6) (t := (t : Int)) (body := (zs.drop 8).take (2 * t))).2.2
      rw [h] at this
      exact this.symm
    · intro h
      have e := Bk.isB_same hB
      rw [h4, h5] at e
      refine Eq.trans ?_ e
      simp only [Bk.shut, Bk.mid]
      rw [h, Bk.fill_full hsl]
  cases hq : (rightD (dirOf (zs.drop 8) t) && zeroB ((zs.drop 8).drop (2 * t))) with
  | true =>
    obtain ⟨q1, q2⟩ := Bool.and_eq_true_iff.1 hq
    exact decide_eq_true ⟨hB, h4, by omega, by rw [hT]; exact q1, by rw [hT]; exact hbl.2 q2⟩
  | false =>
    refine decide_eq_false fun h => ?_
    obtain ⟨_, _, _, q1, q2⟩ := h
    rw [hT] at q1 q2
    rw [q1, hbl.1 q2] at hq
    exact absurd hq (by decide)
end Lb
end Go.Proofs.Ytkmndllomheegaa
