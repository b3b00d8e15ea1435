/-
  make([]byte, n), and string(b) (a seat that knows the type []byte).
-/
import Derived.Test.YtjkiehfjbldkkaaStrs
namespace Go.Proofs.Ytjkiehfjbldkkaa
set_option linter.unusedVariables false
set_option linter.unusedSimpArgs false
open Go.RowKit

theorem make_bytes (n : Nat) (h : n ≤ 281474976710656) (w : World) :
    (Instr.makeSlice 47 (.int .i64 (n : Int)) (.int .i64 (n : Int))).run Try.prog w = .ok (.slice (some ⟨w.heap.size, 0, none⟩) n n) (w.alloc (.cells (blk .u8 (List.replicate n 0)) 5)) := by
  have h := run_make_row' (P := Try.prog) 47 5 (.int .u8 0) 1 Try.underlying47 (by kernel_rfl) rfl .i64 .i64 n (by omega) (by omega) w
  rw [h, blk_made]

theorem load_none {P : Program} (w : World) (a : Addr) : (loadCells a 0).run P w = .ok #[] w := by
  have := run_loadCells_list (P := P) w a [] (fun j v hj => by simp at hj)
  simpa using this

/-- string(b), for whatever slice of octets. -/
theorem conv_bytes {w : World} {a : Option Addr} {len : Nat} {zs : List Int} (cap : Nat) (h : Row .u8 w a len zs) :
    (convert 47 9 (.slice a len cap)).run Try.prog w = .ok (.string (strOfNums zs)) w := by
  obtain ⟨hl, h0 | ⟨b, off, rfl, hb, hc⟩⟩ := h
  · subst h0
    obtain rfl : zs = [] := List.eq_nil_of_length_eq_zero hl
    cases a with
    | none => exact run_convert_bytes_nil w 47 5 Try.underlying47 Try.underlying5 0 cap 9 Try.underlying9
    | some x =>
      rw [run_convert_bytes_string w 47 9 5 _ 0 cap Try.underlying47 Try.underlying5 Try.underlying9, run_bytesToString w x 0 cap [] (by simpa using load_none w x)]
      rfl
  · exact run_convert_bytes_arg w 47 5 Try.underlying47 Try.underlying5 b off len cap zs hl hc 9 Try.underlying9

end Go.Proofs.Ytjkiehfjbldkkaa
