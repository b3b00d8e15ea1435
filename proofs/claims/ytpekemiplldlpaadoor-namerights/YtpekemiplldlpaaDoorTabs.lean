/-
  What is known of the package variables that the road reads: math/bits' table (a seat whose rows list it). For such a seat this text takes the place of Tabs.
-/
import Derived.Test.YtpekemiplldlpaaDoorBase
import Derived.Lib.AppendIntMem
import Derived.Lib.TrailingZeros
namespace Go.Proofs.YtpekemiplldlpaaDoor
set_option linter.unusedVariables false
open Go.RowKit

def Tabs (w : World) : Prop := Lib.TabIs Tryd.prog w "math/bits.deBruijn64tab" .u8 (Lib.deBruijn64tab.map Int.ofNat)
theorem Tabs.below {w w' : World} (h : Tabs w) (hb : Below w.heap.size w w') : Tabs w' := Lib.tabBelow_of_tabIs h w' hb
/-- the entry that base 16 reads. -/
theorem Tabs.four {w : World} (h : Tabs w) : w.cell? ⟨2, 15, none⟩ = some (.int .u8 4) := Lib.TabIs.cell (g := 2) h (by kernel_rfl) 15 (by decide)
end Go.Proofs.YtpekemiplldlpaaDoor
