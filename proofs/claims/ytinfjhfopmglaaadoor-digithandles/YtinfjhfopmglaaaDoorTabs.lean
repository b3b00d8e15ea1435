/-
  What is known of the package variables that the road reads: strconv's table of tens (a seat whose rows list it). For such a seat this text takes the place of Tabs.
-/
import Derived.Test.YtinfjhfopmglaaaDoorBase
import Derived.Lib.AppendIntMem
import Derived.Shelf.Strconv.Itoa3
namespace Go.Proofs.YtinfjhfopmglaaaDoor
set_option linter.unusedVariables false
open Go.RowKit

def Tabs (w : World) : Prop := Lib.TabIs Tryd.prog w "internal/strconv.uint64pow10" .u64 Lib.pow10Tab
theorem Tabs.below {w w' : World} (h : Tabs w) (hb : Below w.heap.size w w') : Tabs w' := Lib.tabBelow_of_tabIs h w' hb
end Go.Proofs.YtinfjhfopmglaaaDoor
