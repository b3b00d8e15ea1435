/-
  What the landed node answers: Right, Put (NdPC, NdPD), Get (NdPE, NdPF), Compare, Same (NdPA, NdPB).
-/
import Derived.Test.YtgckondfcmmklaaNdPB
import Derived.Test.YtgckondfcmmklaaNdPD
import Derived.Test.YtgckondfcmmklaaNdPF
