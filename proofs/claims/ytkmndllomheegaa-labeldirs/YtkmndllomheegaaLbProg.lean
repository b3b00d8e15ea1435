/-
  The landed label: all that it answers, in one name.
-/
import Derived.Test.YtkmndllomheegaaLbPro
namespace Go.Proofs.Ytkmndllomheegaa
end Go.Proofs.Ytkmndllomheegaa
