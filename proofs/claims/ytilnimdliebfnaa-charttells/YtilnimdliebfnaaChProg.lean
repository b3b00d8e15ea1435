/-
  What the program's chart answers: all together.
-/
import Derived.Test.YtilnimdliebfnaaChPD
