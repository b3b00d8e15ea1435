/-
  What the landed page answers: RightSeat, Lives, Empty (PgPA, PgPB), PutLeaf (PgPC), GetLeaf (PgPD), PutFan, GetFan (PgPE).
-/
import Derived.Test.YtjehcgkmapapbaaPgPE
