/-
  What super answers: Right, Put, Get, Same (SpForms.txt's words, proved).
-/
import Derived.Test.YtmildaofmgeceaaRefSpE
import Derived.Test.YtmildaofmgeceaaBkProg
import Derived.Test.YtmildaofmgeceaaSpLate
