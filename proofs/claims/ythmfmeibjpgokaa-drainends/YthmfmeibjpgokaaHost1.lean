/-
  Contracts of package host: words, rows of pairs.
-/
import Derived.Test.YthmfmeibjpgokaaHostPlain
import Derived.Test.YthmfmeibjpgokaaChecked
import Derived.WalkSmall
import Derived.Deep.QuietTactic
namespace Go.Proofs.Ythmfmeibjpgokaa
open Go.RowKit




end Go.Proofs.Ythmfmeibjpgokaa
