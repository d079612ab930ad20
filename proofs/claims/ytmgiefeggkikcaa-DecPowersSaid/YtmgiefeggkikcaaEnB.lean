/- Layer 1: the examples. -/
import Derived.Test.YtmgiefeggkikcaaEnB0
set_option linter.unusedVariables false
namespace Go.Proofs.Ytmgiefeggkikcaa
open Go Sx Dc
set_option maxRecDepth 1000000 in
theorem examples_ok : EntOK Try.prog 12 eTrue := fun args pre => by
  unfold eTrue
  split
  · exact ans_comes (lv := nolv) tabX_ok (by unfold Comes; kernel_rfl)
  · trivial
end Go.Proofs.Ytmgiefeggkikcaa
