/-
  DERIVED. toys/ytccojidhghgikaa/ytccojidhghgikaa.go, cut at the functions that are claimed.
-/
import Derived.LoadGo2
namespace Go.Proofs
set_option maxHeartbeats 4000000 in      -- a large cut (87 functions, in a trial) ran out of the default 200,000 here: '(deterministic) timeout at whnf'
load_go "../../toys/ytccojidhghgikaa/ytccojidhghgikaa.cut.gsa" as Try
end Go.Proofs
