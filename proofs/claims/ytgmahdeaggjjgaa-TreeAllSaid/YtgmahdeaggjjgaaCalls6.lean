/-
  WHAT PACKAGE tree's CALLS DO.
-/
import Derived.Test.YtgmahdeaggjjgaaCount6
import Derived.Test.YtgmahdeaggjjgaaOwnGood6
import Derived.Test.YtgmahdeaggjjgaaOwnFilter6
import Derived.Test.YtgmahdeaggjjgaaLawF6
namespace Go.Proofs.Ytgmahdeaggjjgaa
open Go.RowKit Go

theorem treeCalls : TreeCalls where
  good f hc w v hf := good_any f hc w v hf
  count f hc w v hf := count_any f hc w v hf
  filter f g _ _ w u v hu hv := ownFilter_any f.count f g w u v (Nat.le_refl _) hu hv

end Go.Proofs.Ytgmahdeaggjjgaa
