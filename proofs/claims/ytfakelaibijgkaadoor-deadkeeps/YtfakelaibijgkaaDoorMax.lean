/- The greatest of a row of numbers. -/
import Derived.Test.YtfakelaibijgkaaDoorKd
namespace Go.Proofs.YtfakelaibijgkaaDoor
open Go.RowKit
attribute [local go_sem] Oper.semAt_some

def maxL : Int → List Int → Int
  | m, [] => m
  | m, x :: l => maxL (max m x) l
end Go.Proofs.YtfakelaibijgkaaDoor
