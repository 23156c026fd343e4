/- The law TextSays, walked, at every source, text and two numbers. -/
import Derived.Test.YtnapmbemoppfbaaDoorSays2
namespace Go.Proofs.YtnapmbemoppfbaaDoor
open Go.RowKit
theorem says_any (s t : ByteArray) (i j : Int) (w : World) (hi0 : -9223372036854775808 ≤ i) (hi1 : i ≤ 9223372036854775807) (ht : Pow w) (hw : 2 < w.heap.size) (a : Addr) (hv : w.cell? ⟨0, 0, none⟩ = some (.iface 74 (.pointer (some a)))) :
    Calls Tryd.prog 3 #[.string s, .string t, .int .i64 i, .int .i64 j] w fun e w' => e = .returned (.bool true) ∧ Below w.heap.size w w' := by
  by_cases h1 : 4000 < t.size ∨ 20000 < s.size
  · exact says_long s t i j w h1
  · by_cases h2 : s.size ≤ 8192
    · exact says_short s t i j w (by omega) h2 hi0 hi1 ht hw
    · exact says_big s t i j w (by omega) (by omega) (by omega) a hv (by omega)
end Go.Proofs.YtnapmbemoppfbaaDoor
