/- What the first programs come to: plain. -/
import Derived.Test.YtfafhjglcaikoaaGreatDoorH34
namespace Go.Proofs.YtfafhjglcaikoaaGreatDoor
open Go.RowKit

abbrev lN9 (t : Txt) : List Nd := newN 1 0 t []
abbrev callN (l : List Txt) : List Nd := newN 21 0 [] (l.map lN9)
abbrev tEcho : Txt := [101, 99, 104, 111]
abbrev tCat : Txt := [99, 97, 116]
abbrev tTrue : Txt := [116, 114, 117, 101]
def progA : List Nd := callN [tEcho, [97]]
def progB : List Nd := newN 32 0 [] [callN [tEcho, [97]], callN [tCat]]
def progC : List Nd := newN 28 0 [] [callN [tTrue], newN 20 0 [] []]
def progD : List Nd := newN 23 0 [] [newN 31 0 [102] [callN [[102]]], callN [[102]]]
theorem chkA : checkL progA = .fine := by kernel_rfl
theorem chkB : checkL progB = .fine := by kernel_rfl
theorem chkC : checkL progC = .fine := by kernel_rfl
theorem chkD : checkL progD = .fine := by kernel_rfl
abbrev st0 : Sh := start [] 1500 25 []
theorem runA : (ev 6).1 progA st0 = some ({ st0 with st := 1, E := [⟨3, 0, [], [97, 10], []⟩] }, 0, .ok) := by kernel_rfl
theorem runB : (ev 8).1 progB st0 = some ({ st0 with st := 3, E := [⟨4, 2, [], [], []⟩, ⟨3, 0, [], [97, 10], []⟩, ⟨6, 2, [], [], []⟩] }, 0, .ok) := by kernel_rfl
theorem runD : (ev 120).1 progD st0 = some ({ st0 with st := 27, dp := 25, H := [([102], callN [[102]])] }, 0, .deep) := by kernel_rfl
set_option maxRecDepth 1000000 in
theorem runC : (ev 800).1 progC st0 = some ({ st0 with st := 1500 }, 0, .fuel) := by kernel_rfl
end Go.Proofs.YtfafhjglcaikoaaGreatDoor
