/-
  NARROWER THAN 'FOR EVERY INPUT', by the rows' own cells (each row's printed sentence says how): DeadOwn: laid · DeadAgain: laid · DeadKeeps: laid · DeadSilent: laid.
  DERIVED. THE GIVEN ROWS OF THIS SEAT. 4 by the template 'for every input the law returns true; each argument reads behind the call as it read before'; 0 by the template 'total and deterministic' (their statements: YtfakelaibijgkaaDoorTotals.lean).
  GIVEN WITH THE SEED: the statements are not yours to turn. If you find one false, say at which input.
  Laid BY PROGRAM, IN A SANDBOX (cutbox-rows.mjs): the forced cells as the released guide's own fill.sh prints them over the translation 0340d2915312aed5… (all of the seat's roots in one cut). By AI agents, Wed Nov 11 2026. No macro, syntax, notation, axiom, sorry.
-/
import Derived.Test.YtfakelaibijgkaaDoorChecked
import GoSem.PinnedTables
import GoSem.Claim
import GoSem.ClaimJoined
import GoSem.ClaimMapViews
import Derived.JoinedTies
import Derived.KernelRfl
namespace Go.Proofs.YtfakelaibijgkaaDoor
/- THE CELL 'sum', in the pinned program and in every row, IS THE sha256 OF THE DUMP (.gsa) THAT YtfakelaibijgkaaDoorProg.lean LOADS. Nothing in Lean hashes anything: it is a label: what it is worth is what the hold of that sum in a sandbox is worth. -/
noncomputable def Tryd.pinned : Pinned := { name := "ytfakelaibijgkaadoor", sum := "0340d2915312aed5d5fd13288930a6991c1014439e4f9f1de3574b0f257b890e", checked := Tryd.checked }
namespace Rows
def none {H : Type} : Left H := { results := [], args := [] }

/- WHAT THE LISTED PACKAGE-LEVEL VARIABLES READ AS WHEN THE CALL BEGINS. Each datum BY PROGRAM (the guide's laid-datum.mjs) off the statement by which the dump's own 'gosem.cut.vars' lays the variable. In a bare row this is a premise. The card (YtfakelaibijgkaaDoorCards.lean) ties it to the program's text. -/
def laid_unicode_utf8_acceptRanges {H : Type} : DataW H := .agg [.agg [.lit (.int .u8 128), .lit (.int .u8 191)], .agg [.lit (.int .u8 160), .lit (.int .u8 191)], .agg [.lit (.int .u8 128), .lit (.int .u8 159)], .agg [.lit (.int .u8 144), .lit (.int .u8 191)], .agg [.lit (.int .u8 128), .lit (.int .u8 143)], .agg [.lit (.int .u8 0), .lit (.int .u8 0)], .agg [.lit (.int .u8 0), .lit (.int .u8 0)], .agg [.lit (.int .u8 0), .lit (.int .u8 0)], .agg [.lit (.int .u8 0), .lit (.int .u8 0)], .agg [.lit (.int .u8 0), .lit (.int .u8 0)], .agg [.lit (.int .u8 0), .lit (.int .u8 0)], .agg [.lit (.int .u8 0), .lit (.int .u8 0)], .agg [.lit (.int .u8 0), .lit (.int .u8 0)], .agg [.lit (.int .u8 0), .lit (.int .u8 0)], .agg [.lit (.int .u8 0), .lit (.int .u8 0)], .agg [.lit (.int .u8 0), .lit (.int .u8 0)]]
def laid_patois_api_ErrNest {H : Type} : DataW H := .iface "*errors.errorString" (.ptr (.agg [.lit (.string [110, 101, 115, 116, 101, 100, 32, 116, 111, 111, 32, 100, 101, 101, 112])]))
def laid_patois_api_ErrNode {H : Type} : DataW H := .iface "*errors.errorString" (.ptr (.agg [.lit (.string [110, 111, 32, 112, 114, 111, 103, 114, 97, 109])]))
def laid_patois_api_ErrMany {H : Type} : DataW H := .iface "*errors.errorString" (.ptr (.agg [.lit (.string [116, 111, 111, 32, 109, 97, 110, 121])]))
/-- One of Go's own tables, pinned by name: the form's constant. -/
def laid_unicode_utf8_first : DataW Unit := Go.Pinned.utf8First

/-- 'patoislaw18.DeadOwn': WHATEVER THE INPUT: true; the input reads as it did. -/
def deadOwnSpec : ChangeSpec := { name := "deadOwn", fn := fun _ => fun
  | [d] => { results := [.lit (.bool true)], args := [d] }
  | _ => none }
def deadOwnRow : OpenClaim := { program := "ytfakelaibijgkaadoor", sum := "0340d2915312aed5d5fd13288930a6991c1014439e4f9f1de3574b0f257b890e", func := "patois/patoislaw18.DeadOwn", spec := "deadOwn", inPlace := ["internal/bytealg.IndexByteString", "internal/bytealg.IndexString"], unfollowed := true, recurses := true, named := ["patois/api.ErrMany", "patois/api.ErrNode", "patois/api.ErrNest", "unicode/utf8.first", "unicode/utf8.acceptRanges", "internal/bytealg.MaxLen"], apart := false, laid := [("unicode/utf8.acceptRanges", laid_unicode_utf8_acceptRanges), ("patois/api.ErrNest", laid_patois_api_ErrNest), ("patois/api.ErrNode", laid_patois_api_ErrNode), ("patois/api.ErrMany", laid_patois_api_ErrMany), ("unicode/utf8.first", laid_unicode_utf8_first)] }
def DeadOwnSaid : Prop := deadOwnRow.holds Tryd.pinned (OpenSpec.ofChange deadOwnSpec)

/-- ITS FALSE NEIGHBOUR: 'it returns false'. Refute it at one input. -/
def deadOwnWrong : ChangeSpec := { name := "deadOwn", fn := fun _ => fun
  | [d] => { results := [.lit (.bool false)], args := [d] }
  | _ => none }
def DeadOwnWrongFalsely : Prop := deadOwnRow.holds Tryd.pinned (OpenSpec.ofChange deadOwnWrong)

/-- 'patoislaw18.DeadAgain': WHATEVER THE INPUT: true; the input reads as it did. -/
def deadAgainSpec : ChangeSpec := { name := "deadAgain", fn := fun _ => fun
  | [d] => { results := [.lit (.bool true)], args := [d] }
  | _ => none }
def deadAgainRow : OpenClaim := { program := "ytfakelaibijgkaadoor", sum := "0340d2915312aed5d5fd13288930a6991c1014439e4f9f1de3574b0f257b890e", func := "patois/patoislaw18.DeadAgain", spec := "deadAgain", inPlace := ["internal/bytealg.IndexByteString", "internal/bytealg.IndexString"], unfollowed := true, recurses := true, named := ["patois/api.ErrMany", "patois/api.ErrNode", "patois/api.ErrNest", "unicode/utf8.first", "unicode/utf8.acceptRanges", "internal/bytealg.MaxLen"], apart := false, laid := [("unicode/utf8.acceptRanges", laid_unicode_utf8_acceptRanges), ("patois/api.ErrNest", laid_patois_api_ErrNest), ("patois/api.ErrNode", laid_patois_api_ErrNode), ("patois/api.ErrMany", laid_patois_api_ErrMany), ("unicode/utf8.first", laid_unicode_utf8_first)] }
def DeadAgainSaid : Prop := deadAgainRow.holds Tryd.pinned (OpenSpec.ofChange deadAgainSpec)

/-- ITS FALSE NEIGHBOUR: 'it returns false'. Refute it at one input. -/
def deadAgainWrong : ChangeSpec := { name := "deadAgain", fn := fun _ => fun
  | [d] => { results := [.lit (.bool false)], args := [d] }
  | _ => none }
def DeadAgainWrongFalsely : Prop := deadAgainRow.holds Tryd.pinned (OpenSpec.ofChange deadAgainWrong)

/-- 'patoislaw18.DeadKeeps': WHATEVER THE INPUT: true; the input reads as it did. -/
def deadKeepsSpec : ChangeSpec := { name := "deadKeeps", fn := fun _ => fun
  | [d1, d2] => { results := [.lit (.bool true)], args := [d1, d2] }
  | _ => none }
def deadKeepsRow : OpenClaim := { program := "ytfakelaibijgkaadoor", sum := "0340d2915312aed5d5fd13288930a6991c1014439e4f9f1de3574b0f257b890e", func := "patois/patoislaw18.DeadKeeps", spec := "deadKeeps", inPlace := ["internal/bytealg.IndexByteString", "internal/bytealg.IndexString"], unfollowed := true, recurses := true, named := ["patois/api.ErrMany", "patois/api.ErrNode", "patois/api.ErrNest", "unicode/utf8.first", "unicode/utf8.acceptRanges", "internal/bytealg.MaxLen"], apart := false, laid := [("unicode/utf8.acceptRanges", laid_unicode_utf8_acceptRanges), ("patois/api.ErrNest", laid_patois_api_ErrNest), ("patois/api.ErrNode", laid_patois_api_ErrNode), ("patois/api.ErrMany", laid_patois_api_ErrMany), ("unicode/utf8.first", laid_unicode_utf8_first)] }
def DeadKeepsSaid : Prop := deadKeepsRow.holds Tryd.pinned (OpenSpec.ofChange deadKeepsSpec)

/-- ITS FALSE NEIGHBOUR: 'it returns false'. Refute it at one input. -/
def deadKeepsWrong : ChangeSpec := { name := "deadKeeps", fn := fun _ => fun
  | [d1, d2] => { results := [.lit (.bool false)], args := [d1, d2] }
  | _ => none }
def DeadKeepsWrongFalsely : Prop := deadKeepsRow.holds Tryd.pinned (OpenSpec.ofChange deadKeepsWrong)

/-- 'patoislaw18.DeadSilent': WHATEVER THE INPUT: true; the input reads as it did. -/
def deadSilentSpec : ChangeSpec := { name := "deadSilent", fn := fun _ => fun
  | [d] => { results := [.lit (.bool true)], args := [d] }
  | _ => none }
def deadSilentRow : OpenClaim := { program := "ytfakelaibijgkaadoor", sum := "0340d2915312aed5d5fd13288930a6991c1014439e4f9f1de3574b0f257b890e", func := "patois/patoislaw18.DeadSilent", spec := "deadSilent", inPlace := ["internal/bytealg.IndexByteString", "internal/bytealg.IndexString"], unfollowed := true, recurses := true, named := ["patois/api.ErrMany", "patois/api.ErrNode", "patois/api.ErrNest", "unicode/utf8.first", "unicode/utf8.acceptRanges", "internal/bytealg.MaxLen"], apart := false, laid := [("unicode/utf8.acceptRanges", laid_unicode_utf8_acceptRanges), ("patois/api.ErrNest", laid_patois_api_ErrNest), ("patois/api.ErrNode", laid_patois_api_ErrNode), ("patois/api.ErrMany", laid_patois_api_ErrMany), ("unicode/utf8.first", laid_unicode_utf8_first)] }
def DeadSilentSaid : Prop := deadSilentRow.holds Tryd.pinned (OpenSpec.ofChange deadSilentSpec)

/-- ITS FALSE NEIGHBOUR: 'it returns false'. Refute it at one input. -/
def deadSilentWrong : ChangeSpec := { name := "deadSilent", fn := fun _ => fun
  | [d] => { results := [.lit (.bool false)], args := [d] }
  | _ => none }
def DeadSilentWrongFalsely : Prop := deadSilentRow.holds Tryd.pinned (OpenSpec.ofChange deadSilentWrong)

/- THE SECOND FORM. 'bulk': how many values and letters a reading holds, each counted each time it is reached (what is shared counts as often as it is met; a slice's spare places count too). A statement '..UptoSaid' is the law's where the arguments, and the package variables that the reading takes, are together of bulk at most 1048576: NARROWER than '..Said'. Prove '..Said' where nothing that the law and all that it calls make is longer than what came in: it says more and counts as full. Else prove '..UptoSaid'. A law counts once. -/
mutual
def uptoBulk {H : Type} : DataW H → Nat
  | .lit (.string bytes) => bytes.length + 1
  | .lit _ => 1
  | .nil => 1
  | .ptr d => uptoBulk d + 1
  | .slice elems spare => uptoBulkAll elems + uptoBulkAll spare + 1
  | .agg parts => uptoBulkAll parts + 1
  | .iface _ d => uptoBulk d + 1
  | .map entries => uptoBulkEntries entries + 1
  | .held _ => 1
def uptoBulkAll {H : Type} : List (DataW H) → Nat
  | [] => 0
  | d :: r => uptoBulk d + uptoBulkAll r
def uptoBulkEntries {H : Type} : List (Lit × DataW H) → Nat
  | [] => 0
  | x :: r => uptoBulkEntry x + uptoBulkEntries r
def uptoBulkEntry {H : Type} : Lit × DataW H → Nat
  | (.string bytes, d) => bytes.length + uptoBulk d + 1
  | (_, d) => uptoBulk d + 1
 end
def uptoSmall : (H : Type) → List (DataW H) → Bool := fun _ ds => decide (uptoBulkAll ds ≤ 1048576)
def OpenSpec.upto (s : _root_.Go.ChangeSpec) : _root_.Go.OpenSpec := { _root_.Go.OpenSpec.ofChange s with cond := some uptoSmall }

/-- 'patoislaw18.DeadOwn', WHERE WHAT IT READS IS OF BULK AT MOST 1048576: true; the input reads as it did. -/
def deadOwnUptoRow : OpenClaim := { program := "ytfakelaibijgkaadoor", sum := "0340d2915312aed5d5fd13288930a6991c1014439e4f9f1de3574b0f257b890e", func := "patois/patoislaw18.DeadOwn", spec := "deadOwn", inPlace := ["internal/bytealg.IndexByteString", "internal/bytealg.IndexString"], unfollowed := true, recurses := true, named := ["patois/api.ErrMany", "patois/api.ErrNode", "patois/api.ErrNest", "unicode/utf8.first", "unicode/utf8.acceptRanges", "internal/bytealg.MaxLen"], apart := false, laid := [("unicode/utf8.acceptRanges", laid_unicode_utf8_acceptRanges), ("patois/api.ErrNest", laid_patois_api_ErrNest), ("patois/api.ErrNode", laid_patois_api_ErrNode), ("patois/api.ErrMany", laid_patois_api_ErrMany), ("unicode/utf8.first", laid_unicode_utf8_first)], narrowed := true }
def DeadOwnUptoSaid : Prop := deadOwnUptoRow.holds Tryd.pinned (OpenSpec.upto deadOwnSpec)

/-- 'patoislaw18.DeadAgain', WHERE WHAT IT READS IS OF BULK AT MOST 1048576: true; the input reads as it did. -/
def deadAgainUptoRow : OpenClaim := { program := "ytfakelaibijgkaadoor", sum := "0340d2915312aed5d5fd13288930a6991c1014439e4f9f1de3574b0f257b890e", func := "patois/patoislaw18.DeadAgain", spec := "deadAgain", inPlace := ["internal/bytealg.IndexByteString", "internal/bytealg.IndexString"], unfollowed := true, recurses := true, named := ["patois/api.ErrMany", "patois/api.ErrNode", "patois/api.ErrNest", "unicode/utf8.first", "unicode/utf8.acceptRanges", "internal/bytealg.MaxLen"], apart := false, laid := [("unicode/utf8.acceptRanges", laid_unicode_utf8_acceptRanges), ("patois/api.ErrNest", laid_patois_api_ErrNest), ("patois/api.ErrNode", laid_patois_api_ErrNode), ("patois/api.ErrMany", laid_patois_api_ErrMany), ("unicode/utf8.first", laid_unicode_utf8_first)], narrowed := true }
def DeadAgainUptoSaid : Prop := deadAgainUptoRow.holds Tryd.pinned (OpenSpec.upto deadAgainSpec)

/-- 'patoislaw18.DeadKeeps', WHERE WHAT IT READS IS OF BULK AT MOST 1048576: true; the input reads as it did. -/
def deadKeepsUptoRow : OpenClaim := { program := "ytfakelaibijgkaadoor", sum := "0340d2915312aed5d5fd13288930a6991c1014439e4f9f1de3574b0f257b890e", func := "patois/patoislaw18.DeadKeeps", spec := "deadKeeps", inPlace := ["internal/bytealg.IndexByteString", "internal/bytealg.IndexString"], unfollowed := true, recurses := true, named := ["patois/api.ErrMany", "patois/api.ErrNode", "patois/api.ErrNest", "unicode/utf8.first", "unicode/utf8.acceptRanges", "internal/bytealg.MaxLen"], apart := false, laid := [("unicode/utf8.acceptRanges", laid_unicode_utf8_acceptRanges), ("patois/api.ErrNest", laid_patois_api_ErrNest), ("patois/api.ErrNode", laid_patois_api_ErrNode), ("patois/api.ErrMany", laid_patois_api_ErrMany), ("unicode/utf8.first", laid_unicode_utf8_first)], narrowed := true }
def DeadKeepsUptoSaid : Prop := deadKeepsUptoRow.holds Tryd.pinned (OpenSpec.upto deadKeepsSpec)

/-- 'patoislaw18.DeadSilent', WHERE WHAT IT READS IS OF BULK AT MOST 1048576: true; the input reads as it did. -/
def deadSilentUptoRow : OpenClaim := { program := "ytfakelaibijgkaadoor", sum := "0340d2915312aed5d5fd13288930a6991c1014439e4f9f1de3574b0f257b890e", func := "patois/patoislaw18.DeadSilent", spec := "deadSilent", inPlace := ["internal/bytealg.IndexByteString", "internal/bytealg.IndexString"], unfollowed := true, recurses := true, named := ["patois/api.ErrMany", "patois/api.ErrNode", "patois/api.ErrNest", "unicode/utf8.first", "unicode/utf8.acceptRanges", "internal/bytealg.MaxLen"], apart := false, laid := [("unicode/utf8.acceptRanges", laid_unicode_utf8_acceptRanges), ("patois/api.ErrNest", laid_patois_api_ErrNest), ("patois/api.ErrNode", laid_patois_api_ErrNode), ("patois/api.ErrMany", laid_patois_api_ErrMany), ("unicode/utf8.first", laid_unicode_utf8_first)], narrowed := true }
def DeadSilentUptoSaid : Prop := deadSilentUptoRow.holds Tryd.pinned (OpenSpec.upto deadSilentSpec)

end Rows
end Go.Proofs.YtfakelaibijgkaaDoor
