/- The document's scanner: a word. -/
import Derived.Test.YtlihkblllakhmaaGreatDoorRg11
namespace Go.Proofs.YtlihkblllakhmaaGreatDoor
open Go.RowKit
attribute [local go_sem] Oper.semAt_some

/-- The document's word is wordL. -/
theorem dw_any {W : World} {b : Nat} {s : ByteArray} {i : Nat} {av : Value} (h : Lx W b s i 0 av) (hs : s.size ≤ 8192) (hi : i < s.size) :
    Calls Tryz.prog 24 #[.pointer (some ⟨b, 0, none⟩)] W fun e w' => ∃ v', e = .returned v' ∧ DWordV W b s av (wordL s.size (s.data.toList.drop i)) v' w' := by
  by_cases c1 : s[i] = 123
  · cases hk : passB 0 (s.data.toList.drop (i + 1)) with
    | none => exact word_brace0 h hs hi c1 hk
    | some u => exact word_brace1 h hs hi c1 u hk
  · by_cases c2 : s[i] = 34
    · exact dw_quoted h hs hi c2
    · exact dw_bare h hs hi c1 c2
end Go.Proofs.YtlihkblllakhmaaGreatDoor
