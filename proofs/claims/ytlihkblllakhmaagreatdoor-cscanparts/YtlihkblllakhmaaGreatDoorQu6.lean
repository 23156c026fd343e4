/- The replacer, over a text. -/
import Derived.Test.YtlihkblllakhmaaGreatDoorQu5
import Derived.Laws.CopyOwn
import Derived.Laws.MakeOwn
import Derived.Deep.RegionLaw
import Derived.BigQuiet
namespace Go.Proofs.YtlihkblllakhmaaGreatDoor
open Go.RowKit
attribute [local go_sem] Oper.semAt_some byte_one

/-! ### plain -/
def isE (c : UInt8) : Bool := esc4.contains c
def escB (c : UInt8) : List UInt8 := if isE c then [92, c] else [c]
/-- A text, escaped. -/
def escP (l : List UInt8) : List UInt8 := l.flatMap escB
theorem escP_cons (c : UInt8) (l : List UInt8) : escP (c :: l) = escB c ++ escP l := rfl
theorem escP_append (a b : List UInt8) : escP (a ++ b) = escP a ++ escP b := by simp [escP]
theorem escP_len (l : List UInt8) : (escP l).length = l.length + l.countP isE := by
  induction l with
  | nil => rfl
  | cons c l ih =>
    rw [escP_cons, List.length_append, ih, List.countP_cons, escB]
    cases isE c <;> simp <;> omega
theorem escP_none : ∀ (l : List UInt8), l.countP isE = 0 → escP l = l
  | [], _ => rfl
  | c :: l, h => by
    rw [List.countP_cons] at h
    cases e : isE c with
    | true => simp [e] at h
    | false =>
      simp [e] at h
      rw [escP_cons, escB, e, escP_none l (by rw [List.countP_eq_zero]; simpa using h)]
      rfl
def tos : List UInt8 := [91, 36, 92, 34]
theorem isE_iff (c : UInt8) : isE c = true ↔ c ∈ esc4.drop 0 := by simp [isE]
theorem count_tos (l : List UInt8) : l.count 91 + l.count 36 + l.count 92 + l.count 34 = l.countP isE := by
  induction l with
  | nil => rfl
  | cons c l ih =>
    simp only [List.count_cons, List.countP_cons, isE, esc4]
    have : l.countP isE = l.countP fun c => [34, 92, 36, 91].contains c := rfl
    by_cases h1 : c = 91
    · subst h1; simp; omega
    · by_cases h2 : c = 36
      · subst h2; simp; omega
      · by_cases h3 : c = 92
        · subst h3; simp; omega
        · by_cases h4 : c = 34
          · subst h4; simp; omega
          · simp [h1, h2, h3, h4]; omega
/-! ### Count at one byte -/
set_option maxRecDepth 100000 in
theorem count_one (s : ByteArray) (c : UInt8) (w : World) :
    Calls Tryz.prog 151 #[.string s, str [c]] w fun e w' => e = .returned (.int .i64 (s.data.toList.count c : Nat)) ∧ w' = w := by
  go_enter Tryz.func151, Tryz.ntmps151
  go_wp2
  rw [run_callFunc_extern Tryz.func153 (by kernel_rfl) (by kernel_rfl) (by kernel_rfl) (e := Extern.BytealgCount.count) (by kernel_rfl), Lib.run_countString]
  simp only [Result.andThen]
  rw [Oper.upon_value]
  go_wp2
  go_ret
  refine ⟨?_, rfl⟩
  simp [Lib.countByte]
theorem RepI.tosAt {B : Nat} {W : World} {b : Nat} {cs : Array Value} {tr : Value} (h : RepI B W b 0 cs tr) : ∃ g cap, tr = .slice (some ⟨g, 0, none⟩) 4 cap ∧ ∀ i c, tos[i]? = some c → W.cell? ⟨g, i, none⟩ = some (str [c]) := by
  have ho := h.own
  rcases ho.2 with ⟨_, h0⟩ | ⟨g, cap, cur, rfl, _⟩
  · simp at h0
  · refine ⟨g, cap, rfl, fun i c hi => ?_⟩
    have := ho.cells (g := g) rfl i (str [c]) (by
      have e : (esc4.drop 0).reverse = tos := rfl
      rw [e, List.getElem?_map, hi]
      rfl)
    rwa [Addr.add_lit, Nat.zero_add] at this
end Go.Proofs.YtlihkblllakhmaaGreatDoor
