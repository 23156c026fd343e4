/- A byte among others. -/
import Derived.Test.YtnlbjgioleoihaaGreatDoorLf
import Derived.Test.YtnlbjgioleoihaaGreatDoorShelf
import Derived.Lib.IndexLaws
namespace Go.Proofs.YtnlbjgioleoihaaGreatDoor
open Go.RowKit
attribute [local go_sem] Oper.semAt_some

/-! ### one of these bytes -/
theorem index_in (l : List UInt8) (c : UInt8) : decide (0 ≤ Lib.indexByte l c) = l.contains c := by
  induction l with
  | nil => rfl
  | cons b l ih =>
    have hg := Lib.indexByte_ge l c
    rw [List.contains_cons, ← ih, Lib.indexByte]
    by_cases h : b = c
    · subst h
      simp
    · have h1 : (b == c) = false := by simpa using h
      have h2 : (c == b) = false := by simpa using fun e => h e.symm
      rw [h1, h2]
      by_cases h3 : Lib.indexByte l c = -1
      · rw [h3]; rfl
      · have h4 : (Lib.indexByte l c == -1) = false := by simpa using h3
        rw [h4, Bool.eq_iff_iff]
        simp
        omega
theorem in_any (l : List UInt8) (c : UInt8) (w : World) : Calls Tryz.prog 31 #[.string ⟨l.toArray⟩, .int .u8 (c.toNat : Nat)] w fun e w' => e = .returned (.bool (l.contains c)) ∧ w' = w := by
  have HI : Hid (∀ W, Calls Tryz.prog 41 #[.string ⟨l.toArray⟩, .int .u8 (c.toNat : Nat)] W fun e w' => e = .returned (.int .i64 (Lib.indexByte l c)) ∧ w' = W) := fun W => by
    have := Tryz.strings_IndexByte ⟨l.toArray⟩ (c.toNat : Nat) W
    rw [show ((c.toNat : Nat) : Int).toNat.toUInt8 = c by simp] at this
    exact this
  have HR : Hid (decide (0 ≤ Lib.indexByte l c) = l.contains c) := index_in l c
  rw [← HR.out]
  clear HR
  go_enter Tryz.func31, Tryz.ntmps31
  go_wp2_with fail
  refine Calls.mono (HI.out _) ?_
  rintro e w1 ⟨rfl, rfl⟩
  go_wp2_with fail
  go_ret
  exact ⟨rfl, rfl⟩
end Go.Proofs.YtnlbjgioleoihaaGreatDoor
