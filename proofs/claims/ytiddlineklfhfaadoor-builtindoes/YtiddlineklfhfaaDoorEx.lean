/- The chapter's examples. -/
import Derived.Test.YtiddlineklfhfaaDoorDo2
namespace Go.Proofs.YtiddlineklfhfaaDoor
open Go.RowKit Go.Shelf
attribute [local go_sem] Oper.semAt_some

abbrev oEcho : Oc := ⟨[97, 32, 98, 10], [104, 105], 0, [], [], false⟩
abbrev oRead : Oc := ⟨[], [121], 0, [118], [120], false⟩
abbrev oAdd : Oc := ⟨[53, 10], [], 0, [], [], false⟩
abbrev oExit : Oc := ⟨[], [], 0, [], [], true⟩
theorem eEcho : (⟨Lib.join [[97], [98]] [32] ++ [10], (⟨#[104, 105]⟩ : ByteArray).data.toList, 0, [], [], false⟩ : Oc) = oEcho := rfl
theorem eRead : readR (⟨#[120, 10, 121]⟩ : ByteArray).data.toList [[118]] = oRead := rfl
theorem eAdd1 : addR [[50], [51]] = ([53, 10], 0) := by decide +kernel
theorem eExit : endR [[51, 48, 48]] = 0 := by decide +kernel
theorem ex_echo (w : World) (b : Nat) (hb : b = w.heap.size) : Calls Tryd.prog 9 #[.string ⟨#[101, 99, 104, 111]⟩, .string ⟨#[104, 105]⟩, .slice (some ⟨b, 0, none⟩) 2 2] (w.alloc (.cells #[.string ⟨#[97]⟩, .string ⟨#[98]⟩] 9)) fun e w' => e = .returned (.tuple #[.agg #[.string ⟨#[97, 32, 98, 10]⟩, .string ⟨#[104, 105]⟩, .int .i64 0, .string ⟨#[]⟩, .string ⟨#[]⟩, .bool false], .bool true]) ∧ Below (w.alloc (.cells #[.string ⟨#[97]⟩, .string ⟨#[98]⟩] 9)).heap.size (w.alloc (.cells #[.string ⟨#[97]⟩, .string ⟨#[98]⟩] 9)) w' := by
  subst hb
  exact do_echo ⟨#[104, 105]⟩ _ [[97], [98]] _ (Tx.built (ps := [[97], [98]]) 9) (by decide) (by decide)
theorem ex_read (w : World) (b : Nat) (hb : b = w.heap.size) : Calls Tryd.prog 9 #[.string ⟨#[114, 101, 97, 100]⟩, .string ⟨#[120, 10, 121]⟩, .slice (some ⟨b, 0, none⟩) 1 1] (w.alloc (.cells #[.string ⟨#[118]⟩] 9)) fun e w' => e = .returned (.tuple #[.agg #[.string ⟨#[]⟩, .string ⟨#[121]⟩, .int .i64 0, .string ⟨#[118]⟩, .string ⟨#[120]⟩, .bool false], .bool true]) ∧ Below (w.alloc (.cells #[.string ⟨#[118]⟩] 9)).heap.size (w.alloc (.cells #[.string ⟨#[118]⟩] 9)) w' := by
  subst hb
  have := do_read ⟨#[120, 10, 121]⟩ _ [[118]] _ (Tx.built (W := w) (ps := [[118]]) 9) (by decide) (by decide)
  rw [eRead] at this
  exact this
theorem ex_add (w : World) (b : Nat) (hb : b = w.heap.size) (hP : ∀ W, Below w.heap.size w W → Pow W) : Calls Tryd.prog 9 #[.string ⟨#[97, 100, 100]⟩, .string ⟨#[]⟩, .slice (some ⟨b, 0, none⟩) 2 2] (w.alloc (.cells #[.string ⟨#[50]⟩, .string ⟨#[51]⟩] 9)) fun e w' => e = .returned (.tuple #[.agg #[.string ⟨#[53, 10]⟩, .string ⟨#[]⟩, .int .i64 0, .string ⟨#[]⟩, .string ⟨#[]⟩, .bool false], .bool true]) ∧ Below (w.alloc (.cells #[.string ⟨#[50]⟩, .string ⟨#[51]⟩] 9)).heap.size (w.alloc (.cells #[.string ⟨#[50]⟩, .string ⟨#[51]⟩] 9)) w' := by
  subst hb
  have := do_add ⟨#[]⟩ _ [[50], [51]] _ (Tx.built (W := w) (ps := [[50], [51]]) 9) (by decide) (fun W hW => hP W ((below_new w _).trans (hW.mono (by simp))))
  rw [eAdd1] at this
  exact this
theorem ex_exit (w : World) (b : Nat) (hb : b = w.heap.size) : Calls Tryd.prog 9 #[.string ⟨#[101, 120, 105, 116]⟩, .string ⟨#[]⟩, .slice (some ⟨b, 0, none⟩) 1 1] (w.alloc (.cells #[.string ⟨#[51, 48, 48]⟩] 9)) fun e w' => e = .returned (.tuple #[.agg #[.string ⟨#[]⟩, .string ⟨#[]⟩, .int .i64 0, .string ⟨#[]⟩, .string ⟨#[]⟩, .bool true], .bool true]) ∧ Below (w.alloc (.cells #[.string ⟨#[51, 48, 48]⟩] 9)).heap.size (w.alloc (.cells #[.string ⟨#[51, 48, 48]⟩] 9)) w' := by
  subst hb
  have := do_exit ⟨#[]⟩ _ [[51, 48, 48]] _ (Tx.built (W := w) (ps := [[51, 48, 48]]) 9) (by decide)
  rw [eExit] at this
  exact this
theorem ex_ls (w : World) : Calls Tryd.prog 9 #[.string ⟨#[108, 115]⟩, .string ⟨#[]⟩, .slice none 0 0] w fun e w' => e = .returned (.tuple #[.agg #[.string ⟨#[]⟩, .string ⟨#[]⟩, .int .i64 0, .string ⟨#[]⟩, .string ⟨#[]⟩, .bool false], .bool false]) ∧ Below w.heap.size w w' :=
  do_none ⟨#[108, 115]⟩ ⟨#[]⟩ _ [] _ (.inl ⟨rfl, rfl⟩) (by rw [ByteArray.toList_eq]; rfl) (by rw [ByteArray.toList_eq]; rfl) (by rw [ByteArray.toList_eq]; rfl) (by rw [ByteArray.toList_eq]; rfl) (by rw [ByteArray.toList_eq]; rfl) (by rw [ByteArray.toList_eq]; rfl) (by rw [ByteArray.toList_eq]; rfl) (by rw [ByteArray.toList_eq]; rfl) (by rw [ByteArray.toList_eq]; rfl) (by rw [ByteArray.toList_eq]; rfl) (by rw [ByteArray.toList_eq]; rfl)
end Go.Proofs.YtiddlineklfhfaaDoor
