/- What is quoted at a text's beginning. -/
import Derived.Test.YtaildeglikhkaaaGreatDoorQuoted
namespace Go.Proofs.YtaildeglikhkaaaGreatDoor
open Go.RowKit
attribute [local go_sem] Oper.semAt_some

def unqV : Option (List UInt8) → Nat → Array Value
  | none, _ => #[.string ⟨#[]⟩, .int .i64 0, .bool false]
  | some l, j => #[str l, .int .i64 (j : Nat), .bool true]
theorem unqV_none (j : Nat) : unqV none j = #[.string ⟨#[]⟩, .int .i64 0, .bool false] := rfl
theorem unqV_some (l : List UInt8) (j : Nat) : unqV (some l) j = #[str l, .int .i64 (j : Nat), .bool true] := rfl
set_option maxHeartbeats 2000000 in
theorem unquote_any (s : ByteArray) (hs : s.size < 8796093022208) (w : World) :
    Calls Tryz.prog 8 #[.string s] w fun e w' => e = .returned (.tuple (unqV (quR s 0).1 (quR s 0).2)) ∧ Below w.heap.size w w' := by
  have HQ : Hid (Calls Tryz.prog 25 #[.pointer (some ⟨w.heap.size, 0, none⟩)] (w.alloc (.cells #[.string s, .int .i64 0] 52)) fun e w' => e = .returned (.tuple (textR (quR s 0).1)) ∧ Gone (w.alloc (.cells #[.string s, .int .i64 0] 52)) w.heap.size 52 s (quR s 0).2 [] w') :=
    quoted_any (show PlC (w.alloc (.cells #[.string s, .int .i64 0] 52)) w.heap.size 52 s 0 [] from Cel.new w 52 _) hs (Nat.zero_le _)
  have HB : Hid (∀ k w', Gone (w.alloc (.cells #[.string s, .int .i64 0] 52)) w.heap.size 52 s k [] w' → ∀ m, Below w.heap.size w (w'.drewN m)) := fun k w' h m => by
    have h1 := (below_new w (.cells #[.string s, .int .i64 0] 52)).trans (h.turn.below (B := w.heap.size) (fun i e => by omega) (by simp))
    exact ⟨h1.os, h1.tape, h1.output, h1.size, h1.block⟩
  generalize (quR s 0).1 = o at HQ ⊢
  generalize (quR s 0).2 = j at HQ ⊢
  cases o with
  | none =>
    rw [textR_none] at HQ
    rw [unqV_none]
    go_enter Tryz.func8, Tryz.ntmps8
    go_wp2_with fail
    refine Calls.mono HQ.out ?_
    rintro e w1 ⟨rfl, hg⟩
    have HB1 : Hid (Below w.heap.size w w1) := HB.out _ _ hg 0
    go_wp2_with fail
    go_ret3
    exact ⟨rfl, HB1.out⟩
  | some l =>
    rw [textR_some] at HQ
    rw [unqV_some]
    go_enter Tryz.func8, Tryz.ntmps8
    go_wp2_with fail
    refine Calls.mono HQ.out ?_
    rintro e w1 ⟨rfl, hg⟩
    have HB1 : Hid (∀ m, Below w.heap.size w (w1.drewN m)) := HB.out _ _ hg
    have p1 := hg.at_.at.pos
    clear hg HQ HB
    go_wp2_with fail
    go_quiet (fail)
    go_wp2_with fail
    go_ret3
    exact ⟨rfl, HB1.out _⟩
end Go.Proofs.YtaildeglikhkaaaGreatDoor
