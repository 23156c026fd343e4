/- A reader in memory; whether it is at the end; a byte taken; a dollar's part. -/
import Derived.Test.YtddekcohfbnmbaaDoorNm
import Derived.Test.YtddekcohfbnmbaaDoorShelf
import Derived.Lib.IndexLaws
import Derived.BigQuiet
namespace Go.Proofs.YtddekcohfbnmbaaDoor
open Go.RowKit
attribute [local go_sem] Oper.semAt_some

/-- A reader: its block, its source's block, its source, its place. -/
structure Rd (W : World) (b sb : Nat) (s : ByteArray) (k : Nat) : Prop where
  rd : Cel W b 48 #[.pointer (some ⟨sb, 0, none⟩), .int .i64 (k : Nat)]
  src : Cel W sb 73 #[.string s]
theorem Rd.c0 {W : World} {b sb k : Nat} {s : ByteArray} (h : Rd W b sb s k) : W.cell? ⟨b, 0, none⟩ = some (.pointer (some ⟨sb, 0, none⟩)) := h.rd.cell 0
theorem Rd.c1 {W : World} {b sb k : Nat} {s : ByteArray} (h : Rd W b sb s k) : W.cell? ⟨b, 1, none⟩ = some (.int .i64 (k : Nat)) := h.rd.cell 1
theorem Rd.f1 {W : World} {b sb k : Nat} {s : ByteArray} (h : Rd W b sb s k) : W.frozen? ⟨b, 1, none⟩ = false := h.rd.frozen 1
theorem Rd.t0 {W : World} {b sb k : Nat} {s : ByteArray} (h : Rd W b sb s k) : W.cell? ⟨sb, 0, none⟩ = some (.string s) := h.src.cell 0
theorem Rd.ne {W : World} {b sb k : Nat} {s : ByteArray} (h : Rd W b sb s k) : sb ≠ b := by
  rintro rfl
  have := (show W.heap[sb]? = _ from h.rd).symm.trans h.src
  simp at this
/-- The place has moved; nothing else has turned, but what is new. -/
structure Stp (W : World) (b sb : Nat) (s : ByteArray) (k : Nat) (W' : World) : Prop where
  at_ : Rd W' b sb s k
  turn : Turn (fun i => i = b) W W'
theorem Stp.refl {W : World} {b sb k : Nat} {s : ByteArray} (h : Rd W b sb s k) : Stp W b sb s k W := ⟨h, Turn.refl _ _⟩
theorem Stp.drewN {W W' : World} {b sb k : Nat} {s : ByteArray} (h : Stp W b sb s k W') (m : Nat) : Stp W b sb s k (W'.drewN m) := ⟨⟨h.at_.rd, h.at_.src⟩, h.turn.os, h.turn.tape, h.turn.output, h.turn.size, h.turn.block⟩
theorem Stp.drew {W W' : World} {b sb k : Nat} {s : ByteArray} (h : Stp W b sb s k W') : Stp W b sb s k W'.drew := ⟨⟨h.at_.rd, h.at_.src⟩, h.turn.os, h.turn.tape, h.turn.output, h.turn.size, h.turn.block⟩
theorem Stp.set {W W' : World} {b sb k : Nat} {s : ByteArray} (h : Stp W b sb s k W') (j : Nat) : Stp W b sb s j (W'.setCell ⟨b, 1, none⟩ (.int .i64 (j : Nat))) := by
  refine ⟨⟨?_, h.at_.src.other h.at_.ne _⟩, h.turn.setCell (p := ⟨b, 1, none⟩) (fun _ => rfl) _⟩
  have := h.at_.rd.set (j := 1) (.int .i64 (j : Nat))
  simpa using this
theorem Stp.trans {W W' W'' : World} {b sb k j : Nat} {s : ByteArray} (h : Stp W b sb s k W') (h' : Stp W' b sb s j W'') : Stp W b sb s j W'' := ⟨h'.at_, h.turn.trans h'.turn (fun _ e _ => e)⟩
theorem Stp.alloc {W W' : World} {b sb k : Nat} {s : ByteArray} (h : Stp W b sb s k W') (o : Obj) : Stp W b sb s k (W'.alloc o) :=
  ⟨⟨(Below.heap_alloc W' o b h.at_.rd.lt).trans h.at_.rd, (Below.heap_alloc W' o sb h.at_.src.lt).trans h.at_.src⟩, h.turn.alloc o⟩
/-- Only new memory behind it. -/
theorem Stp.below {W W' W'' : World} {b sb k : Nat} {s : ByteArray} (h : Stp W b sb s k W') (hb : Below W'.heap.size W' W'') : Stp W b sb s k W'' :=
  ⟨⟨h.at_.rd.below hb h.at_.rd.lt, h.at_.src.below hb h.at_.src.lt⟩, h.turn.trans (Turn.ofBelow (S := fun _ => False) hb) (fun _ e _ => e.elim)⟩
/-- Where a reader stands. -/
def posOf (W : World) (b : Nat) : Nat := match W.cell? ⟨b, 1, none⟩ with
  | some v => (intOf v).toNat
  | none => 0
theorem Rd.pos {W : World} {b sb k : Nat} {s : ByteArray} (h : Rd W b sb s k) : posOf W b = k := by
  unfold posOf
  rw [h.c1]
  simp [intOf]
theorem drewN_zero (W : World) : W = W.drewN 0 := rfl
/-- Is one byte there? -/
theorem hasb_any (b : Nat) (s : ByteArray) (c : UInt8) (k : Nat) (w : World) (hc : w.cell? ⟨b, 0, none⟩ = some (.string s)) :
    Calls Tryd.prog 42 #[.pointer (some ⟨b, 0, none⟩), .int .i64 (k : Nat), .string ⟨#[c]⟩] w fun e w' => e = .returned (.bool (s.data.toList[k]? == some c)) ∧ w' = w := by
  have := has_any b s ⟨#[c]⟩ k w hc (by show 0 < 1; omega)
  rw [show (ByteArray.mk #[c]).data.toList = [c] from rfl, has_one, drop_head] at this
  exact this
theorem set_step {W w1 : World} {b sb p : Nat} {s : ByteArray} (h : Stp W b sb s p w1) (v : Int) (j : Nat) (hv : v = (j : Nat)) : Stp W b sb s j (w1.setCell ⟨b, 1, none⟩ (.int .i64 v)) := by
  subst hv
  exact h.set j
theorem at_none (s : ByteArray) (k : Nat) (h : ¬ k < s.size) : s.data.toList[k]? = none := List.getElem?_eq_none (by simp; omega)
theorem drop_none (s : ByteArray) (k : Nat) (h : ¬ k < s.size) : s.data.toList.drop k = [] := List.drop_eq_nil_of_le (by simp; omega)
theorem dw_more {q : UInt8 → Bool} (s : ByteArray) (k : Nat) (h : k < s.size) (hc : q s[k] = true) : (s.data.toList.drop k).dropWhile q = (s.data.toList.drop (k + 1)).dropWhile q := by rw [drop_cons s k h, List.dropWhile_cons, if_pos hc]
theorem dw_stop {q : UInt8 → Bool} (s : ByteArray) (k : Nat) (hc : ∀ h : k < s.size, q s[k] = false) : (s.data.toList.drop k).dropWhile q = s.data.toList.drop k := by
  by_cases h : k < s.size
  · rw [drop_cons s k h, List.dropWhile_cons, if_neg (by rw [hc h]; simp)]
  · rw [drop_none s k h]; rfl
end Go.Proofs.YtddekcohfbnmbaaDoor
