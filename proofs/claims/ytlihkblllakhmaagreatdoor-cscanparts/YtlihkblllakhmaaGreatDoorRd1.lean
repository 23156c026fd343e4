/- A reader in memory; whether it is at the end; a byte taken; what ends. -/
import Derived.Test.YtlihkblllakhmaaGreatDoorNm
import Derived.Test.YtlihkblllakhmaaGreatDoorShelf
import Derived.Lib.IndexLaws
import Derived.BigQuiet
namespace Go.Proofs.YtlihkblllakhmaaGreatDoor
open Go.RowKit
attribute [local go_sem] Oper.semAt_some

/-- A reader: its block, its source's block, its source, its place. -/
structure Rd (W : World) (b sb : Nat) (s : ByteArray) (k : Nat) : Prop where
  rd : Cel W b 67 #[.pointer (some ⟨sb, 0, none⟩), .int .i64 (k : Nat)]
  src : Cel W sb 87 #[.string s]
theorem Rd.c0 {W : World} {b sb k : Nat} {s : ByteArray} (h : Rd W b sb s k) : W.cell? ⟨b, 0, none⟩ = some (.pointer (some ⟨sb, 0, none⟩)) := h.rd.cell 0
theorem Rd.c1 {W : World} {b sb k : Nat} {s : ByteArray} (h : Rd W b sb s k) : W.cell? ⟨b, 1, none⟩ = some (.int .i64 (k : Nat)) := h.rd.cell 1
theorem Rd.f1 {W : World} {b sb k : Nat} {s : ByteArray} (h : Rd W b sb s k) : W.frozen? ⟨b, 1, none⟩ = false := h.rd.frozen 1
theorem Rd.t0 {W : World} {b sb k : Nat} {s : ByteArray} (h : Rd W b sb s k) : W.cell? ⟨sb, 0, none⟩ = some (.string s) := h.src.cell 0
theorem Rd.ne {W : World} {b sb k : Nat} {s : ByteArray} (h : Rd W b sb s k) : sb ≠ b := by
  rintro rfl
  have := (show W.heap[sb]? = _ from h.rd).symm.trans h.src
  simp at this
/-- The place has moved; nothing else has turned, but what is new. -/
structure Stp (W : World) (b sb : Nat) (s : ByteArray) (k : Nat) (W' : World) : Prop where
  at_ : Rd W' b sb s k
  turn : Turn (fun i => i = b) W W'
theorem Stp.refl {W : World} {b sb k : Nat} {s : ByteArray} (h : Rd W b sb s k) : Stp W b sb s k W := ⟨h, Turn.refl _ _⟩
theorem Stp.drewN {W W' : World} {b sb k : Nat} {s : ByteArray} (h : Stp W b sb s k W') (m : Nat) : Stp W b sb s k (W'.drewN m) := ⟨⟨h.at_.rd, h.at_.src⟩, h.turn.os, h.turn.tape, h.turn.output, h.turn.size, h.turn.block⟩
theorem Stp.drew {W W' : World} {b sb k : Nat} {s : ByteArray} (h : Stp W b sb s k W') : Stp W b sb s k W'.drew := ⟨⟨h.at_.rd, h.at_.src⟩, h.turn.os, h.turn.tape, h.turn.output, h.turn.size, h.turn.block⟩
theorem Stp.set {W W' : World} {b sb k : Nat} {s : ByteArray} (h : Stp W b sb s k W') (j : Nat) : Stp W b sb s j (W'.setCell ⟨b, 1, none⟩ (.int .i64 (j : Nat))) := by
  refine ⟨⟨?_, h.at_.src.other h.at_.ne _⟩, h.turn.setCell (p := ⟨b, 1, none⟩) (fun _ => rfl) _⟩
  have := h.at_.rd.set (j := 1) (.int .i64 (j : Nat))
  simpa using this
theorem Stp.trans {W W' W'' : World} {b sb k j : Nat} {s : ByteArray} (h : Stp W b sb s k W') (h' : Stp W' b sb s j W'') : Stp W b sb s j W'' := ⟨h'.at_, h.turn.trans h'.turn (fun _ e _ => e)⟩
theorem Stp.alloc {W W' : World} {b sb k : Nat} {s : ByteArray} (h : Stp W b sb s k W') (o : Obj) : Stp W b sb s k (W'.alloc o) :=
  ⟨⟨(Below.heap_alloc W' o b h.at_.rd.lt).trans h.at_.rd, (Below.heap_alloc W' o sb h.at_.src.lt).trans h.at_.src⟩, h.turn.alloc o⟩
/-- Only new memory behind it. -/
theorem Stp.below {W W' W'' : World} {b sb k : Nat} {s : ByteArray} (h : Stp W b sb s k W') (hb : Below W'.heap.size W' W'') : Stp W b sb s k W'' :=
  ⟨⟨h.at_.rd.below hb h.at_.rd.lt, h.at_.src.below hb h.at_.src.lt⟩, h.turn.trans (Turn.ofBelow (S := fun _ => False) hb) (fun _ e _ => e.elim)⟩
/-- Where a reader stands. -/
def posOf (W : World) (b : Nat) : Nat := match W.cell? ⟨b, 1, none⟩ with
  | some v => (intOf v).toNat
  | none => 0
theorem Rd.pos {W : World} {b sb k : Nat} {s : ByteArray} (h : Rd W b sb s k) : posOf W b = k := by
  unfold posOf
  rw [h.c1]
  simp [intOf]
theorem drewN_zero (W : World) : W = W.drewN 0 := rfl
/-- Is one byte there? -/
theorem hasb_any (b : Nat) (s : ByteArray) (c : UInt8) (k : Nat) (w : World) (hc : w.cell? ⟨b, 0, none⟩ = some (.string s)) :
    Calls Tryz.prog 47 #[.pointer (some ⟨b, 0, none⟩), .int .i64 (k : Nat), .string ⟨#[c]⟩] w fun e w' => e = .returned (.bool (s.data.toList[k]? == some c)) ∧ w' = w := by
  have := has_any b s ⟨#[c]⟩ k w hc (by show 0 < 1; omega)
  rw [show (ByteArray.mk #[c]).data.toList = [c] from rfl, has_one, drop_head] at this
  exact this
set_option maxHeartbeats 1000000 in
theorem ended_any {W : World} {b sb k : Nat} {s : ByteArray} (h : Rd W b sb s k) :
    Calls Tryz.prog 20 #[.pointer (some ⟨b, 0, none⟩)] W fun e w' => e = .returned (.bool (decide (s.size ≤ k))) ∧ ∃ m, w' = W.drewN m := by
  have c0 := h.c0
  have c1 := h.c1
  have HL : Hid (∀ m, Calls Tryz.prog 33 #[.pointer (some ⟨sb, 0, none⟩)] (W.drewN m) fun e w' => e = .returned (.int .i64 s.size) ∧ w' = W.drewN m) := fun m => len_any sb s (W.drewN m) h.t0
  clear h
  go_enter Tryz.func20, Tryz.ntmps20
  go_wp2_with fail
  go_quiet (first | (go_at_call 33; exact Calls.quiet_of_same (HL.out _)))
  go_wp2_with fail
  go_ret
  exact ⟨rfl, _, rfl⟩
set_option maxHeartbeats 1000000 in
theorem take_any {W : World} {b sb k : Nat} {s : ByteArray} (h : Rd W b sb s k) (hk : k < 4611686018427387904) :
    Calls Tryz.prog 80 #[.pointer (some ⟨b, 0, none⟩)] W fun e w' => e = .returned (.tuple (byteV s.data.toList[k]?)) ∧ Stp W b sb s (k + 1) w' := by
  have c0 := h.c0
  have c1 := h.c1
  have f1 := h.f1
  have HL : Hid (∀ m, Calls Tryz.prog 48 #[.pointer (some ⟨sb, 0, none⟩), .int .i64 (k : Nat)] (W.drewN m) fun e w' => e = .returned (.tuple (byteV s.data.toList[k]?)) ∧ w' = W.drewN m) := fun m => byte_any sb s k (W.drewN m) h.t0
  have HS : Hid (∀ m, Stp W b sb s (k + 1) ((W.drewN m).setCell ⟨b, 1, none⟩ (.int .i64 (k + 1 : Nat)))) := fun m => ((Stp.refl h).drewN m).set (k + 1)
  clear h
  rw [byteV_head] at HL ⊢
  generalize (s.data.toList[k]?).getD 0 = c at HL ⊢
  generalize (s.data.toList[k]?).isSome = m at HL ⊢
  go_enter Tryz.func80, Tryz.ntmps80
  go_wp2_with fail
  go_quiet (first | (go_at_call 48; exact Calls.quiet_of_same (HL.out _)))
  obtain ⟨W1, hW1⟩ : ∃ W1, W1 = W.drewN nq := ⟨_, rfl⟩
  have HS1 : Hid (Stp W b sb s (k + 1) (W1.setCell ⟨b, 1, none⟩ (.int .i64 ((k : Int) + 1)))) := by rw [hW1]; exact HS.out nq
  have d1 : W1.cell? ⟨b, 1, none⟩ = some (.int .i64 (k : Nat)) := by rw [hW1]; exact c1
  have e1 : W1.frozen? ⟨b, 1, none⟩ = false := by rw [hW1]; exact f1
  rw [← hW1]
  clear hW1 c0 c1 f1 HS HL
  go_wp2_with fail
  go_ret2
  exact ⟨rfl, HS1.out⟩
theorem index_in (l : List UInt8) (c : UInt8) : decide (0 ≤ Lib.indexByte l c) = l.contains c := by
  induction l with
  | nil => rfl
  | cons b l ih =>
    have hg := Lib.indexByte_ge l c
    rw [List.contains_cons, ← ih, Lib.indexByte]
    by_cases h : b = c
    · subst h
      simp
    · have h1 : (b == c) = false := by simpa using h
      have h2 : (c == b) = false := by simpa using fun e => h e.symm
      rw [h1, h2]
      by_cases h3 : Lib.indexByte l c = -1
      · rw [h3]; rfl
      · have h4 : (Lib.indexByte l c == -1) = false := by simpa using h3
        rw [h4, Bool.eq_iff_iff]
        simp
        omega
/-- Is one of these bytes there, or none at all? -/
def endQ (l : List UInt8) (o : Option UInt8) : Bool := match o with
  | none => true
  | some c => l.contains c
set_option maxHeartbeats 1000000 in
theorem endsAt_any {W : World} {b sb k : Nat} {s : ByteArray} (h : Rd W b sb s k) (l : List UInt8) :
    Calls Tryz.prog 36 #[.pointer (some ⟨b, 0, none⟩), .string ⟨l.toArray⟩] W fun e w' => e = .returned (.bool (endQ l s.data.toList[k]?)) ∧ ∃ m, w' = W.drewN m := by
  have c0 := h.c0
  have c1 := h.c1
  have HL : Hid (∀ m, Calls Tryz.prog 48 #[.pointer (some ⟨sb, 0, none⟩), .int .i64 (k : Nat)] (W.drewN m) fun e w' => e = .returned (.tuple (byteV s.data.toList[k]?)) ∧ w' = W.drewN m) := fun m => byte_any sb s k (W.drewN m) h.t0
  clear h
  generalize s.data.toList[k]? = o at HL ⊢
  cases o with
  | none =>
    rw [byteV_none] at HL
    rw [show endQ l none = true from rfl]
    go_enter Tryz.func36, Tryz.ntmps36
    go_wp2_with fail
    go_quiet (first | (go_at_call 48; exact Calls.quiet_of_same (HL.out _)))
    go_wp2_with fail
    go_ret
    exact ⟨rfl, _, rfl⟩
  | some c =>
    rw [byteV_some] at HL
    have HI : Hid (∀ W, Calls Tryz.prog 49 #[.string ⟨l.toArray⟩, .int .u8 (c.toNat : Nat)] W fun e w' => e = .returned (.int .i64 (Lib.indexByte l c)) ∧ w' = W) := fun W => by
      have := Tryz.strings_IndexByte ⟨l.toArray⟩ (c.toNat : Nat) W
      rw [show ((c.toNat : Nat) : Int).toNat.toUInt8 = c by simp] at this
      exact this
    have HR : Hid (decide (0 ≤ Lib.indexByte l c) = l.contains c) := index_in l c
    rw [show endQ l (some c) = l.contains c from rfl, ← HR.out]
    clear HR
    go_enter Tryz.func36, Tryz.ntmps36
    go_wp2_with fail
    go_quiet (first | (go_at_call 48; exact Calls.quiet_of_same (HL.out _)))
    go_wp2_with fail
    refine Calls.mono (HI.out _) ?_
    rintro e w1 ⟨rfl, rfl⟩
    go_wp2_with fail
    go_ret
    exact ⟨rfl, _, rfl⟩
end Go.Proofs.YtlihkblllakhmaaGreatDoor
