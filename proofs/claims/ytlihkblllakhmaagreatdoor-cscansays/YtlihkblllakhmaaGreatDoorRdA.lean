/- Behind what shuts a bracket. -/
import Derived.Test.YtlihkblllakhmaaGreatDoorNm
import Derived.Test.YtlihkblllakhmaaGreatDoorShelf
import Derived.Lib.IndexLaws
import Derived.BigQuiet
import Derived.Deep.RegionHeld3
import Derived.Deep.Light
/-! A reader in memory; whether it is at the end; a byte taken; what ends. -/
namespace Go.Proofs.YtlihkblllakhmaaGreatDoor
open Go.RowKit
attribute [local go_sem] Oper.semAt_some

/-- A reader: its block, its source's block, its source, its place. -/
structure Rd (W : World) (b sb : Nat) (s : ByteArray) (k : Nat) : Prop where
  rd : Cel W b 67 #[.pointer (some ⟨sb, 0, none⟩), .int .i64 (k : Nat)]
  src : Cel W sb 87 #[.string s]
theorem Rd.c0 {W : World} {b sb k : Nat} {s : ByteArray} (h : Rd W b sb s k) : W.cell? ⟨b, 0, none⟩ = some (.pointer (some ⟨sb, 0, none⟩)) := h.rd.cell 0
theorem Rd.c1 {W : World} {b sb k : Nat} {s : ByteArray} (h : Rd W b sb s k) : W.cell? ⟨b, 1, none⟩ = some (.int .i64 (k : Nat)) := h.rd.cell 1
theorem Rd.f1 {W : World} {b sb k : Nat} {s : ByteArray} (h : Rd W b sb s k) : W.frozen? ⟨b, 1, none⟩ = false := h.rd.frozen 1
theorem Rd.t0 {W : World} {b sb k : Nat} {s : ByteArray} (h : Rd W b sb s k) : W.cell? ⟨sb, 0, none⟩ = some (.string s) := h.src.cell 0
theorem Rd.ne {W : World} {b sb k : Nat} {s : ByteArray} (h : Rd W b sb s k) : sb ≠ b := by
  rintro rfl
  have := (show W.heap[sb]? = _ from h.rd).symm.trans h.src
  simp at this
/-- The place has moved; nothing else has turned, but what is new. -/
structure Stp (W : World) (b sb : Nat) (s : ByteArray) (k : Nat) (W' : World) : Prop where
  at_ : Rd W' b sb s k
  turn : Turn (fun i => i = b) W W'
theorem Stp.refl {W : World} {b sb k : Nat} {s : ByteArray} (h : Rd W b sb s k) : Stp W b sb s k W := ⟨h, Turn.refl _ _⟩
theorem Stp.drewN {W W' : World} {b sb k : Nat} {s : ByteArray} (h : Stp W b sb s k W') (m : Nat) : Stp W b sb s k (W'.drewN m) := ⟨⟨h.at_.rd, h.at_.src⟩, h.turn.os, h.turn.tape, h.turn.output, h.turn.size, h.turn.block⟩
theorem Stp.drew {W W' : World} {b sb k : Nat} {s : ByteArray} (h : Stp W b sb s k W') : Stp W b sb s k W'.drew := ⟨⟨h.at_.rd, h.at_.src⟩, h.turn.os, h.turn.tape, h.turn.output, h.turn.size, h.turn.block⟩
theorem Stp.set {W W' : World} {b sb k : Nat} {s : ByteArray} (h : Stp W b sb s k W') (j : Nat) : Stp W b sb s j (W'.setCell ⟨b, 1, none⟩ (.int .i64 (j : Nat))) := by
  refine ⟨⟨?_, h.at_.src.other h.at_.ne _⟩, h.turn.setCell (p := ⟨b, 1, none⟩) (fun _ => rfl) _⟩
  have := h.at_.rd.set (j := 1) (.int .i64 (j : Nat))
  simpa using this
theorem Stp.trans {W W' W'' : World} {b sb k j : Nat} {s : ByteArray} (h : Stp W b sb s k W') (h' : Stp W' b sb s j W'') : Stp W b sb s j W'' := ⟨h'.at_, h.turn.trans h'.turn (fun _ e _ => e)⟩
theorem Stp.alloc {W W' : World} {b sb k : Nat} {s : ByteArray} (h : Stp W b sb s k W') (o : Obj) : Stp W b sb s k (W'.alloc o) :=
  ⟨⟨(Below.heap_alloc W' o b h.at_.rd.lt).trans h.at_.rd, (Below.heap_alloc W' o sb h.at_.src.lt).trans h.at_.src⟩, h.turn.alloc o⟩
/-- Only new memory behind it. -/
theorem Stp.below {W W' W'' : World} {b sb k : Nat} {s : ByteArray} (h : Stp W b sb s k W') (hb : Below W'.heap.size W' W'') : Stp W b sb s k W'' :=
  ⟨⟨h.at_.rd.below hb h.at_.rd.lt, h.at_.src.below hb h.at_.src.lt⟩, h.turn.trans (Turn.ofBelow (S := fun _ => False) hb) (fun _ e _ => e.elim)⟩
/-- Where a reader stands. -/
def posOf (W : World) (b : Nat) : Nat := match W.cell? ⟨b, 1, none⟩ with
  | some v => (intOf v).toNat
  | none => 0
theorem Rd.pos {W : World} {b sb k : Nat} {s : ByteArray} (h : Rd W b sb s k) : posOf W b = k := by
  unfold posOf
  rw [h.c1]
  simp [intOf]
theorem drewN_zero (W : World) : W = W.drewN 0 := rfl
/-- Is one byte there? -/
theorem hasb_any (b : Nat) (s : ByteArray) (c : UInt8) (k : Nat) (w : World) (hc : w.cell? ⟨b, 0, none⟩ = some (.string s)) :
    Calls Tryz.prog 47 #[.pointer (some ⟨b, 0, none⟩), .int .i64 (k : Nat), .string ⟨#[c]⟩] w fun e w' => e = .returned (.bool (s.data.toList[k]? == some c)) ∧ w' = w := by
  have := has_any b s ⟨#[c]⟩ k w hc (by show 0 < 1; omega)
  rw [show (ByteArray.mk #[c]).data.toList = [c] from rfl, has_one, drop_head] at this
  exact this
set_option maxHeartbeats 1000000 in
theorem ended_any {W : World} {b sb k : Nat} {s : ByteArray} (h : Rd W b sb s k) :
    Calls Tryz.prog 20 #[.pointer (some ⟨b, 0, none⟩)] W fun e w' => e = .returned (.bool (decide (s.size ≤ k))) ∧ ∃ m, w' = W.drewN m := by
  have c0 := h.c0
  have c1 := h.c1
  have HL : Hid (∀ m, Calls Tryz.prog 33 #[.pointer (some ⟨sb, 0, none⟩)] (W.drewN m) fun e w' => e = .returned (.int .i64 s.size) ∧ w' = W.drewN m) := fun m => len_any sb s (W.drewN m) h.t0
  clear h
  go_enter Tryz.func20, Tryz.ntmps20
  go_wp2_with fail
  go_quiet (first | (go_at_call 33; exact Calls.quiet_of_same (HL.out _)))
  go_wp2_with fail
  go_ret
  exact ⟨rfl, _, rfl⟩
set_option maxHeartbeats 1000000 in
theorem take_any {W : World} {b sb k : Nat} {s : ByteArray} (h : Rd W b sb s k) (hk : k < 4611686018427387904) :
    Calls Tryz.prog 80 #[.pointer (some ⟨b, 0, none⟩)] W fun e w' => e = .returned (.tuple (byteV s.data.toList[k]?)) ∧ Stp W b sb s (k + 1) w' := by
  have c0 := h.c0
  have c1 := h.c1
  have f1 := h.f1
  have HL : Hid (∀ m, Calls Tryz.prog 48 #[.pointer (some ⟨sb, 0, none⟩), .int .i64 (k : Nat)] (W.drewN m) fun e w' => e = .returned (.tuple (byteV s.data.toList[k]?)) ∧ w' = W.drewN m) := fun m => byte_any sb s k (W.drewN m) h.t0
  have HS : Hid (∀ m, Stp W b sb s (k + 1) ((W.drewN m).setCell ⟨b, 1, none⟩ (.int .i64 (k + 1 : Nat)))) := fun m => ((Stp.refl h).drewN m).set (k + 1)
  clear h
  rw [byteV_head] at HL ⊢
  generalize (s.data.toList[k]?).getD 0 = c at HL ⊢
  generalize (s.data.toList[k]?).isSome = m at HL ⊢
  go_enter Tryz.func80, Tryz.ntmps80
  go_wp2_with fail
  go_quiet (first | (go_at_call 48; exact Calls.quiet_of_same (HL.out _)))
  obtain ⟨W1, hW1⟩ : ∃ W1, W1 = W.drewN nq := ⟨_, rfl⟩
  have HS1 : Hid (Stp W b sb s (k + 1) (W1.setCell ⟨b, 1, none⟩ (.int .i64 ((k : Int) + 1)))) := by rw [hW1]; exact HS.out nq
  have d1 : W1.cell? ⟨b, 1, none⟩ = some (.int .i64 (k : Nat)) := by rw [hW1]; exact c1
  have e1 : W1.frozen? ⟨b, 1, none⟩ = false := by rw [hW1]; exact f1
  rw [← hW1]
  clear hW1 c0 c1 f1 HS HL
  go_wp2_with fail
  go_ret2
  exact ⟨rfl, HS1.out⟩
theorem index_in (l : List UInt8) (c : UInt8) : decide (0 ≤ Lib.indexByte l c) = l.contains c := by
  induction l with
  | nil => rfl
  | cons b l ih =>
    have hg := Lib.indexByte_ge l c
    rw [List.contains_cons, ← ih, Lib.indexByte]
    by_cases h : b = c
    · subst h
      simp
    · have h1 : (b == c) = false := by simpa using h
      have h2 : (c == b) = false := by simpa using fun e => h e.symm
      rw [h1, h2]
      by_cases h3 : Lib.indexByte l c = -1
      · rw [h3]; rfl
      · have h4 : (Lib.indexByte l c == -1) = false := by simpa using h3
        rw [h4, Bool.eq_iff_iff]
        simp
        omega
/-- Is one of these bytes there, or none at all? -/
def endQ (l : List UInt8) (o : Option UInt8) : Bool := match o with
  | none => true
  | some c => l.contains c
set_option maxHeartbeats 1000000 in
theorem endsAt_any {W : World} {b sb k : Nat} {s : ByteArray} (h : Rd W b sb s k) (l : List UInt8) :
    Calls Tryz.prog 36 #[.pointer (some ⟨b, 0, none⟩), .string ⟨l.toArray⟩] W fun e w' => e = .returned (.bool (endQ l s.data.toList[k]?)) ∧ ∃ m, w' = W.drewN m := by
  have c0 := h.c0
  have c1 := h.c1
  have HL : Hid (∀ m, Calls Tryz.prog 48 #[.pointer (some ⟨sb, 0, none⟩), .int .i64 (k : Nat)] (W.drewN m) fun e w' => e = .returned (.tuple (byteV s.data.toList[k]?)) ∧ w' = W.drewN m) := fun m => byte_any sb s k (W.drewN m) h.t0
  clear h
  generalize s.data.toList[k]? = o at HL ⊢
  cases o with
  | none =>
    rw [byteV_none] at HL
    rw [show endQ l none = true from rfl]
    go_enter Tryz.func36, Tryz.ntmps36
    go_wp2_with fail
    go_quiet (first | (go_at_call 48; exact Calls.quiet_of_same (HL.out _)))
    go_wp2_with fail
    go_ret
    exact ⟨rfl, _, rfl⟩
  | some c =>
    rw [byteV_some] at HL
    have HI : Hid (∀ W, Calls Tryz.prog 49 #[.string ⟨l.toArray⟩, .int .u8 (c.toNat : Nat)] W fun e w' => e = .returned (.int .i64 (Lib.indexByte l c)) ∧ w' = W) := fun W => by
      have := Tryz.strings_IndexByte ⟨l.toArray⟩ (c.toNat : Nat) W
      rw [show ((c.toNat : Nat) : Int).toNat.toUInt8 = c by simp] at this
      exact this
    have HR : Hid (decide (0 ≤ Lib.indexByte l c) = l.contains c) := index_in l c
    rw [show endQ l (some c) = l.contains c from rfl, ← HR.out]
    clear HR
    go_enter Tryz.func36, Tryz.ntmps36
    go_wp2_with fail
    go_quiet (first | (go_at_call 48; exact Calls.quiet_of_same (HL.out _)))
    go_wp2_with fail
    refine Calls.mono (HI.out _) ?_
    rintro e w1 ⟨rfl, rfl⟩
    go_wp2_with fail
    go_ret
    exact ⟨rfl, _, rfl⟩
end Go.Proofs.YtlihkblllakhmaaGreatDoor
/-! Blanks, a comment, braces and brackets are passed over. -/
namespace Go.Proofs.YtlihkblllakhmaaGreatDoor
open Go.RowKit
attribute [local go_sem] Oper.semAt_some

theorem set_step {W w1 : World} {b sb p : Nat} {s : ByteArray} (h : Stp W b sb s p w1) (v : Int) (j : Nat) (hv : v = (j : Nat)) : Stp W b sb s j (w1.setCell ⟨b, 1, none⟩ (.int .i64 v)) := by
  subst hv
  exact h.set j
theorem at_none (s : ByteArray) (k : Nat) (h : ¬ k < s.size) : s.data.toList[k]? = none := List.getElem?_eq_none (by simp; omega)
theorem drop_none (s : ByteArray) (k : Nat) (h : ¬ k < s.size) : s.data.toList.drop k = [] := List.drop_eq_nil_of_le (by simp; omega)
theorem dw_more {q : UInt8 → Bool} (s : ByteArray) (k : Nat) (h : k < s.size) (hc : q s[k] = true) : (s.data.toList.drop k).dropWhile q = (s.data.toList.drop (k + 1)).dropWhile q := by rw [drop_cons s k h, List.dropWhile_cons, if_pos hc]
theorem dw_stop {q : UInt8 → Bool} (s : ByteArray) (k : Nat) (hc : ∀ h : k < s.size, q s[k] = false) : (s.data.toList.drop k).dropWhile q = s.data.toList.drop k := by
  by_cases h : k < s.size
  · rw [drop_cons s k h, List.dropWhile_cons, if_neg (by rw [hc h]; simp)]
  · rw [drop_none s k h]; rfl
theorem byte_ne (c d : UInt8) (h : c ≠ d) : ((c.toNat : Int) == (d.toNat : Int)) = false := by
  have : ¬ (c.toNat : Int) = (d.toNat : Int) := fun e => h (UInt8.toNat_inj.1 (by omega))
  simpa using this
/-- A reader that has come to what is left of a text, if anything is told of it. -/
def Lands (s : ByteArray) (j : Nat) (R : Option (List UInt8)) : Prop := ∀ t, R = some t → t = s.data.toList.drop j ∧ j ≤ s.size
theorem Lands.none (s : ByteArray) (j : Nat) : Lands s j none := fun t h => by cases h
theorem Lands.some (s : ByteArray) (j : Nat) (h : j ≤ s.size) : Lands s j (some (s.data.toList.drop j)) := fun t e => by cases e; exact ⟨rfl, h⟩
set_option maxRecDepth 100000 in
set_option maxHeartbeats 4000000 in
theorem passBlanks_any {W : World} {b sb k : Nat} {s : ByteArray} (h : Rd W b sb s k) (hs : s.size < 1099511627776) (hk : k ≤ s.size) :
    Calls Tryz.prog 34 #[.pointer (some ⟨b, 0, none⟩)] W fun e w' => e = .returned (.tuple #[]) ∧ ∃ j, Stp W b sb s j w' ∧ k ≤ j ∧ j ≤ s.size ∧ (s.data.toList.drop k).dropWhile blk = s.data.toList.drop j := by
  have HR0 : Hid (Rd W b sb s k) := h
  clear h
  go_enter Tryz.func34, Tryz.ntmps34
  go_wp2_with fail
  go_loopw [] (fun wr => ∃ p : Nat, k ≤ p ∧ p ≤ s.size ∧ Hid ((s.data.toList.drop k).dropWhile blk = (s.data.toList.drop p).dropWhile blk) ∧ Hid (Stp W b sb s p wr)) (fun wr => s.size + 2 - posOf wr b)
  case atStart => exact ⟨k, Nat.le_refl _, hk, rfl, Stp.refl HR0.out⟩
  case round =>
    obtain ⟨p, hkp, hp, HDW, HS⟩ := hrel
    clear HR0
    have HPO : Hid (posOf wr b = p) := HS.out.at_.pos
    have HEN : Hid _ := ended_any HS.out.at_
    by_cases hlt : p < s.size
    · rw [decide_eq_false (by omega)] at HEN
      cases hb : blk s[p] with
      | true =>
        have HN : Hid ((s.data.toList.drop k).dropWhile blk = (s.data.toList.drop (p + 1)).dropWhile blk) := by unfold Hid; rw [HDW.out, dw_more s p hlt hb]
        have HEA : Hid (∀ w, Stp W b sb s p w → Calls Tryz.prog 36 #[.pointer (some ⟨b, 0, none⟩), .string ⟨#[32, 9]⟩] w fun e w' => e = .returned (.bool true) ∧ ∃ m, w' = w.drewN m) := fun w hw => by
          have := endsAt_any hw.at_ blkS
          rw [text_at s p hlt, show endQ blkS (some s[p]) = blk s[p] from rfl, hb] at this
          exact this
        clear hb HDW
        go_wp2_with fail
        refine Calls.mono HEN.out ?_
        rintro e w1 ⟨rfl, m1, hw1⟩
        have HS1 : Hid (Stp W b sb s p w1) := by rw [hw1]; exact HS.out.drewN m1
        clear hw1 HEN HS
        go_wp2_with fail
        refine Calls.mono (HEA.out _ HS1.out) ?_
        rintro e w2 ⟨rfl, m2, hw2⟩
        have HS2 : Hid (Stp W b sb s p w2) := by rw [hw2]; exact HS1.out.drewN m2
        have d1 := HS2.out.at_.c1
        have e1 := HS2.out.at_.f1
        clear hw2 HEA HS1
        go_wp2_with fail
        have HS5 := set_step HS2.out ((p : Int) + 1) (p + 1) (by omega)
        refine ⟨⟨p + 1, by omega, by omega, HN.out, HS5⟩, ?_⟩
        rw [HS5.at_.pos, HPO.out]
        omega
      | false =>
        have HN : Hid ((s.data.toList.drop k).dropWhile blk = s.data.toList.drop p) := by unfold Hid; rw [HDW.out, dw_stop s p (fun _ => hb)]
        have HEA : Hid (∀ w, Stp W b sb s p w → Calls Tryz.prog 36 #[.pointer (some ⟨b, 0, none⟩), .string ⟨#[32, 9]⟩] w fun e w' => e = .returned (.bool false) ∧ ∃ m, w' = w.drewN m) := fun w hw => by
          have := endsAt_any hw.at_ blkS
          rw [text_at s p hlt, show endQ blkS (some s[p]) = blk s[p] from rfl, hb] at this
          exact this
        clear hb HDW HPO
        go_wp2_with fail
        refine Calls.mono HEN.out ?_
        rintro e w1 ⟨rfl, m1, hw1⟩
        have HS1 : Hid (Stp W b sb s p w1) := by rw [hw1]; exact HS.out.drewN m1
        clear hw1 HEN HS
        go_wp2_with fail
        refine Calls.mono (HEA.out _ HS1.out) ?_
        rintro e w2 ⟨rfl, m2, hw2⟩
        have HS2 : Hid (Stp W b sb s p w2) := by rw [hw2]; exact HS1.out.drewN m2
        clear hw2 HEA HS1
        go_wp2_with fail
        go_end0
        exact ⟨rfl, p, HS2.out, hkp, hp, HN.out⟩
    · rw [decide_eq_true (by omega)] at HEN
      have HN : Hid ((s.data.toList.drop k).dropWhile blk = s.data.toList.drop p) := by unfold Hid; rw [HDW.out, dw_stop s p (fun h => absurd h hlt)]
      clear HDW HPO
      go_wp2_with fail
      refine Calls.mono HEN.out ?_
      rintro e w1 ⟨rfl, m1, hw1⟩
      have HS1 : Hid (Stp W b sb s p w1) := by rw [hw1]; exact HS.out.drewN m1
      clear hw1 HEN HS
      go_wp2_with fail
      go_end0
      exact ⟨rfl, p, HS1.out, hkp, hp, HN.out⟩
set_option maxRecDepth 100000 in
set_option maxHeartbeats 4000000 in
theorem passComment_any {W : World} {b sb k : Nat} {s : ByteArray} (h : Rd W b sb s k) (hs : s.size < 1099511627776) (hk : k ≤ s.size) :
    Calls Tryz.prog 35 #[.pointer (some ⟨b, 0, none⟩)] W fun e w' => e = .returned (.tuple #[]) ∧ ∃ j, Stp W b sb s j w' ∧ k ≤ j ∧ j ≤ s.size ∧ overC (s.data.toList.drop k) = s.data.toList.drop j := by
  have HR0 : Hid (Rd W b sb s k) := h
  have c0 := h.c0
  have c1 := h.c1
  have HH : Hid (∀ m, Calls Tryz.prog 47 #[.pointer (some ⟨sb, 0, none⟩), .int .i64 (k : Nat), .string ⟨#[35]⟩] (W.drewN m) fun e w' => e = .returned (.bool (s.data.toList[k]? == some 35)) ∧ w' = W.drewN m) := fun m => hasb_any sb s 35 k (W.drewN m) h.t0
  clear h
  have HO : Hid (overC (s.data.toList.drop k) = if (s.data.toList[k]? == some 35) = true then (s.data.toList.drop k).dropWhile notNl else s.data.toList.drop k) := by
    unfold Hid overC
    rw [drop_head]
    simp
  cases hh : (s.data.toList[k]? == some 35) with
  | false =>
    rw [hh] at HH HO
    clear hh
    go_enter Tryz.func35, Tryz.ntmps35
    go_wp2_with fail
    go_quiet (first | (go_at_call 47; exact Calls.quiet_of_same (HH.out _)))
    go_wp2_with fail
    refine bodyPost_ret (results_none rfl _ _ _) rfl ?_
    refine ⟨rfl, k, (Stp.refl HR0.out).drewN _, Nat.le_refl _, hk, ?_⟩
    rw [HO.out]
    rfl
  | true =>
    rw [hh] at HH HO
    clear hh
    go_enter Tryz.func35, Tryz.ntmps35
    go_wp2_with fail
    go_quiet (first | (go_at_call 47; exact Calls.quiet_of_same (HH.out _)))
    obtain ⟨W1, hW1⟩ : ∃ W1, W1 = W.drewN nq := ⟨_, rfl⟩
    have HS1 : Hid (Stp W b sb s k W1) := by rw [hW1]; exact (Stp.refl HR0.out).drewN nq
    rw [← hW1]
    clear hW1 c0 c1 HH HR0
    go_wp2_with fail
    go_loopw [] (fun wr => ∃ p : Nat, k ≤ p ∧ p ≤ s.size ∧ Hid ((s.data.toList.drop k).dropWhile notNl = (s.data.toList.drop p).dropWhile notNl) ∧ Hid (Stp W b sb s p wr)) (fun wr => s.size + 2 - posOf wr b)
    case atStart => exact ⟨k, Nat.le_refl _, hk, rfl, HS1.out⟩
    case round =>
      obtain ⟨p, hkp, hp, HDW, HS⟩ := hrel
      clear HS1
      have HPO : Hid (posOf wr b = p) := HS.out.at_.pos
      have HEA : Hid _ := endsAt_any HS.out.at_ [10]
      by_cases hlt : p < s.size
      · rw [text_at s p hlt] at HEA
        cases hb : notNl s[p] with
        | true =>
          have HN : Hid ((s.data.toList.drop k).dropWhile notNl = (s.data.toList.drop (p + 1)).dropWhile notNl) := by unfold Hid; rw [HDW.out, dw_more s p hlt hb]
          rw [show endQ [10] (some s[p]) = false by
            unfold notNl at hb
            have : s[p] ≠ 10 := by simpa using hb
            simpa [endQ] using this] at HEA
          clear hb HDW
          go_wp2_with fail
          refine Calls.mono HEA.out ?_
          rintro e w2 ⟨rfl, m2, hw2⟩
          have HS2 : Hid (Stp W b sb s p w2) := by rw [hw2]; exact HS.out.drewN m2
          have d1 := HS2.out.at_.c1
          have e1 := HS2.out.at_.f1
          clear hw2 HEA HS
          go_wp2_with fail
          have HS5 := set_step HS2.out ((p : Int) + 1) (p + 1) (by omega)
          refine ⟨⟨p + 1, by omega, by omega, HN.out, HS5⟩, ?_⟩
          rw [HS5.at_.pos, HPO.out]
          omega
        | false =>
          have HN : Hid ((s.data.toList.drop k).dropWhile notNl = s.data.toList.drop p) := by unfold Hid; rw [HDW.out, dw_stop s p (fun _ => hb)]
          rw [show endQ [10] (some s[p]) = true by
            unfold notNl at hb
            have : s[p] = 10 := by simpa using hb
            simp [endQ, this]] at HEA
          clear hb HDW HPO
          go_wp2_with fail
          refine Calls.mono HEA.out ?_
          rintro e w2 ⟨rfl, m2, hw2⟩
          have HS2 : Hid (Stp W b sb s p w2) := by rw [hw2]; exact HS.out.drewN m2
          clear hw2 HEA HS
          go_wp2_with fail
          go_end0
          refine ⟨rfl, p, HS2.out, hkp, hp, ?_⟩
          rw [HO.out, if_pos trivial]
          exact HN.out
      · rw [at_none s p hlt] at HEA
        have HN : Hid ((s.data.toList.drop k).dropWhile notNl = s.data.toList.drop p) := by unfold Hid; rw [HDW.out, dw_stop s p (fun h => absurd h hlt)]
        clear HDW HPO
        go_wp2_with fail
        refine Calls.mono HEA.out ?_
        rintro e w2 ⟨rfl, m2, hw2⟩
        have HS2 : Hid (Stp W b sb s p w2) := by rw [hw2]; exact HS.out.drewN m2
        clear hw2 HEA HS
        go_wp2_with fail
        go_end0
        refine ⟨rfl, p, HS2.out, hkp, hp, ?_⟩
        rw [HO.out, if_pos trivial]
        exact HN.out
end Go.Proofs.YtlihkblllakhmaaGreatDoor
/-! Behind what shuts a brace, a bracket. -/
namespace Go.Proofs.YtlihkblllakhmaaGreatDoor
open Go.RowKit
attribute [local go_sem] Oper.semAt_some

theorem passB_cons (q : Nat) (c : UInt8) (t : List UInt8) : passB q (c :: t) = if c = 92 then passB q t.tail
    else if c = 123 then passB (q + 1) t
    else if c = 125 then (if q = 0 then some t else passB (q - 1) t)
    else passB q t := by
  cases t with
  | nil =>
    rw [passB, List.tail_nil]
    by_cases h1 : c = 92
    · subst h1; rfl
    · by_cases h2 : c = 123
      · subst h2; rfl
      · by_cases h3 : c = 125
        · subst h3
          by_cases h4 : q = 0
          · subst h4; rfl
          · simp [h4, passB]
        · simp [h1, h2, h3, passB]
  | cons d t => rw [passB, List.tail_cons]
theorem passB_nil (q : Nat) : passB q [] = none := by cases q <;> rfl
theorem tail_drop (s : ByteArray) (k : Nat) : (s.data.toList.drop k).tail = s.data.toList.drop (k + 1) := by rw [List.tail_drop]
set_option maxRecDepth 100000 in
set_option maxHeartbeats 4000000 in
theorem passBraces_any {W : World} {b sb k : Nat} {s : ByteArray} (h : Rd W b sb s k) (hs : s.size < 1099511627776) (hk : k < s.size) (hc : s[k] = 123) :
    Calls Tryz.prog 64 #[.pointer (some ⟨b, 0, none⟩)] W fun e w' => e = .returned (.bool (passB 0 (s.data.toList.drop (k + 1))).isSome) ∧ ∃ j, Stp W b sb s j w' ∧ k < j ∧ j ≤ s.size + 2 ∧ Lands s j (passB 0 (s.data.toList.drop (k + 1))) := by
  have HR0 : Hid (Rd W b sb s k) := h
  have HK : Hid (s.data.toList[k]? = some 123) := by unfold Hid; rw [text_at s k hk, hc]
  clear h hc
  obtain ⟨R, HR⟩ : ∃ R, Hid (passB 0 (s.data.toList.drop (k + 1)) = R) := ⟨_, rfl⟩
  rw [HR.out]
  go_enter Tryz.func64, Tryz.ntmps64
  go_wp2_with fail
  go_loopw [2, 3] (fun v2 v3 wr => ∃ op p : Nat, v2 = .bool false ∧ v3 = .int .i64 (op : Nat) ∧ k ≤ p ∧ p ≤ s.size + 1 ∧ op ≤ p ∧ Hid (op = 0 → p = k) ∧ Hid (op ≠ 0 → k < p ∧ passB (op - 1) (s.data.toList.drop p) = R) ∧ Hid (Stp W b sb s p wr)) (fun _ _ wr => s.size + 2 - posOf wr b)
  case atStart => exact ⟨0, k, rfl, rfl, Nat.le_refl _, by omega, Nat.zero_le _, fun _ => rfl, fun e => absurd rfl e, Stp.refl HR0.out⟩
  case round =>
    obtain ⟨op, p, rfl, rfl, hkp, hp, hop, HZ, HE, HS⟩ := hrel
    have HP : Hid (posOf wr b = p) := HS.out.at_.pos
    have HT : Hid (Calls Tryz.prog 80 #[.pointer (some ⟨b, 0, none⟩)] wr fun e w' => e = .returned (.tuple (byteV s.data.toList[p]?)) ∧ Stp wr b sb s (p + 1) w') := take_any HS.out.at_ (by omega)
    cases op with
    | zero =>
      obtain rfl := HZ.out rfl
      rw [HK.out, byteV_some] at HT
      clear HZ HE HR0 HK
      go_wp2_with fail
      refine Calls.mono HT.out ?_
      rintro e w1 ⟨rfl, hS1⟩
      have HS1 : Hid (Stp W b sb s (p + 1) w1) := HS.out.trans hS1
      clear hS1
      go_wp2_with fail
      refine ⟨⟨1, p + 1, rfl, rfl, by omega, by omega, by omega, fun e => absurd e (by omega), fun _ => ⟨by omega, HR.out⟩, HS1.out⟩, ?_⟩
      rw [HS1.out.at_.pos, HP.out]
      omega
    | succ q =>
      have hkp2 : k < p := (HE.out (by omega)).1
      have HE' : Hid (passB q (s.data.toList.drop p) = R) := (HE.out (by omega)).2
      clear HZ HE HR0 HK HR
      by_cases hlt : p < s.size
      · rw [text_at s p hlt, byteV_some] at HT
        rw [drop_cons s p hlt, passB_cons, tail_drop] at HE'
        generalize s[p] = c at HT HE'
        by_cases h92 : c = 92
        · subst h92
          rw [if_pos rfl] at HE'
          go_wp2_with fail
          refine Calls.mono HT.out ?_
          rintro e w1 ⟨rfl, hS1⟩
          have HS1 : Hid (Stp W b sb s (p + 1) w1) := HS.out.trans hS1
          clear hS1
          have c1 : w1.cell? ⟨b, 1, none⟩ = some (.int .i64 ((p : Int) + 1)) := HS1.out.at_.c1
          have f1 := HS1.out.at_.f1
          have hq1 : (((q + 1 : Nat) : Int) == 0) = false := by rw [beq_eq_false_iff_ne]; omega
          have hq2 : (((q : Nat) : Int) + 1 == 0) = false := by rw [beq_eq_false_iff_ne]; omega
          go_wp2_with fail
          have HS2 := set_step HS1.out ((p : Int) + 1 + 1) (p + 2) (by omega)
          refine ⟨⟨q + 1, p + 2, rfl, by simp, by omega, by omega, by omega, fun e => absurd e (by omega), fun _ => ⟨by omega, HE'.out⟩, HS2⟩, ?_⟩
          rw [HS2.at_.pos, HP.out]
          omega
        rw [if_neg h92] at HE'
        have n92 : ((c.toNat : Int) == 92) = false := byte_ne c 92 h92
        clear h92
        by_cases h123 : c = 123
        · subst h123
          rw [if_pos rfl] at HE'
          have hq2 : (((q : Nat) : Int) + 1 + 1 == 0) = false := by rw [beq_eq_false_iff_ne]; omega
          go_wp2_with fail
          refine Calls.mono HT.out ?_
          rintro e w1 ⟨rfl, hS1⟩
          have HS1 : Hid (Stp W b sb s (p + 1) w1) := HS.out.trans hS1
          clear hS1
          go_wp2_with fail
          refine ⟨⟨q + 2, p + 1, rfl, by simp; omega, by omega, by omega, by omega, fun e => absurd e (by omega), fun _ => ⟨by omega, HE'.out⟩, HS1.out⟩, ?_⟩
          rw [HS1.out.at_.pos, HP.out]
          omega
        rw [if_neg h123] at HE'
        have n123 : ((c.toNat : Int) == 123) = false := byte_ne c 123 h123
        clear h123
        by_cases h125 : c = 125
        · subst h125
          rw [if_pos rfl] at HE'
          cases q with
          | zero =>
            have HEQ : Hid (R = some (s.data.toList.drop (p + 1))) := by
              have := HE'.out
              rw [if_pos rfl] at this
              exact this.symm
            clear HE'
            go_wp2_with fail
            refine Calls.mono HT.out ?_
            rintro e w1 ⟨rfl, hS1⟩
            have HS1 : Hid (Stp W b sb s (p + 1) w1) := HS.out.trans hS1
            clear hS1
            go_wp2_with fail
            go_ret
            rw [HEQ.out]
            exact ⟨rfl, p + 1, HS1.out, by omega, by omega, Lands.some s _ hlt⟩
          | succ r =>
            have HEQ : Hid (passB r (s.data.toList.drop (p + 1)) = R) := by
              have := HE'.out
              rw [if_neg (by omega)] at this
              exact this
            have hq2 : (((r + 1 : Nat) : Int) + 1 - 1 == 0) = false := by rw [beq_eq_false_iff_ne]; omega
            have hq3 : (((r : Nat) : Int) + 1 == 0) = false := by rw [beq_eq_false_iff_ne]; omega
            clear HE'
            go_wp2_with fail
            refine Calls.mono HT.out ?_
            rintro e w1 ⟨rfl, hS1⟩
            have HS1 : Hid (Stp W b sb s (p + 1) w1) := HS.out.trans hS1
            clear hS1
            go_wp2_with fail
            refine ⟨⟨r + 1, p + 1, rfl, by simp, by omega, by omega, by omega, fun e => absurd e (by omega), fun _ => ⟨by omega, HEQ.out⟩, HS1.out⟩, ?_⟩
            rw [HS1.out.at_.pos, HP.out]
            omega
        rw [if_neg h125] at HE'
        have n125 : ((c.toNat : Int) == 125) = false := byte_ne c 125 h125
        have hq2 : (((q : Nat) : Int) + 1 == 0) = false := by rw [beq_eq_false_iff_ne]; omega
        clear h125
        go_wp2_with fail
        refine Calls.mono HT.out ?_
        rintro e w1 ⟨rfl, hS1⟩
        have HS1 : Hid (Stp W b sb s (p + 1) w1) := HS.out.trans hS1
        clear hS1
        go_wp2_with fail
        refine ⟨⟨q + 1, p + 1, rfl, by simp, by omega, by omega, by omega, fun e => absurd e (by omega), fun _ => ⟨by omega, HE'.out⟩, HS1.out⟩, ?_⟩
        rw [HS1.out.at_.pos, HP.out]
        omega
      · have HEQ : Hid (R = none) := by unfold Hid; rw [← HE'.out, drop_none s p hlt, passB_nil]
        rw [at_none s p hlt, byteV_none] at HT
        clear HE'
        go_wp2_with fail
        refine Calls.mono HT.out ?_
        rintro e w1 ⟨rfl, hS1⟩
        have HS1 : Hid (Stp W b sb s (p + 1) w1) := HS.out.trans hS1
        clear hS1
        go_wp2_with fail
        go_ret
        rw [HEQ.out]
        exact ⟨rfl, p + 1, HS1.out, by omega, by omega, Lands.none s _⟩
end Go.Proofs.YtlihkblllakhmaaGreatDoor
namespace Go.Proofs.YtlihkblllakhmaaGreatDoor
open Go.RowKit
attribute [local go_sem] Oper.semAt_some

theorem passK_nil (n m : Nat) : passK n m [] = none := by cases n <;> cases m <;> rfl
theorem passK_cons (n m : Nat) (c : UInt8) (t : List UInt8) : passK n m (c :: t) = if c = 92 then passK n m t.tail
    else if c = 123 then passK n (m + 1) t
    else if c = 125 then passK n (m - 1) t
    else if c = 91 then passK (if m = 0 then n + 1 else n) m t
    else if c = 93 then (if m = 0 then (if n = 0 then some t else passK (n - 1) 0 t) else passK n m t)
    else passK n m t := by
  cases t with
  | nil =>
    have e : passK n m [c] = if c = 93 ∧ m = 0 ∧ n = 0 then some [] else none := by rw [passK]
    rw [e, List.tail_nil]
    simp only [passK_nil]
    by_cases h5 : c = 93
    · subst h5
      by_cases h6 : m = 0 <;> by_cases h7 : n = 0 <;> simp [h6, h7]
    · simp [h5]
  | cons d t => rw [passK, List.tail_cons]
/-- A brace within brackets is passed over as a brace alone. -/
theorem passK_brace (n : Nat) : ∀ (f : Nat) (l : List UInt8) (m : Nat), l.length ≤ f → passK n (m + 1) l = (passB m l).bind (passK n 0) := by
  intro f
  induction f with
  | zero =>
    intro l m h
    obtain rfl := List.eq_nil_of_length_eq_zero (Nat.le_zero.1 h)
    rw [passK_nil, passB_nil]
    rfl
  | succ f ih =>
    intro l m h
    cases l with
    | nil => rw [passK_nil, passB_nil]; rfl
    | cons c t =>
      rw [List.length_cons] at h
      rw [passK_cons, passB_cons]
      by_cases h1 : c = 92
      · rw [if_pos h1, if_pos h1]
        exact ih _ m (by rw [List.length_tail]; omega)
      · rw [if_neg h1, if_neg h1]
        by_cases h2 : c = 123
        · rw [if_pos h2, if_pos h2]
          exact ih _ (m + 1) (by omega)
        · rw [if_neg h2, if_neg h2]
          by_cases h3 : c = 125
          · rw [if_pos h3, if_pos h3]
            cases m with
            | zero => rfl
            | succ m => exact ih _ m (by omega)
          · have hm : ¬ (m + 1 = 0) := by omega
            have := ih t m (by omega)
            rw [if_neg h3, if_neg h3, if_neg hm, if_neg hm]
            split
            · exact this
            · split
              · exact this
              · exact this
theorem passK_open (n : Nat) (t : List UInt8) : passK n 0 (123 :: t) = (passB 0 t).bind (passK n 0) := by
  rw [passK_cons, if_neg (by decide), if_pos rfl]
  exact passK_brace n t.length t 0 (Nat.le_refl _)
set_option maxRecDepth 100000 in
set_option maxHeartbeats 4000000 in
theorem passBrackets_any {W : World} {b sb k : Nat} {s : ByteArray} (h : Rd W b sb s k) (hs : s.size < 1099511627776) (hk : k < s.size) (hc : s[k] = 91) :
    Calls Tryz.prog 102 #[.pointer (some ⟨b, 0, none⟩)] W fun e w' => e = .returned (.bool (passK 0 0 (s.data.toList.drop (k + 1))).isSome) ∧ ∃ j, Stp W b sb s j w' ∧ k < j ∧ j ≤ s.size + 2 ∧ Lands s j (passK 0 0 (s.data.toList.drop (k + 1))) := by
  have HR0 : Hid (Rd W b sb s k) := h
  have HK : Hid (s.data.toList[k]? = some 91) := by unfold Hid; rw [text_at s k hk, hc]
  clear h hc
  obtain ⟨R, HR⟩ : ∃ R, Hid (passK 0 0 (s.data.toList.drop (k + 1)) = R) := ⟨_, rfl⟩
  rw [HR.out]
  go_enter Tryz.func102, Tryz.ntmps102
  go_wp2_with fail
  go_loopw [2, 3] (fun v2 v3 wr => ∃ op p : Nat, v2 = .bool false ∧ v3 = .int .i64 (op : Nat) ∧ k ≤ p ∧ p ≤ s.size + 1 ∧ op ≤ p ∧ Hid (op = 0 → p = k) ∧ Hid (op ≠ 0 → k < p ∧ passK (op - 1) 0 (s.data.toList.drop p) = R) ∧ Hid (Stp W b sb s p wr)) (fun _ _ wr => s.size + 2 - posOf wr b)
  case atStart => exact ⟨0, k, rfl, rfl, Nat.le_refl _, by omega, Nat.zero_le _, fun _ => rfl, fun e => absurd rfl e, Stp.refl HR0.out⟩
  case round =>
    obtain ⟨op, p, rfl, rfl, hkp, hp, hop, HZ, HE, HS⟩ := hrel
    have HP : Hid (posOf wr b = p) := HS.out.at_.pos
    have c0 := HS.out.at_.c0
    have c1 := HS.out.at_.c1
    have HH : Hid (∀ m, Calls Tryz.prog 47 #[.pointer (some ⟨sb, 0, none⟩), .int .i64 (p : Nat), .string ⟨#[123]⟩] (wr.drewN m) fun e w' => e = .returned (.bool (s.data.toList[p]? == some 123)) ∧ w' = wr.drewN m) := fun m => hasb_any sb s 123 p (wr.drewN m) HS.out.at_.t0
    have HT : Hid (∀ w, Stp W b sb s p w → Calls Tryz.prog 80 #[.pointer (some ⟨b, 0, none⟩)] w fun e w' => e = .returned (.tuple (byteV s.data.toList[p]?)) ∧ Stp w b sb s (p + 1) w') := fun w hw => take_any hw.at_ (by omega)
    cases op with
    | zero =>
      obtain rfl := HZ.out rfl
      rw [HK.out, byteV_some] at HT
      rw [HK.out, show (some (91 : UInt8) == some 123) = false by decide] at HH
      clear HZ HE HR0 HK
      go_wp2_with fail
      go_quiet (first | (go_at_call 47; exact Calls.quiet_of_same (HH.out _)))
      obtain ⟨W1, hW1⟩ : ∃ W1, W1 = wr.drewN nq := ⟨_, rfl⟩
      have HSa : Hid (Stp W b sb s p W1) := by rw [hW1]; exact HS.out.drewN nq
      rw [← hW1]
      clear hW1 c0 c1 HH HS
      go_wp2_with fail
      refine Calls.mono (HT.out _ HSa.out) ?_
      rintro e w1 ⟨rfl, hS1⟩
      have HS1 : Hid (Stp W b sb s (p + 1) w1) := HSa.out.trans hS1
      clear hS1
      go_wp2_with fail
      refine ⟨⟨1, p + 1, rfl, rfl, by omega, by omega, by omega, fun e => absurd e (by omega), fun _ => ⟨by omega, HR.out⟩, HS1.out⟩, ?_⟩
      rw [HS1.out.at_.pos, HP.out]
      omega
    | succ q =>
      have hkp2 : k < p := (HE.out (by omega)).1
      have HE' : Hid (passK q 0 (s.data.toList.drop p) = R) := (HE.out (by omega)).2
      clear HZ HE HR0 HK HR
      by_cases hlt : p < s.size
      · by_cases h123 : s[p] = 123
        · rw [text_at s p hlt, h123, beq_self_eq_true] at HH
          have HPB : Hid (∀ w, Stp W b sb s p w → Calls Tryz.prog 64 #[.pointer (some ⟨b, 0, none⟩)] w fun e w' => e = .returned (.bool (passB 0 (s.data.toList.drop (p + 1))).isSome) ∧ ∃ j, Stp w b sb s j w' ∧ p < j ∧ j ≤ s.size + 2 ∧ Lands s j (passB 0 (s.data.toList.drop (p + 1)))) := fun w hw => passBraces_any hw.at_ hs hlt h123
          rw [drop_cons s p hlt, h123, passK_open] at HE'
          clear HT h123
          generalize passB 0 (s.data.toList.drop (p + 1)) = N at HPB HE'
          cases N with
          | none =>
            have HEQ : Hid (R = none) := HE'.out.symm
            go_wp2_with fail
            go_quiet (first | (go_at_call 47; exact Calls.quiet_of_same (HH.out _)))
            obtain ⟨W1, hW1⟩ : ∃ W1, W1 = wr.drewN nq := ⟨_, rfl⟩
            have HSa : Hid (Stp W b sb s p W1) := by rw [hW1]; exact HS.out.drewN nq
            rw [← hW1]
            clear hW1 c0 c1 HH HS HE'
            go_wp2_with fail
            refine Calls.mono (HPB.out _ HSa.out) ?_
            rintro e w2 ⟨rfl, jj, hS2, hj1, hj2, hL⟩
            have HS2 : Hid (Stp W b sb s jj w2) := HSa.out.trans hS2
            clear hS2 hL
            go_wp2_with fail
            go_ret
            rw [HEQ.out]
            exact ⟨rfl, jj, HS2.out, by omega, by omega, Lands.none s _⟩
          | some t =>
            go_wp2_with fail
            go_quiet (first | (go_at_call 47; exact Calls.quiet_of_same (HH.out _)))
            obtain ⟨W1, hW1⟩ : ∃ W1, W1 = wr.drewN nq := ⟨_, rfl⟩
            have HSa : Hid (Stp W b sb s p W1) := by rw [hW1]; exact HS.out.drewN nq
            rw [← hW1]
            clear hW1 c0 c1 HH HS
            go_wp2_with fail
            refine Calls.mono (HPB.out _ HSa.out) ?_
            rintro e w2 ⟨rfl, jj, hS2, hj1, hj2, hL⟩
            have HS2 : Hid (Stp W b sb s jj w2) := HSa.out.trans hS2
            obtain ⟨rfl, hj3⟩ := hL t rfl
            have HEQ : Hid (passK q 0 (s.data.toList.drop jj) = R) := HE'.out
            clear hS2 hL HE'
            go_wp2_with fail
            refine ⟨⟨q + 1, jj, rfl, rfl, by omega, by omega, by omega, fun e => absurd e (by omega), fun _ => ⟨by omega, HEQ.out⟩, HS2.out⟩, ?_⟩
            rw [HS2.out.at_.pos, HP.out]
            omega
        rw [text_at s p hlt, byteV_some] at HT
        rw [text_at s p hlt, show (some s[p] == some (123 : UInt8)) = false by simpa using h123] at HH
        rw [drop_cons s p hlt, passK_cons, tail_drop] at HE'
        generalize s[p] = c at HT HE' h123
        have key : ∀ {w : World}, Hid (Stp W b sb s p w) → Hid (Calls Tryz.prog 80 #[.pointer (some ⟨b, 0, none⟩)] w fun e w' => e = .returned (.tuple #[.int .u8 (c.toNat : Nat), .bool true]) ∧ Stp W b sb s (p + 1) w') := fun {w} hw => (HT.out w hw.out).mono fun e w' he => ⟨he.1, hw.out.trans he.2⟩
        have HKY : Hid (∀ w, Stp W b sb s p w → Calls Tryz.prog 80 #[.pointer (some ⟨b, 0, none⟩)] w fun e w' => e = .returned (.tuple #[.int .u8 (c.toNat : Nat), .bool true]) ∧ Stp W b sb s (p + 1) w') := fun w hw => (key (w := w) hw).out
        clear HT key
        by_cases h92 : c = 92
        · subst h92
          rw [if_pos rfl] at HE'
          have hq1 : (((q + 1 : Nat) : Int) == 0) = false := by rw [beq_eq_false_iff_ne]; omega
          have hq2 : (((q : Nat) : Int) + 1 == 0) = false := by rw [beq_eq_false_iff_ne]; omega
          clear h123
          go_wp2_with fail
          go_quiet (first | (go_at_call 47; exact Calls.quiet_of_same (HH.out _)))
          obtain ⟨W1, hW1⟩ : ∃ W1, W1 = wr.drewN nq := ⟨_, rfl⟩
          have HSa : Hid (Stp W b sb s p W1) := by rw [hW1]; exact HS.out.drewN nq
          rw [← hW1]
          clear hW1 c0 c1 HH HS
          go_wp2_with fail
          refine Calls.mono (HKY.out _ HSa.out) ?_
          rintro e w1 ⟨rfl, hS1⟩
          have HS1 : Hid (Stp W b sb s (p + 1) w1) := hS1
          clear hS1
          have c1 : w1.cell? ⟨b, 1, none⟩ = some (.int .i64 ((p : Int) + 1)) := HS1.out.at_.c1
          have f1 := HS1.out.at_.f1
          go_wp2_with fail
          have HS2 := set_step HS1.out ((p : Int) + 1 + 1) (p + 2) (by omega)
          refine ⟨⟨q + 1, p + 2, rfl, by simp, by omega, by omega, by omega, fun e => absurd e (by omega), fun _ => ⟨by omega, HE'.out⟩, HS2⟩, ?_⟩
          rw [HS2.at_.pos, HP.out]
          omega
        rw [if_neg h92, if_neg h123] at HE'
        have n92 : ((c.toNat : Int) == 92) = false := byte_ne c 92 h92
        clear h92 h123
        by_cases h91 : c = 91
        · subst h91
          have HEQ : Hid (passK (q + 1) 0 (s.data.toList.drop (p + 1)) = R) := by
            have := HE'.out
            rw [if_neg (by decide), if_pos rfl, if_pos rfl] at this
            exact this
          have hq2 : (((q : Nat) : Int) + 1 + 1 == 0) = false := by rw [beq_eq_false_iff_ne]; omega
          clear HE'
          go_wp2_with fail
          go_quiet (first | (go_at_call 47; exact Calls.quiet_of_same (HH.out _)))
          obtain ⟨W1, hW1⟩ : ∃ W1, W1 = wr.drewN nq := ⟨_, rfl⟩
          have HSa : Hid (Stp W b sb s p W1) := by rw [hW1]; exact HS.out.drewN nq
          rw [← hW1]
          clear hW1 c0 c1 HH HS
          go_wp2_with fail
          refine Calls.mono (HKY.out _ HSa.out) ?_
          rintro e w1 ⟨rfl, hS1⟩
          have HS1 : Hid (Stp W b sb s (p + 1) w1) := hS1
          clear hS1
          go_wp2_with fail
          refine ⟨⟨q + 2, p + 1, rfl, by simp; omega, by omega, by omega, by omega, fun e => absurd e (by omega), fun _ => ⟨by omega, HEQ.out⟩, HS1.out⟩, ?_⟩
          rw [HS1.out.at_.pos, HP.out]
          omega
        have n91 : ((c.toNat : Int) == 91) = false := byte_ne c 91 h91
        by_cases h93 : c = 93
        · subst h93
          cases q with
          | zero =>
            have HEQ : Hid (R = some (s.data.toList.drop (p + 1))) := by
              have := HE'.out
              rw [if_neg (by decide), if_neg (by decide), if_pos rfl, if_pos rfl, if_pos rfl] at this
              exact this.symm
            clear HE' h91
            go_wp2_with fail
            go_quiet (first | (go_at_call 47; exact Calls.quiet_of_same (HH.out _)))
            obtain ⟨W1, hW1⟩ : ∃ W1, W1 = wr.drewN nq := ⟨_, rfl⟩
            have HSa : Hid (Stp W b sb s p W1) := by rw [hW1]; exact HS.out.drewN nq
            rw [← hW1]
            clear hW1 c0 c1 HH HS
            go_wp2_with fail
            refine Calls.mono (HKY.out _ HSa.out) ?_
            rintro e w1 ⟨rfl, hS1⟩
            have HS1 : Hid (Stp W b sb s (p + 1) w1) := hS1
            clear hS1
            go_wp2_with fail
            go_ret
            rw [HEQ.out]
            exact ⟨rfl, p + 1, HS1.out, by omega, by omega, Lands.some s _ hlt⟩
          | succ r =>
            have HEQ : Hid (passK r 0 (s.data.toList.drop (p + 1)) = R) := by
              have := HE'.out
              rw [if_neg (by decide), if_neg (by decide), if_pos rfl, if_pos rfl, if_neg (by omega)] at this
              exact this
            have hq2 : (((r + 1 : Nat) : Int) + 1 - 1 == 0) = false := by rw [beq_eq_false_iff_ne]; omega
            have hq3 : (((r : Nat) : Int) + 1 == 0) = false := by rw [beq_eq_false_iff_ne]; omega
            clear HE' h91
            go_wp2_with fail
            go_quiet (first | (go_at_call 47; exact Calls.quiet_of_same (HH.out _)))
            obtain ⟨W1, hW1⟩ : ∃ W1, W1 = wr.drewN nq := ⟨_, rfl⟩
            have HSa : Hid (Stp W b sb s p W1) := by rw [hW1]; exact HS.out.drewN nq
            rw [← hW1]
            clear hW1 c0 c1 HH HS
            go_wp2_with fail
            refine Calls.mono (HKY.out _ HSa.out) ?_
            rintro e w1 ⟨rfl, hS1⟩
            have HS1 : Hid (Stp W b sb s (p + 1) w1) := hS1
            clear hS1
            go_wp2_with fail
            refine ⟨⟨r + 1, p + 1, rfl, by simp, by omega, by omega, by omega, fun e => absurd e (by omega), fun _ => ⟨by omega, HEQ.out⟩, HS1.out⟩, ?_⟩
            rw [HS1.out.at_.pos, HP.out]
            omega
        have n93 : ((c.toNat : Int) == 93) = false := byte_ne c 93 h93
        have HEQ : Hid (passK q 0 (s.data.toList.drop (p + 1)) = R) := by
          have := HE'.out
          rw [if_neg h91, if_neg h93] at this
          split at this
          · exact this
          · exact this
        have hq2 : (((q : Nat) : Int) + 1 == 0) = false := by rw [beq_eq_false_iff_ne]; omega
        clear h91 h93 HE'
        go_wp2_with fail
        go_quiet (first | (go_at_call 47; exact Calls.quiet_of_same (HH.out _)))
        obtain ⟨W1, hW1⟩ : ∃ W1, W1 = wr.drewN nq := ⟨_, rfl⟩
        have HSa : Hid (Stp W b sb s p W1) := by rw [hW1]; exact HS.out.drewN nq
        rw [← hW1]
        clear hW1 c0 c1 HH HS
        go_wp2_with fail
        refine Calls.mono (HKY.out _ HSa.out) ?_
        rintro e w1 ⟨rfl, hS1⟩
        have HS1 : Hid (Stp W b sb s (p + 1) w1) := hS1
        clear hS1
        go_wp2_with fail
        refine ⟨⟨q + 1, p + 1, rfl, by simp, by omega, by omega, by omega, fun e => absurd e (by omega), fun _ => ⟨by omega, HEQ.out⟩, HS1.out⟩, ?_⟩
        rw [HS1.out.at_.pos, HP.out]
        omega
      · have HEQ : Hid (R = none) := by unfold Hid; rw [← HE'.out, drop_none s p hlt, passK_nil]
        rw [at_none s p hlt, byteV_none] at HT
        rw [at_none s p hlt, show ((none : Option UInt8) == some 123) = false by decide] at HH
        clear HE'
        go_wp2_with fail
        go_quiet (first | (go_at_call 47; exact Calls.quiet_of_same (HH.out _)))
        obtain ⟨W1, hW1⟩ : ∃ W1, W1 = wr.drewN nq := ⟨_, rfl⟩
        have HSa : Hid (Stp W b sb s p W1) := by rw [hW1]; exact HS.out.drewN nq
        rw [← hW1]
        clear hW1 c0 c1 HH HS
        go_wp2_with fail
        refine Calls.mono (HT.out _ HSa.out) ?_
        rintro e w1 ⟨rfl, hS1⟩
        have HS1 : Hid (Stp W b sb s (p + 1) w1) := HSa.out.trans hS1
        clear hS1
        go_wp2_with fail
        go_ret
        rw [HEQ.out]
        exact ⟨rfl, p + 1, HS1.out, by omega, by omega, Lands.none s _⟩
end Go.Proofs.YtlihkblllakhmaaGreatDoor
