/- A reader in memory; whether it is at the end; a byte taken; a dollar's part. -/
import Derived.Test.YtnlbjgioleoihaaGreatDoorNm
import Derived.Test.YtnlbjgioleoihaaGreatDoorIn
import Derived.BigQuiet
namespace Go.Proofs.YtnlbjgioleoihaaGreatDoor
open Go.RowKit
attribute [local go_sem] Oper.semAt_some

/-- A reader: its block, its source's block, its source, its place. -/
structure Rd (W : World) (b sb : Nat) (s : ByteArray) (k : Nat) : Prop where
  rd : Cel W b 47 #[.pointer (some ⟨sb, 0, none⟩), .int .i64 (k : Nat)]
  src : Cel W sb 65 #[.string s]
theorem Rd.c0 {W : World} {b sb k : Nat} {s : ByteArray} (h : Rd W b sb s k) : W.cell? ⟨b, 0, none⟩ = some (.pointer (some ⟨sb, 0, none⟩)) := h.rd.cell 0
theorem Rd.c1 {W : World} {b sb k : Nat} {s : ByteArray} (h : Rd W b sb s k) : W.cell? ⟨b, 1, none⟩ = some (.int .i64 (k : Nat)) := h.rd.cell 1
theorem Rd.f1 {W : World} {b sb k : Nat} {s : ByteArray} (h : Rd W b sb s k) : W.frozen? ⟨b, 1, none⟩ = false := h.rd.frozen 1
theorem Rd.t0 {W : World} {b sb k : Nat} {s : ByteArray} (h : Rd W b sb s k) : W.cell? ⟨sb, 0, none⟩ = some (.string s) := h.src.cell 0
theorem Rd.ne {W : World} {b sb k : Nat} {s : ByteArray} (h : Rd W b sb s k) : sb ≠ b := by
  rintro rfl
  have := (show W.heap[sb]? = _ from h.rd).symm.trans h.src
  simp at this
/-- The place has moved; nothing else has turned, but what is new. -/
structure Stp (W : World) (b sb : Nat) (s : ByteArray) (k : Nat) (W' : World) : Prop where
  at_ : Rd W' b sb s k
  turn : Turn (fun i => i = b) W W'
theorem Stp.refl {W : World} {b sb k : Nat} {s : ByteArray} (h : Rd W b sb s k) : Stp W b sb s k W := ⟨h, Turn.refl _ _⟩
theorem Stp.drewN {W W' : World} {b sb k : Nat} {s : ByteArray} (h : Stp W b sb s k W') (m : Nat) : Stp W b sb s k (W'.drewN m) := ⟨⟨h.at_.rd, h.at_.src⟩, h.turn.os, h.turn.tape, h.turn.output, h.turn.size, h.turn.block⟩
theorem Stp.drew {W W' : World} {b sb k : Nat} {s : ByteArray} (h : Stp W b sb s k W') : Stp W b sb s k W'.drew := ⟨⟨h.at_.rd, h.at_.src⟩, h.turn.os, h.turn.tape, h.turn.output, h.turn.size, h.turn.block⟩
theorem Stp.set {W W' : World} {b sb k : Nat} {s : ByteArray} (h : Stp W b sb s k W') (j : Nat) : Stp W b sb s j (W'.setCell ⟨b, 1, none⟩ (.int .i64 (j : Nat))) := by
  refine ⟨⟨?_, h.at_.src.other h.at_.ne _⟩, h.turn.setCell (p := ⟨b, 1, none⟩) (fun _ => rfl) _⟩
  have := h.at_.rd.set (j := 1) (.int .i64 (j : Nat))
  simpa using this
theorem Stp.trans {W W' W'' : World} {b sb k j : Nat} {s : ByteArray} (h : Stp W b sb s k W') (h' : Stp W' b sb s j W'') : Stp W b sb s j W'' := ⟨h'.at_, h.turn.trans h'.turn (fun _ e _ => e)⟩
theorem Stp.alloc {W W' : World} {b sb k : Nat} {s : ByteArray} (h : Stp W b sb s k W') (o : Obj) : Stp W b sb s k (W'.alloc o) :=
  ⟨⟨(Below.heap_alloc W' o b h.at_.rd.lt).trans h.at_.rd, (Below.heap_alloc W' o sb h.at_.src.lt).trans h.at_.src⟩, h.turn.alloc o⟩
/-- Only new memory behind it. -/
theorem Stp.below {W W' W'' : World} {b sb k : Nat} {s : ByteArray} (h : Stp W b sb s k W') (hb : Below W'.heap.size W' W'') : Stp W b sb s k W'' :=
  ⟨⟨h.at_.rd.below hb h.at_.rd.lt, h.at_.src.below hb h.at_.src.lt⟩, h.turn.trans (Turn.ofBelow (S := fun _ => False) hb) (fun _ e _ => e.elim)⟩
/-- Where a reader stands. -/
def posOf (W : World) (b : Nat) : Nat := match W.cell? ⟨b, 1, none⟩ with
  | some v => (intOf v).toNat
  | none => 0
theorem Rd.pos {W : World} {b sb k : Nat} {s : ByteArray} (h : Rd W b sb s k) : posOf W b = k := by
  unfold posOf
  rw [h.c1]
  simp [intOf]
theorem drewN_zero (W : World) : W = W.drewN 0 := rfl
/-- Is one byte there? -/
theorem hasb_any (b : Nat) (s : ByteArray) (c : UInt8) (k : Nat) (w : World) (hc : w.cell? ⟨b, 0, none⟩ = some (.string s)) :
    Calls Tryz.prog 29 #[.pointer (some ⟨b, 0, none⟩), .int .i64 (k : Nat), .string ⟨#[c]⟩] w fun e w' => e = .returned (.bool (s.data.toList[k]? == some c)) ∧ w' = w := by
  have := has_any b s ⟨#[c]⟩ k w hc (by show 0 < 1; omega)
  rw [show (ByteArray.mk #[c]).data.toList = [c] from rfl, has_one, drop_head] at this
  exact this
set_option maxHeartbeats 1000000 in
theorem ended_any {W : World} {b sb k : Nat} {s : ByteArray} (h : Rd W b sb s k) :
    Calls Tryz.prog 30 #[.pointer (some ⟨b, 0, none⟩)] W fun e w' => e = .returned (.bool (decide (s.size ≤ k))) ∧ ∃ m, w' = W.drewN m := by
  have c0 := h.c0
  have c1 := h.c1
  have HL : Hid (∀ m, Calls Tryz.prog 40 #[.pointer (some ⟨sb, 0, none⟩)] (W.drewN m) fun e w' => e = .returned (.int .i64 s.size) ∧ w' = W.drewN m) := fun m => len_any sb s (W.drewN m) h.t0
  clear h
  go_enter Tryz.func30, Tryz.ntmps30
  go_wp2_with fail
  go_quiet (first | (go_at_call 40; exact Calls.quiet_of_same (HL.out _)))
  go_wp2_with fail
  go_ret
  exact ⟨rfl, _, rfl⟩
set_option maxHeartbeats 1000000 in
theorem take_any {W : World} {b sb k : Nat} {s : ByteArray} (h : Rd W b sb s k) (hk : k < 4611686018427387904) :
    Calls Tryz.prog 67 #[.pointer (some ⟨b, 0, none⟩)] W fun e w' => e = .returned (.tuple (byteV s.data.toList[k]?)) ∧ Stp W b sb s (k + 1) w' := by
  have c0 := h.c0
  have c1 := h.c1
  have f1 := h.f1
  have HL : Hid (∀ m, Calls Tryz.prog 22 #[.pointer (some ⟨sb, 0, none⟩), .int .i64 (k : Nat)] (W.drewN m) fun e w' => e = .returned (.tuple (byteV s.data.toList[k]?)) ∧ w' = W.drewN m) := fun m => byte_any sb s k (W.drewN m) h.t0
  have HS : Hid (∀ m, Stp W b sb s (k + 1) ((W.drewN m).setCell ⟨b, 1, none⟩ (.int .i64 (k + 1 : Nat)))) := fun m => ((Stp.refl h).drewN m).set (k + 1)
  clear h
  rw [byteV_head] at HL ⊢
  generalize (s.data.toList[k]?).getD 0 = c at HL ⊢
  generalize (s.data.toList[k]?).isSome = m at HL ⊢
  go_enter Tryz.func67, Tryz.ntmps67
  go_wp2_with fail
  go_quiet (first | (go_at_call 22; exact Calls.quiet_of_same (HL.out _)))
  obtain ⟨W1, hW1⟩ : ∃ W1, W1 = W.drewN nq := ⟨_, rfl⟩
  have HS1 : Hid (Stp W b sb s (k + 1) (W1.setCell ⟨b, 1, none⟩ (.int .i64 ((k : Int) + 1)))) := by rw [hW1]; exact HS.out nq
  have d1 : W1.cell? ⟨b, 1, none⟩ = some (.int .i64 (k : Nat)) := by rw [hW1]; exact c1
  have e1 : W1.frozen? ⟨b, 1, none⟩ = false := by rw [hW1]; exact f1
  rw [← hW1]
  clear hW1 c0 c1 f1 HS HL
  go_wp2_with fail
  go_ret2
  exact ⟨rfl, HS1.out⟩
/-! ### a dollar -/
theorem dolB_drop (s : ByteArray) (i : Nat) : dolB (s.data.toList.drop i) = ((s.data.toList[i]? == some 36) && (match s.data.toList[i + 1]? with | none => false | some c => dolC c)) := by
  by_cases h : i < s.size
  · rw [drop_cons s i h, text_at s i h]
    by_cases h2 : i + 1 < s.size
    · rw [drop_cons s (i + 1) h2, text_at s (i + 1) h2]
      rfl
    · rw [List.drop_eq_nil_of_le (by simp; omega), List.getElem?_eq_none (by simp; omega)]
      simp [dolB]
  · rw [List.drop_eq_nil_of_le (by simp; omega), List.getElem?_eq_none (by simp; omega)]
    rfl
theorem nrun_empty (s : ByteArray) (i : Nat) (h : i < s.size) : (nrun (s.data.toList.drop i)).isEmpty = !(start8 s[i]) := by
  rw [drop_cons s i h, nrun]
  cases hs : start8 s[i] with
  | false => rfl
  | true =>
    have hc : cont8 s[i] = true := by unfold cont8 contB; rw [show startB (s[i].toNat : Int) = true from hs]; rfl
    simp [hc]
set_option maxHeartbeats 1000000 in
theorem dollarAt_any {W : World} {b sb k : Nat} {s : ByteArray} (h : Rd W b sb s k) (i : Nat) (hs : s.size < 4611686018427387904) (hi : i < 4611686018427387904) :
    Calls Tryz.prog 45 #[.pointer (some ⟨b, 0, none⟩), .int .i64 (i : Nat)] W fun e w' => e = .returned (.bool (dolB (s.data.toList.drop i))) ∧ w' = W := by
  have c0 := h.c0
  have HH : Hid (Calls Tryz.prog 29 #[.pointer (some ⟨sb, 0, none⟩), .int .i64 (i : Nat), .string ⟨#[36]⟩] W fun e w' => e = .returned (.bool (s.data.toList[i]? == some 36)) ∧ w' = W) := hasb_any sb s 36 i W h.t0
  have HB : Hid (Calls Tryz.prog 22 #[.pointer (some ⟨sb, 0, none⟩), .int .i64 ((i : Int) + 1)] W fun e w' => e = .returned (.tuple (byteV s.data.toList[i + 1]?)) ∧ w' = W) := byte_any sb s (i + 1) W h.t0
  have HN : Hid (Calls Tryz.prog 59 #[.pointer (some ⟨sb, 0, none⟩), .int .i64 ((i : Int) + 1)] W fun e w' => e = .returned (.string ⟨(nrun (s.data.toList.drop (i + 1))).toArray⟩) ∧ w' = W) := sname_any sb s (i + 1) W h.t0 hs
  clear h
  have HD : Hid _ := dolB_drop s i
  rw [HD.out]
  clear HD
  cases hd : (s.data.toList[i]? == some 36) with
  | false =>
    rw [hd] at HH
    rw [Bool.false_and]
    clear hd
    go_enter Tryz.func45, Tryz.ntmps45
    go_wp2_with fail
    refine Calls.mono HH.out ?_
    rintro e w1 ⟨rfl, hw⟩
    obtain rfl := hw.symm
    clear hw
    go_wp2_with fail
    go_ret
    exact ⟨rfl, rfl⟩
  | true =>
    rw [hd] at HH
    rw [Bool.true_and]
    clear hd
    have HI : Hid (∀ c : UInt8, Calls Tryz.prog 31 #[.string ⟨#[40, 123, 42, 35]⟩, .int .u8 (c.toNat : Nat)] W fun e w' => e = .returned (.bool ([40, 123, 42, 35].contains c)) ∧ w' = W) := fun c => in_any [40, 123, 42, 35] c W
    have HK : Hid (∀ c : UInt8, Calls Tryz.prog 58 #[.int .u8 (c.toNat : Nat)] W fun e w' => e = .returned (.bool (cnts c)) ∧ w' = W) := fun c => by
      have := counts_any (c.toNat : Nat) W
      rw [cntB_byte] at this
      exact this
    rw [byteV_head] at HB
    by_cases h2 : i + 1 < s.size
    · have HE : Hid _ := nrun_empty s (i + 1) h2
      rw [text_at s (i + 1) h2] at HB ⊢
      simp only [Option.getD_some, Option.isSome_some] at HB
      simp only
      generalize s[i + 1] = c at HB HE ⊢
      generalize nrun (s.data.toList.drop (i + 1)) = nm at HN HE
      cases hin : [40, 123, 42, 35].contains c with
      | true =>
        have HR : Hid (dolC c = true) := by unfold Hid dolC; rw [hin]; rfl
        have HI1 : Hid (Calls Tryz.prog 31 #[.string ⟨#[40, 123, 42, 35]⟩, .int .u8 (c.toNat : Nat)] W fun e w' => e = .returned (.bool true) ∧ w' = W) := by have := HI.out c; rw [hin] at this; exact this
        rw [HR.out]
        clear hin HR
        go_enter Tryz.func45, Tryz.ntmps45
        go_wp2_with fail
        refine Calls.mono HH.out ?_
        rintro e w1 ⟨rfl, hw⟩
        obtain rfl := hw.symm
        clear hw
        go_wp2_with fail
        refine Calls.mono HB.out ?_
        rintro e w1 ⟨rfl, hw⟩
        obtain rfl := hw.symm
        clear hw
        go_wp2_with fail
        refine Calls.mono HI1.out ?_
        rintro e w1 ⟨rfl, hw⟩
        obtain rfl := hw.symm
        clear hw
        go_wp2_with fail
        go_ret
        exact ⟨rfl, rfl⟩
      | false =>
        have HI1 : Hid (Calls Tryz.prog 31 #[.string ⟨#[40, 123, 42, 35]⟩, .int .u8 (c.toNat : Nat)] W fun e w' => e = .returned (.bool false) ∧ w' = W) := by have := HI.out c; rw [hin] at this; exact this
        cases hcn : cnts c with
        | true =>
          have HR : Hid (dolC c = true) := by unfold Hid dolC; rw [hin, hcn]; rfl
          have HK1 : Hid (Calls Tryz.prog 58 #[.int .u8 (c.toNat : Nat)] W fun e w' => e = .returned (.bool true) ∧ w' = W) := by have := HK.out c; rw [hcn] at this; exact this
          rw [HR.out]
          clear hin hcn HR
          go_enter Tryz.func45, Tryz.ntmps45
          go_wp2_with fail
          refine Calls.mono HH.out ?_
          rintro e w1 ⟨rfl, hw⟩
          obtain rfl := hw.symm
          clear hw
          go_wp2_with fail
          refine Calls.mono HB.out ?_
          rintro e w1 ⟨rfl, hw⟩
          obtain rfl := hw.symm
          clear hw
          go_wp2_with fail
          refine Calls.mono HI1.out ?_
          rintro e w1 ⟨rfl, hw⟩
          obtain rfl := hw.symm
          clear hw
          go_wp2_with fail
          refine Calls.mono HK1.out ?_
          rintro e w1 ⟨rfl, hw⟩
          obtain rfl := hw.symm
          clear hw
          go_wp2_with fail
          go_ret
          exact ⟨rfl, rfl⟩
        | false =>
          have HR : Hid (dolC c = start8 c) := by unfold Hid dolC; rw [hin, hcn]; rfl
          have HK1 : Hid (Calls Tryz.prog 58 #[.int .u8 (c.toNat : Nat)] W fun e w' => e = .returned (.bool false) ∧ w' = W) := by have := HK.out c; rw [hcn] at this; exact this
          have HE2 : Hid (nm.isEmpty = !(dolC c)) := by unfold Hid; rw [HE.out, HR.out]
          clear hin hcn HR HE
          go_enter Tryz.func45, Tryz.ntmps45
          go_wp2_with fail
          refine Calls.mono HH.out ?_
          rintro e w1 ⟨rfl, hw⟩
          obtain rfl := hw.symm
          clear hw
          go_wp2_with fail
          refine Calls.mono HB.out ?_
          rintro e w1 ⟨rfl, hw⟩
          obtain rfl := hw.symm
          clear hw
          go_wp2_with fail
          refine Calls.mono HI1.out ?_
          rintro e w1 ⟨rfl, hw⟩
          obtain rfl := hw.symm
          clear hw
          go_wp2_with fail
          refine Calls.mono HK1.out ?_
          rintro e w1 ⟨rfl, hw⟩
          obtain rfl := hw.symm
          clear hw
          go_wp2_with fail
          refine Calls.mono HN.out ?_
          rintro e w1 ⟨rfl, hw⟩
          obtain rfl := hw.symm
          clear hw
          go_wp2_with fail
          go_ret
          exact ⟨ret_bool (by rw [HE2.out, Bool.not_not]), rfl⟩
    · have HE : Hid (nrun (s.data.toList.drop (i + 1)) = []) := by unfold Hid; rw [List.drop_eq_nil_of_le (by simp; omega)]; rfl
      rw [HE.out] at HN
      rw [List.getElem?_eq_none (by simp; omega)] at HB ⊢
      simp only [Option.getD_none, Option.isSome_none] at HB
      simp only
      have HI1 : Hid (Calls Tryz.prog 31 #[.string ⟨#[40, 123, 42, 35]⟩, .int .u8 ((0 : UInt8).toNat : Nat)] W fun e w' => e = .returned (.bool false) ∧ w' = W) := HI.out 0
      have HK1 : Hid (Calls Tryz.prog 58 #[.int .u8 ((0 : UInt8).toNat : Nat)] W fun e w' => e = .returned (.bool false) ∧ w' = W) := HK.out 0
      go_enter Tryz.func45, Tryz.ntmps45
      go_wp2_with fail
      refine Calls.mono HH.out ?_
      rintro e w1 ⟨rfl, hw⟩
      obtain rfl := hw.symm
      clear hw
      go_wp2_with fail
      refine Calls.mono HB.out ?_
      rintro e w1 ⟨rfl, hw⟩
      obtain rfl := hw.symm
      clear hw
      go_wp2_with fail
      refine Calls.mono HI1.out ?_
      rintro e w1 ⟨rfl, hw⟩
      obtain rfl := hw.symm
      clear hw
      go_wp2_with fail
      refine Calls.mono HK1.out ?_
      rintro e w1 ⟨rfl, hw⟩
      obtain rfl := hw.symm
      clear hw
      go_wp2_with fail
      refine Calls.mono HN.out ?_
      rintro e w1 ⟨rfl, hw⟩
      obtain rfl := hw.symm
      clear hw
      go_wp2_with fail
      go_ret
      exact ⟨rfl, rfl⟩
end Go.Proofs.YtnlbjgioleoihaaGreatDoor
