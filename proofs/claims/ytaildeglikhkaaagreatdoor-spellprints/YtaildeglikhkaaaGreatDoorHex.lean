/- Escapes, read. -/
import Derived.Test.YtaildeglikhkaaaGreatDoorPlace
import Derived.Test.YtaildeglikhkaaaGreatDoorShelf
namespace Go.Proofs.YtaildeglikhkaaaGreatDoor
open Go.RowKit
attribute [local go_sem] Oper.semAt_some

/-- A place that lies in a block, with what lies behind it. -/
def PlC (W : World) (b : Nat) (t : TypeId) (s : ByteArray) (k : Nat) (r : List Value) : Prop := Cel W b t (.string s :: .int .i64 (k : Nat) :: r).toArray
theorem PlC.at {W : World} {b : Nat} {t : TypeId} {s : ByteArray} {k : Nat} {r : List Value} (h : PlC W b t s k r) : PlAt W b s k := ⟨Cel.cell h 0, Cel.cell h 1, Cel.frozen h 1, Cel.lt h⟩
/-- The place has moved; nothing else has turned. -/
structure Gone (W : World) (b : Nat) (t : TypeId) (s : ByteArray) (k : Nat) (r : List Value) (W' : World) : Prop where
  at_ : PlC W' b t s k r
  turn : Turn (fun i => i = b) W W'
theorem Gone.refl {W : World} {b : Nat} {t : TypeId} {s : ByteArray} {k : Nat} {r : List Value} (h : PlC W b t s k r) : Gone W b t s k r W := ⟨h, Turn.refl _ _⟩
theorem Gone.drewN {W W' : World} {b : Nat} {t : TypeId} {s : ByteArray} {k : Nat} {r : List Value} (h : Gone W b t s k r W') (m : Nat) : Gone W b t s k r (W'.drewN m) := ⟨h.at_, h.turn.os, h.turn.tape, h.turn.output, h.turn.size, h.turn.block⟩
theorem Gone.set {W W' : World} {b : Nat} {t : TypeId} {s : ByteArray} {k : Nat} {r : List Value} (h : Gone W b t s k r W') (j : Nat) : Gone W b t s j r (W'.setCell ⟨b, 1, none⟩ (.int .i64 (j : Nat))) := by
  refine ⟨?_, h.turn.setCell (p := ⟨b, 1, none⟩) (fun _ => rfl) _⟩
  have := Cel.set h.at_ (j := 1) (.int .i64 (j : Nat))
  simpa [PlC] using this
theorem Gone.trans {W W' W'' : World} {b : Nat} {t : TypeId} {s : ByteArray} {k j : Nat} {r : List Value} (h : Gone W b t s k r W') (h' : Gone W' b t s j r W'') : Gone W b t s j r W'' := ⟨h'.at_, h.turn.trans h'.turn (fun _ e _ => e)⟩
/-- The value of a hexadecimal digit. -/
def hexV (c : UInt8) : Option Nat := if 48 ≤ c.toNat ∧ c.toNat ≤ 57 then some (c.toNat - 48) else if 97 ≤ c.toNat ∧ c.toNat ≤ 102 then some (c.toNat - 87) else none
theorem hex_index : ∀ c : Fin 256, Lib.indexByte [48, 49, 50, 51, 52, 53, 54, 55, 56, 57, 97, 98, 99, 100, 101, 102] (UInt8.ofNat c.val) = (match hexV (UInt8.ofNat c.val) with | none => -1 | some v => (v : Int)) := by decide +kernel
theorem hex_index' (c : UInt8) : Lib.indexByte [48, 49, 50, 51, 52, 53, 54, 55, 56, 57, 97, 98, 99, 100, 101, 102] c = (match hexV c with | none => -1 | some v => (v : Int)) := by
  have := hex_index ⟨c.toNat, c.toNat_lt⟩
  simpa using this
theorem hexV_lt (c : UInt8) (v : Nat) (h : hexV c = some v) : v < 16 := by
  unfold hexV at h
  split at h
  · cases h; omega
  · split at h
    · cases h; omega
    · cases h
set_option maxHeartbeats 1000000 in
theorem hexDigit_end {W : World} {b : Nat} {t : TypeId} {s : ByteArray} {k : Nat} {r : List Value} (h : PlC W b t s k r) (hk : k = s.size) :
    Calls Tryz.prog 87 #[.pointer (some ⟨b, 0, none⟩)] W fun e w' => e = .returned (.tuple #[.int .u8 0, .bool false]) ∧ Gone W b t s k r w' := by
  have HG : Hid (∀ m, Gone W b t s k r (W.drewN m)) := fun m => (Gone.refl h).drewN m
  have c0 := h.at.text
  have c1 := h.at.pos
  clear h
  subst hk
  go_enter Tryz.func87, Tryz.ntmps87
  go_wp2_with fail
  go_quiet (fail)
  go_wp2_with fail
  go_ret2
  exact ⟨rfl, HG.out _⟩
set_option maxHeartbeats 1000000 in
theorem hexDigit_no {W : World} {b : Nat} {t : TypeId} {s : ByteArray} {k : Nat} {r : List Value} (h : PlC W b t s k r) (hk : k < s.size) (hv : hexV s[k] = none) :
    Calls Tryz.prog 87 #[.pointer (some ⟨b, 0, none⟩)] W fun e w' => e = .returned (.tuple #[.int .u8 0, .bool false]) ∧ Gone W b t s k r w' := by
  have HG : Hid (∀ m, Gone W b t s k r (W.drewN m)) := fun m => (Gone.refl h).drewN m
  have c0 := h.at.text
  have c1 := h.at.pos
  clear h
  have hne : ((k : Int) == (s.size : Int)) = false := by simp; omega
  obtain ⟨c, hc⟩ : ∃ c, s[k] = c := ⟨_, rfl⟩
  rw [hc] at hv
  have HIX : Hid (∀ w, Calls Tryz.prog 96 #[.string ⟨#[48, 49, 50, 51, 52, 53, 54, 55, 56, 57, 97, 98, 99, 100, 101, 102]⟩, .int .u8 (c.toNat : Nat)] w fun e w' => e = .returned (.int .i64 (-1)) ∧ w' = w) := fun w => by
    have := Tryz.strings_IndexByte ⟨#[48, 49, 50, 51, 52, 53, 54, 55, 56, 57, 97, 98, 99, 100, 101, 102]⟩ (c.toNat : Nat) w
    rw [show ((c.toNat : Nat) : Int).toNat.toUInt8 = c by simp] at this
    have e := hex_index' c
    rw [hv] at e
    simp only at e
    rw [← e]
    exact this
  clear hv
  go_enter Tryz.func87, Tryz.ntmps87
  go_wp2_with fail
  go_quiet (fail)
  obtain ⟨W1, hW1⟩ : ∃ W1, W1 = W.drewN nq := ⟨_, rfl⟩
  have HG1 : Hid (∀ m, Gone W b t s k r (W1.drewN m)) := fun m => by rw [hW1, World.drewN_drewN]; exact HG.out _
  have d0 : W1.cell? ⟨b, 0, none⟩ = some (.string s) := by rw [hW1]; exact c0
  have d1 : W1.cell? ⟨b, 1, none⟩ = some (.int .i64 k) := by rw [hW1]; exact c1
  rw [← hW1]
  clear hW1 c0 c1 HG
  go_wp2_with fail
  go_quiet (first | (go_at_call 96; exact Calls.quiet_of_same (HIX.out _)))
  go_wp2_with fail
  go_ret2
  exact ⟨rfl, HG1.out _⟩
set_option maxHeartbeats 1000000 in
theorem hexDigit_yes {W : World} {b : Nat} {t : TypeId} {s : ByteArray} {k : Nat} {r : List Value} (h : PlC W b t s k r) (hk : k < s.size) (v : Nat) (hv : hexV s[k] = some v) :
    Calls Tryz.prog 87 #[.pointer (some ⟨b, 0, none⟩)] W fun e w' => e = .returned (.tuple #[.int .u8 (v : Nat), .bool true]) ∧ Gone W b t s k r w' := by
  have HG : Hid (∀ m, Gone W b t s k r (W.drewN m)) := fun m => (Gone.refl h).drewN m
  have c0 := h.at.text
  have c1 := h.at.pos
  clear h
  have hne : ((k : Int) == (s.size : Int)) = false := by simp; omega
  obtain ⟨c, hc⟩ : ∃ c, s[k] = c := ⟨_, rfl⟩
  rw [hc] at hv
  have hv16 := hexV_lt c v hv
  have HIX : Hid (∀ w, Calls Tryz.prog 96 #[.string ⟨#[48, 49, 50, 51, 52, 53, 54, 55, 56, 57, 97, 98, 99, 100, 101, 102]⟩, .int .u8 (c.toNat : Nat)] w fun e w' => e = .returned (.int .i64 ((v : Nat))) ∧ w' = w) := fun w => by
    have := Tryz.strings_IndexByte ⟨#[48, 49, 50, 51, 52, 53, 54, 55, 56, 57, 97, 98, 99, 100, 101, 102]⟩ (c.toNat : Nat) w
    rw [show ((c.toNat : Nat) : Int).toNat.toUInt8 = c by simp] at this
    have e := hex_index' c
    rw [hv] at e
    simp only at e
    rw [← e]
    exact this
  clear hv
  go_enter Tryz.func87, Tryz.ntmps87
  go_wp2_with fail
  go_quiet (fail)
  obtain ⟨W1, hW1⟩ : ∃ W1, W1 = W.drewN nq := ⟨_, rfl⟩
  have HG1 : Hid (∀ m, Gone W b t s k r (W1.drewN m)) := fun m => by rw [hW1, World.drewN_drewN]; exact HG.out _
  have d0 : W1.cell? ⟨b, 0, none⟩ = some (.string s) := by rw [hW1]; exact c0
  have d1 : W1.cell? ⟨b, 1, none⟩ = some (.int .i64 k) := by rw [hW1]; exact c1
  rw [← hW1]
  clear hW1 c0 c1 HG
  go_wp2_with fail
  go_quiet (first | (go_at_call 96; exact Calls.quiet_of_same (HIX.out _)))
  go_wp2_with fail
  go_ret2
  exact ⟨rfl, HG1.out _⟩
/-- What is answered of a byte that was read, or was not. -/
def byteR : Option Nat → Array Value
  | none => #[.int .u8 0, .bool false]
  | some v => #[.int .u8 (v : Nat), .bool true]
theorem byteR_none : byteR none = #[.int .u8 0, .bool false] := rfl
theorem byteR_some (v : Nat) : byteR (some v) = #[.int .u8 (v : Nat), .bool true] := rfl
def hexAt (s : ByteArray) (k : Nat) : Option Nat := s.data.toList[k]?.bind hexV
theorem hexAt_lt (s : ByteArray) (k v : Nat) (h : hexAt s k = some v) : v < 16 ∧ k < s.size := by
  unfold hexAt at h
  cases hc : s.data.toList[k]? with
  | none => rw [hc] at h; cases h
  | some c =>
    rw [hc] at h
    exact ⟨hexV_lt c v h, by simpa using (List.getElem?_eq_some_iff.1 hc).1⟩
theorem hexDigit_all {W : World} {b : Nat} {t : TypeId} {s : ByteArray} {k : Nat} {r : List Value} (h : PlC W b t s k r) (hk : k ≤ s.size) :
    Calls Tryz.prog 87 #[.pointer (some ⟨b, 0, none⟩)] W fun e w' => e = .returned (.tuple (byteR (hexAt s k))) ∧ Gone W b t s k r w' := by
  by_cases hlt : k < s.size
  · unfold hexAt
    rw [text_at s k hlt, Option.bind_some]
    cases hv : hexV s[k] with
    | none => exact hexDigit_no h hlt hv
    | some v => exact hexDigit_yes h hlt v hv
  · unfold hexAt
    rw [List.getElem?_eq_none (by simp; omega)]
    exact hexDigit_end h (by omega)
/-- The two digits of an escape. -/
def escR (s : ByteArray) (k : Nat) : Option Nat × Nat := match hexAt s k with
  | none => (none, k)
  | some v => if begE v then (match hexAt s (k + 1) with
    | none => (none, k + 1)
    | some u => if escB ((v * 16 + u : Nat) : Int) then (some (v * 16 + u), k + 2) else (none, k + 1)) else (none, k)
set_option maxHeartbeats 2000000 in
theorem escape_any {W : World} {b : Nat} {t : TypeId} {s : ByteArray} {k : Nat} {r : List Value} (h : PlC W b t s k r) (hs : s.size < 4611686018427387904) (hk : k ≤ s.size) :
    Calls Tryz.prog 75 #[.pointer (some ⟨b, 0, none⟩)] W fun e w' => e = .returned (.tuple (byteR (escR s k).1)) ∧ Gone W b t s (escR s k).2 r w' := by
  have HD : Hid (Calls Tryz.prog 87 #[.pointer (some ⟨b, 0, none⟩)] W fun e w' => e = .returned (.tuple (byteR (hexAt s k))) ∧ Gone W b t s k r w') := hexDigit_all h hk
  clear h
  obtain ⟨o, ho⟩ : ∃ o, hexAt s k = o := ⟨_, rfl⟩
  rw [ho] at HD
  cases o with
  | none =>
    have HR : Hid (escR s k = (none, k)) := by unfold Hid escR; rw [ho]
    rw [HR.out]
    rw [byteR_none] at HD ⊢
    clear ho
    go_enter Tryz.func75, Tryz.ntmps75
    go_wp2_with fail
    refine Calls.mono HD.out ?_
    rintro e w1 ⟨rfl, hg⟩
    go_wp2_with fail
    go_ret2
    exact ⟨rfl, hg⟩
  | some v =>
    obtain ⟨hv16, hks⟩ := hexAt_lt s k v ho
    rw [byteR_some] at HD
    cases hb : begE v with
    | false =>
      have HR : Hid (escR s k = (none, k)) := by unfold Hid escR; rw [ho]; simp only [hb]; rfl
      rw [HR.out, byteR_none]
      have HBG : Hid (∀ w, Calls Tryz.prog 88 #[.int .u8 (v : Nat)] w fun e w' => e = .returned (.bool false) ∧ w' = w) := fun w => by have := begins_any v hv16 w; rw [hb] at this; exact this
      clear ho hb
      go_enter Tryz.func75, Tryz.ntmps75
      go_wp2_with fail
      refine Calls.mono HD.out ?_
      rintro e w1 ⟨rfl, hg⟩
      go_wp2_with fail
      refine Calls.mono (HBG.out _) ?_
      rintro e w2 ⟨rfl, hw⟩
      have hw' := hw.symm
      subst hw'
      clear hw
      go_wp2_with fail
      go_ret2
      exact ⟨rfl, hg⟩
    | true =>
      have HBG : Hid (∀ w, Calls Tryz.prog 88 #[.int .u8 (v : Nat)] w fun e w' => e = .returned (.bool true) ∧ w' = w) := fun w => by have := begins_any v hv16 w; rw [hb] at this; exact this
      have HR0 : Hid (escR s k = (match hexAt s (k + 1) with | none => (none, k + 1) | some u => if escB ((v * 16 + u : Nat) : Int) then (some (v * 16 + u), k + 2) else (none, k + 1))) := by unfold Hid escR; rw [ho]; simp only [hb, if_true]
      have HD2 : Hid (∀ W', PlC W' b t s (k + 1) r → Calls Tryz.prog 87 #[.pointer (some ⟨b, 0, none⟩)] W' fun e w' => e = .returned (.tuple (byteR (hexAt s (k + 1)))) ∧ Gone W' b t s (k + 1) r w') := fun W' h' => hexDigit_all h' (by omega)
      clear ho hb
      obtain ⟨o2, ho2⟩ : ∃ o2, hexAt s (k + 1) = o2 := ⟨_, rfl⟩
      rw [ho2] at HR0 HD2
      go_enter Tryz.func75, Tryz.ntmps75
      go_wp2_with fail
      refine Calls.mono HD.out ?_
      rintro e w1 ⟨rfl, hg⟩
      go_wp2_with fail
      refine Calls.mono (HBG.out _) ?_
      rintro e w2 ⟨rfl, hw⟩
      have hw' := hw.symm
      subst hw'
      clear hw
      have hg1 : Gone W b t s (k + 1) r (w1.setCell ⟨b, 1, none⟩ (.int .i64 (k + 1 : Nat))) := hg.set (k + 1)
      have HG1 : Hid (Gone W b t s (k + 1) r (w1.setCell ⟨b, 1, none⟩ (.int .i64 ((k : Int) + 1)))) := by
        have e1 : ((k + 1 : Nat) : Int) = (k : Int) + 1 := by simp
        rw [← e1]; exact hg1
      have p1 := hg.at_.at.pos
      have f1 := hg.at_.at.free
      clear hg hg1
      go_wp2_with fail
      refine Calls.mono (HD2.out _ HG1.out.at_) ?_
      rintro e w3 ⟨rfl, hg3⟩
      have hg4 := HG1.out.trans hg3
      clear HG1 hg3 p1 f1
      cases o2 with
      | none =>
        have HR : Hid (escR s k = (none, k + 1)) := HR0.out
        rw [byteR_none]
        go_wp2_with fail
        go_ret2
        rw [HR.out]
        exact ⟨rfl, hg4⟩
      | some u =>
        obtain ⟨hu16, hks2⟩ := hexAt_lt s (k + 1) u ho2
        have HJ : Hid (bits .or .u8 ((v : Int) * 16) (u : Int) = ((v * 16 + u : Nat) : Int)) := hex_join v u hv16 hu16
        rw [byteR_some]
        have p4 := hg4.at_.at.pos
        have f4 := hg4.at_.at.free
        cases he : escB ((v * 16 + u : Nat) : Int) with
        | false =>
          have HR : Hid (escR s k = (none, k + 1)) := by have := HR0.out; simp only [he, if_false, Bool.false_eq_true] at this; exact this
          have HE : Hid (∀ w, Calls Tryz.prog 33 #[.int .u8 ((v * 16 + u : Nat) : Int)] w fun e w' => e = .returned (.bool false) ∧ w' = w) := fun w => by have := escaped_any ((v * 16 + u : Nat) : Int) w; rw [he] at this; exact this
          clear he HR0 ho2
          go_wp2_with fail
          rw [HJ.out]
          refine Calls.mono (HE.out _) ?_
          rintro e w5 ⟨rfl, hw⟩
          have hw' := hw.symm
          subst hw'
          clear hw
          go_wp2_with fail
          go_ret2
          rw [HR.out]
          exact ⟨rfl, hg4⟩
        | true =>
          have HR : Hid (escR s k = (some (v * 16 + u), k + 2)) := by have := HR0.out; simp only [he, if_true] at this; exact this
          have HE : Hid (∀ w, Calls Tryz.prog 33 #[.int .u8 ((v * 16 + u : Nat) : Int)] w fun e w' => e = .returned (.bool true) ∧ w' = w) := fun w => by have := escaped_any ((v * 16 + u : Nat) : Int) w; rw [he] at this; exact this
          clear he HR0 ho2
          go_wp2_with fail
          rw [HJ.out]
          refine Calls.mono (HE.out _) ?_
          rintro e w5 ⟨rfl, hw⟩
          have hw' := hw.symm
          subst hw'
          clear hw
          have HG5 : Hid (Gone W b t s (k + 2) r (w3.setCell ⟨b, 1, none⟩ (.int .i64 ((k : Int) + 1 + 1)))) := by
            have e1 : ((k + 2 : Nat) : Int) = (k : Int) + 1 + 1 := by omega
            rw [← e1]; exact hg4.set (k + 2)
          clear hg4
          go_wp2_with fail
          go_ret2
          rw [HR.out]
          exact ⟨rfl, HG5.out⟩
end Go.Proofs.YtaildeglikhkaaaGreatDoor
