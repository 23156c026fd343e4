/- A place in a text: what stands there, and going on. -/
import Derived.Test.YtaildeglikhkaaaGreatDoorMem
import Derived.BigQuiet
namespace Go.Proofs.YtaildeglikhkaaaGreatDoor
open Go.RowKit
attribute [local go_sem] Oper.semAt_some

/-- A place: its text and where it stands. -/
structure PlAt (W : World) (b : Nat) (s : ByteArray) (k : Nat) : Prop where
  text : W.cell? ⟨b, 0, none⟩ = some (.string s)
  pos : W.cell? ⟨b, 1, none⟩ = some (.int .i64 k)
  free : W.frozen? ⟨b, 1, none⟩ = false
  lt : b < W.heap.size
theorem PlAt.set {W : World} {b : Nat} {s : ByteArray} {k : Nat} (h : PlAt W b s k) (j : Nat) : PlAt (W.setCell ⟨b, 1, none⟩ (.int .i64 (j : Nat))) b s j := by
  refine ⟨(World.cell?_setCell_other W ⟨b, 1, none⟩ ⟨b, 0, none⟩ _ (by simp)).trans h.text, World.cell?_setCell_same W _ _ h.pos, ?_, ?_⟩
  · rw [World.frozen?_setCell]; exact h.free
  · simpa using h.lt
/-- Is what stands at a place from one byte to another? -/
def inB (s : ByteArray) (k : Nat) (lo hi : UInt8) : Bool := match s.data.toList[k]? with
  | none => false
  | some c => decide (lo ≤ c) && decide (c ≤ hi)
def escB (c : Int) : Bool := decide (c < 32) || decide (126 < c) || c == 34 || c == 92
theorem escaped_any (c : Int) (w : World) : Calls Tryz.prog 33 #[.int .u8 c] w fun e w' => e = .returned (.bool (escB c)) ∧ w' = w := by
  by_cases h1 : c < 32
  · go_enter Tryz.func33, Tryz.ntmps33
    go_wp2_with fail
    go_ret
    exact ⟨by simp [escB, h1], rfl⟩
  by_cases h2 : 126 < c
  · go_enter Tryz.func33, Tryz.ntmps33
    go_wp2_with fail
    go_ret
    exact ⟨by simp [escB, h2], rfl⟩
  by_cases h3 : c = 34
  · subst h3
    go_enter Tryz.func33, Tryz.ntmps33
    go_wp2_with fail
    go_ret
    exact ⟨rfl, rfl⟩
  have h3' : (c == 34) = false := by simpa using h3
  go_enter Tryz.func33, Tryz.ntmps33
  go_wp2_with fail
  go_ret
  refine ⟨?_, rfl⟩
  unfold escB
  rw [decide_eq_false (by omega), decide_eq_false (by omega), h3']
  rfl
theorem text_at (s : ByteArray) (k : Nat) (h : k < s.size) : s.data.toList[k]? = some s[k] := by simp [ByteArray.getElem_eq_getElem_data]
set_option maxHeartbeats 1000000 in
theorem in_any {W : World} {b : Nat} {s : ByteArray} {k : Nat} (h : PlAt W b s k) (d : Nat) (lo hi : UInt8) (hs : s.size < 4611686018427387904) (hk : k ≤ s.size) (hd : d ≤ 4611686018427387904) :
    Calls Tryz.prog 74 #[.pointer (some ⟨b, 0, none⟩), .int .i64 (d : Nat), .int .u8 (lo.toNat : Nat), .int .u8 (hi.toNat : Nat)] W fun e w' => e = .returned (.bool (inB s (k + d) lo hi)) ∧ w' = W := by
  have c0 := h.text
  have c1 := h.pos
  clear h
  by_cases hlt : k + d < s.size
  · have hlt' : (k : Int) + (d : Int) < (s.size : Int) := by omega
    have HIN : Hid (inB s (k + d) lo hi = (decide (lo.toNat ≤ s[k + d].toNat) && decide (s[k + d].toNat ≤ hi.toNat))) := by
      unfold Hid inB
      rw [text_at s (k + d) hlt]
      simp only [UInt8.le_iff_toNat_le]
    obtain ⟨c, hc⟩ : ∃ c, s[k + d] = c := ⟨_, rfl⟩
    rw [hc] at HIN
    by_cases h1 : (lo.toNat : Int) ≤ (c.toNat : Int)
    · have HIN2 : Hid (inB s (k + d) lo hi = decide (c.toNat ≤ hi.toNat)) := by
        unfold Hid
        rw [HIN.out, decide_eq_true (by omega), Bool.true_and]
      go_enter Tryz.func74, Tryz.ntmps74
      go_wp2_with fail
      go_ret
      exact ⟨by rw [HIN2.out]; rfl, rfl⟩
    · have HIN2 : Hid (inB s (k + d) lo hi = false) := by
        unfold Hid
        rw [HIN.out, decide_eq_false (by omega), Bool.false_and]
      go_enter Tryz.func74, Tryz.ntmps74
      go_wp2_with fail
      go_ret
      exact ⟨by rw [HIN2.out]; rfl, rfl⟩
  · have hlt' : ¬ (k : Int) + (d : Int) < (s.size : Int) := by omega
    have HIN : Hid (inB s (k + d) lo hi = false) := by
      unfold Hid inB
      rw [List.getElem?_eq_none (by simp; omega)]
    go_enter Tryz.func74, Tryz.ntmps74
    go_wp2_with fail
    go_ret
    exact ⟨by rw [HIN.out]; rfl, rfl⟩
theorem inB_one (s : ByteArray) (k : Nat) (c : UInt8) : inB s k c c = (s.data.toList[k]? == some c) := by
  unfold inB
  cases h : s.data.toList[k]? with
  | none => rfl
  | some x =>
    simp only
    rw [Bool.eq_iff_iff]
    simp only [Bool.and_eq_true, decide_eq_true_eq, beq_iff_eq, Option.some.injEq]
    constructor
    · rintro ⟨h1, h2⟩
      exact UInt8.le_antisymm h2 h1
    · rintro rfl
      exact ⟨UInt8.le_refl _, UInt8.le_refl _⟩
/-- The byte is passed over. -/
theorem take_yes {W : World} {b : Nat} {s : ByteArray} {k : Nat} (h : PlAt W b s k) (c : UInt8) (hs : s.size < 4611686018427387904) (hc : s.data.toList[k]? = some c) :
    Calls Tryz.prog 52 #[.pointer (some ⟨b, 0, none⟩), .int .u8 (c.toNat : Nat)] W fun e w' => e = .returned (.bool true) ∧ w' = W.setCell ⟨b, 1, none⟩ (.int .i64 (k + 1 : Nat)) := by
  have hk : k < s.size := by simpa using (List.getElem?_eq_some_iff.1 hc).1
  have HIN : Hid (Calls Tryz.prog 74 #[.pointer (some ⟨b, 0, none⟩), .int .i64 0, .int .u8 (c.toNat : Nat), .int .u8 (c.toNat : Nat)] W fun e w' => e = .returned (.bool true) ∧ w' = W) := by
    have := in_any h 0 c c hs (by omega) (by omega)
    rw [Nat.add_zero, inB_one, hc, beq_self_eq_true] at this
    exact this
  have c1 := h.pos
  have f1 := h.free
  clear h hc
  go_enter Tryz.func52, Tryz.ntmps52
  go_wp2_with fail
  refine Calls.mono HIN.out ?_
  rintro e w' ⟨rfl, hw⟩
  have hw' := hw.symm
  subst hw'
  clear hw
  go_wp2_with fail
  go_ret
  exact ⟨rfl, by simp⟩
theorem take_no {W : World} {b : Nat} {s : ByteArray} {k : Nat} (h : PlAt W b s k) (c : UInt8) (hs : s.size < 4611686018427387904) (hk : k ≤ s.size) (hc : s.data.toList[k]? ≠ some c) :
    Calls Tryz.prog 52 #[.pointer (some ⟨b, 0, none⟩), .int .u8 (c.toNat : Nat)] W fun e w' => e = .returned (.bool false) ∧ w' = W := by
  have HIN : Hid (Calls Tryz.prog 74 #[.pointer (some ⟨b, 0, none⟩), .int .i64 0, .int .u8 (c.toNat : Nat), .int .u8 (c.toNat : Nat)] W fun e w' => e = .returned (.bool false) ∧ w' = W) := by
    have := in_any h 0 c c hs hk (by omega)
    rw [Nat.add_zero, inB_one, show (s.data.toList[k]? == some c) = false by simpa using hc] at this
    exact this
  clear h hc
  go_enter Tryz.func52, Tryz.ntmps52
  go_wp2_with fail
  refine Calls.mono HIN.out ?_
  rintro e w' ⟨rfl, hw⟩
  have hw' := hw.symm
  subst hw'
  clear hw
  go_wp2_with fail
  go_ret
  exact ⟨rfl, rfl⟩
/-! ### escapes -/
theorem hex_fin : ∀ h : Fin 16, ∀ l : Fin 16, bits .or .u8 ((h.val : Int) * 16) (l.val : Int) = ((h.val * 16 + l.val : Nat) : Int) := by decide +kernel
theorem hex_join (h l : Nat) (hh : h < 16) (hl : l < 16) : bits .or .u8 ((h : Int) * 16) (l : Int) = ((h * 16 + l : Nat) : Int) := hex_fin ⟨h, hh⟩ ⟨l, hl⟩
/-- Is a byte escaped whose first digit this is? -/
def begE (h : Nat) : Bool := (List.range 16).any fun l => escB ((h * 16 + l : Nat) : Int)
set_option maxHeartbeats 1000000 in
theorem begins_any (h : Nat) (hh : h < 16) (w : World) : Calls Tryz.prog 88 #[.int .u8 (h : Nat)] w fun e w' => e = .returned (.bool (begE h)) ∧ w' = w := by
  go_enter Tryz.func88, Tryz.ntmps88
  go_wp2_with fail
  go_loop [4] (fun v4 => ∃ l : Nat, l ≤ 16 ∧ v4 = .int .u8 (l : Nat) ∧ Hid (∀ j, j < l → escB ((h * 16 + j : Nat) : Int) = false)) (fun v4 => 16 - (intOf v4).toNat)
  case atStart => exact ⟨0, by omega, rfl, fun j hj => absurd hj (by omega)⟩
  case round =>
    obtain ⟨l, hl, rfl, HL⟩ := hrel
    by_cases hlt : l < 16
    · have hlt' : (l : Int) < 16 := by omega
      have HJ : Hid (bits .or .u8 ((h : Int) * 16) (l : Int) = ((h * 16 + l : Nat) : Int)) := hex_join h l hh hlt
      go_wp2_with fail
      rw [HJ.out]
      refine (escaped_any _ _).mono ?_
      rintro e w' ⟨rfl, hw⟩
      have hw' := hw.symm
      subst hw'
      clear hw
      cases hE : escB ((h * 16 + l : Nat) : Int) with
      | true =>
        have HB : Hid (begE h = true) := by
          unfold Hid begE
          exact List.any_eq_true.2 ⟨l, List.mem_range.2 hlt, hE⟩
        clear hE
        go_wp2_with fail
        go_ret
        exact ⟨by rw [HB.out]; rfl, rfl⟩
      | false =>
        have HN : Hid (∀ j, j < l + 1 → escB ((h * 16 + j : Nat) : Int) = false) := fun j hj => by
          by_cases e : j = l
          · subst e; exact hE
          · exact HL.out j (by omega)
        clear hE
        go_wp2_with fail
        exact ⟨⟨l + 1, by omega, by simp, HN.out⟩, by simp [intOf]; omega⟩
    · have hlt' : ¬ (l : Int) < 16 := by omega
      have HB : Hid (begE h = false) := by
        unfold Hid begE
        rw [List.any_eq_false]
        intro j hj
        rw [HL.out j (by have := List.mem_range.1 hj; omega)]
        simp
      go_wp2_with fail
      go_ret
      exact ⟨by rw [HB.out]; rfl, rfl⟩
end Go.Proofs.YtaildeglikhkaaaGreatDoor
