/- A text between quotes, read. -/
import Derived.Test.YtaildeglikhkaaaGreatDoorQuote
namespace Go.Proofs.YtaildeglikhkaaaGreatDoor
open Go.RowKit
attribute [local go_sem] Oper.semAt_some

theorem Gone.below {W X Y : World} {b : Nat} {t : TypeId} {s : ByteArray} {k : Nat} {r : List Value} (h : Gone W b t s k r X) (hb : b < W.heap.size) (hY : Below W.heap.size X Y) : Gone W b t s k r Y :=
  ⟨Cel.below h.at_ hY hb, ⟨hY.os.trans h.turn.os, hY.tape.trans h.turn.tape, hY.output.trans h.turn.output, Nat.le_trans h.turn.size hY.size, fun i hi hs => (hY.block i hi).trans (h.turn.block i hi hs)⟩⟩
theorem Bld.turn {X Y : World} {B bb b : Nat} {l : List UInt8} (h : Bld X B bb l) (hT : Turn (fun i => i = b) X Y) (hb : b < B) : Bld Y B bb l := by
  obtain ⟨hB, p, v, hp, hc, ho⟩ := h
  refine ⟨hB, p, v, hp, hc.turn hT (by omega), owns_turn ho hT fun g hg => ?_⟩
  rcases ho.2 with ⟨rfl, _⟩ | ⟨g', cap, cur, rfl, hb', _⟩
  · simp [Value.ownBlock] at hg
  · obtain rfl : g' = g := by simpa [Value.ownBlock] using hg
    omega
theorem escR_lt (s : ByteArray) (k v : Nat) (h : (escR s k).1 = some v) : v < 256 ∧ k < (escR s k).2 := by
  revert h
  unfold escR
  cases h1 : hexAt s k with
  | none => simp
  | some a =>
    have ha := (hexAt_lt s k a h1).1
    simp only
    split
    · cases h2 : hexAt s (k + 1) with
      | none => simp
      | some u =>
        have hu := (hexAt_lt s (k + 1) u h2).1
        simp only
        split
        · intro e; cases e; exact ⟨by omega, by simp⟩
        · intro e; cases e
    · intro e; cases e
theorem qbR_lt (s : ByteArray) (k v : Nat) (h : (qbR s k).1 = some v) : v < 256 ∧ k < (qbR s k).2 ∧ k < s.size := by
  revert h
  unfold qbR
  cases hc : s.data.toList[k]? with
  | none => simp
  | some c =>
    have hk : k < s.size := by simpa using (List.getElem?_eq_some_iff.1 hc).1
    simp only
    split
    · intro e
      obtain ⟨h1, h2⟩ := escR_lt s (k + 1) v e
      exact ⟨h1, by omega, hk⟩
    · split
      · intro e; cases e
      · intro e; cases e; exact ⟨c.toNat_lt, by simp, hk⟩
/-- What stands between here and the next quote that is none's own. -/
def quG (s : ByteArray) : Nat → Nat → List UInt8 → Option (List UInt8) × Nat
  | 0, k, _ => (none, k)
  | f + 1, k, l => if s.data.toList[k]? = some 34 then (some l, k + 1) else match (qbR s k).1 with
    | none => (none, (qbR s k).2)
    | some v => quG s f (qbR s k).2 (l ++ [v.toUInt8])
/-- A text between quotes, and where the reader stands behind it. -/
def quR (s : ByteArray) (k : Nat) : Option (List UInt8) × Nat := if s.data.toList[k]? = some 34 then quG s (s.size + 1) (k + 1) [] else (none, k)
def textR : Option (List UInt8) → Array Value
  | none => #[.string ⟨#[]⟩, .bool false]
  | some l => #[str l, .bool true]
theorem textR_none : textR none = #[.string ⟨#[]⟩, .bool false] := rfl
theorem textR_some (l : List UInt8) : textR (some l) = #[str l, .bool true] := rfl
theorem quG_le (s : ByteArray) : ∀ (f k : Nat) (l : List UInt8), k ≤ s.size → (quG s f k l).2 ≤ s.size
  | 0, _, _, h => h
  | f + 1, k, l, h => by
    unfold quG
    split
    · rename_i hc
      have hk : k < s.size := by simpa using (List.getElem?_eq_some_iff.1 hc).1
      exact hk
    · cases (qbR s k).1 with
      | none => exact qbR_le s k h
      | some v => exact quG_le s f _ _ (qbR_le s k h)
theorem quR_le (s : ByteArray) (k : Nat) (h : k ≤ s.size) : (quR s k).2 ≤ s.size := by
  unfold quR
  split
  · rename_i hc
    have hk : k < s.size := by simpa using (List.getElem?_eq_some_iff.1 hc).1
    exact quG_le s _ _ _ hk
  · exact h
def posOf (W : World) (b : Nat) : Nat := match W.cell? ⟨b, 1, none⟩ with
  | some (.int _ n) => n.toNat
  | _ => 0
theorem posOf_at {W : World} {b : Nat} {s : ByteArray} {k : Nat} (h : PlAt W b s k) : posOf W b = k := by unfold posOf; rw [h.pos]; simp
set_option maxHeartbeats 1000000 in
theorem quoted_no {W : World} {b : Nat} {t : TypeId} {s : ByteArray} {k : Nat} {r : List Value} (h : PlC W b t s k r) (hs : s.size < 8796093022208) (hk : k ≤ s.size) (hc : s.data.toList[k]? ≠ some 34) :
    Calls Tryz.prog 25 #[.pointer (some ⟨b, 0, none⟩)] W fun e w' => e = .returned (.tuple (textR (quR s k).1)) ∧ Gone W b t s (quR s k).2 r w' := by
  have HR : Hid (quR s k = (none, k)) := by unfold Hid quR; rw [if_neg hc]
  have HT : Hid (Calls Tryz.prog 52 #[.pointer (some ⟨b, 0, none⟩), .int .u8 34] W fun e w' => e = .returned (.bool false) ∧ w' = W) := take_no h.at 34 (by omega) hk hc
  rw [HR.out, textR_none]
  go_enter Tryz.func25, Tryz.ntmps25
  go_wp2_with fail
  refine Calls.mono HT.out ?_
  rintro e w1 ⟨rfl, hw⟩
  have hw' := hw.symm
  subst hw'
  clear hw HT
  go_wp2_with fail
  go_ret2
  exact ⟨rfl, Gone.refl h⟩
set_option maxHeartbeats 4000000 in
theorem quoted_yes {W : World} {b : Nat} {t : TypeId} {s : ByteArray} {k : Nat} {r : List Value} (h : PlC W b t s k r) (hs : s.size < 8796093022208) (hc : s.data.toList[k]? = some 34) :
    Calls Tryz.prog 25 #[.pointer (some ⟨b, 0, none⟩)] W fun e w' => e = .returned (.tuple (textR (quR s k).1)) ∧ Gone W b t s (quR s k).2 r w' := by
  have hk : k < s.size := by simpa using (List.getElem?_eq_some_iff.1 hc).1
  obtain ⟨R, hR⟩ : ∃ R, quR s k = R := ⟨_, rfl⟩
  have HR : Hid (quG s (s.size + 1) (k + 1) [] = R) := by unfold Hid; rw [← hR]; unfold quR; rw [if_pos hc]
  rw [hR]
  have HT : Hid (Calls Tryz.prog 52 #[.pointer (some ⟨b, 0, none⟩), .int .u8 34] W fun e w' => e = .returned (.bool true) ∧ Gone W b t s (k + 1) r w') :=
    Calls.mono (take_yes h.at 34 (by omega) hc) (by rintro e w' ⟨rfl, rfl⟩; exact ⟨rfl, (Gone.refl h).set (k + 1)⟩)
  clear hR hc h
  go_enter Tryz.func25, Tryz.ntmps25
  go_wp2_with fail
  refine Calls.mono HT.out ?_
  rintro e W1 ⟨rfl, HG0⟩
  clear HT
  have hbl : b < W1.heap.size := HG0.at_.at.lt
  have HN : Hid (Bld (W1.alloc (.cells #[.pointer none, .slice none 0 0] 65)) W1.heap.size W1.heap.size []) := ⟨Nat.le_refl _, _, _, .inl rfl, Cel.new W1 65 _, World.ownsRow_nil _ _ _ _⟩
  have HG1 : Hid (Gone W1 b t s (k + 1) r (W1.alloc (.cells #[.pointer none, .slice none 0 0] 65))) := (Gone.refl HG0.at_).below hbl ((Below.refl _ W1).alloc (Nat.le_refl _) _)
  go_wp2_with fail
  go_loopw [5, 6] (fun _ _ wr => ∃ (j : Nat) (l : List UInt8) (f : Nat), j ≤ s.size ∧ l.length ≤ j ∧ s.size - j < f ∧ Hid (quG s f j l = R) ∧ Hid (Gone W1 b t s j r wr) ∧ Hid (Bld wr W1.heap.size W1.heap.size l)) (fun _ _ wr => s.size - posOf wr b)
  case atStart => exact ⟨k + 1, [], s.size + 1, hk, by simp, by omega, HR, HG1, HN⟩
  case round =>
    obtain ⟨j, l, f, hj, hl, hf, HQ, HG, HB⟩ := hrel
    obtain ⟨f', rfl⟩ : ∃ f', f = f' + 1 := ⟨f - 1, by omega⟩
    have HP : Hid (posOf wr b = j) := posOf_at HG.out.at_.at
    by_cases h34 : s.data.toList[j]? = some 34
    · have HQ' : Hid (R = (some l, j + 1)) := by unfold Hid; rw [← HQ.out]; unfold quG; rw [if_pos h34]
      have HT : Hid (Calls Tryz.prog 52 #[.pointer (some ⟨b, 0, none⟩), .int .u8 34] wr fun e w' => e = .returned (.bool true) ∧ Gone wr b t s (j + 1) r w') :=
        Calls.mono (take_yes HG.out.at_.at 34 (by omega) h34) (by rintro e w' ⟨rfl, rfl⟩; exact ⟨rfl, (Gone.refl HG.out.at_).set (j + 1)⟩)
      clear h34 HQ
      go_wp2_with fail
      refine Calls.mono HT.out ?_
      rintro e W2 ⟨rfl, hg2⟩
      have HG2 : Hid (Gone W1 b t s (j + 1) r W2) := HG.out.trans hg2
      have HB2 : Hid (Bld W2 W1.heap.size W1.heap.size l) := Bld.turn HB.out hg2.turn hbl
      clear hg2 HT HB HG
      go_wp2_with fail
      refine Calls.mono (string_bld _ _ _ _ HB2.out HG2.out.turn.size) ?_
      rintro e W3 ⟨rfl, hb3, _⟩
      have HG3 : Hid (Gone W b t s (j + 1) r W3) := HG0.trans (HG2.out.below hbl hb3)
      go_wp2_with fail
      go_ret2
      rw [HQ'.out]
      exact ⟨rfl, HG3.out⟩
    · have HT : Hid (Calls Tryz.prog 52 #[.pointer (some ⟨b, 0, none⟩), .int .u8 34] wr fun e w' => e = .returned (.bool false) ∧ w' = wr) := take_no HG.out.at_.at 34 (by omega) hj h34
      have HC : Hid (Calls Tryz.prog 53 #[.pointer (some ⟨b, 0, none⟩)] wr fun e w' => e = .returned (.tuple (byteR (qbR s j).1)) ∧ Gone wr b t s (qbR s j).2 r w') := qbyte_any HG.out.at_ (by omega) hj
      have hj2 := qbR_le s j hj
      cases ho : (qbR s j).1 with
      | none =>
        have HQ' : Hid (R = (none, (qbR s j).2)) := by unfold Hid; rw [← HQ.out]; unfold quG; rw [if_neg h34, ho]
        rw [ho, byteR_none] at HC
        clear h34 HQ ho
        go_wp2_with fail
        refine Calls.mono HT.out ?_
        rintro e W2 ⟨rfl, hw⟩
        have hw' := hw.symm
        subst hw'
        clear hw HT
        go_wp2_with fail
        refine Calls.mono HC.out ?_
        rintro e W3 ⟨rfl, hg3⟩
        have HG3 : Hid (Gone W b t s (qbR s j).2 r W3) := HG0.trans (HG.out.trans hg3)
        clear hg3
        go_wp2_with fail
        go_ret2
        rw [HQ'.out]
        exact ⟨rfl, HG3.out⟩
      | some v =>
        obtain ⟨hv, hjj, hjs⟩ := qbR_lt s j v ho
        have HQ' : Hid (quG s f' (qbR s j).2 (l ++ [v.toUInt8]) = R) := by unfold Hid; rw [← HQ.out]; conv => rhs; unfold quG; rw [if_neg h34, ho]
        have HV : Hid (((v.toUInt8).toNat : Int) = (v : Int)) := by unfold Hid; simp; omega
        rw [ho, byteR_some] at HC
        clear h34 HQ ho
        generalize (qbR s j).2 = j2 at HC hj2 hjj HQ'
        go_wp2_with fail
        refine Calls.mono HT.out ?_
        rintro e W2 ⟨rfl, hw⟩
        have hw' := hw.symm
        subst hw'
        clear hw HT
        go_wp2_with fail
        refine Calls.mono HC.out ?_
        rintro e W3 ⟨rfl, hg3⟩
        have HG3 : Hid (Gone W1 b t s j2 r W3) := HG.out.trans hg3
        have HB3 : Hid (Bld W3 W1.heap.size W1.heap.size l) := Bld.turn HB.out hg3.turn hbl
        clear hg3 HC HB HG
        go_wp2_with fail
        have HW : Hid (Calls Tryz.prog 32 #[.pointer (some ⟨W1.heap.size, 0, none⟩), .int .u8 (v : Int)] W3 fun e w' => e = .returned .nilIface ∧ Bld w' W1.heap.size W1.heap.size (l ++ [v.toUInt8]) ∧ Bk W1.heap.size W1.heap.size W3 w') := by
          have := writeByte_bld W1.heap.size W1.heap.size l v.toUInt8 W3 HB3.out (by omega) HG3.out.turn.size
          rw [HV.out] at this
          exact this
        refine Calls.mono HW.out ?_
        rintro e W4 ⟨rfl, hb4, hk4⟩
        have HG4 : Hid (Gone W1 b t s j2 r W4) := HG3.out.below hbl hk4.1
        have HP4 : Hid (posOf W4 b = j2) := posOf_at HG4.out.at_.at
        clear hk4
        go_wp2_with fail
        go_roundw
        case rel => exact ⟨j2, l ++ [v.toUInt8], f', hj2, by simp; omega, by omega, HQ', HG4, hb4⟩
        case measure => rw [HP.out, HP4.out]; omega
theorem quoted_any {W : World} {b : Nat} {t : TypeId} {s : ByteArray} {k : Nat} {r : List Value} (h : PlC W b t s k r) (hs : s.size < 8796093022208) (hk : k ≤ s.size) :
    Calls Tryz.prog 25 #[.pointer (some ⟨b, 0, none⟩)] W fun e w' => e = .returned (.tuple (textR (quR s k).1)) ∧ Gone W b t s (quR s k).2 r w' := by
  by_cases hc : s.data.toList[k]? = some 34
  · exact quoted_yes h hs hc
  · exact quoted_no h hs hk hc
end Go.Proofs.YtaildeglikhkaaaGreatDoor
