/- A whole text, read. -/
import Derived.Test.YtaildeglikhkaaaGreatDoorRTree2
import Derived.Test.YtaildeglikhkaaaGreatDoorFault
namespace Go.Proofs.YtaildeglikhkaaaGreatDoor
open Go.RowKit

/-- Is the whole text read? -/
def readOk (s : ByteArray) : Bool := (readG s).1 && (readG s).2.1 == s.size
def readN (s : ByteArray) : List Nd := (readG s).2.2
def readAt (s : ByteArray) : Nat := (readG s).2.1
theorem readAt_le (s : ByteArray) : readAt s ≤ s.size := (read_le s (s.size + 1)).1 1 0 [] (Nat.zero_le _)
theorem readN_len (s : ByteArray) : (readN s).length ≤ 3001 := ((read_len s (s.size + 1)).1 1 0 [] (Nat.zero_le _)).1
theorem Rd.start {W : World} (hk : KnAt W) (s : ByteArray) : Rd W.heap.size (W.alloc (.cells #[.string s, .int .i64 0, .slice none 0 0] 105)) W.heap.size s 0 [] :=
  ⟨KnAt.alloc hk _, KnAt.lt hk, Nat.le_refl _, by simp, .slice none 0 0, Cel.new W 105 _, World.ownsRow_nil _ _ _ _⟩
set_option maxRecDepth 100000 in
set_option maxHeartbeats 2000000 in
theorem read_yes {W : World} (hk : KnAt W) (s : ByteArray) (hs : s.size < 8796093022208) (ho : readOk s = true) :
    Calls Tryz.prog 47 #[.string s] W fun e w' => ∃ v', e = .returned (.tuple #[v', .nilIface]) ∧ w'.ownsRow W.heap.size 50 5 v' (readN s).length (ndCs (readN s)) ∧ Below W.heap.size W w' := by
  have hT := (read_all s hs (s.size + 1)).1 W.heap.size W.heap.size 1 0 [] _ (Rd.start hk s) (by omega) (Nat.zero_le _) (by omega) (Nat.zero_le _)
  unfold readOk readG at ho
  unfold readN readG
  obtain ⟨R, HR⟩ : ∃ R, treeG s (s.size + 1) 1 0 [] = R := ⟨_, rfl⟩
  rw [HR] at hT ho ⊢
  obtain ⟨rb, rj, rX⟩ := R
  simp only [Bool.and_eq_true, beq_iff_eq] at ho
  obtain ⟨rfl, rfl⟩ := ho
  have HTC : Hid _ := hT
  have hlt : ¬ (s.size : Int) < (s.size : Int) := by omega
  clear hT HR
  go_enter Tryz.func47, Tryz.ntmps47
  go_wp2_with fail
  refine Calls.mono HTC.out ?_
  rintro e w1 ⟨rfl, hR1, hb1⟩
  obtain ⟨ad, cap, c2, _, hp1, ho1⟩ := hR1.cells
  have c1 := Cel.cell hp1 1
  have HF : Hid (w1.ownsRow W.heap.size 50 5 (.slice ad rX.length cap) rX.length (ndCs rX) ∧ Below W.heap.size W w1) := ⟨ho1, (below_new W _).trans hb1⟩
  clear hR1 hb1 hp1 ho1
  go_wp2_with fail
  go_ret2
  exact ⟨_, rfl, HF.out.1, HF.out.2⟩
set_option maxRecDepth 100000 in
set_option maxHeartbeats 2000000 in
theorem read_no {W : World} (hk : KnAt W) (ea : Nat → Addr) (hE : Ers W ea) (s : ByteArray) (hs : s.size < 8796093022208) (ho : readOk s = false) :
    Calls Tryz.prog 47 #[.string s] W fun e w' => (∃ q, e = .returned (.tuple #[.slice none 0 0, .iface 79 (.pointer (some ⟨q, 0, none⟩))]) ∧ Cel w' q 81 #[.int .i64 (readAt s : Nat), errV (ea (if readAt s = s.size then 4 else 5))]) ∧ Below W.heap.size W w' := by
  have hT := (read_all s hs (s.size + 1)).1 W.heap.size W.heap.size 1 0 [] _ (Rd.start hk s) (by omega) (Nat.zero_le _) (by omega) (Nat.zero_le _)
  have hle := readAt_le s
  unfold readOk readG at ho
  unfold readAt readG at hle ⊢
  obtain ⟨R, HR⟩ : ∃ R, treeG s (s.size + 1) 1 0 [] = R := ⟨_, rfl⟩
  rw [HR] at hT ho hle ⊢
  obtain ⟨rb, rj, rX⟩ := R
  simp only at ho hle ⊢
  have HTC : Hid _ := hT
  have HE : Hid (∀ w', Below W.heap.size W w' → Ers w' ea) := fun w' hb => hE.below hb
  obtain ⟨ei, hei⟩ : ∃ ei, (if rj = s.size then 4 else 5) = ei := ⟨_, rfl⟩
  rw [hei]
  have HEI : Hid ((if rj = s.size then 4 else 5) = ei) := hei
  clear hT HR hE hei
  cases rb with
  | false =>
    clear ho
    go_enter Tryz.func47, Tryz.ntmps47
    go_wp2_with fail
    refine Calls.mono HTC.out ?_
    rintro e w1 ⟨rfl, hR1, hb1⟩
    obtain ⟨ad, cap, c2, _, hp1, ho1⟩ := hR1.cells
    have hB1 : Below W.heap.size W w1 := (below_new W _).trans hb1
    have HFA : Hid _ := fault_any hp1 ea (HE.out _ hB1) hle
    have HB1 : Hid (Below W.heap.size W w1) := hB1
    clear hR1 hb1 hp1 ho1 hB1
    go_wp2_with fail
    refine Calls.mono HFA.out ?_
    rintro e w2 ⟨⟨q, rfl, hq⟩, hb2⟩
    rw [HEI.out] at hq
    have HF : Hid (Cel w2 q 81 #[.int .i64 (rj : Nat), errV (ea ei)] ∧ Below W.heap.size W w2) := ⟨hq, HB1.out.trans (hb2.mono HB1.out.size)⟩
    clear hq hb2
    go_wp2_with fail
    go_ret2
    exact ⟨⟨q, rfl, HF.out.1⟩, HF.out.2⟩
  | true =>
    have hlt : rj < s.size := by
      rw [Bool.true_and] at ho
      have : rj ≠ s.size := by simpa using ho
      omega
    have hlti : (rj : Int) < (s.size : Int) := by omega
    clear ho
    go_enter Tryz.func47, Tryz.ntmps47
    go_wp2_with fail
    refine Calls.mono HTC.out ?_
    rintro e w1 ⟨rfl, hR1, hb1⟩
    obtain ⟨ad, cap, c2, _, hp1, ho1⟩ := hR1.cells
    have c1 := Cel.cell hp1 1
    have hB1 : Below W.heap.size W w1 := (below_new W _).trans hb1
    have HFA : Hid _ := fault_any hp1 ea (HE.out _ hB1) hle
    have HB1 : Hid (Below W.heap.size W w1) := hB1
    clear hR1 hb1 hp1 ho1 hB1
    go_wp2_with fail
    refine Calls.mono HFA.out ?_
    rintro e w2 ⟨⟨q, rfl, hq⟩, hb2⟩
    rw [HEI.out] at hq
    have HF : Hid (Cel w2 q 81 #[.int .i64 (rj : Nat), errV (ea ei)] ∧ Below W.heap.size W w2) := ⟨hq, HB1.out.trans (hb2.mono HB1.out.size)⟩
    clear hq hb2
    go_wp2_with fail
    go_ret2
    exact ⟨⟨q, rfl, HF.out.1⟩, HF.out.2⟩
end Go.Proofs.YtaildeglikhkaaaGreatDoor
