/- The document's own check: what is fine is a tree. -/
import Derived.Test.YtgabodcbhjcmiaaDoorLook
namespace Go.Proofs.YtgabodcbhjcmiaaDoor
open Go.RowKit
attribute [local go_sem] Oper.semAt_some

theorem look_all (v : Value) (X : List Nd) (hl : X.length < 4294967296) (hX : ∀ x ∈ X, NdIn x) : ∀ d, d ≤ 30 → LookC v X d
  | 0, h => look_step v X hl hX 0 h (fun e he => by omega)
  | d + 1, h => look_step v X hl hX (d + 1) h (fun e he => by
    obtain rfl : e = d := by omega
    exact look_all v X hl hX e (by omega))
set_option maxRecDepth 100000 in
set_option maxHeartbeats 4000000 in
theorem refCheck_any (v : Value) (X : List Nd) (W : World) (hN : NdAt W v X) (hl : X.length < 4294967296) (hX : ∀ x ∈ X, NdIn x) :
    Calls Tryd.prog 13 #[v] W fun e w' => ∃ c, FaultIs e c ∧ (c = 0 → Seg 30 X) ∧ Below W.heap.size W w' := by
  obtain ⟨w1, hw1⟩ : ∃ w1, w1 = W.alloc (.cells #[.int .i64 0, .slice none 0 0] 33) := ⟨_, rfl⟩
  have hb1 : Below W.heap.size W w1 := by rw [hw1]; exact below_new _ _
  have CR : Cel w1 W.heap.size 33 #[.int .i64 0, .slice none 0 0] := by rw [hw1]; exact Cel.new _ _ _
  have HLK : Hid (0 < X.length → Calls Tryd.prog 26 #[v, .int .i64 0, .int .i64 X.length, .int .i64 X.length, .int .i64 1, .bool true] w1 fun e w' => ∃ c, FaultIs e c ∧ (c = 0 → Seg 30 X) ∧ Below w1.heap.size w1 w') := fun h0 => by
    refine Calls.mono (look_all v X hl hX 30 (Nat.le_refl _) 0 X.length X.length true w1 (hN.below hb1 (Nat.le_refl _)) h0 (Nat.le_refl _) (by omega) (Int.le_refl _)) ?_
    rintro e w' ⟨c, h1, h2, h3⟩
    refine ⟨c, h1, fun hc => ?_, h3⟩
    obtain ⟨m, x, _, _, _, _, hf, hs⟩ := h2 hc
    have := hf (by omega)
    obtain rfl : m = X.length := by omega
    rw [List.drop_zero, List.take_length] at hs
    exact hs
  obtain ⟨ad, cap, rfl⟩ := hN.form
  clear hN hX
  obtain ⟨L, hL⟩ : ∃ L, X.length = L := ⟨_, rfl⟩
  rw [hL] at HLK hl ⊢
  clear hL
  go_enter Tryd.func13, Tryd.ntmps13
  go_upto_region 1 with fail
  rw [← hw1]
  clear hw1
  by_cases h0 : L = 0
  · subst h0
    go_wp2_with fail
    refine (bare_any 111 _).mono ?_
    rintro e w2 ⟨rfl, hb2⟩
    have hbw2 := hb1.trans (hb2.mono hb1.size)
    have CRR := CR.below hb2 CR.lt
    have l1 := CRR.cell 0
    have l2 := CRR.cell 1
    have l3 := CRR.frozen 0
    have l4 := CRR.frozen 1
    have HFR : Hid (Cel ((w2.setCell ⟨W.heap.size, 0, none⟩ (.int .i64 111)).setCell ⟨W.heap.size, 1, none⟩ (.slice none 0 0)) W.heap.size 33 #[.int .i64 111, .slice none 0 0]) := fault_ret CRR
    have hbl : Below W.heap.size W ((w2.setCell ⟨W.heap.size, 0, none⟩ (.int .i64 111)).setCell ⟨W.heap.size, 1, none⟩ (.slice none 0 0)) := (hbw2.setCell (p := ⟨W.heap.size, 0, none⟩) (Nat.le_refl _) _).setCell (p := ⟨W.heap.size, 1, none⟩) (Nat.le_refl _) _
    clear CRR
    go_wp2_with fail
    refine bodyPost_ret (results_cell_row (p := 2) (ty := 33) rfl _ _ W.heap.size 33 _ (0, 0) _ rfl HFR.out Tryd.underlying33 rfl size33) rfl ?_
    exact ⟨_, ⟨_, _, _, rfl⟩, fun h => absurd h (by decide), hbl⟩
  · have h0' : ((L : Int) == 0) = false := by simp; omega
    by_cases h3 : (3000 : Int) < (L : Int)
    · go_wp2_with fail
      refine (bare_any 111 _).mono ?_
      rintro e w2 ⟨rfl, hb2⟩
      have hbw2 := hb1.trans (hb2.mono hb1.size)
      have CRR := CR.below hb2 CR.lt
      have l1 := CRR.cell 0
      have l2 := CRR.cell 1
      have l3 := CRR.frozen 0
      have l4 := CRR.frozen 1
      have HFR : Hid (Cel ((w2.setCell ⟨W.heap.size, 0, none⟩ (.int .i64 111)).setCell ⟨W.heap.size, 1, none⟩ (.slice none 0 0)) W.heap.size 33 #[.int .i64 111, .slice none 0 0]) := fault_ret CRR
      have hbl : Below W.heap.size W ((w2.setCell ⟨W.heap.size, 0, none⟩ (.int .i64 111)).setCell ⟨W.heap.size, 1, none⟩ (.slice none 0 0)) := (hbw2.setCell (p := ⟨W.heap.size, 0, none⟩) (Nat.le_refl _) _).setCell (p := ⟨W.heap.size, 1, none⟩) (Nat.le_refl _) _
      clear CRR
      go_wp2_with fail
      refine bodyPost_ret (results_cell_row (p := 2) (ty := 33) rfl _ _ W.heap.size 33 _ (0, 0) _ rfl HFR.out Tryd.underlying33 rfl size33) rfl ?_
      exact ⟨_, ⟨_, _, _, rfl⟩, fun h => absurd h (by decide), hbl⟩
    · have HLK2 : Hid (Calls Tryd.prog 26 #[.slice ad L cap, .int .i64 0, .int .i64 L, .int .i64 L, .int .i64 1, .bool true] w1 fun e w' => ∃ c, FaultIs e c ∧ (c = 0 → Seg 30 X) ∧ Below w1.heap.size w1 w') := HLK.out (by omega)
      go_wp2_with fail
      refine Calls.mono HLK2.out ?_
      rintro e w2 ⟨c, ⟨ad2, n2, cp, rfl⟩, hc, hb2⟩
      have HCS : Hid (c = 0 → Seg 30 X) := hc
      clear hc
      have hbw2 := hb1.trans (hb2.mono hb1.size)
      have CRR := CR.below hb2 CR.lt
      have l1 := CRR.cell 0
      have l2 := CRR.cell 1
      have l3 := CRR.frozen 0
      have l4 := CRR.frozen 1
      have HFR : Hid (Cel ((w2.setCell ⟨W.heap.size, 0, none⟩ (.int .i64 c)).setCell ⟨W.heap.size, 1, none⟩ (.slice ad2 n2 cp)) W.heap.size 33 #[.int .i64 c, .slice ad2 n2 cp]) := fault_ret CRR
      have hbl : Below W.heap.size W ((w2.setCell ⟨W.heap.size, 0, none⟩ (.int .i64 c)).setCell ⟨W.heap.size, 1, none⟩ (.slice ad2 n2 cp)) := (hbw2.setCell (p := ⟨W.heap.size, 0, none⟩) (Nat.le_refl _) _).setCell (p := ⟨W.heap.size, 1, none⟩) (Nat.le_refl _) _
      clear CRR
      go_wp2_with fail
      refine bodyPost_ret (results_cell_row (p := 2) (ty := 33) rfl _ _ W.heap.size 33 _ (0, 0) _ rfl HFR.out Tryd.underlying33 rfl size33) rfl ?_
      exact ⟨c, ⟨_, _, _, rfl⟩, HCS.out, hbl⟩
end Go.Proofs.YtgabodcbhjcmiaaDoor
