/- The document's scanner: a word in braces. -/
import Derived.Test.YtlihkblllakhmaaGreatDoorRg8
import Derived.Laws.Rows
namespace Go.Proofs.YtlihkblllakhmaaGreatDoor
open Go.RowKit
attribute [local go_sem] Oper.semAt_some

/-- A word, or an error; where the scanner stands; only its block turned, and new blocks. -/
def DWordV (W : World) (b : Nat) (s : ByteArray) (av : Value) (R : Except Er (Wd × List UInt8)) (v' : Value) (w' : World) : Prop := Turn (fun g => g = b) W w' ∧ match R with
  | .ok q => (∃ pv, v' = .agg #[.int .i64 (q.1.pos : Nat), .bool q.1.braced, pv] ∧ QtOwn w' W.heap.size pv q.1.parts) ∧ ∃ j, Lx w' b s j 0 av ∧ j ≤ s.size ∧ q.2 = s.data.toList.drop j
  | .error x => (∃ (n : Int) (br : Bool) (ad : Option Addr) (l c : Nat), v' = .agg #[.int .i64 n, .bool br, .slice ad l c]) ∧ ∃ j fb, Lx w' b s j (codE x.code) (.slice (some ⟨fb, 0, none⟩) 1 1) ∧ Cel w' fb 3 #[.int .i64 (x.pos : Nat)]
theorem results_dword {fn : Func} {p : Tmp} (h : fn.results = #[.cell p 48]) (tmps : Array Value) (w : World) (g : Nat) (cs : Array Value) (hp : tmps.getD p undef = .pointer (some ⟨g, 0, none⟩)) (hc : Cel w g 48 cs) (hz : cs.size = 3) :
    (results fn tmps).run Tryz.prog w = .ok (.agg cs) w := results_cell_row h tmps w g 48 cs (0, 0) _ hp hc Tryz.underlying48 rfl (by rw [hz]; exact sizeQd)
theorem turn_put3 {W X : World} {b g : Nat} (h : Turn (fun x => x = b) W X) (hg : W.heap.size ≤ g) (v0 v1 v2 : Value) : Turn (fun x => x = b) W (putW X g v0 v1 v2) :=
  ((h.setCell (p := ⟨g, 0, none⟩) (fun e => absurd e (by show ¬ g < _; omega)) v0).setCell (p := ⟨g, 1, none⟩) (fun e => absurd e (by show ¬ g < _; omega)) v1).setCell (p := ⟨g, 2, none⟩) (fun e => absurd e (by show ¬ g < _; omega)) v2
set_option maxRecDepth 100000 in
set_option maxHeartbeats 4000000 in
theorem word_brace0 {W : World} {b : Nat} {s : ByteArray} {i : Nat} {av : Value} (h : Lx W b s i 0 av) (hs : s.size ≤ 8192) (hi : i < s.size) (hc : s[i] = 123) (hk : passB 0 (s.data.toList.drop (i + 1)) = none) :
    Calls Tryz.prog 24 #[.pointer (some ⟨b, 0, none⟩)] W fun e w' => ∃ v', e = .returned v' ∧ DWordV W b s av (wordL s.size (s.data.toList.drop i)) v' w' := by
  have l0 : W.cell? ⟨b, 0, none⟩ = some (.string s) := h.cell 0
  have l1 : W.cell? ⟨b, 1, none⟩ = some (.int .i64 (i : Nat)) := h.cell 1
  have hlb := h.lt
  have HL : Hid (Lx W b s i 0 av) := h
  have HB : Hid (∀ w, Calls Tryz.prog 38 #[.string s, .int .i64 ((i : Int) + 1)] w fun e w' => e = .returned (.int .i64 (-1)) ∧ w' = w) := fun w => by
    have e := rbrace_any s w (by omega) (i + 1) (by omega)
    rw [hk, show ((i + 1 : Nat) : Int) = (i : Int) + 1 by simp] at e
    exact e
  have HF : Hid (∀ w, Lx w b s i 0 av → Calls Tryz.prog 39 #[.pointer (some ⟨b, 0, none⟩), .int .i64 105, .int .i64 (i : Nat)] w fun e w' => e = .returned (.tuple #[]) ∧ Flt w b s ⟨4, i⟩ w') := fun w hw => fail_any hw ⟨4, i⟩
  have HR : Hid (wordL s.size (s.data.toList.drop i) = .error ⟨4, i⟩) := by
    unfold Hid
    have hl := len_drop s i
    rw [wordL, if_pos (by rw [drop_cons s i hi, hc]; rfl), drop_cons s i hi, List.tail_cons, hk, ← drop_cons s i hi, hl, show s.size - (s.size - i) = i by omega]
  rw [HR.out]
  have q123 : (((s[i]).toNat : Int) == 123) = true := by rw [hc]; rfl
  have hi' : (i : Int) < (s.size : Int) := by omega
  clear h hc hk HR
  go_enter Tryz.func24, Tryz.ntmps24
  go_wp2_with fail
  obtain ⟨W1, hW1⟩ : ∃ W1, W1 = ((W.alloc (.cells #[.int .i64 0, .bool false, .slice none 0 0] 48)).alloc (.cells #[.int .i64 (i : Nat), .bool false, .slice none 0 0] 48)) := ⟨_, rfl⟩
  have HL1 : Hid (Lx W1 b s i 0 av) := by rw [hW1]; exact (HL.out.alloc _).alloc _
  have HQ1 : Hid (Cel W1 W.heap.size 48 zW) := by rw [hW1]; exact (Cel.new W _ _).alloc _
  have HP1 : Hid (Cel W1 (W.heap.size + 1) 48 #[.int .i64 (i : Nat), .bool false, .slice none 0 0]) := by rw [hW1]; exact Cel.new2 W _ _ _
  have HT1 : Hid (Turn (fun g => g = b) W W1) := by rw [hW1]; exact ((Turn.refl _ W).alloc _).alloc _
  have hz1 : W1.heap.size = W.heap.size + 1 + 1 := by rw [hW1]; simp
  rw [← hW1]
  clear hW1 l0 l1
  refine Calls.mono (HB.out _) ?_
  rintro e w1 ⟨rfl, hw⟩
  obtain rfl := hw.symm
  clear hw
  go_wp2_with fail
  refine Calls.mono (HF.out _ HL1.out) ?_
  rintro e w2 ⟨rfl, hf⟩
  have HF1 : Hid _ := hf
  have HT2 : Hid (Turn (fun g => g = b) W1 w2) := by obtain ⟨j, fb, h1, h2, h3, h4⟩ := hf; exact h4
  have HQ2 : Hid (Cel w2 W.heap.size 48 zW) := HQ1.out.turn HT2.out (by omega)
  have HP2 : Hid (Cel w2 (W.heap.size + 1) 48 #[.int .i64 (i : Nat), .bool false, .slice none 0 0]) := HP1.out.turn HT2.out (by omega)
  clear hf HL1 HQ1 HP1 HF HB HL
  have z0 : w2.cell? ⟨W.heap.size, 0, none⟩ = some (.int .i64 0) := HQ2.out.cell 0
  have z1 : w2.cell? ⟨W.heap.size, 1, none⟩ = some (.bool false) := HQ2.out.cell 1
  have z2 : w2.cell? ⟨W.heap.size, 2, none⟩ = some (.slice none 0 0) := HQ2.out.cell 2
  have zf0 := HQ2.out.frozen 0
  have zf1 := HQ2.out.frozen 1
  have zf2 := HQ2.out.frozen 2
  have p0 : w2.cell? ⟨W.heap.size + 1, 0, none⟩ = some (.int .i64 (i : Nat)) := HP2.out.cell 0
  have p1 : w2.cell? ⟨W.heap.size + 1, 1, none⟩ = some (.bool false) := HP2.out.cell 1
  have p2 : w2.cell? ⟨W.heap.size + 1, 2, none⟩ = some (.slice none 0 0) := HP2.out.cell 2
  go_wp2_with fail
  refine bodyPost_ret (results_dword (p := 2) rfl _ _ W.heap.size _ rfl (HQ2.out.put3 _ _ _) rfl) rfl ?_
  obtain ⟨j, fb, h1, h2, h3, _⟩ := HF1.out
  exact ⟨_, rfl, turn_put3 (HT1.out.trans HT2.out (fun _ e _ => e)) (Nat.le_refl _) _ _ _, ⟨_, _, _, _, _, rfl⟩, j, fb, h1.away3 (by omega) _ _ _, h2.away3 (by omega) _ _ _⟩
theorem QtOwn.put_new {X : World} {B g : Nat} {v : Value} {P : List Pt} {cs : Array Value} (h : QtOwn X B v P) (hc : Cel X g 48 cs) (v0 v1 v2 : Value) : QtOwn (putW X g v0 v1 v2) B v P := by
  refine owns_turn h (Turn.putW X g v0 v1 v2) (fun i hi e => ?_)
  subst e
  rcases h.2 with ⟨rfl, _⟩ | ⟨g', cap, cur, rfl, _, h1, _⟩
  · cases hi
  · simp only [Value.ownBlock, Option.some.injEq] at hi
    subst hi
    have h2 := (show X.heap[g']? = _ from hc).symm.trans h1
    simp at h2
/-- One part, laid anew. -/
theorem QtOwn.one (W : World) (B : Nat) (p : Pt) (hB : B ≤ W.heap.size) : QtOwn (W.alloc (.cells (ptC p).toArray 81)) B (.slice (some ⟨W.heap.size, 0, none⟩) 1 1) [p] := by
  have := World.ownsRow_lit (base := B) (e := 81) (size := 4) W (ptC p).toArray 1 hB (by decide) rfl
  unfold QtOwn
  rw [ptCs_one]
  exact this
set_option maxRecDepth 100000 in
set_option maxHeartbeats 4000000 in
theorem word_brace1 {W : World} {b : Nat} {s : ByteArray} {i : Nat} {av : Value} (h : Lx W b s i 0 av) (hs : s.size ≤ 8192) (hi : i < s.size) (hc : s[i] = 123) (u : List UInt8) (hk : passB 0 (s.data.toList.drop (i + 1)) = some u) :
    Calls Tryz.prog 24 #[.pointer (some ⟨b, 0, none⟩)] W fun e w' => ∃ v', e = .returned v' ∧ DWordV W b s av (wordL s.size (s.data.toList.drop i)) v' w' := by
  have l0 : W.cell? ⟨b, 0, none⟩ = some (.string s) := h.cell 0
  have l1 : W.cell? ⟨b, 1, none⟩ = some (.int .i64 (i : Nat)) := h.cell 1
  have hlb := h.lt
  have HL : Hid (Lx W b s i 0 av) := h
  have hd := passB_drop hk
  obtain ⟨K, hK⟩ : ∃ K, K = s.size - u.length - 1 := ⟨_, rfl⟩
  have hK1 : i + 1 ≤ K := by omega
  have hK2 : K < s.size := by omega
  have HB : Hid (∀ w, Calls Tryz.prog 38 #[.string s, .int .i64 ((i : Int) + 1)] w fun e w' => e = .returned (.int .i64 (K : Nat)) ∧ w' = w) := fun w => by
    have e := rbrace_any s w (by omega) (i + 1) (by omega)
    rw [hk, show ((i + 1 : Nat) : Int) = (i : Int) + 1 by simp] at e
    have e2 : clR s.size (some u) = (K : Nat) := by simp only [clR]; omega
    rw [e2] at e
    exact e
  obtain ⟨T, HT⟩ : ∃ T, Hid (T = (s.extract (i + 1) K).data.toList) := ⟨_, rfl⟩
  have HR : Hid (wordL s.size (s.data.toList.drop i) = closedL s.size ⟨i, true, [⟨1, i + 1, 0, T⟩]⟩ (s.data.toList.drop (K + 1))) := by
    unfold Hid
    have hl := len_drop s i
    have hl2 := len_drop s (i + 1)
    rw [wordL, if_pos (by rw [drop_cons s i hi, hc]; rfl), drop_cons s i hi, List.tail_cons, hk, ← drop_cons s i hi, hl, show s.size - (s.size - i) = i by omega, HT.out, ext_take, show K - (i + 1) = (s.data.toList.drop (i + 1)).length - u.length - 1 by omega, show K + 1 = s.size - u.length by omega, ← hd.1]
  rw [HR.out]
  have q123 : (((s[i]).toNat : Int) == 123) = true := by rw [hc]; rfl
  have hi' : (i : Int) < (s.size : Int) := by omega
  have hK3 : ¬ (K : Int) < 0 := by omega
  have hK4 : (i : Int) + 1 ≤ (K : Int) := by omega
  have hK5 : (K : Int) ≤ (s.size : Int) := by omega
  clear h hc hk HR hd hK
  go_enter Tryz.func24, Tryz.ntmps24
  go_wp2_with fail
  obtain ⟨W1, hW1⟩ : ∃ W1, W1 = ((W.alloc (.cells #[.int .i64 0, .bool false, .slice none 0 0] 48)).alloc (.cells #[.int .i64 (i : Nat), .bool false, .slice none 0 0] 48)) := ⟨_, rfl⟩
  have HL1 : Hid (Lx W1 b s i 0 av) := by rw [hW1]; exact (HL.out.alloc _).alloc _
  have HQ1 : Hid (Cel W1 W.heap.size 48 zW) := by rw [hW1]; exact (Cel.new W _ _).alloc _
  have HP1 : Hid (Cel W1 (W.heap.size + 1) 48 #[.int .i64 (i : Nat), .bool false, .slice none 0 0]) := by rw [hW1]; exact Cel.new2 W _ _ _
  have HT1 : Hid (Turn (fun g => g = b) W W1) := by rw [hW1]; exact ((Turn.refl _ W).alloc _).alloc _
  have hz1 : W1.heap.size = W.heap.size + 1 + 1 := by rw [hW1]; simp
  rw [← hW1]
  clear hW1 l0 l1
  refine Calls.mono (HB.out _) ?_
  rintro e w1 ⟨rfl, hw⟩
  obtain rfl := hw.symm
  clear hw
  have m0 : W1.cell? ⟨b, 0, none⟩ = some (.string s) := HL1.out.cell 0
  have p0 : W1.cell? ⟨W.heap.size + 1, 0, none⟩ = some (.int .i64 (i : Nat)) := HP1.out.cell 0
  have p1 : W1.cell? ⟨W.heap.size + 1, 1, none⟩ = some (.bool false) := HP1.out.cell 1
  have p2 : W1.cell? ⟨W.heap.size + 1, 2, none⟩ = some (.slice none 0 0) := HP1.out.cell 2
  have m1 : W1.cell? ⟨b, 1, none⟩ = some (.int .i64 (i : Nat)) := HL1.out.cell 1
  have pf1 := HP1.out.frozen 1
  have pf2 := HP1.out.frozen 2
  have mf1 := HL1.out.frozen 1
  have hnb : ¬ W.heap.size + 1 = b := by omega
  have hnb2 : ¬ b = W.heap.size + 1 := by omega
  have hnb3 : ¬ b = W.heap.size + 1 + 1 := by omega
  have hnb4 : ¬ W.heap.size + 1 + 1 = b := by omega
  have hnb5 : b < W.heap.size + 1 + 1 := by omega
  go_wp2_with fail
  obtain ⟨X3, hX3⟩ : ∃ X3, X3 = (((W1.setCell ⟨W.heap.size + 1, 1, none⟩ (.bool true)).setCell ⟨W.heap.size + 1, 2, none⟩ (.slice (some ⟨W.heap.size + 1 + 1, 0, none⟩) 1 1)).setCell ⟨b, 1, none⟩ (.int .i64 ((K : Int) + 1))) := ⟨_, rfl⟩
  have HL3 : Hid (Lx X3 b s (K + 1) 0 av) := by
    rw [hX3]
    exact Lx.move (j := i) ((HL1.out.other hnb2 _).other hnb2 _) (by simp)
  have HQ3 : Hid (Cel X3 W.heap.size 48 zW) := by
    rw [hX3]
    exact ((HQ1.out.other (by omega) _).other (by omega) _).other (by omega) _
  have HP3 : Hid (Cel X3 (W.heap.size + 1) 48 #[.int .i64 (i : Nat), .bool true, .slice (some ⟨W.heap.size + 1 + 1, 0, none⟩) 1 1]) := by
    rw [hX3]
    exact ((HP1.out.set (j := 1) (.bool true)).set (j := 2) (.slice (some ⟨W.heap.size + 1 + 1, 0, none⟩) 1 1)).other hnb _
  have HT3 : Hid (Turn (fun g => g = b) W X3) := by
    rw [hX3]
    exact ((HT1.out.setCell (p := ⟨W.heap.size + 1, 1, none⟩) (fun e => absurd e (by show ¬ W.heap.size + 1 < _; omega)) _).setCell (p := ⟨W.heap.size + 1, 2, none⟩) (fun e => absurd e (by show ¬ W.heap.size + 1 < _; omega)) _).setCell (p := ⟨b, 1, none⟩) (fun _ => rfl) _
  have hz3 : X3.heap.size = W.heap.size + 1 + 1 := by rw [hX3]; simp [hz1]
  rw [← hX3]
  obtain ⟨W2, hW2⟩ : ∃ W2, W2 = X3.alloc (.cells #[.int .i64 1, .int .i64 ((i : Int) + 1), .int .i64 0, .string (s.extract (i + 1) K)] 81) := ⟨_, rfl⟩
  have HL2 : Hid (Lx W2 b s (K + 1) 0 av) := by rw [hW2]; exact HL3.out.alloc _
  have HQ2 : Hid (Cel W2 W.heap.size 48 zW) := by rw [hW2]; exact HQ3.out.alloc _
  have HP2 : Hid (Cel W2 (W.heap.size + 1) 48 #[.int .i64 (i : Nat), .bool true, .slice (some ⟨W.heap.size + 1 + 1, 0, none⟩) 1 1]) := by rw [hW2]; exact HP3.out.alloc _
  have HO2 : Hid (QtOwn W2 W.heap.size (.slice (some ⟨W.heap.size + 1 + 1, 0, none⟩) 1 1) [⟨1, i + 1, 0, T⟩]) := by
    rw [hW2]
    have e := QtOwn.one X3 W.heap.size ⟨1, i + 1, 0, T⟩ (by omega)
    rw [hz3] at e
    have e3 : (ptC (⟨1, i + 1, 0, T⟩ : Pt)).toArray = #[.int .i64 1, .int .i64 ((i : Int) + 1), .int .i64 0, .string (s.extract (i + 1) K)] := by
      rw [HT.out]
      simp [ptC, str]
      exact (Lib.extract_eq s (i + 1) K).symm
    rw [e3] at e
    exact e
  have HT2 : Hid (Turn (fun g => g = b) W W2) := by rw [hW2]; exact HT3.out.alloc _
  have hz2 : W.heap.size + 1 + 1 ≤ W2.heap.size := by rw [hW2]; simp [hz3]
  rw [← hW2]
  clear hW2 hX3 HL3 HQ3 HP3 HT3 HL1 HQ1 HP1 HT1 HB HL m0 m1 p0 p1 p2 pf1 pf2 mf1
  by_cases hn : K + 1 < s.size
  · cases hq : endS.contains s[K + 1] with
    | true =>
      have HRC : Hid (closedL s.size ⟨i, true, [⟨1, i + 1, 0, T⟩]⟩ (s.data.toList.drop (K + 1)) = .ok (⟨i, true, [⟨1, i + 1, 0, T⟩]⟩, s.data.toList.drop (K + 1))) := by
        unfold Hid
        rw [drop_cons s (K + 1) hn, closedL, if_pos hq]
      refine Calls.mono (behind_yes HL2.out hs hn hq) ?_
      rintro e w3 ⟨rfl, m, hw3⟩
      have HL3 : Hid (Lx w3 b s (K + 1) 0 av) := by rw [hw3]; exact HL2.out
      have HQ3 : Hid (Cel w3 W.heap.size 48 zW) := by rw [hw3]; exact HQ2.out
      have HP3 : Hid (Cel w3 (W.heap.size + 1) 48 #[.int .i64 (i : Nat), .bool true, .slice (some ⟨W.heap.size + 1 + 1, 0, none⟩) 1 1]) := by rw [hw3]; exact HP2.out
      have HO3 : Hid (QtOwn w3 W.heap.size (.slice (some ⟨W.heap.size + 1 + 1, 0, none⟩) 1 1) [⟨1, i + 1, 0, T⟩]) := by rw [hw3]; exact HO2.out
      have HT3 : Hid (Turn (fun g => g = b) W w3) := by rw [hw3]; exact ⟨HT2.out.os, HT2.out.tape, HT2.out.output, HT2.out.size, HT2.out.block⟩
      clear hw3 HL2 HQ2 HP2 HO2 HT2 hz2
      have z0 : w3.cell? ⟨W.heap.size, 0, none⟩ = some (.int .i64 0) := HQ3.out.cell 0
      have z1 : w3.cell? ⟨W.heap.size, 1, none⟩ = some (.bool false) := HQ3.out.cell 1
      have z2 : w3.cell? ⟨W.heap.size, 2, none⟩ = some (.slice none 0 0) := HQ3.out.cell 2
      have zf0 := HQ3.out.frozen 0
      have zf1 := HQ3.out.frozen 1
      have zf2 := HQ3.out.frozen 2
      have p0 : w3.cell? ⟨W.heap.size + 1, 0, none⟩ = some (.int .i64 (i : Nat)) := HP3.out.cell 0
      have p1 : w3.cell? ⟨W.heap.size + 1, 1, none⟩ = some (.bool true) := HP3.out.cell 1
      have p2 : w3.cell? ⟨W.heap.size + 1, 2, none⟩ = some (.slice (some ⟨W.heap.size + 1 + 1, 0, none⟩) 1 1) := HP3.out.cell 2
      go_wp2_with fail
      refine bodyPost_ret (results_dword (p := 2) rfl _ _ W.heap.size _ rfl (HQ3.out.put3 _ _ _) rfl) rfl ?_
      rw [HRC.out]
      exact ⟨_, rfl, turn_put3 HT3.out (Nat.le_refl _) _ _ _, ⟨_, rfl, QtOwn.put_new HO3.out HQ3.out _ _ _⟩, K + 1, HL3.out.away3 (by omega) _ _ _, by omega, rfl⟩
    | false =>
      have HRC : Hid (closedL s.size ⟨i, true, [⟨1, i + 1, 0, T⟩]⟩ (s.data.toList.drop (K + 1)) = .error ⟨3, K + 1⟩) := by
        unfold Hid
        have hl := len_drop s (K + 1 + 1)
        rw [drop_cons s (K + 1) hn, closedL, if_neg (by rw [hq]; simp), hl, show s.size - (s.size - (K + 1 + 1) + 1) = K + 1 by omega]
      refine Calls.mono (behind_no HL2.out hs hn hq) ?_
      rintro e w3 ⟨rfl, hf⟩
      have HF1 : Hid _ := hf
      have HT3 : Hid (Turn (fun g => g = b) W2 w3) := by obtain ⟨j, fb, h1, h2, h3, h4⟩ := hf; exact h4
      have HQ3 : Hid (Cel w3 W.heap.size 48 zW) := HQ2.out.turn HT3.out (by omega)
      have HP3 : Hid (Cel w3 (W.heap.size + 1) 48 #[.int .i64 (i : Nat), .bool true, .slice (some ⟨W.heap.size + 1 + 1, 0, none⟩) 1 1]) := HP2.out.turn HT3.out (by omega)
      clear hf HL2 HQ2 HP2 HO2
      have z0 : w3.cell? ⟨W.heap.size, 0, none⟩ = some (.int .i64 0) := HQ3.out.cell 0
      have z1 : w3.cell? ⟨W.heap.size, 1, none⟩ = some (.bool false) := HQ3.out.cell 1
      have z2 : w3.cell? ⟨W.heap.size, 2, none⟩ = some (.slice none 0 0) := HQ3.out.cell 2
      have zf0 := HQ3.out.frozen 0
      have zf1 := HQ3.out.frozen 1
      have zf2 := HQ3.out.frozen 2
      have p0 : w3.cell? ⟨W.heap.size + 1, 0, none⟩ = some (.int .i64 (i : Nat)) := HP3.out.cell 0
      have p1 : w3.cell? ⟨W.heap.size + 1, 1, none⟩ = some (.bool true) := HP3.out.cell 1
      have p2 : w3.cell? ⟨W.heap.size + 1, 2, none⟩ = some (.slice (some ⟨W.heap.size + 1 + 1, 0, none⟩) 1 1) := HP3.out.cell 2
      go_wp2_with fail
      refine bodyPost_ret (results_dword (p := 2) rfl _ _ W.heap.size _ rfl (HQ3.out.put3 _ _ _) rfl) rfl ?_
      rw [HRC.out]
      obtain ⟨j, fb, h1, h2, h3, _⟩ := HF1.out
      exact ⟨_, rfl, turn_put3 (HT2.out.trans HT3.out (fun _ e _ => e)) (Nat.le_refl _) _ _ _, ⟨_, _, _, _, _, rfl⟩, j, fb, h1.away3 (by omega) _ _ _, h2.away3 (by omega) _ _ _⟩
  · have HRC : Hid (closedL s.size ⟨i, true, [⟨1, i + 1, 0, T⟩]⟩ (s.data.toList.drop (K + 1)) = .ok (⟨i, true, [⟨1, i + 1, 0, T⟩]⟩, s.data.toList.drop (K + 1))) := by
      unfold Hid
      rw [drop_none s (K + 1) hn, closedL]
    refine Calls.mono (behind_end HL2.out hs (by omega)) ?_
    rintro e w3 ⟨rfl, m, hw3⟩
    have HL3 : Hid (Lx w3 b s (K + 1) 0 av) := by rw [hw3]; exact HL2.out
    have HQ3 : Hid (Cel w3 W.heap.size 48 zW) := by rw [hw3]; exact HQ2.out
    have HP3 : Hid (Cel w3 (W.heap.size + 1) 48 #[.int .i64 (i : Nat), .bool true, .slice (some ⟨W.heap.size + 1 + 1, 0, none⟩) 1 1]) := by rw [hw3]; exact HP2.out
    have HO3 : Hid (QtOwn w3 W.heap.size (.slice (some ⟨W.heap.size + 1 + 1, 0, none⟩) 1 1) [⟨1, i + 1, 0, T⟩]) := by rw [hw3]; exact HO2.out
    have HT3 : Hid (Turn (fun g => g = b) W w3) := by rw [hw3]; exact ⟨HT2.out.os, HT2.out.tape, HT2.out.output, HT2.out.size, HT2.out.block⟩
    clear hw3 HL2 HQ2 HP2 HO2 HT2 hz2
    have z0 : w3.cell? ⟨W.heap.size, 0, none⟩ = some (.int .i64 0) := HQ3.out.cell 0
    have z1 : w3.cell? ⟨W.heap.size, 1, none⟩ = some (.bool false) := HQ3.out.cell 1
    have z2 : w3.cell? ⟨W.heap.size, 2, none⟩ = some (.slice none 0 0) := HQ3.out.cell 2
    have zf0 := HQ3.out.frozen 0
    have zf1 := HQ3.out.frozen 1
    have zf2 := HQ3.out.frozen 2
    have p0 : w3.cell? ⟨W.heap.size + 1, 0, none⟩ = some (.int .i64 (i : Nat)) := HP3.out.cell 0
    have p1 : w3.cell? ⟨W.heap.size + 1, 1, none⟩ = some (.bool true) := HP3.out.cell 1
    have p2 : w3.cell? ⟨W.heap.size + 1, 2, none⟩ = some (.slice (some ⟨W.heap.size + 1 + 1, 0, none⟩) 1 1) := HP3.out.cell 2
    go_wp2_with fail
    refine bodyPost_ret (results_dword (p := 2) rfl _ _ W.heap.size _ rfl (HQ3.out.put3 _ _ _) rfl) rfl ?_
    rw [HRC.out]
    exact ⟨_, rfl, turn_put3 HT3.out (Nat.le_refl _) _ _ _, ⟨_, rfl, QtOwn.put_new HO3.out HQ3.out _ _ _⟩, K + 1, HL3.out.away3 (by omega) _ _ _, by omega, rfl⟩
end Go.Proofs.YtlihkblllakhmaaGreatDoor
