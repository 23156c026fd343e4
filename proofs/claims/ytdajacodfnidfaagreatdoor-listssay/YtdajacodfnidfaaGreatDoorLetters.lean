/- The iterator over the letters of a text. -/
import Derived.Test.YtdajacodfnidfaaGreatDoorLeaf
import Derived.Test.YtdajacodfnidfaaGreatDoorRange
namespace Go.Proofs.YtdajacodfnidfaaGreatDoor
open Go.RowKit Go.Shelf
attribute [local go_sem] Oper.semAt_some

set_option maxHeartbeats 400000 in
theorem letters_any (s : ByteArray) (w : World) :
    Calls Tryz.prog 60 #[.string s] w fun e w' => e = .returned (.func (.func 85) #[] #[.pointer (some ⟨w.heap.size, 0, none⟩)]) ∧ w' = w.alloc (.cells #[.string s] 9) := by
  go_enter Tryz.func60, Tryz.ntmps60
  go_wp2
  go_ret
  exact ⟨rfl, rfl⟩

abbrev encL (x : Nat × Lt) : Array Value := #[.int .i64 x.1, ltV x.2]

theorem cell_of_block {A B : World} {b : Nat} (h : B.heap[b]? = A.heap[b]?) (o : Nat) : B.cell? ⟨b, o, none⟩ = A.cell? ⟨b, o, none⟩ := World.cell?_of_block h

theorem lt_of_cell {w : World} {b o : Nat} {v : Value} (h : w.cell? ⟨b, o, none⟩ = some v) : b < w.heap.size := block_lt_of_cell h
theorem extract_tail (s : ByteArray) (i : Nat) : (s.extract i s.size).data.toList = s.data.toList.drop i := by
  rw [Lib.extract_data, List.take_of_length_le (by simp)]

set_option maxRecDepth 100000 in
set_option maxHeartbeats 2000000 in
theorem letters1_in (n : Nat) (hn : 1 ≤ n) (l b : Nat) (s : ByteArray) (hs : s.size < 4611686018427387904) (J : Nat → World → Prop) (hJ : ∀ k A B, J k A → Below A.heap.size A B → J k B)
    (hY : ∀ k x W1, (placed 0 s.data.toList)[k]? = some x → J k W1 → YieldAt Fence.wide (n - 1) Tryz.prog l (encL x) W1 fun e W' => e = .returned (.bool true) ∧ J (k + 1) W' ∧ W'.heap[b]? = W1.heap[b]?)
    (W : World) (hb : W.cell? ⟨b, 0, none⟩ = some (.string s)) (h0 : J 0 W) :
    CallsIn Fence.wide n Tryz.prog 85 #[.func (.yield l) #[] #[], .pointer (some ⟨b, 0, none⟩)] W fun e W' => (∃ v, e = .returned v) ∧ J (placed 0 s.data.toList).length W' := by
  refine callsIn_of_wp Tryz.func85 rfl trivial ?_ rfl
  simp only [Tryz.ntmps85, List.size_toArray, List.length_cons, List.length_nil, Nat.reduceAdd, Nat.reduceSub, Array.replicate_succ, Array.replicate_zero, List.push_toArray, List.append_toArray, List.nil_append, List.cons_append]
  gi_wp2
  gi_loopw [3, 4, 5] (fun vi _ _ wr => ∃ i k : Nat, vi = .int .i64 i ∧ i ≤ s.size ∧ k ≤ (placed 0 s.data.toList).length ∧ Hid ((placed 0 s.data.toList).drop k = placed i (s.data.toList.drop i)) ∧ wr.cell? ⟨b, 0, none⟩ = some (.string s) ∧ J k wr)
    (fun vi _ _ _ => s.size - (intOf vi).toNat)
  case atStart =>
    exact ⟨0, 0, rfl, by omega, by omega, by simp [Hid], hb, h0⟩
  case round =>
    obtain ⟨i, k, rfl, hi, hkl, hd, hc, hj⟩ := hrel
    by_cases hlt : i < s.size
    · obtain ⟨x, hx⟩ : ∃ x, headL (s.data.toList.drop i) = x := ⟨_, rfl⟩
      obtain ⟨d, hdw⟩ : ∃ d, headW (s.data.toList.drop i) = d := ⟨_, rfl⟩
      have EX : Hid ((s.extract i s.size).data.toList = s.data.toList.drop i) := extract_tail s i
      have hne : s.data.toList.drop i ≠ [] := by intro h; have := List.drop_eq_nil_iff.1 h; simp at this; omega
      have hd1 : 1 ≤ d := by rw [← hdw]; exact headW_pos _
      have hd2 : i + d ≤ s.size := by have := headW_le _ hne; rw [hdw] at this; simp at this; omega
      have st := placed_step i _ hne
      rw [hx, hdw, List.drop_drop] at st
      have hd' := hd.out
      rw [st] at hd'
      have hget : (placed 0 s.data.toList)[k]? = some (i, x) := by
        have := congrArg (fun l => l[0]?) hd'
        simpa [List.getElem?_drop] using this
      have hdrop : Hid ((placed 0 s.data.toList).drop (k + 1) = placed (i + d) (s.data.toList.drop (i + d))) := by
        have := congrArg List.tail hd'
        unfold Hid
        simpa using this
      clear st hd' hne
      have hkl' : k + 1 ≤ (placed 0 s.data.toList).length := (List.getElem?_eq_some_iff.1 hget).1
      have HX : Hid _ := hx
      have HW : Hid _ := hdw
      have HG : Hid _ := hget
      clear hx hdw hget hd
      have hz : 0 < (s.extract i s.size).size := by rw [ByteArray.size_extract]; omega
      have HZ : Hid _ := hz
      clear hz
      gi_wp2
      refine ⟨trivial, ?_⟩
      refine (callsIn_wide.2 (letterOf_any _ _ HZ.out)).mono ?_
      rintro e w1 ⟨rfl, hb1⟩
      rw [EX.out, HX.out, HW.out]
      have hc1 := (hb1.cell (p := ⟨b, 0, none⟩) (lt_of_cell hc)).trans hc
      obtain ⟨fn, tmps, assign, body, hy, hR⟩ := hY k (i, x) _ HG.out (hJ k wr (w1.alloc (.cells #[.int .u8 x.1.toNat, .bool x.2] 70)) hj (hb1.alloc hb1.size _))
      dsimp only [encL] at hy
      gi_wp2
      refine hR.mono ?_
      rintro e W3 ⟨rfl, hj3, hk3⟩
      have hc3 : W3.cell? ⟨b, 0, none⟩ = some (.string s) := by
        rw [cell_of_block hk3, cell_of_block (Below.heap_alloc w1 _ b (lt_of_cell hc1))]; exact hc1
      clear hc hc1 hy hR
      gi_wp2
      go_roundw
      case rel => exact ⟨i + d, k + 1, by simp, hd2, hkl', hdrop, hc3, hj3⟩
      case measure => simp [intOf]; omega
    · gi_wp2
      go_end0
      refine ⟨⟨_, rfl⟩, ?_⟩
      have hi' : i = s.size := by omega
      have h2 := hd.out
      rw [hi', List.drop_eq_nil_of_le (by simp : s.data.toList.length ≤ s.size), placed_nil] at h2
      have h3 := List.drop_eq_nil_iff.1 h2
      rw [show (placed 0 s.data.toList).length = k by omega]
      exact hj

/-- What letters(s) hands back promises each letter, with its place. -/
theorem letters_each (n : Nat) (hn : 1 ≤ n) (b : Nat) (s : ByteArray) (hs : s.size < 4611686018427387904) (w : World) (hb : w.cell? ⟨b, 0, none⟩ = some (.string s)) :
    Each Fence.wide n Tryz.prog 85 #[.pointer (some ⟨b, 0, none⟩)] encL (placed 0 s.data.toList) b w := fun l J W hW hJ hY h0 =>
  letters1_in n hn l b s hs J hJ hY W ((hW.cell (p := ⟨b, 0, none⟩) (lt_of_cell hb)).trans hb) h0
end Go.Proofs.YtdajacodfnidfaaGreatDoor
