/- builtin.Do, name by name: add, exit, read, and what is none of them. -/
import Derived.Test.YtiddlineklfhfaaDoorDo
namespace Go.Proofs.YtiddlineklfhfaaDoor
open Go.RowKit Go.Shelf
attribute [local go_sem] Oper.semAt_some

set_option maxRecDepth 100000 in
set_option maxHeartbeats 800000 in
theorem do_add (s : ByteArray) (v : Value) (l : List (List UInt8)) (w : World) (h : Tx w v l) (hn : l.length < 35184372088832) (hP : ∀ W, Below w.heap.size w W → Pow W) :
    Calls Tryd.prog 9 #[.string ⟨#[97, 100, 100]⟩, .string s, v] w fun e w' => e = .returned (.tuple #[ocV ⟨(addR l).1, s.data.toList, (addR l).2, [], [], false⟩, .bool true]) ∧ Below w.heap.size w w' := by
  have HS : Hid (∀ W, Below w.heap.size w W → Calls Tryd.prog 17 #[v] W fun e w' => e = .returned (.tuple #[str (addR l).1, .int .i64 (addR l).2]) ∧ Below W.heap.size W w') := fun W hW => add_cmd v l W (h.below hW (Nat.le_refl _)) (by omega) (hP W hW)
  obtain ⟨ad, cap, rfl⟩ := h.form
  obtain ⟨⟨x, y⟩, hr⟩ : ∃ r, addR l = r := ⟨_, rfl⟩
  rw [hr] at HS ⊢
  simp only at HS ⊢
  clear h hr hP
  go_enter Tryd.func9, Tryd.ntmps9
  go_wp2_with fail
  refine (HS.out _ (two_new w _ _)).mono ?_
  rintro e w2 ⟨rfl, hw2⟩
  obtain ⟨hc2, hf2⟩ := bcell hw2
  go_wp2_with fail
  exact bodyPost_ret (results_oc rfl _ _ w.heap.size _ rfl ((((Cel.first hw2).other (by omega) _).other (by omega) _).six _ _ _ _ _ _) rfl) rfl ⟨rfl, set7 _ _ _ _ _ _ _ (((two_new w _ _).trans (hw2.mono (by simp; omega))).setCell (by simp) _) (by simp) (Nat.le_refl _)⟩
set_option maxRecDepth 100000 in
set_option maxHeartbeats 800000 in
theorem do_exit (s : ByteArray) (v : Value) (l : List (List UInt8)) (w : World) (h : Tx w v l) (hn : l.length < 35184372088832) :
    Calls Tryd.prog 9 #[.string ⟨#[101, 120, 105, 116]⟩, .string s, v] w fun e w' => e = .returned (.tuple #[ocV ⟨[], s.data.toList, endR l, [], [], true⟩, .bool true]) ∧ Below w.heap.size w w' := by
  have HS : Hid (∀ W, Below w.heap.size w W → Calls Tryd.prog 21 #[v] W fun e w' => e = .returned (.int .i64 (endR l)) ∧ w' = W) := fun W hW => ending_cmd v l W (h.below hW (Nat.le_refl _)) (by omega)
  obtain ⟨ad, cap, rfl⟩ := h.form
  obtain ⟨r, hr⟩ : ∃ r, endR l = r := ⟨_, rfl⟩
  rw [hr] at HS ⊢
  clear h hr
  go_enter Tryd.func9, Tryd.ntmps9
  go_wp2_with fail
  refine (HS.out _ (two_new w _ _)).mono ?_
  rintro e w2 ⟨rfl, hw2⟩
  obtain rfl := hw2.symm
  go_wp2_with fail
  exact bodyPost_ret (v := .tuple #[ocV ⟨[], s.data.toList, r, [], [], true⟩, .bool true]) (by simp [results, Tryd.results9, go_sem]) rfl ⟨rfl, two_new w _ _⟩
set_option maxRecDepth 100000 in
set_option maxHeartbeats 800000 in
theorem do_read (s : ByteArray) (v : Value) (l : List (List UInt8)) (w : World) (h : Tx w v l) (hn : l.length < 35184372088832) (hz : s.size < 35184372088832) :
    Calls Tryd.prog 9 #[.string ⟨#[114, 101, 97, 100]⟩, .string s, v] w fun e w' => e = .returned (.tuple #[ocV (readR s.data.toList l), .bool true]) ∧ Below w.heap.size w w' := by
  have HS : Hid (∀ W, Below w.heap.size w W → Calls Tryd.prog 24 #[.string s, v] W fun e w' => e = .returned (ocV (readR s.data.toList l)) ∧ Below W.heap.size W w') := fun W hW => read_cmd s v l W hz (h.below hW (Nat.le_refl _)) (by omega)
  obtain ⟨ad, cap, rfl⟩ := h.form
  obtain ⟨⟨o0, o1, o2, o3, o4, o5⟩, hr⟩ : ∃ r, readR s.data.toList l = r := ⟨_, rfl⟩
  rw [hr] at HS ⊢
  clear h hr
  go_enter Tryd.func9, Tryd.ntmps9
  go_wp2_with fail
  refine (HS.out _ (two_new w _ _)).mono ?_
  rintro e w2 ⟨rfl, hw2⟩
  obtain ⟨hc2, hf2⟩ := bcell hw2
  go_wp2_with fail
  exact bodyPost_ret (results_oc rfl _ _ w.heap.size _ rfl (((((((((Cel.first hw2).other (by omega) _).other (by omega) _).other (by omega) _).other (by omega) _).other (by omega) _).other (by omega) _)).six _ _ _ _ _ _) rfl) rfl ⟨rfl, set6 _ _ _ _ _ _ (set6 _ _ _ _ _ _ ((two_new w _ _).trans (hw2.mono (by simp; omega))) (by simp)) (Nat.le_refl _)⟩
set_option maxRecDepth 100000 in
set_option maxHeartbeats 800000 in
theorem do_none (nm s : ByteArray) (v : Value) (l : List (List UInt8)) (w : World) (h : Tx w v l) (h0 : (nm.toList == [97, 100, 100]) = false) (h1 : (nm.toList == [99, 97, 116]) = false) (h2 : (nm.toList == [101, 99, 104, 111]) = false) (h3 : (nm.toList == [101, 113]) = false) (h4 : (nm.toList == [101, 120, 105, 116]) = false) (h5 : (nm.toList == [102, 97, 108, 115, 101]) = false) (h6 : (nm.toList == [108, 101, 115, 115]) = false) (h7 : (nm.toList == [108, 105, 107, 101]) = false) (h8 : (nm.toList == [112, 117, 116]) = false) (h9 : (nm.toList == [114, 101, 97, 100]) = false) (h10 : (nm.toList == [116, 114, 117, 101]) = false) :
    Calls Tryd.prog 9 #[.string nm, .string s, v] w fun e w' => e = .returned (.tuple #[ocV ⟨[], [], 0, [], [], false⟩, .bool false]) ∧ Below w.heap.size w w' := by
  obtain ⟨ad, cap, rfl⟩ := h.form
  clear h
  go_enter Tryd.func9, Tryd.ntmps9
  go_wp2_with fail
  exact bodyPost_ret (v := .tuple #[ocV ⟨[], [], 0, [], [], false⟩, .bool false]) (by simp [results, Tryd.results9, go_sem]) rfl ⟨rfl, two_new w _ _⟩
end Go.Proofs.YtiddlineklfhfaaDoor
