/- builtin.Do, name by name. -/
import Derived.Test.YtfafhjglcaikoaaGreatDoorH24
namespace Go.Proofs.YtfafhjglcaikoaaGreatDoor
open Go.RowKit Go.Shelf
attribute [local go_sem] Oper.semAt_some

theorem two_newB (w : World) (a b : Obj) : Below w.heap.size w ((w.alloc a).alloc b) := (below_new w _).trans ((below_new _ _).mono (by simp))
theorem set7B {B b c j : Nat} {W w : World} (u v0 v1 v2 v3 v4 v5 : Value) (h : Below B W w) (hc : B ≤ c) (hb : B ≤ b) : Below B W (((((((w.setCell ⟨c, j, none⟩ u).setCell ⟨b, 0, none⟩ v0).setCell ⟨b, 1, none⟩ v1).setCell ⟨b, 2, none⟩ v2).setCell ⟨b, 3, none⟩ v3).setCell ⟨b, 4, none⟩ v4).setCell ⟨b, 5, none⟩ v5) :=
  set6 _ _ _ _ _ _ (h.setCell hc _) hb
theorem size25 : (Tryz.prog.info? 188).map (·.size) = some 6 := by kernel_rfl
theorem results_oc {fn : Func} {p u : Tmp} (h : fn.results = #[.cell p 188, .tmp u]) (tmps : Array Value) (w : World) (g : Nat) (cs : Array Value) (hp : tmps.getD p undef = .pointer (some ⟨g, 0, none⟩)) (hc : Cel w g 188 cs) (hz : cs.size = 6) :
    (results fn tmps).run Tryz.prog w = .ok (.tuple #[.agg cs, tmps.getD u undef]) w := by
  rw [results_cell_tmp h, hp]
  simp only [asAddr, Sem.run_pure, Result.andThen]
  rw [run_loadVar_row w g 188 188 cs (0, 0) _ hc Tryz.underlying188 rfl (by rw [hz]; exact size25)]
theorem Cel.six {W : World} {b : Nat} {t : TypeId} {z0 z1 z2 z3 z4 z5 : Value} (h : Cel W b t #[z0, z1, z2, z3, z4, z5]) (v0 v1 v2 v3 v4 v5 : Value) : Cel ((((((W.setCell ⟨b, 0, none⟩ v0).setCell ⟨b, 1, none⟩ v1).setCell ⟨b, 2, none⟩ v2).setCell ⟨b, 3, none⟩ v3).setCell ⟨b, 4, none⟩ v4).setCell ⟨b, 5, none⟩ v5) b t #[v0, v1, v2, v3, v4, v5] := by
  have k0 : Cel (W.setCell ⟨b, 0, none⟩ v0) b t #[v0, z1, z2, z3, z4, z5] := h.set v0
  have k1 : Cel ((W.setCell ⟨b, 0, none⟩ v0).setCell ⟨b, 1, none⟩ v1) b t #[v0, v1, z2, z3, z4, z5] := k0.set v1
  have k2 := k1.set (j := 2) v2
  have k2 : Cel (((W.setCell ⟨b, 0, none⟩ v0).setCell ⟨b, 1, none⟩ v1).setCell ⟨b, 2, none⟩ v2) b t #[v0, v1, v2, z3, z4, z5] := k2
  have k3 : Cel ((((W.setCell ⟨b, 0, none⟩ v0).setCell ⟨b, 1, none⟩ v1).setCell ⟨b, 2, none⟩ v2).setCell ⟨b, 3, none⟩ v3) b t #[v0, v1, v2, v3, z4, z5] := k2.set (j := 3) v3
  have k4 : Cel (((((W.setCell ⟨b, 0, none⟩ v0).setCell ⟨b, 1, none⟩ v1).setCell ⟨b, 2, none⟩ v2).setCell ⟨b, 3, none⟩ v3).setCell ⟨b, 4, none⟩ v4) b t #[v0, v1, v2, v3, v4, z5] := k3.set (j := 4) v4
  exact k4.set (j := 5) v5
abbrev zeroC : Array Value := #[.string ⟨#[]⟩, .string ⟨#[]⟩, .int .i64 0, .string ⟨#[]⟩, .string ⟨#[]⟩, .bool false]
theorem Cel.first {w w2 : World} {o : Obj} (h : Below ((w.alloc (.cells zeroC 188)).alloc o).heap.size ((w.alloc (.cells zeroC 188)).alloc o) w2) : Cel w2 w.heap.size 188 zeroC :=
  Cel.below ((Cel.new w 188 _).alloc _) h (by simp; omega)
set_option maxRecDepth 100000 in
set_option maxHeartbeats 800000 in
theorem do_echo (s : ByteArray) (v : Value) (l : List (List UInt8)) (w : World) (h : Tx w v l) (hs : sumT l < 35184372088832) (hn : l.length < 35184372088832) :
    Calls Tryz.prog 111 #[.string ⟨#[101, 99, 104, 111]⟩, .string s, v] w fun e w' => e = .returned (.tuple #[ocV ⟨Lib.join l [32] ++ [10], s.data.toList, 0, [], [], false⟩, .bool true]) ∧ Below w.heap.size w w' := by
  have hj := join_len l
  have HS : Hid (∀ W, Below w.heap.size w W → Calls Tryz.prog 152 #[v] W fun e w' => e = .returned (str (Lib.join l [32])) ∧ Below W.heap.size W w') := fun W hW => spaced_any v l W (h.below hW (Nat.le_refl _)) (by omega) (by omega)
  obtain ⟨ad, cap, rfl⟩ := h.form
  obtain ⟨J, hJ⟩ : ∃ J, Lib.join l [32] = J := ⟨_, rfl⟩
  rw [hJ] at HS hj ⊢
  clear h hJ
  go_enter Tryz.func111, Tryz.ntmps111
  go_wp2_with fail
  refine (HS.out _ (two_newB w _ _)).mono ?_
  rintro e w2 ⟨rfl, hw2⟩
  obtain ⟨hc2, hf2⟩ := bcell hw2
  go_wp2_with fail
  exact bodyPost_ret (results_oc rfl _ _ w.heap.size _ rfl (((Cel.first hw2).other (by omega) _).six _ _ _ _ _ _) rfl) rfl ⟨by rw [str_add]; rfl, set7B _ _ _ _ _ _ _ ((two_newB w _ _).trans (hw2.mono (by simp; omega))) (by simp) (Nat.le_refl _)⟩
set_option maxRecDepth 100000 in
set_option maxHeartbeats 800000 in
theorem do_put (s : ByteArray) (v : Value) (l : List (List UInt8)) (w : World) (h : Tx w v l) (hs : sumT l < 35184372088832) (hn : l.length < 35184372088832) :
    Calls Tryz.prog 111 #[.string ⟨#[112, 117, 116]⟩, .string s, v] w fun e w' => e = .returned (.tuple #[ocV ⟨Lib.join l [32], s.data.toList, 0, [], [], false⟩, .bool true]) ∧ Below w.heap.size w w' := by
  have hj := join_len l
  have HS : Hid (∀ W, Below w.heap.size w W → Calls Tryz.prog 152 #[v] W fun e w' => e = .returned (str (Lib.join l [32])) ∧ Below W.heap.size W w') := fun W hW => spaced_any v l W (h.below hW (Nat.le_refl _)) (by omega) (by omega)
  obtain ⟨ad, cap, rfl⟩ := h.form
  obtain ⟨J, hJ⟩ : ∃ J, Lib.join l [32] = J := ⟨_, rfl⟩
  rw [hJ] at HS hj ⊢
  clear h hJ
  go_enter Tryz.func111, Tryz.ntmps111
  go_wp2_with fail
  refine (HS.out _ (two_newB w _ _)).mono ?_
  rintro e w2 ⟨rfl, hw2⟩
  obtain ⟨hc2, hf2⟩ := bcell hw2
  go_wp2_with fail
  exact bodyPost_ret (results_oc rfl _ _ w.heap.size _ rfl (((Cel.first hw2).other (by omega) _).six _ _ _ _ _ _) rfl) rfl ⟨rfl, set7B _ _ _ _ _ _ _ ((two_newB w _ _).trans (hw2.mono (by simp; omega))) (by simp) (Nat.le_refl _)⟩
set_option maxRecDepth 100000 in
set_option maxHeartbeats 800000 in
theorem do_cat (s : ByteArray) (v : Value) (l : List (List UInt8)) (w : World) (h : Tx w v l) :
    Calls Tryz.prog 111 #[.string ⟨#[99, 97, 116]⟩, .string s, v] w fun e w' => e = .returned (.tuple #[ocV ⟨s.data.toList, [], 0, [], [], false⟩, .bool true]) ∧ Below w.heap.size w w' := by
  obtain ⟨ad, cap, rfl⟩ := h.form
  clear h
  go_enter Tryz.func111, Tryz.ntmps111
  go_wp2_with fail
  exact bodyPost_ret (v := .tuple #[ocV ⟨s.data.toList, [], 0, [], [], false⟩, .bool true]) (by simp [results, Tryz.results111, go_sem]) rfl ⟨rfl, two_newB w _ _⟩
set_option maxRecDepth 100000 in
set_option maxHeartbeats 800000 in
theorem do_true (s : ByteArray) (v : Value) (l : List (List UInt8)) (w : World) (h : Tx w v l) :
    Calls Tryz.prog 111 #[.string ⟨#[116, 114, 117, 101]⟩, .string s, v] w fun e w' => e = .returned (.tuple #[ocV ⟨[], s.data.toList, 0, [], [], false⟩, .bool true]) ∧ Below w.heap.size w w' := by
  obtain ⟨ad, cap, rfl⟩ := h.form
  clear h
  go_enter Tryz.func111, Tryz.ntmps111
  go_wp2_with fail
  exact bodyPost_ret (v := .tuple #[ocV ⟨[], s.data.toList, 0, [], [], false⟩, .bool true]) (by simp [results, Tryz.results111, go_sem]) rfl ⟨rfl, two_newB w _ _⟩
set_option maxRecDepth 100000 in
set_option maxHeartbeats 800000 in
theorem do_false (s : ByteArray) (v : Value) (l : List (List UInt8)) (w : World) (h : Tx w v l) :
    Calls Tryz.prog 111 #[.string ⟨#[102, 97, 108, 115, 101]⟩, .string s, v] w fun e w' => e = .returned (.tuple #[ocV ⟨[], s.data.toList, 1, [], [], false⟩, .bool true]) ∧ Below w.heap.size w w' := by
  obtain ⟨ad, cap, rfl⟩ := h.form
  clear h
  go_enter Tryz.func111, Tryz.ntmps111
  go_wp2_with fail
  exact bodyPost_ret (v := .tuple #[ocV ⟨[], s.data.toList, 1, [], [], false⟩, .bool true]) (by simp [results, Tryz.results111, go_sem]) rfl ⟨rfl, two_newB w _ _⟩
set_option maxRecDepth 100000 in
set_option maxHeartbeats 800000 in
theorem do_eq (s : ByteArray) (v : Value) (l : List (List UInt8)) (w : World) (h : Tx w v l) (hn : l.length < 35184372088832) :
    Calls Tryz.prog 111 #[.string ⟨#[101, 113]⟩, .string s, v] w fun e w' => e = .returned (.tuple #[ocV ⟨[], s.data.toList, stB (eqR l), [], [], false⟩, .bool true]) ∧ Below w.heap.size w w' := by
  have HS : Hid (∀ W, Below w.heap.size w W → Calls Tryz.prog 154 #[v] W fun e w' => e = .returned (.bool (eqR l)) ∧ Below W.heap.size W w') := fun W hW => equal_cmd v l W (h.below hW (Nat.le_refl _)) (by omega)
  obtain ⟨ad, cap, rfl⟩ := h.form
  obtain ⟨r, hr⟩ : ∃ r, eqR l = r := ⟨_, rfl⟩
  rw [hr] at HS ⊢
  clear h hr
  go_enter Tryz.func111, Tryz.ntmps111
  go_wp2_with fail
  refine (HS.out _ (two_newB w _ _)).mono ?_
  rintro e w2 ⟨rfl, hw2⟩
  obtain ⟨hc2, hf2⟩ := bcell hw2
  go_wp2_with fail
  refine (status_any _ _).mono ?_
  rintro e w3 ⟨rfl, hw3⟩
  obtain rfl := hw3.symm
  go_wp2_with fail
  exact bodyPost_ret (results_oc rfl _ _ w.heap.size _ rfl (((Cel.first hw2).other (by omega) _).six _ _ _ _ _ _) rfl) rfl ⟨rfl, set7B _ _ _ _ _ _ _ ((two_newB w _ _).trans (hw2.mono (by simp; omega))) (by simp) (Nat.le_refl _)⟩
end Go.Proofs.YtfafhjglcaikoaaGreatDoor
