/- The shell's own commands: read. -/
import Derived.Test.YtiddlineklfhfaaDoorFns3
namespace Go.Proofs.YtiddlineklfhfaaDoor
open Go.RowKit Go.Shelf
attribute [local go_sem] Oper.semAt_some

theorem bcell {W w1 : World} (hb : Below W.heap.size W w1) : (∀ b o, b < W.heap.size → w1.cell? ⟨b, o, none⟩ = W.cell? ⟨b, o, none⟩) ∧ (∀ b o, b < W.heap.size → w1.frozen? ⟨b, o, none⟩ = W.frozen? ⟨b, o, none⟩) :=
  ⟨fun b o h => hb.cell (p := ⟨b, o, none⟩) h, fun b o h => hb.frozen (p := ⟨b, o, none⟩) h⟩
theorem below_new (W : World) (o : Obj) : Below W.heap.size W (W.alloc o) := (Below.refl _ W).alloc (Nat.le_refl _) _
theorem set6 {B b : Nat} {W w : World} (v0 v1 v2 v3 v4 v5 : Value) (h : Below B W w) (hb : B ≤ b) : Below B W ((((((w.setCell ⟨b, 0, none⟩ v0).setCell ⟨b, 1, none⟩ v1).setCell ⟨b, 2, none⟩ v2).setCell ⟨b, 3, none⟩ v3).setCell ⟨b, 4, none⟩ v4).setCell ⟨b, 5, none⟩ v5) :=
  (((((h.setCell hb _).setCell hb _).setCell hb _).setCell hb _).setCell hb _).setCell hb _
theorem one_or (l : List (List UInt8)) : (∃ a, l = [a]) ∨ l.length ≠ 1 := by
  match l with
  | [] => right; simp
  | [a] => left; exact ⟨a, rfl⟩
  | a :: b :: r => right; simp
theorem ne1 {n : Nat} (h : n ≠ 1) : ((n : Int) == 1) = false := by rw [beq_eq_false_iff_ne]; omega
theorem read_no1 (inp : List UInt8) (l : List (List UInt8)) (h : l.length ≠ 1) : readR inp l = ⟨[], inp, 1, [], [], false⟩ := by
  match l with
  | [] => rfl
  | [a] => simp at h
  | a :: b :: r => rfl
set_option maxRecDepth 100000 in
set_option maxHeartbeats 800000 in
theorem read_cmd (s : ByteArray) (v : Value) (l : List (List UInt8)) (w : World) (hs : s.size < 35184372088832) (h : Tx w v l) (hn : l.length < 70368744177664) :
    Calls Tryd.prog 24 #[.string s, v] w fun e w' => e = .returned (ocV (readR s.data.toList l)) ∧ Below w.heap.size w w' := by
  rcases one_or l with ⟨a, rfl⟩ | h2
  · obtain ⟨g, o, cap, rfl, hc, hg, c0⟩ := h.one
    have HN : Hid (∀ W, Calls Tryd.prog 36 #[str a] W fun e w' => e = .returned (.bool (T.nameB a)) ∧ w' = W) := fun W => T.name_any ⟨a.toArray⟩ W
    have HR : Hid (readR s.data.toList [a] = if T.nameB a && !s.data.toList.isEmpty then ⟨[], restL s.data.toList, 0, a, lineL s.data.toList, false⟩ else ⟨[], s.data.toList, 1, [], [], false⟩) := rfl
    clear h hn
    cases hb : T.nameB a
    · rw [hb] at HN HR
      go_enter Tryd.func24, Tryd.ntmps24
      go_wp2_with fail
      refine (HN.out _).mono ?_
      rintro e w1 ⟨rfl, hw⟩
      obtain rfl := hw.symm
      go_wp2_with fail
      exact bodyPost_ret (v := ocV ⟨[], s.data.toList, 1, [], [], false⟩) (by simp [results, Tryd.results24, go_sem]) rfl ⟨by rw [HR.out]; rfl, (Below.refl _ _).alloc (Nat.le_refl _) _⟩
    · rw [hb] at HN HR
      by_cases h0 : s.size = 0
      · obtain rfl := T.empty_of s h0
        go_enter Tryd.func24, Tryd.ntmps24
        go_wp2_with fail
        refine (HN.out _).mono ?_
        rintro e w1 ⟨rfl, hw⟩
        obtain rfl := hw.symm
        go_wp2_with fail
        exact bodyPost_ret (v := ocV ⟨[], [], 1, [], [], false⟩) (by simp [results, Tryd.results24, go_sem]) rfl ⟨by rw [HR.out]; rfl, (Below.refl _ _).alloc (Nat.le_refl _) _⟩
      · have hne := T.nonempty_of s (by omega)
        have hne2 : s.data.toList.isEmpty = false := by rw [← ByteArray.toList_eq]; exact hne
        rw [hne2] at HR
        go_enter Tryd.func24, Tryd.ntmps24
        go_wp2_with fail
        refine (HN.out _).mono ?_
        rintro e w1 ⟨rfl, hw⟩
        obtain rfl := hw.symm
        go_wp2_with fail
        refine (cut_nl s _ hs).mono ?_
        rintro e w2 ⟨b, rfl, hw2⟩
        have c0' : w2.cell? ⟨g, o, none⟩ = some (str a) := (hw2.cell (p := ⟨g, o, none⟩) (by simp; omega)).trans (((below_new w _).cell (p := ⟨g, o, none⟩) hg).trans c0)
        obtain ⟨hc2, hf2⟩ := bcell hw2
        have hz : w.heap.size < w2.heap.size := by have := hw2.size; simp at this; omega
        go_wp2_with fail
        exact bodyPost_ret (v := ocV ⟨[], restL s.data.toList, 0, a, lineL s.data.toList, false⟩) (by simp [results, Tryd.results24, go_sem, hc2]) rfl ⟨by rw [HR.out]; rfl, set6 _ _ _ _ _ _ ((below_new w _).trans (hw2.mono (by simp))) (Nat.le_refl _)⟩
  · obtain ⟨ad, cap, rfl⟩ := h.form
    have hb := ne1 h2
    have hb1 : (l.length == 1) = false := by rw [beq_eq_false_iff_ne]; exact h2
    have hb3 : ¬ l.length = 1 := h2
    rw [read_no1 _ l h2]
    clear h h2
    go_enter Tryd.func24, Tryd.ntmps24
    go_wp2_with fail
    exact bodyPost_ret (v := ocV ⟨[], s.data.toList, 1, [], [], false⟩) (by simp [results, Tryd.results24, go_sem]) rfl ⟨rfl, (Below.refl _ _).alloc (Nat.le_refl _) _⟩
end Go.Proofs.YtiddlineklfhfaaDoor
