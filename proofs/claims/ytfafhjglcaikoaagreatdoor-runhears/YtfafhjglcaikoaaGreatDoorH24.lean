/- The shell's own commands: read. -/
import Derived.Test.YtfafhjglcaikoaaGreatDoorH7
import Derived.Test.YtfafhjglcaikoaaGreatDoorH1
import Derived.Test.YtfafhjglcaikoaaGreatDoorH10
import Derived.Test.YtfafhjglcaikoaaGreatDoorH12
import Derived.Shelf.Strings.BuilderK
import Derived.Shelf.Small.Strs
import Derived.Test.YtfafhjglcaikoaaGreatDoorProg
import Derived.Lib.Strings
import Derived.Lib.TrimByte
import Derived.Laws.BitsAllLaws
import Derived.Deep.DeepCutAuto
import Derived.Deep.Light
import Derived.Deep.RegionHeld3
import Derived.Test.YtfafhjglcaikoaaGreatDoorH23
/-! The shell's own commands: what is asked of their arguments. -/
namespace Go.Proofs.YtfafhjglcaikoaaGreatDoor
open Go.RowKit Go.Shelf
attribute [local go_sem] Oper.semAt_some

/-- The bytes of the texts together. -/
def sumT (l : List (List UInt8)) : Nat := (l.map List.length).sum
theorem join_len : ∀ l : List (List UInt8), (Lib.join l [32]).length ≤ sumT l + l.length
  | [] => by simp [Lib.join, sumT]
  | [a] => by simp [Lib.join, sumT]
  | a :: b :: r => by
    have := join_len (b :: r)
    simp [Lib.join, sumT] at this ⊢
    omega
set_option maxHeartbeats 400000 in
theorem spaced_any (v : Value) (l : List (List UInt8)) (w : World) (h : Tx w v l) (hs : sumT l < 70368744177664) (hn : l.length < 70368744177664) :
    Calls Tryz.prog 152 #[v] w fun e w' => e = .returned (str (Lib.join l [32])) ∧ Below w.heap.size w w' := by
  have hj := join_len l
  have HJ : Hid (Calls Tryz.prog 204 #[v, .string ⟨#[32]⟩] w fun e w' => e = .returned (str (Lib.join l [32])) ∧ Below w.heap.size w w') := by
    by_cases hne : l = []
    · subst hne
      obtain ⟨ad, cap, rfl⟩ := h.form
      exact (Tryz.strings_Join_none ad cap _ w).mono fun e w' ⟨he, hw⟩ => ⟨he, by rw [hw]; exact Below.refl _ _⟩
    · obtain ⟨g, o, cap, rfl, h1, h2, h3⟩ := h.inRow hne
      have e1 : (l.map fun s => (⟨s.toArray⟩ : ByteArray)).map (·.data.toList) = l := by
        rw [List.map_map]
        conv => rhs; rw [← List.map_id l]
        apply List.map_congr_left
        intro x _
        simp
      have := Tryz.strings_Join g o cap (l.map fun s => ⟨s.toArray⟩) ⟨#[32]⟩ w (fun j x hx => by
        rw [List.getElem?_map] at hx
        cases hp : l[j]? with
        | none => rw [hp] at hx; simp at hx
        | some p =>
          rw [hp] at hx
          cases hx
          exact h3 j p hp) h2 (by simp; omega) (by simpa using h1) (by rw [e1]; show (Lib.join l [32]).length ≤ _; omega)
      rw [e1, List.length_map] at this
      exact this
  obtain ⟨ad, cap, rfl⟩ := h.form
  clear h hs hn hj
  go_enter Tryz.func152, Tryz.ntmps152
  go_wp2_with fail
  refine HJ.out.mono ?_
  rintro e w1 ⟨rfl, hw⟩
  go_wp2_with fail
  go_ret
  exact ⟨rfl, hw⟩
theorem two_or (l : List (List UInt8)) : (∃ a b, l = [a, b]) ∨ l.length ≠ 2 := by
  match l with
  | [] => right; simp
  | [a] => right; simp
  | [a, b] => left; exact ⟨a, b, rfl⟩
  | a :: b :: c :: r => right; simp
theorem eq_no (l : List (List UInt8)) (h : l.length ≠ 2) : eqR l = false := by
  match l with
  | [] => rfl
  | [a] => rfl
  | [a, b] => simp at h
  | a :: b :: c :: r => rfl
theorem ne2 {n : Nat} (h : n ≠ 2) : ((n : Int) == 2) = false := by rw [beq_eq_false_iff_ne]; omega
end Go.Proofs.YtfafhjglcaikoaaGreatDoor
/-! The shell's own commands: add, less, eq, like, exit, read. -/
namespace Go.Proofs.YtfafhjglcaikoaaGreatDoor
open Go.RowKit Go.Shelf
attribute [local go_sem] Oper.semAt_some

theorem valOf_small (l : List UInt8) (n : Nat) (h : T.parseV l = some n) : n < 1000000000 := by
  unfold T.parseV at h
  split at h
  · cases h
  · rename_i hh
    split at h
    · rename_i hd
      have h1 := T.valOf_lt l.length l rfl hd
      have h2 : l.length ≤ 9 := by
        rcases Nat.lt_or_ge 9 l.length with h3 | h3
        · exact absurd (.inr (.inl h3)) hh
        · exact h3
      have h3 : 10 ^ l.length ≤ 10 ^ 9 := Nat.pow_le_pow_right (by omega) h2
      cases h
      omega
    · cases h
theorem parse_small (l : List UInt8) : (T.parseV l).getD 0 < 1000000000 := by
  cases h : T.parseV l with
  | none => simp
  | some n => exact valOf_small l n h
theorem str_add (a c : List UInt8) : (⟨a.toArray⟩ : ByteArray) ++ ⟨c.toArray⟩ = ⟨(a ++ c).toArray⟩ := by
  apply ByteArray.ext
  simp
set_option maxHeartbeats 400000 in
theorem equal_cmd (v : Value) (l : List (List UInt8)) (w : World) (h : Tx w v l) (hn : l.length < 70368744177664) :
    Calls Tryz.prog 154 #[v] w fun e w' => e = .returned (.bool (eqR l)) ∧ Below w.heap.size w w' := by
  rcases two_or l with ⟨a, b, rfl⟩ | h2
  · obtain ⟨g, o, cap, rfl, hc, hg, c0, c1⟩ := h.two
    clear h
    go_enter Tryz.func154, Tryz.ntmps154
    go_wp2_with fail
    go_quiet (fail)
    go_wp2_with fail
    go_ret
    exact ⟨rfl, below_drewNB _ _⟩
  · obtain ⟨ad, cap, rfl⟩ := h.form
    have hb := ne2 h2
    rw [eq_no l h2]
    clear h h2
    go_enter Tryz.func154, Tryz.ntmps154
    go_wp2_with fail
    go_quiet (fail)
    go_wp2_with fail
    go_ret
    exact ⟨rfl, below_drewNB _ _⟩
theorem ne0 {n : Nat} (h : n ≠ 0) : ((n : Int) == 0) = false := by rw [beq_eq_false_iff_ne]; omega
set_option maxHeartbeats 400000 in
theorem ending_cmd (v : Value) (l : List (List UInt8)) (w : World) (h : Tx w v l) (hn : l.length < 70368744177664) :
    Calls Tryz.prog 155 #[v] w fun e w' => e = .returned (.int .i64 (endR l)) ∧ w' = w := by
  cases l with
  | nil =>
    obtain ⟨ad, cap, rfl⟩ := h.form
    clear h
    go_enter Tryz.func155, Tryz.ntmps155
    go_wp2_with fail
    go_ret
    exact ⟨rfl, rfl⟩
  | cons a r =>
    obtain ⟨g, o, cap, rfl, hc, hg, h4⟩ := h.inRow (by simp)
    have c0 : w.cell? ⟨g, o, none⟩ = some (str a) := h4 0 a rfl
    have hl : 1 ≤ (a :: r).length := by simp
    generalize hL : (a :: r).length = L at *
    have hb := ne0 (n := L) (by omega)
    have HP := T.parse_any ⟨a.toArray⟩ w
    rw [show (⟨a.toArray⟩ : ByteArray).data.toList = a from rfl] at HP
    have HE : Hid (endR (a :: r) = match T.parseV a with | some n => if n ≤ 255 then (n : Int) else 0 | none => 0) := rfl
    have hsm := parse_small a
    clear h h4 hL
    cases hp : T.parseV a with
    | none =>
      rw [hp] at HP HE
      have HP : Hid (Calls Tryz.prog 205 #[str a] w fun e w' => e = .returned (.tuple #[.int .i64 0, .bool false]) ∧ w' = w) := HP
      clear hp
      go_enter Tryz.func155, Tryz.ntmps155
      go_wp2_with fail
      refine HP.out.mono ?_
      rintro e w1 ⟨rfl, hw⟩
      obtain rfl := hw.symm
      go_wp2_with fail
      go_ret
      exact ⟨by rw [HE.out]; rfl, rfl⟩
    | some n =>
      rw [hp] at HP HE hsm
      have HP : Hid (Calls Tryz.prog 205 #[str a] w fun e w' => e = .returned (.tuple #[.int .i64 n, .bool true]) ∧ w' = w) := HP
      simp only [Option.getD_some] at hsm
      clear hp
      by_cases hle : n ≤ 255
      · have HE : Hid (endR (a :: r) = n) := by show endR (a :: r) = n; rw [HE.out]; simp [hle]
        have hle' : (n : Int) ≤ 255 := by omega
        go_enter Tryz.func155, Tryz.ntmps155
        go_wp2_with fail
        refine HP.out.mono ?_
        rintro e w1 ⟨rfl, hw⟩
        obtain rfl := hw.symm
        go_wp2_with fail
        go_ret
        exact ⟨by rw [HE.out]; rfl, rfl⟩
      · have HE : Hid (endR (a :: r) = 0) := by show endR (a :: r) = 0; rw [HE.out]; simp [hle]
        have hle' : ¬ (n : Int) ≤ 255 := by omega
        go_enter Tryz.func155, Tryz.ntmps155
        go_wp2_with fail
        refine HP.out.mono ?_
        rintro e w1 ⟨rfl, hw⟩
        obtain rfl := hw.symm
        go_wp2_with fail
        go_ret
        exact ⟨by rw [HE.out]; rfl, rfl⟩
end Go.Proofs.YtfafhjglcaikoaaGreatDoor
namespace Go.Proofs.YtfafhjglcaikoaaGreatDoor
open Go.RowKit Go.Shelf
attribute [local go_sem] Oper.semAt_some

theorem bcell {W w1 : World} (hb : Below W.heap.size W w1) : (∀ b o, b < W.heap.size → w1.cell? ⟨b, o, none⟩ = W.cell? ⟨b, o, none⟩) ∧ (∀ b o, b < W.heap.size → w1.frozen? ⟨b, o, none⟩ = W.frozen? ⟨b, o, none⟩) :=
  ⟨fun b o h => hb.cell (p := ⟨b, o, none⟩) h, fun b o h => hb.frozen (p := ⟨b, o, none⟩) h⟩
theorem set6 {B b : Nat} {W w : World} (v0 v1 v2 v3 v4 v5 : Value) (h : Below B W w) (hb : B ≤ b) : Below B W ((((((w.setCell ⟨b, 0, none⟩ v0).setCell ⟨b, 1, none⟩ v1).setCell ⟨b, 2, none⟩ v2).setCell ⟨b, 3, none⟩ v3).setCell ⟨b, 4, none⟩ v4).setCell ⟨b, 5, none⟩ v5) :=
  (((((h.setCell hb _).setCell hb _).setCell hb _).setCell hb _).setCell hb _).setCell hb _
theorem one_or (l : List (List UInt8)) : (∃ a, l = [a]) ∨ l.length ≠ 1 := by
  match l with
  | [] => right; simp
  | [a] => left; exact ⟨a, rfl⟩
  | a :: b :: r => right; simp
theorem ne1 {n : Nat} (h : n ≠ 1) : ((n : Int) == 1) = false := by rw [beq_eq_false_iff_ne]; omega
theorem read_no1 (inp : List UInt8) (l : List (List UInt8)) (h : l.length ≠ 1) : readR inp l = ⟨[], inp, 1, [], [], false⟩ := by
  match l with
  | [] => rfl
  | [a] => simp at h
  | a :: b :: r => rfl
set_option maxRecDepth 100000 in
set_option maxHeartbeats 800000 in
theorem read_cmd (s : ByteArray) (v : Value) (l : List (List UInt8)) (w : World) (hs : s.size < 35184372088832) (h : Tx w v l) (hn : l.length < 70368744177664) :
    Calls Tryz.prog 158 #[.string s, v] w fun e w' => e = .returned (ocV (readR s.data.toList l)) ∧ Below w.heap.size w w' := by
  rcases one_or l with ⟨a, rfl⟩ | h2
  · obtain ⟨g, o, cap, rfl, hc, hg, c0⟩ := h.oneB
    have HN : Hid (∀ W, Calls Tryz.prog 139 #[str a] W fun e w' => e = .returned (.bool (T.nameB a)) ∧ w' = W) := fun W => T.name_any ⟨a.toArray⟩ W
    have HR : Hid (readR s.data.toList [a] = if T.nameB a && !s.data.toList.isEmpty then ⟨[], restL s.data.toList, 0, a, lineL s.data.toList, false⟩ else ⟨[], s.data.toList, 1, [], [], false⟩) := rfl
    clear h hn
    cases hb : T.nameB a
    · rw [hb] at HN HR
      go_enter Tryz.func158, Tryz.ntmps158
      go_wp2_with fail
      refine (HN.out _).mono ?_
      rintro e w1 ⟨rfl, hw⟩
      obtain rfl := hw.symm
      go_wp2_with fail
      exact bodyPost_ret (v := ocV ⟨[], s.data.toList, 1, [], [], false⟩) (by simp [results, Tryz.results158, go_sem]) rfl ⟨by rw [HR.out]; rfl, (Below.refl _ _).alloc (Nat.le_refl _) _⟩
    · rw [hb] at HN HR
      by_cases h0 : s.size = 0
      · obtain rfl := T.empty_of s h0
        go_enter Tryz.func158, Tryz.ntmps158
        go_wp2_with fail
        refine (HN.out _).mono ?_
        rintro e w1 ⟨rfl, hw⟩
        obtain rfl := hw.symm
        go_wp2_with fail
        exact bodyPost_ret (v := ocV ⟨[], [], 1, [], [], false⟩) (by simp [results, Tryz.results158, go_sem]) rfl ⟨by rw [HR.out]; rfl, (Below.refl _ _).alloc (Nat.le_refl _) _⟩
      · have hne := T.nonempty_of s (by omega)
        have hne2 : s.data.toList.isEmpty = false := by rw [← ByteArray.toList_eq]; exact hne
        rw [hne2] at HR
        go_enter Tryz.func158, Tryz.ntmps158
        go_wp2_with fail
        refine (HN.out _).mono ?_
        rintro e w1 ⟨rfl, hw⟩
        obtain rfl := hw.symm
        go_wp2_with fail
        refine (cut_nl s _ hs).mono ?_
        rintro e w2 ⟨b, rfl, hw2⟩
        have c0' : w2.cell? ⟨g, o, none⟩ = some (str a) := (hw2.cell (p := ⟨g, o, none⟩) (by simp; omega)).trans (((below_new w _).cell (p := ⟨g, o, none⟩) hg).trans c0)
        obtain ⟨hc2, hf2⟩ := bcell hw2
        have hz : w.heap.size < w2.heap.size := by have := hw2.size; simp at this; omega
        go_wp2_with fail
        exact bodyPost_ret (v := ocV ⟨[], restL s.data.toList, 0, a, lineL s.data.toList, false⟩) (by simp [results, Tryz.results158, go_sem, hc2]) rfl ⟨by rw [HR.out]; rfl, set6 _ _ _ _ _ _ ((below_new w _).trans (hw2.mono (by simp))) (Nat.le_refl _)⟩
  · obtain ⟨ad, cap, rfl⟩ := h.form
    have hb := ne1 h2
    have hb1 : (l.length == 1) = false := by rw [beq_eq_false_iff_ne]; exact h2
    have hb3 : ¬ l.length = 1 := h2
    rw [read_no1 _ l h2]
    clear h h2
    go_enter Tryz.func158, Tryz.ntmps158
    go_wp2_with fail
    exact bodyPost_ret (v := ocV ⟨[], s.data.toList, 1, [], [], false⟩) (by simp [results, Tryz.results158, go_sem]) rfl ⟨rfl, (Below.refl _ _).alloc (Nat.le_refl _) _⟩
end Go.Proofs.YtfafhjglcaikoaaGreatDoor
