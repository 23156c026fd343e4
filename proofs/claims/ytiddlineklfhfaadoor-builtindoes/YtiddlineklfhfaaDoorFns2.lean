/- The shell's own commands: what is asked of their arguments. -/
import Derived.Test.YtiddlineklfhfaaDoorFns
namespace Go.Proofs.YtiddlineklfhfaaDoor
open Go.RowKit Go.Shelf
attribute [local go_sem] Oper.semAt_some

theorem pcs_length : ∀ (n : Nat) (L : List Lt), L.length ≤ n → (pcs L).length ≤ L.length
  | 0, L, h => by
    have : L = [] := List.eq_nil_of_length_eq_zero (by omega)
    subst this; simp [pcs]
  | n + 1, [], _ => by simp [pcs]
  | n + 1, x :: r, h => by
    rw [pcs]
    have h1 := pcs_length n r (by simpa using h)
    split
    · simp; omega
    · split
      · simp; omega
      · split
        · rename_i k _
          have h2 := pcs_length n (r.drop (k + 2)) (by simp at h ⊢; omega)
          simp at h2 ⊢; omega
        · simp; omega
/-- What matching comes to. -/
def matchL (p s : List UInt8) : Bool := mt (pcs (letts p)) s
set_option maxRecDepth 100000 in
set_option maxHeartbeats 1000000 in
theorem match_any (p s : ByteArray) (hp : p.size < 4294967296) (hs : s.size < 4294967296) (w : World) :
    Calls Tryd.prog 16 #[.string p, .string s] w fun e w' => e = .returned (.bool (matchL p.data.toList s.data.toList)) ∧ Below w.heap.size w w' := by
  have hlen : (pcs (letts p.data.toList)).length < 4294967296 := by
    have h1 := pcs_length _ (letts p.data.toList) (Nat.le_refl _)
    have h2 := letts_length_le p.data.toList
    simp at h2; omega
  obtain ⟨l, hl⟩ : ∃ l, pcs (letts p.data.toList) = l := ⟨_, rfl⟩
  have HL : Hid _ := hl
  unfold matchL
  rw [hl] at hlen ⊢
  clear hl
  go_enter Tryd.func16, Tryd.ntmps16
  go_wp2_with fail
  refine (pieces_any p hp _).mono ?_
  rintro e w1 ⟨v, rfl, ho, hb1⟩
  rw [HL.out] at ho
  obtain ⟨g, ad, cap, rfl, had, hcap, hpc, hg⟩ := PcAt.owned ho
  go_wp2_with fail
  refine (matches_any g cap ad l s hs hlen had hcap _ hpc hg).mono ?_
  rintro e w2 ⟨rfl, hb2⟩
  go_wp2
  go_ret
  exact ⟨rfl, hb1.trans (hb2.mono hb1.size)⟩
/-- The bytes of the texts together. -/
def sumT (l : List (List UInt8)) : Nat := (l.map List.length).sum
theorem join_len : ∀ l : List (List UInt8), (Lib.join l [32]).length ≤ sumT l + l.length
  | [] => by simp [Lib.join, sumT]
  | [a] => by simp [Lib.join, sumT]
  | a :: b :: r => by
    have := join_len (b :: r)
    simp [Lib.join, sumT] at this ⊢
    omega
set_option maxHeartbeats 400000 in
theorem spaced_any (v : Value) (l : List (List UInt8)) (w : World) (h : Tx w v l) (hs : sumT l < 70368744177664) (hn : l.length < 70368744177664) :
    Calls Tryd.prog 18 #[v] w fun e w' => e = .returned (str (Lib.join l [32])) ∧ Below w.heap.size w w' := by
  have hj := join_len l
  have HJ : Hid (Calls Tryd.prog 34 #[v, .string ⟨#[32]⟩] w fun e w' => e = .returned (str (Lib.join l [32])) ∧ Below w.heap.size w w') := by
    by_cases hne : l = []
    · subst hne
      obtain ⟨ad, cap, rfl⟩ := h.form
      exact (Tryd.strings_Join_none ad cap _ w).mono fun e w' ⟨he, hw⟩ => ⟨he, by rw [hw]; exact Below.refl _ _⟩
    · obtain ⟨g, o, cap, rfl, h1, h2, h3⟩ := h.inRow hne
      have e1 : (l.map fun s => (⟨s.toArray⟩ : ByteArray)).map (·.data.toList) = l := by
        rw [List.map_map]
        conv => rhs; rw [← List.map_id l]
        apply List.map_congr_left
        intro x _
        simp
      have := Tryd.strings_Join g o cap (l.map fun s => ⟨s.toArray⟩) ⟨#[32]⟩ w (fun j x hx => by
        rw [List.getElem?_map] at hx
        cases hp : l[j]? with
        | none => rw [hp] at hx; simp at hx
        | some p =>
          rw [hp] at hx
          cases hx
          exact h3 j p hp) h2 (by simp; omega) (by simpa using h1) (by rw [e1]; show (Lib.join l [32]).length ≤ _; omega)
      rw [e1, List.length_map] at this
      exact this
  obtain ⟨ad, cap, rfl⟩ := h.form
  clear h hs hn hj
  go_enter Tryd.func18, Tryd.ntmps18
  go_wp2_with fail
  refine HJ.out.mono ?_
  rintro e w1 ⟨rfl, hw⟩
  go_wp2_with fail
  go_ret
  exact ⟨rfl, hw⟩
theorem two_or (l : List (List UInt8)) : (∃ a b, l = [a, b]) ∨ l.length ≠ 2 := by
  match l with
  | [] => right; simp
  | [a] => right; simp
  | [a, b] => left; exact ⟨a, b, rfl⟩
  | a :: b :: c :: r => right; simp
theorem nums_no (l : List (List UInt8)) (h : l.length ≠ 2) : numsR l = (0, 0, false) := by
  match l with
  | [] => rfl
  | [a] => rfl
  | [a, b] => simp at h
  | a :: b :: c :: r => rfl
theorem eq_no (l : List (List UInt8)) (h : l.length ≠ 2) : eqR l = false := by
  match l with
  | [] => rfl
  | [a] => rfl
  | [a, b] => simp at h
  | a :: b :: c :: r => rfl
theorem like_no (l : List (List UInt8)) (h : l.length ≠ 2) : likeR l = false := by
  match l with
  | [] => rfl
  | [a] => rfl
  | [a, b] => simp at h
  | a :: b :: c :: r => rfl
theorem ne2 {n : Nat} (h : n ≠ 2) : ((n : Int) == 2) = false := by rw [beq_eq_false_iff_ne]; omega
theorem ret_pair {a b a' b' : Value} (h1 : a = a') (h2 : b = b') : Ending.returned (.tuple #[a, b]) = .returned (.tuple #[a', b']) := by rw [h1, h2]
theorem parse_nums (r : Option Nat) : ∃ (n : Nat) (b : Bool), T.parseRet r = .tuple #[.int .i64 n, .bool b] ∧ n = r.getD 0 ∧ b = r.isSome := by
  cases r with
  | none => exact ⟨0, false, rfl, rfl, rfl⟩
  | some n => exact ⟨n, true, rfl, rfl, rfl⟩
set_option maxHeartbeats 400000 in
theorem numbers_any (v : Value) (l : List (List UInt8)) (w : World) (h : Tx w v l) (hn : l.length < 70368744177664) :
    Calls Tryd.prog 33 #[v] w fun e w' => e = .returned (.tuple #[.int .i64 (numsR l).1, .int .i64 (numsR l).2.1, .bool (numsR l).2.2]) ∧ w' = w := by
  rcases two_or l with ⟨a, b, rfl⟩ | h2
  · obtain ⟨g, o, cap, rfl, hc, hg, c0, c1⟩ := h.two
    obtain ⟨x, bx, ex, hx, hbx⟩ := parse_nums (T.parseV a)
    obtain ⟨y, byy, ey, hy, hby⟩ := parse_nums (T.parseV b)
    have HA : Hid (Calls Tryd.prog 35 #[str a] w fun e w' => e = .returned (.tuple #[.int .i64 x, .bool bx]) ∧ w' = w) := by
      have := T.parse_any ⟨a.toArray⟩ w; rw [show (⟨a.toArray⟩ : ByteArray).data.toList = a from rfl, ex] at this; exact this
    have HB : Hid (Calls Tryd.prog 35 #[str b] w fun e w' => e = .returned (.tuple #[.int .i64 y, .bool byy]) ∧ w' = w) := by
      have := T.parse_any ⟨b.toArray⟩ w; rw [show (⟨b.toArray⟩ : ByteArray).data.toList = b from rfl, ey] at this; exact this
    have HR : Hid (numsR [a, b] = ((x : Int), (y : Int), bx && byy)) := by rw [hx, hy, hbx, hby]; rfl
    clear h ex ey hx hy hbx hby
    cases bx
    all_goals
      go_enter Tryd.func33, Tryd.ntmps33
      go_wp2_with fail
      refine HA.out.mono ?_
      rintro e w1 ⟨rfl, hw⟩
      obtain rfl := hw.symm
      go_wp2_with fail
      refine HB.out.mono ?_
      rintro e w1 ⟨rfl, hw⟩
      obtain rfl := hw.symm
      go_wp2_with fail
      go_ret3
      exact ⟨by rw [HR.out]; rfl, rfl⟩
  · obtain ⟨ad, cap, rfl⟩ := h.form
    have hb := ne2 h2
    rw [nums_no l h2]
    clear h h2
    go_enter Tryd.func33, Tryd.ntmps33
    go_wp2_with fail
    go_ret3
    exact ⟨rfl, rfl⟩
end Go.Proofs.YtiddlineklfhfaaDoor
