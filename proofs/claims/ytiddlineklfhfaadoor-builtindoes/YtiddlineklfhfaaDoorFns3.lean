/- The shell's own commands: add, less, eq, like, exit, read. -/
import Derived.Test.YtiddlineklfhfaaDoorFns2
import Derived.Deep.RegionHeld3
namespace Go.Proofs.YtiddlineklfhfaaDoor
open Go.RowKit Go.Shelf
attribute [local go_sem] Oper.semAt_some

theorem below_drew (w : World) : Below w.heap.size w w.drew := ⟨rfl, rfl, rfl, Nat.le_refl _, fun _ _ => rfl⟩
theorem valOf_small (l : List UInt8) (n : Nat) (h : T.parseV l = some n) : n < 1000000000 := by
  unfold T.parseV at h
  split at h
  · cases h
  · rename_i hh
    split at h
    · rename_i hd
      have h1 := T.valOf_lt l.length l rfl hd
      have h2 : l.length ≤ 9 := by
        rcases Nat.lt_or_ge 9 l.length with h3 | h3
        · exact absurd (.inr (.inl h3)) hh
        · exact h3
      have h3 : 10 ^ l.length ≤ 10 ^ 9 := Nat.pow_le_pow_right (by omega) h2
      cases h
      omega
    · cases h
theorem parse_small (l : List UInt8) : (T.parseV l).getD 0 < 1000000000 := by
  cases h : T.parseV l with
  | none => simp
  | some n => exact valOf_small l n h
theorem nums_small (l : List (List UInt8)) : 0 ≤ (numsR l).1 ∧ (numsR l).1 < 1000000000 ∧ 0 ≤ (numsR l).2.1 ∧ (numsR l).2.1 < 1000000000 := by
  rcases two_or l with ⟨a, b, rfl⟩ | h2
  · have h1 := parse_small a
    have h2 := parse_small b
    simp only [numsR]
    omega
  · rw [nums_no l h2]; simp
theorem str_add (a c : List UInt8) : (⟨a.toArray⟩ : ByteArray) ++ ⟨c.toArray⟩ = ⟨(a ++ c).toArray⟩ := by
  apply ByteArray.ext
  simp
set_option maxHeartbeats 400000 in
theorem add_cmd (v : Value) (l : List (List UInt8)) (w : World) (h : Tx w v l) (hn : l.length < 70368744177664) (hP : Pow w) :
    Calls Tryd.prog 17 #[v] w fun e w' => e = .returned (.tuple #[str (addR l).1, .int .i64 (addR l).2]) ∧ Below w.heap.size w w' := by
  have HN := numbers_any v l w h hn
  obtain ⟨hx0, hx1, hy0, hy1⟩ := nums_small l
  have HD : Hid (addR l = if (numsR l).2.2 then (sumL (numsR l).1 (numsR l).2.1, 0) else ([], 1)) := rfl
  obtain ⟨⟨x, y, b⟩, hr⟩ : ∃ r, numsR l = r := ⟨_, rfl⟩
  rw [hr] at HN hx0 hx1 hy0 hy1 HD
  simp only at HN hx0 hx1 hy0 hy1 HD
  have HN : Hid (Calls Tryd.prog 33 #[v] w fun e w' => e = .returned (.tuple #[.int .i64 x, .int .i64 y, .bool b]) ∧ w' = w) := HN
  obtain ⟨ad, cap, rfl⟩ := h.form
  clear h hn hr
  have hz0 : 0 ≤ (x + y) % 1000000000 := Int.emod_nonneg _ (by omega)
  have hz1 : (x + y) % 1000000000 < 1000000000 := Int.emod_lt_of_pos _ (by omega)
  have hil := Lib.itoa_length_le ((x + y) % 1000000000) (by omega) (by omega)
  cases b
  · go_enter Tryd.func17, Tryd.ntmps17
    go_wp2_with fail
    refine HN.out.mono ?_
    rintro e w1 ⟨rfl, hw⟩
    obtain rfl := hw.symm
    go_wp2_with fail
    go_ret2
    exact ⟨by rw [HD.out]; rfl, Below.refl _ _⟩
  · go_enter Tryd.func17, Tryd.ntmps17
    go_wp2_with fail
    refine HN.out.mono ?_
    rintro e w1 ⟨rfl, hw⟩
    obtain rfl := hw.symm
    go_wp2_with fail
    refine (number_any ((x + y) % 1000000000) _ (by omega) (by omega) hP).mono ?_
    rintro e w2 ⟨rfl, hw⟩
    go_wp2_with fail
    go_ret2
    exact ⟨by rw [HD.out]; exact ret_pair (by show Value.string (_ ++ _) = str (sumL x y); rw [str_add]; rfl) rfl, hw⟩
set_option maxHeartbeats 400000 in
theorem less_cmd (v : Value) (l : List (List UInt8)) (w : World) (h : Tx w v l) (hn : l.length < 70368744177664) :
    Calls Tryd.prog 22 #[v] w fun e w' => e = .returned (.bool (lessR l)) ∧ Below w.heap.size w w' := by
  have HN := numbers_any v l w h hn
  have HD : Hid (lessR l = ((numsR l).2.2 && decide ((numsR l).1 < (numsR l).2.1))) := rfl
  obtain ⟨⟨x, y, b⟩, hr⟩ : ∃ r, numsR l = r := ⟨_, rfl⟩
  rw [hr] at HN HD
  simp only at HN HD
  have HN : Hid (Calls Tryd.prog 33 #[v] w fun e w' => e = .returned (.tuple #[.int .i64 x, .int .i64 y, .bool b]) ∧ w' = w) := HN
  obtain ⟨ad, cap, rfl⟩ := h.form
  clear h hn hr
  cases b
  all_goals
    go_enter Tryd.func22, Tryd.ntmps22
    go_wp2_with fail
    refine HN.out.mono ?_
    rintro e w1 ⟨rfl, hw⟩
    obtain rfl := hw.symm
    go_wp2_with fail
    go_ret
    exact ⟨by rw [HD.out]; rfl, Below.refl _ _⟩
set_option maxHeartbeats 400000 in
theorem equal_cmd (v : Value) (l : List (List UInt8)) (w : World) (h : Tx w v l) (hn : l.length < 70368744177664) :
    Calls Tryd.prog 20 #[v] w fun e w' => e = .returned (.bool (eqR l)) ∧ Below w.heap.size w w' := by
  rcases two_or l with ⟨a, b, rfl⟩ | h2
  · obtain ⟨g, o, cap, rfl, hc, hg, c0, c1⟩ := h.two
    clear h
    go_enter Tryd.func20, Tryd.ntmps20
    go_wp2_with fail
    go_quiet (fail)
    go_wp2_with fail
    go_ret
    exact ⟨rfl, below_drewN _ _⟩
  · obtain ⟨ad, cap, rfl⟩ := h.form
    have hb := ne2 h2
    rw [eq_no l h2]
    clear h h2
    go_enter Tryd.func20, Tryd.ntmps20
    go_wp2_with fail
    go_quiet (fail)
    go_wp2_with fail
    go_ret
    exact ⟨rfl, below_drewN _ _⟩
set_option maxHeartbeats 400000 in
theorem like_cmd (v : Value) (l : List (List UInt8)) (w : World) (h : Tx w v l) (hn : l.length < 70368744177664) (hs : ∀ s ∈ l, s.length < 4294967296) :
    Calls Tryd.prog 23 #[v] w fun e w' => e = .returned (.bool (likeR l)) ∧ Below w.heap.size w w' := by
  rcases two_or l with ⟨a, b, rfl⟩ | h2
  · obtain ⟨g, o, cap, rfl, hc, hg, c0, c1⟩ := h.two
    have HM : Hid (∀ W, Calls Tryd.prog 16 #[str b, str a] W fun e w' => e = .returned (.bool (likeR [a, b])) ∧ Below W.heap.size W w') := fun W =>
      match_any ⟨b.toArray⟩ ⟨a.toArray⟩ (by have := hs b (by simp); simpa [ByteArray.size] using this) (by have := hs a (by simp); simpa [ByteArray.size] using this) W
    obtain ⟨r, hr⟩ : ∃ r, likeR [a, b] = r := ⟨_, rfl⟩
    rw [hr] at HM ⊢
    clear h hs hn hr
    go_enter Tryd.func23, Tryd.ntmps23
    go_wp2_with fail
    go_region_with (go_at_call 16; refine (HM.out _).mono ?_; rintro e w2 ⟨rfl, hw2⟩)
    all_goals
      go_wp2_with fail
      go_ret
      exact ⟨rfl, (below_drew _).trans hw2⟩
  · obtain ⟨ad, cap, rfl⟩ := h.form
    have hb := ne2 h2
    rw [like_no l h2]
    clear h h2 hs
    go_enter Tryd.func23, Tryd.ntmps23
    go_wp2_with fail
    go_quiet (fail)
    go_wp2_with fail
    go_ret
    exact ⟨rfl, below_drewN _ _⟩
theorem ne0 {n : Nat} (h : n ≠ 0) : ((n : Int) == 0) = false := by rw [beq_eq_false_iff_ne]; omega
set_option maxHeartbeats 400000 in
theorem ending_cmd (v : Value) (l : List (List UInt8)) (w : World) (h : Tx w v l) (hn : l.length < 70368744177664) :
    Calls Tryd.prog 21 #[v] w fun e w' => e = .returned (.int .i64 (endR l)) ∧ w' = w := by
  cases l with
  | nil =>
    obtain ⟨ad, cap, rfl⟩ := h.form
    clear h
    go_enter Tryd.func21, Tryd.ntmps21
    go_wp2_with fail
    go_ret
    exact ⟨rfl, rfl⟩
  | cons a r =>
    obtain ⟨g, o, cap, rfl, hc, hg, h4⟩ := h.inRow (by simp)
    have c0 : w.cell? ⟨g, o, none⟩ = some (str a) := h4 0 a rfl
    have hl : 1 ≤ (a :: r).length := by simp
    generalize hL : (a :: r).length = L at *
    have hb := ne0 (n := L) (by omega)
    have HP := T.parse_any ⟨a.toArray⟩ w
    rw [show (⟨a.toArray⟩ : ByteArray).data.toList = a from rfl] at HP
    have HE : Hid (endR (a :: r) = match T.parseV a with | some n => if n ≤ 255 then (n : Int) else 0 | none => 0) := rfl
    have hsm := parse_small a
    clear h h4 hL
    cases hp : T.parseV a with
    | none =>
      rw [hp] at HP HE
      have HP : Hid (Calls Tryd.prog 35 #[str a] w fun e w' => e = .returned (.tuple #[.int .i64 0, .bool false]) ∧ w' = w) := HP
      clear hp
      go_enter Tryd.func21, Tryd.ntmps21
      go_wp2_with fail
      refine HP.out.mono ?_
      rintro e w1 ⟨rfl, hw⟩
      obtain rfl := hw.symm
      go_wp2_with fail
      go_ret
      exact ⟨by rw [HE.out]; rfl, rfl⟩
    | some n =>
      rw [hp] at HP HE hsm
      have HP : Hid (Calls Tryd.prog 35 #[str a] w fun e w' => e = .returned (.tuple #[.int .i64 n, .bool true]) ∧ w' = w) := HP
      simp only [Option.getD_some] at hsm
      clear hp
      by_cases hle : n ≤ 255
      · have HE : Hid (endR (a :: r) = n) := by show endR (a :: r) = n; rw [HE.out]; simp [hle]
        have hle' : (n : Int) ≤ 255 := by omega
        go_enter Tryd.func21, Tryd.ntmps21
        go_wp2_with fail
        refine HP.out.mono ?_
        rintro e w1 ⟨rfl, hw⟩
        obtain rfl := hw.symm
        go_wp2_with fail
        go_ret
        exact ⟨by rw [HE.out]; rfl, rfl⟩
      · have HE : Hid (endR (a :: r) = 0) := by show endR (a :: r) = 0; rw [HE.out]; simp [hle]
        have hle' : ¬ (n : Int) ≤ 255 := by omega
        go_enter Tryd.func21, Tryd.ntmps21
        go_wp2_with fail
        refine HP.out.mono ?_
        rintro e w1 ⟨rfl, hw⟩
        obtain rfl := hw.symm
        go_wp2_with fail
        go_ret
        exact ⟨by rw [HE.out]; rfl, rfl⟩
end Go.Proofs.YtiddlineklfhfaaDoor
