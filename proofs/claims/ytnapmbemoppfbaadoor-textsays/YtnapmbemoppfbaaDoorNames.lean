/- The law TextNames, walked: it answers true at every text. -/
import Derived.Test.YtnapmbemoppfbaaDoorPlaces
import Derived.Test.YtnapmbemoppfbaaDoorNamesPlain
import Derived.Deep.DeepCutAuto
namespace Go.Proofs.YtnapmbemoppfbaaDoor
open Go.RowKit

theorem sname_any (b : Nat) (s : ByteArray) (i : Int) (w : World) (hc : w.cell? ⟨b, 0, none⟩ = some (.string s)) (hz : s.size < 4611686018427387904) :
    Calls Tryd.prog 19 #[.pointer (some ⟨b, 0, none⟩), .int .i64 i] w fun e w' => e = .returned (.string ⟨(nameAt s i).toArray⟩) ∧ w' = w := by
  unfold nameAt
  by_cases h : 0 ≤ i ∧ i < s.size
  · rw [dif_pos h]
    obtain ⟨a, rfl⟩ := Int.eq_ofNat_of_zero_le h.1
    have ha : a < s.size := by omega
    simp only [Int.toNat_natCast]
    cases hst : startB ((s[a]).toNat : Int)
    · exact sname_other b s a w hc ha hst
    · exact sname_yes b s a w hc ha hz hst
  · rw [dif_neg h]
    exact sname_no b s i w hc h

set_option maxHeartbeats 400000 in
theorem names_long (s : ByteArray) (w : World) (h : 300 < s.size) :
    Calls Tryd.prog 7 #[.string s] w fun e w' => e = .returned (.bool true) ∧ Grown w w' := by
  go_enter Tryd.func7, Tryd.ntmps7
  go_wp2_with fail
  refine (first_any _).mono ?_; rintro e w' ⟨rfl, rfl⟩
  go_wp2_with fail
  go_ret
  exact ⟨rfl, (Grown.refl _).alloc _ _⟩

theorem nine (c : Int) : c < 48 ∨ (48 ≤ c ∧ c ≤ 57) ∨ (57 < c ∧ c < 65) ∨ (65 ≤ c ∧ c ≤ 90) ∨ (90 < c ∧ c < 95) ∨ c = 95 ∨ c = 96 ∨ (97 ≤ c ∧ c ≤ 122) ∨ 122 < c := by omega
theorem start_t {c : Int} (h : (97 ≤ c ∧ c ≤ 122) ∨ (65 ≤ c ∧ c ≤ 90) ∨ c = 95) : startB c = true := decide_eq_true h
theorem start_f {c : Int} (h : ¬ ((97 ≤ c ∧ c ≤ 122) ∨ (65 ≤ c ∧ c ≤ 90) ∨ c = 95)) : startB c = false := decide_eq_false h
theorem digit_t {c : Int} (h : 48 ≤ c ∧ c ≤ 57) : digitB c = true := decide_eq_true h
theorem digit_f {c : Int} (h : ¬ (48 ≤ c ∧ c ≤ 57)) : digitB c = false := decide_eq_false h
/-- What the k-th byte adds. -/
theorem names_step (s : ByteArray) (k : Nat) (h : k < s.size) (x y : Bool) (hx : startB ((s[k]).toNat : Int) = x) (hy : digitB ((s[k]).toNat : Int) = y) :
    namesAll (s.data.toList.take (k + 1)) = (namesAll (s.data.toList.take k) && (x || (y && decide (0 < k)))) := by
  have hl : (s.data.toList.take k).length = k := by rw [List.length_take]; simp; omega
  rw [take_snoc s k h, namesAll_snoc, hl]
  unfold contB
  rw [hx, hy]
  by_cases h0 : k = 0
  · subst h0; simp
  · rw [if_neg h0, show decide (0 < k) = true from decide_eq_true (by omega)]; simp

theorem val_bool {a b : Bool} (h : a = b) : Value.bool a = Value.bool b := by rw [h]
def goodB (n : Nat) : Bool := decide (1 ≤ n ∧ n ≤ 20)
set_option maxHeartbeats 1000000 in
set_option maxRecDepth 100000 in
theorem names_short (s : ByteArray) (w : World) (h : s.size ≤ 300) :
    Calls Tryd.prog 7 #[.string s] w fun e w' => e = .returned (.bool true) ∧ Grown w w' := by
  have hd : decide ((300 : Int) < s.size) = false := decide_eq_false (by omega)
  go_enter Tryd.func7, Tryd.ntmps7
  go_wp2_with fail
  refine (first_any _).mono ?_; rintro e w' ⟨rfl, rfl⟩
  go_upto_region 4 with fail
  go_cut [4] (fun v4 wx => v4 = .bool (goodB s.size) ∧ wx = w.alloc (.cells #[.string ⟨#[97, 98, 10, 99, 100]⟩] 33))
  case first =>
    by_cases h1 : 1 ≤ s.size
    all_goals by_cases h2 : s.size ≤ 20
    all_goals first | (exfalso; omega) | skip
    all_goals
      go_wp2_with fail
      go_meet
      case rel => exact ⟨val_bool (by unfold goodB; rw [Bool.eq_iff_iff]; simp; try omega), rfl⟩
  case rest =>
    obtain ⟨rfl, rfl⟩ := hcut
    go_wp2_with fail
    go_loopg [5, 6] s.size (fun g va vi wr => ∃ (k : Nat) (a : Bool), k + g = s.size ∧ vi = .int .i64 k ∧ va = .bool a ∧ Hid (a = namesAll (s.data.toList.take k)) ∧ wr = w.alloc (.cells #[.string ⟨#[97, 98, 10, 99, 100]⟩] 33))
    case atStart => exact ⟨0, true, by omega, rfl, rfl, rfl, rfl⟩
    case round =>
      obtain ⟨k, a, hk, rfl, rfl, hh, rfl⟩ := hrel
      by_cases hlt : k < s.size
      · have hs := names_step s k hlt _ _ rfl rfl
        rw [← hh.out] at hs
        have HS : Hid _ := hs
        clear hs hh
        go_upto_region 10 with fail
        go_cut [8] (fun v8 wx => v8 = .bool (startB ((s[k]).toNat : Int)) ∧ wx = w.alloc (.cells #[.string ⟨#[97, 98, 10, 99, 100]⟩] 33))
        case first =>
          clear HS
          rcases nine ((s[k]).toNat : Int) with hq | hq | hq | hq | hq | hq | hq | hq | hq
          all_goals
            try have hq5 : (((s[k]).toNat : Int) == 95) = false := beq_eq_false_iff_ne.2 (by omega)
            try have hq6 : decide (((s[k]).toNat : Int) ≤ 90) = false := decide_eq_false (by omega)
            try have hq7 : decide (((s[k]).toNat : Int) ≤ 122) = false := decide_eq_false (by omega)
            go_wp2_with fail
            go_meet
            case rel => exact ⟨val_bool (by first | exact (start_t (by omega)).symm | exact (start_f (by omega)).symm), rfl⟩
        case rest =>
          obtain ⟨rfl, rfl⟩ := hcut
          go_upto_region 11 with fail
          go_cut [9] (fun v9 wx => v9 = .bool (digitB ((s[k]).toNat : Int)) ∧ wx = w.alloc (.cells #[.string ⟨#[97, 98, 10, 99, 100]⟩] 33))
          case first =>
            clear HS
            by_cases h1 : 48 ≤ ((s[k]).toNat : Int)
            all_goals by_cases h2 : ((s[k]).toNat : Int) ≤ 57
            all_goals first | (exfalso; omega) | skip
            all_goals
              go_wp2_with fail
              go_meet
              case rel => exact ⟨val_bool (by unfold digitB; rw [Bool.eq_iff_iff]; simp; try omega), rfl⟩
          case rest =>
            obtain ⟨rfl, rfl⟩ := hcut
            generalize startB ((s[k]).toNat : Int) = x at HS ⊢
            generalize digitB ((s[k]).toNat : Int) = y at HS ⊢
            by_cases hk0 : 0 < k
            all_goals cases a
            all_goals cases x
            all_goals cases y
            all_goals
              go_wp2_with fail
              go_roundg (s.size - (k + 1))
              case measure => omega
              case rel => exact ⟨k + 1, _, by omega, by go_num, rfl, by have := HS.out; simp [hk0] at this; exact this.symm, rfl⟩
      · have hks : k = s.size := by omega
        rw [List.take_of_length_le (by simp; omega)] at hh
        clear hk
        subst hks
        go_wp2_with fail
        have hz : s.data.toList.length = s.size := by simp
        have hT1 : (s ++ ⟨#[45]⟩ ++ s).data.toList = s.data.toList ++ 45 :: s.data.toList := by simp
        have hT2 : (s ++ ⟨#[45]⟩ ++ s).size = s.size + 1 + s.size := by simp [ByteArray.size_append]; rfl
        have hN : nameB s.data.toList = (goodB s.size && a) := by rw [nameB_eq, hz, hh.out]; rfl
        have HN : Hid _ := hN
        have HT1 : Hid _ := hT1
        clear hN hT1 hz
        generalize s ++ ⟨#[45]⟩ ++ s = T at hT2 HT1 ⊢
        refine (new_any T _ (by omega)).mono ?_; rintro e w' ⟨rfl, rfl⟩
        have hc := laid_cell w T
        have hg := laid_grown w T
        generalize goodB s.size = g at HN ⊢
        cases a
        · cases g
          all_goals
            go_wp2_with (go_at_call 20; refine (name_any _ _).mono ?_; rintro e w' ⟨rfl, rfl⟩; rw [HN.out])
            go_ret
            exact ⟨rfl, hg⟩
        · have hA : namesAll s.data.toList = true := hh.out.symm
          have h45 : ∀ b r, (45 :: s.data.toList : List UInt8) = b :: r → cont8 b = false := by
            intro b r e; obtain ⟨rfl, -⟩ := List.cons.inj e; decide
          have n0 : nameAt T ((0 : Nat) : Int) = s.data.toList := nameAt_of T 0 _ _ (by rw [List.drop_zero]; exact HT1.out) hA h45
          have n1 : nameAt T ((s.size : Nat) : Int) = [] := nameAt_of T s.size [] (45 :: s.data.toList) (by rw [HT1.out, List.drop_append_of_le_length (by simp), List.drop_of_length_le (by simp)]) rfl h45
          have n2 : nameAt T ((s.size + 1 : Nat) : Int) = s.data.toList := nameAt_of T (s.size + 1) s.data.toList [] (by rw [HT1.out, show s.size + 1 = (s.data.toList ++ [45]).length by simp, show s.data.toList ++ 45 :: s.data.toList = (s.data.toList ++ [45]) ++ s.data.toList by simp, List.drop_left, List.append_nil]) hA (fun b r e => by cases e)
          have m0 : (⟨(nameAt T 0).toArray⟩ : ByteArray) = s := by rw [show (0 : Int) = ((0 : Nat) : Int) from rfl, n0]
          have m1 : (⟨(nameAt T s.size).toArray⟩ : ByteArray) = ⟨#[]⟩ := by rw [n1]
          have m2 : (⟨(nameAt T ((s.size : Int) + 1)).toArray⟩ : ByteArray) = s := by rw [show ((s.size : Int) + 1) = ((s.size + 1 : Nat) : Int) from by omega, n2]
          have M0 : Hid _ := m0
          have M1 : Hid _ := m1
          have M2 : Hid _ := m2
          clear hA h45 n0 n1 n2 m0 m1 m2 hh HT1
          have hTz : T.size < 4611686018427387904 := by omega
          clear hT2
          cases g
          all_goals
            go_wp2_with (go_at_call 20; refine (name_any _ _).mono ?_; rintro e w' ⟨rfl, rfl⟩; rw [HN.out])
            refine (sname_any _ T 0 _ hc hTz).mono ?_; rintro e w' ⟨rfl, rfl⟩; rw [M0.out]
            go_wp2_with fail
            refine (sname_any _ T _ _ hc hTz).mono ?_; rintro e w' ⟨rfl, rfl⟩; rw [M2.out]
            go_wp2_with fail
            refine (sname_any _ T _ _ hc hTz).mono ?_; rintro e w' ⟨rfl, rfl⟩; rw [M1.out]
            go_wp2_with fail
            go_ret
            exact ⟨rfl, hg⟩
theorem names_any (s : ByteArray) (w : World) : Calls Tryd.prog 7 #[.string s] w fun e w' => e = .returned (.bool true) ∧ Grown w w' := by
  by_cases h : s.size ≤ 300
  · exact names_short s w h
  · exact names_long s w (by omega)
end Go.Proofs.YtnapmbemoppfbaaDoor
