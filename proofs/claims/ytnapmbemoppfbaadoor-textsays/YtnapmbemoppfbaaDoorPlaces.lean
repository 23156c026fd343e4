/- The law TextPlaces, walked: it answers true at every source. -/
import Derived.Test.YtnapmbemoppfbaaDoorFirst
namespace Go.Proofs.YtnapmbemoppfbaaDoor
open Go.RowKit

theorem laid_cell (w : World) (s : ByteArray) : ((w.alloc (.cells #[.string ⟨#[97, 98, 10, 99, 100]⟩] 33)).alloc (.cells #[.string s] 33)).cell? ⟨w.heap.size + 1, 0, none⟩ = some (.string s) := by simp [go_sem]
theorem laid_grown (w : World) (s : ByteArray) : Grown w ((w.alloc (.cells #[.string ⟨#[97, 98, 10, 99, 100]⟩] 33)).alloc (.cells #[.string s] 33)) := ((Grown.refl _).alloc _ _).alloc _ _

set_option maxHeartbeats 400000 in
theorem places_long (s : ByteArray) (w : World) (h : 2000 < s.size) :
    Calls Tryd.prog 5 #[.string s] w fun e w' => e = .returned (.bool true) ∧ Grown w w' := by
  go_enter Tryd.func5, Tryd.ntmps5
  go_wp2_with fail
  refine (first_any _).mono ?_; rintro e w' ⟨rfl, rfl⟩
  go_wp2_with fail
  go_ret
  exact ⟨rfl, (Grown.refl _).alloc _ _⟩

set_option maxHeartbeats 1000000 in
theorem places_short (s : ByteArray) (w : World) (h : s.size ≤ 2000) :
    Calls Tryd.prog 5 #[.string s] w fun e w' => e = .returned (.bool true) ∧ Grown w w' := by
  have hd : decide ((2000 : Int) < s.size) = false := decide_eq_false (by omega)
  have hll : lineOf s.data.toList ≤ s.size + 1 := (lineOf_le _).2
  go_enter Tryd.func5, Tryd.ntmps5
  go_wp2_with fail
  refine (first_any _).mono ?_; rintro e w' ⟨rfl, rfl⟩
  go_wp2_with fail
  refine (new_any _ _ (by omega)).mono ?_; rintro e w' ⟨rfl, rfl⟩
  have hc := laid_cell w s
  have hg := laid_grown w s
  go_wp2_with fail
  generalize hW : (w.alloc (.cells #[.string ⟨#[97, 98, 10, 99, 100]⟩] 33)).alloc (.cells #[.string s] 33) = W at hc hg ⊢
  clear hW
  go_loop [6, 7, 8] (fun vl vc vi => ∃ k l c : Nat, k ≤ s.size + 1 ∧ vi = .int .i64 k ∧ vl = .int .i64 l ∧ vc = .int .i64 c ∧ l ≤ 2001 ∧ c ≤ 2001 ∧ Hid (k = 0 → l = 1 ∧ c = 0) ∧ Hid (∀ j, k = j + 1 → l = lineOf (s.data.toList.take j) ∧ c = colOf (s.data.toList.take j))) (fun _ _ vi => s.size + 1 - (intOf vi).toNat)
  case atStart => exact ⟨0, 1, 0, by omega, rfl, rfl, rfl, by omega, by omega, fun _ => ⟨rfl, rfl⟩, fun j hj => by omega⟩
  case round =>
    obtain ⟨k, l, c, hk, rfl, rfl, rfl, hl, hcc, h0, h1⟩ := hrel
    have hcl : 1 ≤ colOf (s.data.toList.take k) ∧ colOf (s.data.toList.take k) ≤ k + 1 := by
      have h1 := colOf_le (s.data.toList.take k)
      have h2 : (s.data.toList.take k).length ≤ k := List.length_take_le _ _
      omega
    have hli : lineOf (s.data.toList.take k) ≤ k + 1 := by
      have h1 := lineOf_le (s.data.toList.take k)
      have h2 : (s.data.toList.take k).length ≤ k := List.length_take_le _ _
      omega
    by_cases hlt : k ≤ s.size
    · by_cases hk0 : k = 0
      · obtain ⟨rfl, rfl⟩ := h0.out hk0
        subst hk0
        have e1 : lineOf (s.data.toList.take 0) = 1 := rfl
        have e2 : colOf (s.data.toList.take 0) = 1 := rfl
        go_wp2_with (go_at_call 13; refine (place_yes _ _ 0 _ hc hlt (by omega)).mono ?_; rintro e w' ⟨rfl, rfl⟩)
        go_round
        case rel => exact ⟨1, 1, 1, by omega, rfl, rfl, rfl, by omega, by omega, fun h => by omega, fun j hj => (show j = 0 by omega) ▸ ⟨rfl, rfl⟩⟩
        case measure => simp [intOf]
      · obtain ⟨j, rfl⟩ : ∃ j, k = j + 1 := ⟨k - 1, by omega⟩
        obtain ⟨hl1, hc1⟩ := h1.out j rfl
        have hjs : j < s.size := by omega
        have hts := take_snoc s j hjs
        have e1 := lineOf_snoc (s.data.toList.take j) s[j]
        have e2 := colOf_snoc (s.data.toList.take j) s[j]
        rw [← hts, ← hl1] at e1
        rw [← hts, ← hc1] at e2
        have hcj : c ≤ 2000 := by
          have h1 := colOf_le (s.data.toList.take j)
          have h2 : (s.data.toList.take j).length ≤ j := List.length_take_le _ _
          omega
        have hlj : l ≤ 2000 := by
          have h1 := lineOf_le (s.data.toList.take j)
          have h2 : (s.data.toList.take j).length ≤ j := List.length_take_le _ _
          omega
        clear hl1 hc1 hts h0 h1 hcl hli hk0
        cases hb : (((s[j]).toNat : Int) == 10)
        · have hb2 : ¬ s[j] = 10 := fun hh => by rw [hh] at hb; exact absurd hb (by decide)
          rw [if_neg hb2] at e1 e2
          clear hb2
          go_wp2_with (go_at_call 13; rw [show ((j : Int) + 1) = ((j + 1 : Nat) : Int) from by omega]; refine (place_yes _ _ (j + 1) _ hc hlt (by omega)).mono ?_; rintro e w' ⟨rfl, rfl⟩)
          have e1' : lineOf (s.data.toList.take (j + 1)) = l := e1
          exact ⟨⟨j + 2, l, c + 1, by omega, by go_num, rfl, by go_num, by omega, by omega, fun h => by omega, fun i hi => (show i = j + 1 by omega) ▸ ⟨e1'.symm, e2.symm⟩⟩, by simp [intOf]; omega⟩
        · have hb2 : s[j] = 10 := (u8_eq _ _).2 (by simpa using hb)
          rw [if_pos hb2] at e1 e2
          clear hb2
          go_wp2_with (go_at_call 13; rw [show ((j : Int) + 1) = ((j + 1 : Nat) : Int) from by omega]; refine (place_yes _ _ (j + 1) _ hc hlt (by omega)).mono ?_; rintro e w' ⟨rfl, rfl⟩)
          exact ⟨⟨j + 2, l + 1, 1, by omega, by go_num, by go_num, rfl, by omega, by omega, fun h => by omega, fun i hi => (show i = j + 1 by omega) ▸ ⟨e1.symm, e2.symm⟩⟩, by simp [intOf]; omega⟩
    · have hks : k = s.size + 1 := by omega
      obtain ⟨hl1, -⟩ := h1.out s.size hks
      rw [List.take_of_length_le (by simp)] at hl1
      subst hl1 hks
      clear h0 h1 hcl hli
      go_wp2_with fail
      refine (place_no _ _ _ _ hc (by omega)).mono ?_; rintro e w' ⟨rfl, rfl⟩
      go_wp2_with fail
      refine (place_no _ _ _ _ hc (by omega)).mono ?_; rintro e w' ⟨rfl, rfl⟩
      go_wp2_with fail
      refine (lines_any _ _ _ hc (by omega)).mono ?_; rintro e w' ⟨rfl, rfl⟩
      go_wp2_with fail
      go_ret
      exact ⟨by simp, hg⟩
theorem places_any (s : ByteArray) (w : World) : Calls Tryd.prog 5 #[.string s] w fun e w' => e = .returned (.bool true) ∧ Grown w w' := by
  by_cases h : s.size ≤ 2000
  · exact places_short s w h
  · exact places_long s w (by omega)
end Go.Proofs.YtnapmbemoppfbaaDoor
