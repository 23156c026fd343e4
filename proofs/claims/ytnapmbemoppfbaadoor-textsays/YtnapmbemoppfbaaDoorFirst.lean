/- The chapter's examples hold: what the laws' common opening answers, and what it leaves of the world. -/
import Derived.Test.YtnapmbemoppfbaaDoorParse
namespace Go.Proofs.YtnapmbemoppfbaaDoor
open Go.RowKit

theorem ex_place3 (b : Nat) (w : World) (hc : w.cell? ⟨b, 0, none⟩ = some (.string ⟨#[97, 98, 10, 99, 100]⟩)) :
    Calls Tryd.prog 13 #[.pointer (some ⟨b, 0, none⟩), .int .i64 3] w fun e w' => e = .returned (.tuple #[.int .i64 2, .int .i64 1]) ∧ w' = w :=
  (place_yes b _ 3 w hc (by decide) (by decide)).mono (by rintro e w' ⟨rfl, rfl⟩; exact ⟨ret_int2 (by decide) (by decide), rfl⟩)
theorem ex_place5 (b : Nat) (w : World) (hc : w.cell? ⟨b, 0, none⟩ = some (.string ⟨#[97, 98, 10, 99, 100]⟩)) :
    Calls Tryd.prog 13 #[.pointer (some ⟨b, 0, none⟩), .int .i64 5] w fun e w' => e = .returned (.tuple #[.int .i64 2, .int .i64 3]) ∧ w' = w :=
  (place_yes b _ 5 w hc (by decide) (by decide)).mono (by rintro e w' ⟨rfl, rfl⟩; exact ⟨ret_int2 (by decide) (by decide), rfl⟩)
theorem ex_parse07 (w : World) : Calls Tryd.prog 14 #[.string ⟨#[48, 55]⟩] w fun e w' => e = .returned (.tuple #[.int .i64 0, .bool false]) ∧ w' = w :=
  (parse_any _ w).mono (by rintro e w' ⟨rfl, rfl⟩; rw [show parseV (⟨#[48, 55]⟩ : ByteArray).data.toList = none from by decide]; exact ⟨rfl, rfl⟩)
theorem ex_parse70 (w : World) : Calls Tryd.prog 14 #[.string ⟨#[55, 48]⟩] w fun e w' => e = .returned (.tuple #[.int .i64 70, .bool true]) ∧ w' = w :=
  (parse_any _ w).mono (by rintro e w' ⟨rfl, rfl⟩; rw [show parseV (⟨#[55, 48]⟩ : ByteArray).data.toList = some 70 from by decide]; exact ⟨rfl, rfl⟩)
theorem ex_name0 (b : Nat) (w : World) (hc : w.cell? ⟨b, 0, none⟩ = some (.string ⟨#[97, 98, 10, 99, 100]⟩)) :
    Calls Tryd.prog 19 #[.pointer (some ⟨b, 0, none⟩), .int .i64 0] w fun e w' => e = .returned (.string ⟨#[97, 98]⟩) ∧ w' = w :=
  (sname_yes b _ 0 w hc (by decide) (by decide) (by decide)).mono (by rintro e w' ⟨rfl, rfl⟩; exact ⟨ret_str (by rw [show runAt ⟨#[97, 98, 10, 99, 100]⟩ 0 = [97, 98] from by decide]), rfl⟩)
theorem ex_slice (b : Nat) (w : World) (hc : w.cell? ⟨b, 0, none⟩ = some (.string ⟨#[97, 98, 10, 99, 100]⟩)) :
    Calls Tryd.prog 16 #[.pointer (some ⟨b, 0, none⟩), .int .i64 1, .int .i64 9] w fun e w' => e = .returned (.string ⟨#[98, 10, 99, 100]⟩) ∧ w' = w :=
  (slice_any b _ 1 9 w hc).mono (by rintro e w' ⟨rfl, rfl⟩; exact ⟨ret_str (by decide), rfl⟩)
theorem ex_namea1 (w : World) : Calls Tryd.prog 20 #[.string ⟨#[97, 49]⟩] w fun e w' => e = .returned (.bool true) ∧ w' = w :=
  (name_any _ w).mono (by rintro e w' ⟨rfl, rfl⟩; exact ⟨ret_bool (by decide), rfl⟩)
theorem ex_name1a (w : World) : Calls Tryd.prog 20 #[.string ⟨#[49, 97]⟩] w fun e w' => e = .returned (.bool false) ∧ w' = w :=
  (name_any _ w).mono (by rintro e w' ⟨rfl, rfl⟩; exact ⟨ret_bool (by decide), rfl⟩)
theorem ex_len (b : Nat) (w : World) (hc : w.cell? ⟨b, 0, none⟩ = some (.string ⟨#[97, 98, 10, 99, 100]⟩)) :
    Calls Tryd.prog 11 #[.pointer (some ⟨b, 0, none⟩)] w fun e w' => e = .returned (.int .i64 5) ∧ w' = w :=
  (len_any b _ w hc).mono (by rintro e w' ⟨rfl, rfl⟩; exact ⟨rfl, rfl⟩)
theorem ex_new (w : World) : Calls Tryd.prog 9 #[.string ⟨#[97, 98, 10, 99, 100]⟩] w fun e w' => e = .returned (.tuple #[.pointer (some ⟨w.heap.size, 0, none⟩), .nilIface]) ∧ w' = w.alloc (.cells #[.string ⟨#[97, 98, 10, 99, 100]⟩] 33) :=
  new_any _ w (by decide)

set_option maxHeartbeats 1000000 in
theorem first_any (w : World) :
    Calls Tryd.prog 8 #[] w fun e w' => e = .returned (.bool true) ∧ w' = w.alloc (.cells #[.string ⟨#[97, 98, 10, 99, 100]⟩] 33) := by
  have hc : (w.alloc (.cells #[.string ⟨#[97, 98, 10, 99, 100]⟩] 33)).cell? ⟨w.heap.size, 0, none⟩ = some (.string ⟨#[97, 98, 10, 99, 100]⟩) := by simp [go_sem]
  go_enter Tryd.func8, Tryd.ntmps8
  go_wp2_with fail
  refine (ex_new _).mono ?_; rintro e w' ⟨rfl, rfl⟩
  go_wp2_with fail
  refine (ex_place3 _ _ hc).mono ?_; rintro e w' ⟨rfl, rfl⟩
  go_wp2_with fail
  refine (ex_place5 _ _ hc).mono ?_; rintro e w' ⟨rfl, rfl⟩
  go_wp2_with fail
  refine (ex_parse07 _).mono ?_; rintro e w' ⟨rfl, rfl⟩
  go_wp2_with fail
  refine (ex_parse70 _).mono ?_; rintro e w' ⟨rfl, rfl⟩
  go_wp2_with fail
  refine (ex_len _ _ hc).mono ?_; rintro e w' ⟨rfl, rfl⟩
  go_wp2_with fail
  refine (ex_name0 _ _ hc).mono ?_; rintro e w' ⟨rfl, rfl⟩
  go_wp2_with fail
  refine (ex_slice _ _ hc).mono ?_; rintro e w' ⟨rfl, rfl⟩
  go_wp2_with fail
  refine (ex_namea1 _).mono ?_; rintro e w' ⟨rfl, rfl⟩
  go_wp2_with fail
  refine (ex_name1a _).mono ?_; rintro e w' ⟨rfl, rfl⟩
  go_wp2_with fail
  go_ret
  exact ⟨rfl, rfl⟩
end Go.Proofs.YtnapmbemoppfbaaDoor
