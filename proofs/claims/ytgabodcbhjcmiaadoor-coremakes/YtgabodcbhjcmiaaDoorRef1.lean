/- The document's own look at a node by itself. -/
import Derived.Test.YtgabodcbhjcmiaaDoorSame
import Derived.Test.YtgabodcbhjcmiaaDoorSee
namespace Go.Proofs.YtgabodcbhjcmiaaDoor
open Go.RowKit
attribute [local go_sem] Oper.semAt_some

/-- A truth value is answered. -/
def IsB (e : Ending) : Prop := ∃ b, e = .returned (.bool b)
/-- A truth value is answered, and if it is true so is something else. -/
def IsBP (p : Prop) (e : Ending) : Prop := ∃ b : Bool, e = .returned (.bool b) ∧ (b = true → p)
theorem isBP (p : Prop) (b : Bool) (h : b = true → p) : IsBP p (.returned (.bool b)) := ⟨b, rfl, h⟩
theorem refWord_any (k : Int) (w : World) : Calls Tryd.prog 37 #[.int .i64 k] w fun e w' => IsB e ∧ w' = w := by
  by_cases h : 1 ≤ k
  all_goals
    go_enter Tryd.func37, Tryd.ntmps37
    go_wp2_with fail
    go_ret
    exact ⟨⟨_, rfl⟩, rfl⟩
theorem refCommand_any (k : Int) (w : World) : Calls Tryd.prog 38 #[.int .i64 k] w fun e w' => IsB e ∧ w' = w := by
  by_cases h : 20 ≤ k
  all_goals
    go_enter Tryd.func38, Tryd.ntmps38
    go_wp2_with fail
    go_ret
    exact ⟨⟨_, rfl⟩, rfl⟩
set_option maxHeartbeats 4000000 in
theorem refcommand_any (kind i k : Int) (w : World) : Calls Tryd.prog 41 #[.int .i64 kind, .int .i64 i, .int .i64 k] w fun e w' => IsB e ∧ w' = w := by
  go_enter Tryd.func41, Tryd.ntmps41
  go_wp2_with fail
  all_goals
    go_ret
    exact ⟨⟨_, rfl⟩, rfl⟩
set_option maxHeartbeats 4000000 in
theorem refcount_any (kind k : Int) (w : World) : Calls Tryd.prog 53 #[.int .i64 kind, .int .i64 k] w fun e w' => IsBP (0 ≤ k) e ∧ w' = w := by
  go_enter Tryd.func53, Tryd.ntmps53
  go_wp2_with fail
  all_goals
    go_ret
    refine ⟨isBP _ _ ?_, rfl⟩
    intro h
    simp at h
    try omega
theorem refClosed_any (s : ByteArray) (hs : s.size < 4611686018427387904) (w : World) : Calls Tryd.prog 51 #[.string s] w fun e w' => IsB e ∧ w' = w := by
  go_enter Tryd.func51, Tryd.ntmps51
  go_wp2_with fail
  go_loop [3, 4] (fun v3 v4 => ∃ (k : Nat) (b : Bool), k ≤ s.size ∧ v4 = .int .i64 k ∧ v3 = .bool b) (fun _ v4 => s.size - (intOf v4).toNat)
  case atStart => exact ⟨0, false, by omega, rfl, rfl⟩
  case round =>
    obtain ⟨k, b, hk, rfl, rfl⟩ := hrel
    by_cases hlt : k < s.size
    · have hlt' : (k : Int) < (s.size : Int) := by omega
      go_wp2_with fail
      all_goals exact ⟨⟨k + 1, _, by omega, by simp, rfl⟩, by simp [intOf]; omega⟩
    · have hlt' : ¬ (k : Int) < (s.size : Int) := by omega
      go_wp2_with fail
      go_ret
      exact ⟨⟨_, rfl⟩, rfl⟩
theorem refLetter_any (c : Int) (w : World) : Calls Tryd.prog 60 #[.int .u8 c] w fun e w' => IsB e ∧ w' = w := by
  go_enter Tryd.func60, Tryd.ntmps60
  go_wp2_with fail
  all_goals
    go_ret
    exact ⟨⟨_, rfl⟩, rfl⟩
theorem refName_any (s : ByteArray) (w : World) : Calls Tryd.prog 52 #[.string s] w fun e w' => IsB e ∧ w' = w := by
  by_cases h0 : s.size < 1
  · have h0' : (s.size : Int) < 1 := by omega
    go_enter Tryd.func52, Tryd.ntmps52
    go_wp2_with fail
    go_ret
    exact ⟨⟨_, rfl⟩, rfl⟩
  · have h0' : ¬ (s.size : Int) < 1 := by omega
    have h1 : 0 < s.size := by omega
    by_cases h20 : (20 : Int) < (s.size : Int)
    · go_enter Tryd.func52, Tryd.ntmps52
      go_wp2_with fail
      go_ret
      exact ⟨⟨_, rfl⟩, rfl⟩
    · go_enter Tryd.func52, Tryd.ntmps52
      go_wp2_with fail
      all_goals
        first
        | (go_ret; exact ⟨⟨_, rfl⟩, rfl⟩)
        | skip
      all_goals
        go_loop [3] (fun v3 => ∃ k : Nat, k ≤ s.size ∧ v3 = .int .i64 k) (fun v3 => s.size - (intOf v3).toNat)
        case atStart => exact ⟨0, by omega, rfl⟩
        case round =>
          obtain ⟨k, hk, rfl⟩ := hrel
          by_cases hlt : k < s.size
          · have hlt' : (k : Int) < (s.size : Int) := by omega
            go_wp2_with fail
            refine (refLetter_any _ _).mono ?_
            rintro e w' ⟨⟨b, rfl⟩, rfl⟩
            cases b with
            | false =>
              go_wp2_with fail
              go_ret
              exact ⟨⟨_, rfl⟩, rfl⟩
            | true =>
              go_wp2_with fail
              exact ⟨⟨k + 1, by omega, by simp⟩, by simp [intOf]; omega⟩
          · have hlt' : ¬ (k : Int) < (s.size : Int) := by omega
            go_wp2_with fail
            go_ret
            exact ⟨⟨_, rfl⟩, rfl⟩
theorem IsBP.cases {p : Prop} {e : Ending} (h : IsBP p e) : e = .returned (.bool false) ∨ (e = .returned (.bool true) ∧ p) := by
  obtain ⟨b, rfl, hb⟩ := h
  cases b with
  | false => exact .inl rfl
  | true => exact .inr ⟨rfl, hb rfl⟩
theorem isBP_false (p : Prop) : IsBP p (.returned (.bool false)) := ⟨false, rfl, fun h => by cases h⟩
set_option maxRecDepth 100000 in
set_option maxHeartbeats 8000000 in
theorem refAlone_any (x : Nd) (hs : x.s.length < 4611686018427387904) (w : World) : Calls Tryd.prog 39 #[ndV x] w fun e w' => IsBP (0 ≤ x.k) e ∧ Below w.heap.size w w' := by
  obtain ⟨kd, n, k, sz, s⟩ := x
  simp only at hs ⊢
  have hs2 : (⟨s.toArray⟩ : ByteArray).size < 4611686018427387904 := hs
  go_enter Tryd.func39, Tryd.ntmps39
  go_wp2_with (first | (go_at_call 51; refine (refClosed_any _ hs2 _).mono ?_; rintro e w' ⟨⟨b, rfl⟩, rfl⟩; cases b) | (go_at_call 52; refine (refName_any _ _).mono ?_; rintro e w' ⟨⟨b, rfl⟩, rfl⟩; cases b) | (go_at_call 53; refine (refcount_any _ _ _).mono ?_; rintro e w' ⟨hq, rfl⟩; rcases hq.cases with rfl | ⟨rfl, hbk⟩))
  all_goals
    go_ret
    first
    | exact ⟨isBP_false _, below_new _ _⟩
    | exact ⟨isBP _ _ (fun _ => hbk), below_new _ _⟩
end Go.Proofs.YtgabodcbhjcmiaaDoor
