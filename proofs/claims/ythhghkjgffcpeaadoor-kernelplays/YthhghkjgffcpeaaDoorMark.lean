/- Marks; rows; what is read of a kernel. -/
import Derived.Test.YthhghkjgffcpeaaDoorNote2
namespace Go.Proofs.YthhghkjgffcpeaaDoor
open Go.RowKit

/-- What a mark leaves. -/
def marked (k n : Int) : List Ev := if markB k then [⟨k, n, [], [], []⟩] else []
set_option maxHeartbeats 1000000 in
theorem mark_any {W : World} {K : Nat → Prop} {kb mb : Nat} {ev rv : Value} {F : Fls} {Y : List (Rw × Value)} {X : List (Ev × Value)} (k n : Int) (h : Kern W K kb mb ev rv F Y X) (hX : X.length < 4294967296) :
    Calls Tryd.prog 24 #[kP kb, .int .i64 k, .int .i64 n] W fun r w' => r = .returned (.tuple #[]) ∧ ∃ ev' X' K', Kern w' K' kb mb ev' rv F Y (X ++ X') ∧ X'.map Prod.fst = marked k n ∧ Stp W K w' K' := by
  have HH : Hid _ := h
  have HM := isMark_any k W
  cases hm : markB k with
  | true =>
    have e1 : marked k n = [⟨k, n, [], [], []⟩] := by simp [marked, hm]
    rw [hm] at HM
    have HM' : Hid _ := HM
    have HE : Hid _ := e1
    clear h HM hm e1
    go_enter Tryd.func24, Tryd.ntmps24
    go_wp2_with fail
    refine Calls.mono HM'.out ?_
    rintro e w1 ⟨rfl, hw1⟩
    obtain rfl := hw1.symm
    go_wp2_with fail
    refine (note_any ⟨k, n, [], [], []⟩ (.slice none 0 0) HH.out hX (Tx.nil _) (Nat.zero_lt_succ _)).mono ?_
    rintro e w2 ⟨rfl, ev', lv', K', h1, h2⟩
    go_wp2_with fail
    go_end0
    exact ⟨rfl, ev', [(_, lv')], K', h1, by rw [HE.out]; rfl, h2⟩
  | false =>
    have e1 : marked k n = [] := by simp [marked, hm]
    rw [hm] at HM
    have HM' : Hid _ := HM
    have HE : Hid _ := e1
    clear h HM hm e1
    go_enter Tryd.func24, Tryd.ntmps24
    go_wp2_with fail
    refine Calls.mono HM'.out ?_
    rintro e w1 ⟨rfl, hw1⟩
    obtain rfl := hw1.symm
    go_wp2_with fail
    go_end0
    exact ⟨rfl, ev, [], K, by rw [List.append_nil]; exact HH.out, by rw [HE.out]; rfl, Stp.refl _ _⟩
end Go.Proofs.YthhghkjgffcpeaaDoor
