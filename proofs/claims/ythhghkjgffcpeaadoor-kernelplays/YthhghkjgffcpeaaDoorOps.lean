/- The kernel's small functions. -/
import Derived.Test.YthhghkjgffcpeaaDoorKern
namespace Go.Proofs.YthhghkjgffcpeaaDoor
open Go.RowKit

abbrev kP (kb : Nat) : Value := .pointer (some ⟨kb, 0, none⟩)

set_option maxHeartbeats 1000000 in
theorem keep_any {W : World} {K : Nat → Prop} {kb mb : Nat} {ev rv : Value} {F : Fls} {Y : List (Rw × Value)} {X : List (Ev × Value)} (k d : Txt) (hk : k.length < 4294967296) (h : Kern W K kb mb ev rv F Y X) (hF : F.length < 4294967296) :
    Calls Tryd.prog 40 #[kP kb, str k, str d] W fun e w' => e = .returned (.tuple #[]) ∧ Kern w' K kb mb ev rv (putF F k d) Y X ∧ Stp W K w' K := by
  have c1 := h.kc.cell 1
  have hm := h.fm
  have HH : Hid _ := h
  clear h
  have hkey := keyOf9 k (by have := maxLen_big; omega)
  have hval := flE_mk k d
  go_enter Tryd.func40, Tryd.ntmps40
  go_wp2_with (at_mapUpdate; refine wpList_mapUpdate_own _ rfl _ _ _ 55 rfl 9 73 key9 Tryd.underlying55 flE mb F.length (dF F) rfl hm (by have := maxLen_big; omega) _ _ (.string k) rfl rfl hkey (fD (k, d)) [] hval ?_; intro w1 hown1 hgrow1)
  go_end0
  exact ⟨rfl, Kern.put HH.out hown1 hgrow1⟩

set_option maxHeartbeats 1000000 in
theorem len_any {W : World} {K : Nat → Prop} {kb mb : Nat} {ev rv : Value} {F : Fls} {Y : List (Rw × Value)} {X : List (Ev × Value)} (h : Kern W K kb mb ev rv F Y X) :
    Calls Tryd.prog 26 #[kP kb] W fun e w' => e = .returned (.int .i64 X.length) ∧ w' = W := by
  have c0 := h.kc.cell 0
  obtain ⟨ad, cap, rfl⟩ := owns_slice h.er
  clear h
  go_enter Tryd.func26, Tryd.ntmps26
  go_wp2
  go_ret
  exact ⟨rfl, rfl⟩

def markB (k : Int) : Bool := k == 4 || k == 5 || k == 6
set_option maxHeartbeats 1000000 in
theorem isMark_any (k : Int) (W : World) : Calls Tryd.prog 53 #[.int .i64 k] W fun e w' => e = .returned (.bool (markB k)) ∧ w' = W := by
  by_cases h4 : k = 4
  · subst h4
    go_enter Tryd.func53, Tryd.ntmps53
    go_wp2
    go_ret
    exact ⟨rfl, rfl⟩
  · by_cases h5 : k = 5
    · subst h5
      go_enter Tryd.func53, Tryd.ntmps53
      go_wp2
      go_ret
      exact ⟨rfl, rfl⟩
    · have e4 : (k == 4) = false := by simpa using h4
      have e5 : (k == 5) = false := by simpa using h5
      go_enter Tryd.func53, Tryd.ntmps53
      go_wp2
      go_ret
      refine ⟨?_, rfl⟩
      unfold markB
      rw [e4, e5]
      rfl
end Go.Proofs.YthhghkjgffcpeaaDoor
