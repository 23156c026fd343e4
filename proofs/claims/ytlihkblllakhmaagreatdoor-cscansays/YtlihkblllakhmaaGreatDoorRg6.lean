/- The document's scanner: an escape. -/
import Derived.Test.YtlihkblllakhmaaGreatDoorRg5
namespace Go.Proofs.YtlihkblllakhmaaGreatDoor
open Go.RowKit
attribute [local go_sem] Oper.semAt_some

set_option maxRecDepth 100000 in
set_option maxHeartbeats 4000000 in
theorem part_esc {W : World} {b B : Nat} {s : ByteArray} {i : Nat} {av v : Value} {X : List Pt} (h : Lx W b s i 0 av) (hO : QtOwn W B v X) (hbB : b < B) (hBW : B ≤ W.heap.size) (hs : s.size ≤ 8192) (hX : X.length < 100000) (hXs : ∀ p ∈ X, p.s.length ≤ 100000) (hi : i < s.size) (hc : s[i] = 92) (hn : i + 1 < s.size) :
    Calls Tryz.prog 42 #[.pointer (some ⟨b, 0, none⟩), v] W fun e w' => ∃ v', e = .returned v' ∧ PrtR W b B s av (jnR X (stepD s.size (s.data.toList.drop i))) v' w' := by
  obtain ⟨ad, cap, rfl⟩ := hO.form
  have l0 : W.cell? ⟨b, 0, none⟩ = some (.string s) := h.cell 0
  have l1 : W.cell? ⟨b, 1, none⟩ = some (.int .i64 (i : Nat)) := h.cell 1
  have lf := h.frozen 1
  have HC : Hid (∀ t : ByteArray, t.size ≤ 100000 → _) := fun t ht => text_call h hO hbB hBW hX hXs (show i + 2 ≤ s.size by omega) t ht ((i : Int) + 2) (by simp)
  have m0 : (W.setCell ⟨b, 1, none⟩ (.int .i64 ((i : Int) + 2))).cell? ⟨b, 0, none⟩ = some (.string s) := (h.move (j' := i + 2) (by simp)).cell 0
  have hi' : (i : Int) < (s.size : Int) := by omega
  have HR : Hid (jnR X (stepD s.size (s.data.toList.drop i)) = .ok (joinP X ⟨1, i, 0, [escC s[i + 1]]⟩, s.data.toList.drop (i + 2))) := by
    unfold Hid
    have hl := len_drop s (i + 1)
    rw [drop_cons s i hi, stepD_cons, if_pos hc, show s.size - ((s.data.toList.drop (i + 1)).length + 1) = i by omega, drop_cons s (i + 1) hn]
    rfl
  rw [HR.out]
  have q92 : (((s[i]).toNat : Int) == 92) = true := by rw [hc]; rfl
  have hn1 : ¬ (s.size : Int) ≤ (i : Int) + 1 := by omega
  have hn2 : (i : Int) + 2 ≤ (s.size : Int) := by omega
  have HE : Hid ((s.extract (i + 1) (i + 2)).data.toList = [s[i + 1]]) := one_eq s (i + 1) hn
  have HZ : Hid ((s.extract (i + 1) (i + 2)).size ≤ 100000) := by simp [Hid]; omega
  clear hc HR h hO hXs
  generalize s[i + 1] = d at HE
  have hE : ∀ c : UInt8, ((s.extract (i + 1) (i + 2)).toList == [c]) = (d == c) := fun c => by
    rw [ByteArray.toList_eq, HE.out, Bool.eq_iff_iff]
    simp
  have q110 := hE 110
  have q116 := hE 116
  clear hE
  by_cases d1 : d = 110
  · subst d1
    have HQ : Hid _ := HC.out ⟨#[10]⟩ (by decide)
    clear HC
    replace q110 : ((s.extract (i + 1) (i + 2)).toList == [110]) = true := q110
    go_enter Tryz.func42, Tryz.ntmps42
    go_wp2_with fail
    refine Calls.mono HQ.out ?_
    rintro e w1 ⟨v', rfl, hq⟩
    have HQ : Hid _ := hq
    clear hq
    go_wp2_with fail
    go_ret
    exact ⟨v', rfl, HQ.out⟩
  · rw [show (d == 110) = false by simpa using d1] at q110
    by_cases d2 : d = 116
    · subst d2
      have HQ : Hid _ := HC.out ⟨#[9]⟩ (by decide)
      clear HC
      replace q116 : ((s.extract (i + 1) (i + 2)).toList == [116]) = true := q116
      go_enter Tryz.func42, Tryz.ntmps42
      go_wp2_with fail
      refine Calls.mono HQ.out ?_
      rintro e w1 ⟨v', rfl, hq⟩
      have HQ : Hid _ := hq
      clear hq
      go_wp2_with fail
      go_ret
      exact ⟨v', rfl, HQ.out⟩
    · rw [show (d == 116) = false by simpa using d2] at q116
      have HQ : Hid _ := HC.out _ HZ.out
      clear HC
      rw [HE.out] at HQ
      rw [show escC d = d by unfold escC; rw [if_neg d1, if_neg d2]]
      go_enter Tryz.func42, Tryz.ntmps42
      go_wp2_with fail
      refine Calls.mono HQ.out ?_
      rintro e w1 ⟨v', rfl, hq⟩
      have HQ : Hid _ := hq
      clear hq
      go_wp2_with fail
      go_ret
      exact ⟨v', rfl, HQ.out⟩
end Go.Proofs.YtlihkblllakhmaaGreatDoor
