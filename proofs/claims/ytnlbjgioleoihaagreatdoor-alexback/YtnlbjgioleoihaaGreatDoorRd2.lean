/- Behind quotes and brackets. -/
import Derived.Test.YtnlbjgioleoihaaGreatDoorRd1
namespace Go.Proofs.YtnlbjgioleoihaaGreatDoor
open Go.RowKit
attribute [local go_sem] Oper.semAt_some

/-- A reader that has come to what is left of a text, if anything is told of it. -/
def Lands (s : ByteArray) (j : Nat) (R : Option (List UInt8)) : Prop := ∀ t, R = some t → t = s.data.toList.drop j ∧ j ≤ s.size
theorem Lands.none (s : ByteArray) (j : Nat) : Lands s j none := fun t h => by cases h
theorem Lands.some (s : ByteArray) (j : Nat) (h : j ≤ s.size) : Lands s j (some (s.data.toList.drop j)) := fun t e => by cases e; exact ⟨rfl, h⟩
theorem at_none (s : ByteArray) (k : Nat) (h : ¬ k < s.size) : s.data.toList[k]? = none := List.getElem?_eq_none (by simp; omega)
theorem drop_none (s : ByteArray) (k : Nat) (h : ¬ k < s.size) : s.data.toList.drop k = [] := List.drop_eq_nil_of_le (by simp; omega)
theorem byte_ne (c d : UInt8) (h : c ≠ d) : ((c.toNat : Int) == (d.toNat : Int)) = false := by
  have : ¬ (c.toNat : Int) = (d.toNat : Int) := fun e => h (UInt8.toNat_inj.1 (by omega))
  simpa using this
set_option maxHeartbeats 1000000 in
theorem passSingle_any {W : World} {b sb k : Nat} {s : ByteArray} (h : Rd W b sb s k) (hs : s.size < 1152921504606846976) (hk : k ≤ s.size + 1) :
    Calls Tryz.prog 55 #[.pointer (some ⟨b, 0, none⟩)] W fun e w' => e = .returned (.bool (pSing (s.data.toList.drop k)).isSome) ∧ ∃ j, Stp W b sb s j w' ∧ k < j ∧ j ≤ s.size + 2 ∧ Lands s j (pSing (s.data.toList.drop k)) := by
  have HR0 : Hid (Rd W b sb s k) := h
  clear h
  obtain ⟨R, HR⟩ : ∃ R, Hid (pSing (s.data.toList.drop k) = R) := ⟨_, rfl⟩
  rw [HR.out]
  go_enter Tryz.func55, Tryz.ntmps55
  go_wp2_with fail
  go_loopw [2] (fun v2 wr => ∃ k' : Nat, v2 = .bool false ∧ k ≤ k' ∧ k' ≤ s.size + 1 ∧ Hid (pSing (s.data.toList.drop k') = R) ∧ Hid (Stp W b sb s k' wr)) (fun _ wr => s.size + 2 - posOf wr b)
  case atStart => exact ⟨k, rfl, Nat.le_refl _, hk, HR.out, Stp.refl HR0.out⟩
  case round =>
    obtain ⟨k', rfl, hkk, hk', HE, HS⟩ := hrel
    have HP : Hid (posOf wr b = k') := HS.out.at_.pos
    have HT : Hid (Calls Tryz.prog 67 #[.pointer (some ⟨b, 0, none⟩)] wr fun e w' => e = .returned (.tuple (byteV s.data.toList[k']?)) ∧ Stp wr b sb s (k' + 1) w') := take_any HS.out.at_ (by omega)
    by_cases hlt : k' < s.size
    · have HC : Hid (s.data.toList.drop k' = s[k'] :: s.data.toList.drop (k' + 1)) := drop_cons s k' hlt
      rw [text_at s k' hlt, byteV_some] at HT
      by_cases hq : s[k'] = 39
      · have HEQ : Hid (R = some (s.data.toList.drop (k' + 1))) := by unfold Hid; rw [← HE.out, HC.out, pSing, if_pos hq]
        rw [hq] at HT
        clear hq HC HE
        go_wp2_with fail
        refine Calls.mono HT.out ?_
        rintro e w1 ⟨rfl, hS1⟩
        have HS1 : Hid (Stp W b sb s (k' + 1) w1) := HS.out.trans hS1
        clear hS1
        go_wp2_with fail
        go_ret
        rw [HEQ.out]
        exact ⟨rfl, k' + 1, HS1.out, by omega, by omega, Lands.some s _ hlt⟩
      · have HEQ : Hid (pSing (s.data.toList.drop (k' + 1)) = R) := by
          have := HE.out
          rw [HC.out, pSing, if_neg hq] at this
          exact this
        have hne : ((s[k'].toNat : Int) == 39) = false := byte_ne _ 39 hq
        generalize s[k'] = c at HT hne
        clear hq HC HE
        go_wp2_with fail
        refine Calls.mono HT.out ?_
        rintro e w1 ⟨rfl, hS1⟩
        have HS1 : Hid (Stp W b sb s (k' + 1) w1) := HS.out.trans hS1
        clear hS1
        go_wp2_with fail
        refine ⟨⟨k' + 1, rfl, by omega, by omega, HEQ.out, HS1.out⟩, ?_⟩
        rw [HS1.out.at_.pos, HP.out]
        omega
    · have HEQ : Hid (R = none) := by unfold Hid; rw [← HE.out, drop_none s k' hlt]; rfl
      rw [at_none s k' hlt, byteV_none] at HT
      clear HE
      go_wp2_with fail
      refine Calls.mono HT.out ?_
      rintro e w1 ⟨rfl, hS1⟩
      have HS1 : Hid (Stp W b sb s (k' + 1) w1) := HS.out.trans hS1
      clear hS1
      go_wp2_with fail
      go_ret
      rw [HEQ.out]
      exact ⟨rfl, k' + 1, HS1.out, by omega, by omega, Lands.none s _⟩
end Go.Proofs.YtnlbjgioleoihaaGreatDoor
