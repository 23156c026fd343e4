/- How far a text begins as another. -/
import Derived.Test.YtaildeglikhkaaaGreatDoorHex
namespace Go.Proofs.YtaildeglikhkaaaGreatDoor
open Go.RowKit
attribute [local go_sem] Oper.semAt_some

/-- How many bytes two texts begin with alike. -/
def shareN : List UInt8 → List UInt8 → Nat
  | a :: l, c :: m => if a = c then shareN l m + 1 else 0
  | [], _ => 0
  | _ :: _, [] => 0
theorem shareN_le : ∀ l m : List UInt8, shareN l m ≤ l.length ∧ shareN l m ≤ m.length
  | [], _ => by simp [shareN]
  | _ :: _, [] => by simp [shareN]
  | a :: l, c :: m => by
    have := shareN_le l m
    unfold shareN
    split <;> simp <;> omega
theorem shareN_nil (m : List UInt8) : shareN [] m = 0 := by cases m <;> rfl
/-- One byte further. -/
theorem shareN_drop (l m : List UInt8) (n : Nat) (hn : n < l.length) : shareN (l.drop n) (m.drop n) = if m[n]? = l[n]? then shareN (l.drop (n + 1)) (m.drop (n + 1)) + 1 else 0 := by
  rw [List.drop_eq_getElem_cons hn, List.getElem?_eq_getElem hn]
  by_cases hm : n < m.length
  · rw [List.drop_eq_getElem_cons hm, List.getElem?_eq_getElem hm]
    simp only [Option.some.injEq]
    by_cases e : m[n] = l[n]
    · rw [if_pos e, shareN, if_pos e.symm]
    · rw [if_neg e, shareN, if_neg (fun h => e h.symm)]
  · rw [show m.drop n = [] from List.drop_eq_nil_of_le (by omega), List.getElem?_eq_none (by omega)]
    simp [shareN]
set_option maxHeartbeats 2000000 in
theorem shared_any {W : World} {b : Nat} {t : TypeId} {s : ByteArray} {k : Nat} {r : List Value} (h : PlC W b t s k r) (a : ByteArray) (hs : s.size < 8796093022208) (hk : k ≤ s.size) (ha : a.size < 8796093022208) :
    Calls Tryz.prog 103 #[.pointer (some ⟨b, 0, none⟩), .string a] W fun e w' => e = .returned (.int .i64 (shareN a.data.toList (s.data.toList.drop k) : Nat)) ∧ Gone W b t s k r w' := by
  have HG0 : Hid (Gone W b t s k r W) := Gone.refl h
  clear h
  obtain ⟨R, hR⟩ : ∃ R, shareN a.data.toList (s.data.toList.drop k) = R := ⟨_, rfl⟩
  rw [hR]
  go_enter Tryz.func103, Tryz.ntmps103
  go_wp2_with fail
  go_loopw [5] (fun v5 wr => ∃ n : Nat, v5 = .int .i64 n ∧ n ≤ a.size ∧ Hid (R = n + shareN (a.data.toList.drop n) ((s.data.toList.drop k).drop n)) ∧ Hid (Gone W b t s k r wr)) (fun v5 _ => a.size - (intOf v5).toNat)
  case atStart => exact ⟨0, rfl, by omega, by unfold Hid; simp [← hR], HG0⟩
  case round =>
    obtain ⟨n, rfl, hn, HE, HG⟩ := hrel
    have HD : Hid (∀ m, Gone W b t s k r (wr.drewN m)) := fun m => HG.out.drewN m
    by_cases hlt : n < a.size
    · obtain ⟨c, hc⟩ : ∃ c, a[n] = c := ⟨_, rfl⟩
      have hac : a.data.toList[n]? = some c := by rw [text_at a n hlt, hc]
      have HS := shareN_drop a.data.toList (s.data.toList.drop k) n (by simpa using hlt)
      rw [hac, List.getElem?_drop] at HS
      have HIN : Hid (∀ m, Calls Tryz.prog 74 #[.pointer (some ⟨b, 0, none⟩), .int .i64 (n : Nat), .int .u8 (c.toNat : Nat), .int .u8 (c.toNat : Nat)] (wr.drewN m) fun e w' => e = .returned (.bool (s.data.toList[k + n]? == some c)) ∧ w' = wr.drewN m) := fun m => by
        have := in_any (HD.out m).at_.at n c c (by omega) hk (by omega)
        rw [inB_one] at this
        exact this
      by_cases hq : s.data.toList[k + n]? = some c
      · rw [if_pos hq] at HS
        have HE' : Hid (R = (n + 1 : Nat) + shareN (a.data.toList.drop (n + 1)) ((s.data.toList.drop k).drop (n + 1))) := by unfold Hid; rw [HE.out, HS]; omega
        rw [show (s.data.toList[k + n]? == some c) = true by simp [hq]] at HIN
        clear hq HS hac HE HG hR
        go_wp2_with fail
        go_quiet (first | (go_at_call 74; exact Calls.quiet_of_same (HIN.out _)))
        go_wp2_with fail
        go_roundw
        case rel => exact ⟨n + 1, by simp, hlt, HE', HD.out _⟩
        case measure => simp [intOf]; omega
      · rw [if_neg hq] at HS
        have HE' : Hid (R = n) := by unfold Hid; rw [HE.out, HS]; omega
        rw [show (s.data.toList[k + n]? == some c) = false by simpa using hq] at HIN
        clear hq HS hac HE HG hR
        go_wp2_with fail
        go_quiet (first | (go_at_call 74; exact Calls.quiet_of_same (HIN.out _)))
        go_wp2_with fail
        go_ret
        rw [HE'.out]
        exact ⟨rfl, HD.out _⟩
    · have hna : n = a.size := by omega
      have HE' : Hid (R = n) := by unfold Hid; rw [HE.out, List.drop_eq_nil_of_le (by simp; omega), shareN_nil]; omega
      clear HE HG hR
      go_wp2_with fail
      go_quiet (fail)
      go_wp2_with fail
      go_ret
      rw [HE'.out]
      exact ⟨rfl, HD.out _⟩
end Go.Proofs.YtaildeglikhkaaaGreatDoor
