/- Plain facts on names; nothing of the program is in it. -/
import Derived.Test.YtnapmbemoppfbaaDoorPlain
namespace Go.Proofs.YtnapmbemoppfbaaDoor

/-- Whether all bytes are such as a name has at their places. -/
def namesAll : List UInt8 → Bool
  | [] => true
  | b :: r => startB (b.toNat : Int) && allCont r
theorem cont_of_start (c : Int) (h : startB c = true) : contB c = true := by unfold contB; rw [h]; rfl
theorem namesAll_snoc (l : List UInt8) (b : UInt8) : namesAll (l ++ [b]) = (namesAll l && (if l.length = 0 then startB (b.toNat : Int) else contB (b.toNat : Int))) := by
  cases l with
  | nil => simp [namesAll, allCont]
  | cons c r => simp [namesAll, allCont, Bool.and_assoc, cont8]
theorem namesAll_cont (l : List UInt8) (h : namesAll l = true) : ∀ b ∈ l, cont8 b = true := by
  cases l with
  | nil => intro b hb; cases hb
  | cons c r =>
    simp only [namesAll, Bool.and_eq_true] at h
    intro b hb
    rcases List.mem_cons.1 hb with rfl | hb
    · exact cont_of_start _ h.1
    · exact List.all_eq_true.1 h.2 b hb
theorem nameB_eq (l : List UInt8) : nameB l = (decide (1 ≤ l.length ∧ l.length ≤ 20) && namesAll l) := by
  cases l with
  | nil => rfl
  | cons b r =>
    unfold nameB
    simp only [namesAll, allCont, List.all_cons]
    cases hs : startB (b.toNat : Int)
    · simp
    · rw [show cont8 b = true from cont_of_start _ hs]; simp
theorem takeWhile_whole (p : UInt8 → Bool) (l rest : List UInt8) (h : ∀ b ∈ l, p b = true) (hr : ∀ b r, rest = b :: r → p b = false) : (l ++ rest).takeWhile p = l := by
  induction l with
  | nil =>
    cases rest with
    | nil => rfl
    | cons b r => simp [hr b r rfl]
  | cons c l ih =>
    rw [List.cons_append, List.takeWhile_cons, if_pos (h c (by simp)), ih (fun b hb => h b (by simp [hb]))]
theorem byte_at (s : ByteArray) (a : Nat) (h : a < s.size) (b : UInt8) (r : List UInt8) (hd : s.data.toList.drop a = b :: r) : s[a] = b := by
  have e := drop_cons s a h
  rw [hd] at e
  exact (List.cons.inj e).1.symm
theorem nameAt_of (s : ByteArray) (a : Nat) (l rest : List UInt8) (hd : s.data.toList.drop a = l ++ rest) (hl : namesAll l = true) (hr : ∀ b r, rest = b :: r → cont8 b = false) : nameAt s (a : Int) = l := by
  have hlen := congrArg List.length hd
  have hz : s.data.toList.length = s.size := by simp
  rw [List.length_drop, hz, List.length_append] at hlen
  by_cases ha : a < s.size
  · have hi : 0 ≤ (a : Int) ∧ (a : Int) < s.size := by omega
    unfold nameAt
    rw [dif_pos hi]
    cases l with
    | nil =>
      cases rest with
      | nil => simp at hlen; omega
      | cons b r =>
        have hb := byte_at s a ha b r hd
        have hc := hr b r rfl
        have hst : startB ((s[a]).toNat : Int) = false := by
          cases hs : startB ((s[a]).toNat : Int)
          · rfl
          · have := cont_of_start _ hs
            rw [hb] at this
            rw [show contB (b.toNat : Int) = false from hc] at this
            cases this
        simp [hst]
    | cons c r =>
      have hb := byte_at s a ha c (r ++ rest) hd
      have hst : startB ((s[a]).toNat : Int) = true := by
        rw [hb]
        simp only [namesAll, Bool.and_eq_true] at hl
        exact hl.1
      have e : runAt s a = c :: r := by
        unfold runAt
        rw [hd]
        exact takeWhile_whole cont8 (c :: r) rest (namesAll_cont _ hl) hr
      simp [hst, e]
  · unfold nameAt
    rw [dif_neg (by omega)]
    cases l with
    | nil => rfl
    | cons c r => simp at hlen; omega
end Go.Proofs.YtnapmbemoppfbaaDoor
