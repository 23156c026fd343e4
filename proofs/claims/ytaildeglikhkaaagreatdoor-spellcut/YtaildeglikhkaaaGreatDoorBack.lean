/- What was written is read back: a text between quotes, a kind's name, a number. Plain. -/
import Derived.Test.YtaildeglikhkaaaGreatDoorRead
namespace Go.Proofs.YtaildeglikhkaaaGreatDoor

theorem drop_get {α : Type} {l : List α} {k : Nat} {c : α} {r : List α} (h : l.drop k = c :: r) : l[k]? = some c ∧ l.drop (k + 1) = r := by
  constructor
  · have : (l.drop k)[0]? = some c := by rw [h]; rfl
    simpa [List.getElem?_drop] using this
  · rw [← List.drop_drop, h]; rfl
theorem drop_app {α : Type} {l : List α} {k : Nat} {a r : List α} (h : l.drop k = a ++ r) : l.drop (k + a.length) = r := by
  rw [← List.drop_drop, h, List.drop_left]
theorem hex_back : ∀ v : Fin 16, hexV (hexC v.val) = some v.val := by decide +kernel
theorem beg_back : ∀ c : Fin 256, escB ((c.val : Nat) : Int) = true → begE (c.val / 16) = true := by decide +kernel
theorem qb_back (s : ByteArray) (k : Nat) (c : UInt8) (r : List UInt8) (h : s.data.toList.drop k = quoteB c ++ r) : qbR s k = (some c.toNat, k + (quoteB c).length) ∧ s.data.toList[k]? ≠ some 34 := by
  have hlt := c.toNat_lt
  unfold quoteB at h ⊢
  cases he : escB ((c.toNat : Nat) : Int) with
  | true =>
    rw [he, if_pos rfl] at h
    obtain ⟨h0, h1⟩ := drop_get h
    obtain ⟨h2, h3⟩ := drop_get h1
    obtain ⟨h4, _⟩ := drop_get h3
    have e1 : hexAt s (k + 1) = some (c.toNat / 16) := by
      unfold hexAt; rw [h2]; exact hex_back ⟨c.toNat / 16, by omega⟩
    have e2 : hexAt s (k + 1 + 1) = some (c.toNat % 16) := by
      unfold hexAt; rw [h4]; exact hex_back ⟨c.toNat % 16, by omega⟩
    have e3 : begE (c.toNat / 16) = true := beg_back ⟨c.toNat, hlt⟩ he
    have e4 : c.toNat / 16 * 16 + c.toNat % 16 = c.toNat := by omega
    refine ⟨?_, by rw [h0]; decide⟩
    unfold qbR
    rw [h0]
    simp only [if_true]
    unfold escR
    rw [e1]
    simp only [e3, if_true]
    rw [e2]
    simp only [e4, he, if_true]
    simp
  | false =>
    rw [he, if_neg (by decide)] at h
    obtain ⟨h0, _⟩ := drop_get h
    have n92 : c ≠ 92 := by rintro rfl; revert he; decide
    have n34 : c ≠ 34 := by rintro rfl; revert he; decide
    refine ⟨?_, by rw [h0]; simpa using n34⟩
    unfold qbR
    rw [h0]
    simp [n92, he]
theorem quG_back (s : ByteArray) (r : List UInt8) : ∀ (l : List UInt8) (f k : Nat) (a : List UInt8), l.length < f → s.data.toList.drop k = bodyQ l ++ 34 :: r → quG s f k a = (some (a ++ l), k + (bodyQ l).length + 1)
  | [], f + 1, k, a, _, h => by
    have h0 := (drop_get (c := 34) (r := r) (by simpa [bodyQ] using h)).1
    rw [quG, if_pos h0]
    simp [bodyQ]
  | c :: l, f + 1, k, a, hf, h => by
    have hb : bodyQ (c :: l) = quoteB c ++ bodyQ l := by simp [bodyQ]
    rw [hb, List.append_assoc] at h
    obtain ⟨h0, h1⟩ := qb_back s k c _ h
    have hr := quG_back s r l f (k + (quoteB c).length) (a ++ [c]) (by simpa using hf) (drop_app h)
    rw [quG, if_neg h1, h0]
    simp only
    have hc : c.toNat.toUInt8 = c := by simp
    rw [hc, hr, hb, List.length_append]
    simp [Nat.add_assoc]
theorem quote_back (s : ByteArray) (k : Nat) (l r : List UInt8) (h : s.data.toList.drop k = quoteL l ++ r) : quR s k = (some l, k + (quoteL l).length) := by
  unfold quoteL at h ⊢
  have h' : s.data.toList.drop k = 34 :: (bodyQ l ++ 34 :: r) := by rw [h]; simp
  obtain ⟨h0, h1⟩ := drop_get h'
  have hlen : ∀ m : List UInt8, m.length ≤ (bodyQ m).length := by
    intro m
    induction m with
    | nil => simp [bodyQ]
    | cons x m ih =>
      have : 1 ≤ (quoteB x).length := by unfold quoteB; split <;> simp
      simp only [bodyQ, List.flatMap_cons, List.length_append, List.length_cons] at ih ⊢
      omega
  have hsz : (s.data.toList.drop k).length ≤ s.size := by
    rw [List.length_drop, Array.length_toList]
    exact Nat.sub_le _ _
  rw [h'] at hsz
  simp only [List.length_cons, List.length_append] at hsz
  have := hlen l
  unfold quR
  rw [if_pos h0, quG_back s r l (s.size + 1) (k + 1) [] (by omega) h1]
  simp
  omega
theorem share_app : ∀ a r : List UInt8, shareN a (a ++ r) = a.length
  | [], _ => by simp [shareN]
  | x :: a, r => by simp [shareN, share_app a r]
/-- A name that shares less than its whole length with another, shares no more with what begins so. -/
theorem share_less : ∀ a m r : List UInt8, shareN a m < a.length → shareN a m < m.length → shareN a (m ++ r) = shareN a m
  | [], _, _, h, _ => by simp at h
  | _ :: _, [], _, _, h => by simp at h
  | x :: a, y :: m, r, h, h' => by
    by_cases e : x = y
    · simp only [shareN, e, if_true, List.length_cons, List.cons_append] at h h' ⊢
      rw [share_less a m r (by omega) (by omega)]
    · simp [shareN, e]
theorem kdG_pass (m : List UInt8) (b : List UInt8) (L2 : List (List UInt8)) : ∀ (L1 : List (List UInt8)) (i n : Nat), (∀ a ∈ L1, ¬ (0 < shareN a m ∧ shareN a m = a.length)) → (0 < shareN b m ∧ shareN b m = b.length) →
    kdG m (L1 ++ b :: L2) i n = (some (i + L1.length), b.length)
  | [], i, n, _, h => by
    rw [List.nil_append, kdG, if_pos h, h.2]
    rfl
  | a :: L1, i, n, h, hb => by
    rw [List.cons_append, kdG, if_neg (h a (by simp)), kdG_pass m b L2 L1 (i + 1) _ (fun x hx => h x (by simp [hx])) hb]
    simp only [List.length_cons]
    rw [Nat.add_assoc, Nat.add_comm 1]
theorem kinds_apart : ∀ j : Fin 38, ∀ i : Fin 38, i.val < j.val → kindL.getD j.val [] ≠ [] → kindL.getD i.val [] = [] ∨ (shareN (kindL.getD i.val []) (kindL.getD j.val []) < (kindL.getD i.val []).length ∧ shareN (kindL.getD i.val []) (kindL.getD j.val []) < (kindL.getD j.val []).length) := by decide +kernel
theorem kind_back (s : ByteArray) (k j : Nat) (r : List UInt8) (hj : j < 38) (hne : kindL.getD j [] ≠ []) (h : s.data.toList.drop k = kindL.getD j [] ++ r) : kdR s k = (some j, k + (kindL.getD j []).length) := by
  have hl : kindL = kindL.take j ++ kindL.getD j [] :: kindL.drop (j + 1) := by
    have hlt : j < kindL.length := by rw [kindL_length]; exact hj
    have e : kindL.getD j [] = kindL[j] := by rw [List.getD_eq_getElem?_getD, List.getElem?_eq_getElem hlt]; rfl
    rw [e, ← List.drop_eq_getElem_cons hlt, List.take_append_drop]
  have hp := kdG_pass (kindL.getD j [] ++ r) (kindL.getD j []) (kindL.drop (j + 1)) (kindL.take j) 0 0 (by
    intro a ha
    obtain ⟨i, hi, hai⟩ := List.mem_iff_getElem.1 ha
    have hi' : i < j := by simp [kindL_length] at hi; omega
    have hlt : i < kindL.length := by rw [kindL_length]; omega
    have e : kindL.getD i [] = a := by rw [List.getD_eq_getElem?_getD, List.getElem?_eq_getElem hlt, ← hai]; simp
    have := kinds_apart ⟨j, hj⟩ ⟨i, by omega⟩ hi' hne
    simp only [e] at this
    rcases this with h0 | ⟨h1, h2⟩
    · rw [h0]; simp [shareN]
    · rw [share_less _ _ _ h1 h2]; omega) ⟨by rw [share_app]; exact List.length_pos_iff.2 hne, share_app _ _⟩
  rw [← hl] at hp
  have hmin : (kindL.take j).length = j := by simp [kindL_length]; omega
  unfold kdR
  rw [h, hp, hmin]
  simp
end Go.Proofs.YtaildeglikhkaaaGreatDoor
