/- A number that was written is read back; a node ahead of its children. Plain. -/
import Derived.Test.YtaildeglikhkaaaGreatDoorBack
import Derived.Test.YtaildeglikhkaaaGreatDoorNumPl
namespace Go.Proofs.YtaildeglikhkaaaGreatDoor
open Go.Lib (decDigits itoa)

/-- What may follow a number: no number's first digit behind a blank, no digit. -/
def Stop : List UInt8 → Prop
  | [] => True
  | c :: r => c = 41 ∨ (c = 32 ∧ ∀ x, r.head? = some x → x = 34 ∨ x = 40)
theorem inB_at (s : ByteArray) (k : Nat) (lo hi c : UInt8) (h : s.data.toList[k]? = some c) : inB s k lo hi = (decide (lo ≤ c) && decide (c ≤ hi)) := by
  unfold inB; rw [h]
theorem inB_end (s : ByteArray) (k : Nat) (lo hi : UInt8) (h : s.data.toList[k]? = none) : inB s k lo hi = false := by
  unfold inB; rw [h]
theorem drop_none {α : Type} {l : List α} {k : Nat} (h : l.drop k = []) : l[k]? = none := by
  have : (l.drop k)[0]? = none := by rw [h]; rfl
  simpa [List.getElem?_drop] using this
theorem stop_number (s : ByteArray) (k : Nat) (r : List UInt8) (h : s.data.toList.drop k = r) (hr : Stop r) : (inB s k 32 32 && inB s (k + 1) 49 57) = false := by
  match r, hr with
  | [], _ => rw [inB_end s k 32 32 (drop_none h)]; rfl
  | c :: r, hr =>
    obtain ⟨h0, h1⟩ := drop_get h
    rw [inB_at s k 32 32 c h0]
    rcases hr with rfl | ⟨rfl, hr⟩
    · rfl
    · match r, hr with
      | [], _ => rw [inB_end s (k + 1) 49 57 (drop_none h1)]; rfl
      | x :: r, hr =>
        rw [inB_at s (k + 1) 49 57 x (drop_get h1).1]
        rcases hr x rfl with rfl | rfl <;> rfl
theorem stop_digit (s : ByteArray) (k : Nat) (r : List UInt8) (h : s.data.toList.drop k = r) (hr : Stop r) : inB s k 48 57 = false := by
  match r, hr with
  | [], _ => exact inB_end s k 48 57 (drop_none h)
  | c :: r, hr =>
    rw [inB_at s k 48 57 c (drop_get h).1]
    rcases hr with rfl | ⟨rfl, _⟩ <;> rfl
theorem digit8_in (c : UInt8) (h : digit8 c = true) : (decide ((48 : UInt8) ≤ c) && decide (c ≤ (57 : UInt8))) = true := by
  have hb := of_decide_eq_true (show decide (48 ≤ (c.toNat : Int) ∧ (c.toNat : Int) ≤ 57) = true from h)
  rw [Bool.and_eq_true]
  exact ⟨decide_eq_true (UInt8.le_iff_toNat_le.2 (by show 48 ≤ c.toNat; omega)), decide_eq_true (UInt8.le_iff_toNat_le.2 (by show c.toNat ≤ 57; omega))⟩
theorem run_back (s : ByteArray) (r : List UInt8) (hr : Stop r) : ∀ (l : List UInt8) (q f : Nat), l.length ≤ f → allDigit l = true → s.data.toList.drop q = l ++ r → runN s q f = l.length
  | [], q, 0, _, _, _ => rfl
  | [], q, f + 1, _, _, h => by
    rw [runN, stop_digit s q r h hr]
    rfl
  | c :: l, q, f + 1, hf, hd, h => by
    obtain ⟨h0, h1⟩ := drop_get (show s.data.toList.drop q = c :: (l ++ r) from h)
    have hc : digit8 c = true ∧ allDigit l = true := by simpa [allDigit] using hd
    rw [runN, inB_at s q 48 57 c h0, digit8_in c hc.1, if_pos rfl, run_back s r hr l (q + 1) f (by simpa using hf) hc.2 h1]
    rfl
theorem num_none (s : ByteArray) (k : Nat) (r : List UInt8) (h : s.data.toList.drop k = r) (hr : Stop r) : nuR s k = (0, k) := by
  unfold nuR
  rw [stop_number s k r h hr]
  rfl
theorem num_back (s : ByteArray) (k n : Nat) (r : List UInt8) (hn : 1 ≤ n) (hn2 : n ≤ 999999999) (h : s.data.toList.drop k = 32 :: (itoa (n : Int) ++ r)) (hr : Stop r) : nuR s k = (n, k + 1 + (itoa (n : Int)).length) := by
  have hp := parse_itoa (n : Int)
  rw [if_pos ⟨by omega, by omega⟩, Int.toNat_natCast] at hp
  have hi : itoa (n : Int) = decDigits n := by unfold itoa; rw [if_neg (by omega), Int.toNat_natCast]
  obtain ⟨f1, _, f3⟩ := dec_facts n
  have f4 := dec_len n 9 (by omega) (by omega)
  have f5 := dec_head n hn
  rw [hi] at h hp ⊢
  obtain ⟨h0, h1⟩ := drop_get h
  cases hd : decDigits n with
  | nil => rw [hd] at f3; simp at f3
  | cons c l =>
    rw [hd] at h1 f1 f4 f5 hp
    obtain ⟨h2, h3⟩ := drop_get (show s.data.toList.drop (k + 1) = c :: (l ++ r) from h1)
    have hc : digit8 c = true ∧ allDigit l = true := by simpa [allDigit] using f1
    have hb := of_decide_eq_true (show decide (48 ≤ (c.toNat : Int) ∧ (c.toNat : Int) ≤ 57) = true from hc.1)
    have hne : c.toNat ≠ 48 := fun e => f5 (by rw [show c = 48 from UInt8.toNat_inj.1 e]; rfl)
    have hin : inB s (k + 1) 49 57 = true := by
      rw [inB_at s (k + 1) 49 57 c h2, Bool.and_eq_true]
      exact ⟨decide_eq_true (UInt8.le_iff_toNat_le.2 (by show 49 ≤ c.toNat; omega)), decide_eq_true (UInt8.le_iff_toNat_le.2 (by show c.toNat ≤ 57; omega))⟩
    have hrun := run_back s r hr l (k + 1 + 1) 8 (by simpa using f4) hc.2 h3
    have hdg : dgN s (k + 1) = (c :: l).length := by unfold dgN; rw [hrun, List.length_cons, Nat.add_comm]
    unfold nuR
    rw [inB_at s k 32 32 32 h0, hin, hdg, h1, List.take_left, hp]
    rfl
/-- What follows a node's kind. -/
def tailB (x : Nd) : List UInt8 := (if x.n = 0 then [] else [32] ++ itoa x.n) ++ (if strK x.kind then [32] ++ quoteL x.s else [])
/-- A node whose text says all of it but what its children say. -/
def Says (x : Nd) : Prop := (wordK x.kind || cmdK x.kind) = true ∧ 0 ≤ x.n ∧ x.n ≤ 999999999 ∧ (strK x.kind = false → x.s = [])
theorem kind_named : ∀ j : Fin 38, (wordK (j.val : Int) || cmdK (j.val : Int)) = true → kindL.getD j.val [] ≠ [] := by decide +kernel
theorem kind_range (k : Int) (h : (wordK k || cmdK k) = true) : ∃ j : Nat, k = j ∧ j < 38 := by
  have : (1 ≤ k ∧ k ≤ 12) ∨ (20 ≤ k ∧ k ≤ 37) := by simpa [wordK, cmdK] using h
  exact ⟨k.toNat, by omega, by omega⟩
theorem node_back (s : ByteArray) (k : Nat) (x : Nd) (r : List UInt8) (hx : Says x) (h : s.data.toList.drop k = kindN x.kind ++ (tailB x ++ r)) (hr : Stop r) :
    noR s k = (some ⟨x.kind, x.n, 0, 0, x.s⟩, k + (kindN x.kind ++ tailB x).length) := by
  obtain ⟨hk, hn0, hn1, hs⟩ := hx
  obtain ⟨j, hj, hlt⟩ := kind_range x.kind hk
  obtain ⟨n, hn⟩ : ∃ n : Nat, x.n = n := ⟨x.n.toNat, by omega⟩
  have hkN : kindN x.kind = kindL.getD j [] := by unfold kindN; rw [hk, if_pos rfl, hj, Int.toNat_natCast]
  have hne := kind_named ⟨j, hlt⟩ (by rw [hj] at hk; exact hk)
  rw [hkN] at h ⊢
  have hkd := kind_back s k j _ hlt hne h
  have h1 := drop_app h
  have hq : Stop ((if strK x.kind then [32] ++ quoteL x.s else []) ++ r) := by
    cases strK x.kind
    · exact hr
    · exact .inr ⟨rfl, fun y hy => .inl (by simpa [quoteL] using hy.symm)⟩
  have hnu : nuR s (k + (kindL.getD j []).length) = (n, k + (kindL.getD j []).length + (if x.n = 0 then [] else [32] ++ itoa x.n).length) := by
    unfold tailB at h1
    rw [List.append_assoc] at h1
    by_cases hz : x.n = 0
    · rw [if_pos hz, List.nil_append] at h1
      rw [num_none s _ _ h1 hq, if_pos hz]
      have : n = 0 := by omega
      rw [this]; rfl
    · rw [if_neg hz, hn] at h1
      rw [num_back s _ n _ (by omega) (by omega) h1 hq, if_neg hz, hn]
      simp only [List.cons_append, List.nil_append, List.length_cons, Prod.mk.injEq, true_and]
      omega
  have h2 : s.data.toList.drop (k + (kindL.getD j []).length + (if x.n = 0 then [] else [32] ++ itoa x.n).length) = (if strK x.kind then [32] ++ quoteL x.s else []) ++ r := by
    unfold tailB at h1
    rw [List.append_assoc] at h1
    exact drop_app h1
  unfold noR
  rw [hkd]
  simp only
  rw [hnu]
  simp only
  unfold noS tailB
  rw [← hj]
  cases hS : strK x.kind with
  | false =>
    rw [hs hS, ← hn]
    simp [Nat.add_assoc]
  | true =>
    rw [hS] at h2
    obtain ⟨h3, h4⟩ := drop_get (show _ = 32 :: (quoteL x.s ++ r) from h2)
    rw [if_pos rfl, if_pos h3, quote_back s _ x.s r h4, ← hn]
    simp only [Option.map_some, if_true, List.length_append, List.length_cons, List.length_nil, Prod.mk.injEq, true_and]
    omega
end Go.Proofs.YtaildeglikhkaaaGreatDoor
