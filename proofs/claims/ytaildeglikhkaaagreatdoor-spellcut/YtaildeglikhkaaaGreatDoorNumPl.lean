/- Plain facts on numerals: a number's text is read as that number, and what is read has just this text. -/
import Derived.Test.YtaildeglikhkaaaGreatDoorParse
import Derived.Lib.ItoaNum
namespace Go.Proofs.YtaildeglikhkaaaGreatDoor
open Go.Lib (decDigits itoa)

theorem u8_of (d : Nat) (h : d < 10) : (UInt8.ofNat (48 + d)).toNat = 48 + d := by
  rw [UInt8.toNat_ofNat']; omega
theorem dec_small (u : Nat) (h : u < 10) : decDigits u = [UInt8.ofNat (48 + u)] := by rw [decDigits, dif_pos h]
theorem dec_big (u : Nat) (h : ¬ u < 10) : decDigits u = decDigits (u / 10) ++ [UInt8.ofNat (48 + u % 10)] := by rw [decDigits, dif_neg h]
theorem digit8_of (d : Nat) (h : d < 10) : digit8 (UInt8.ofNat (48 + d)) = true := by
  unfold digit8 digitB
  rw [u8_of d h]
  exact decide_eq_true (by omega)
theorem dec_facts (u : Nat) : allDigit (decDigits u) = true ∧ valOf (decDigits u) = u ∧ 0 < (decDigits u).length := by
  induction u using Nat.strongRecOn with
  | _ u ih =>
    by_cases h : u < 10
    · rw [dec_small u h]
      refine ⟨?_, ?_, by simp⟩
      · unfold allDigit; rw [List.all_cons, digit8_of u h]; rfl
      · show 0 * 10 + ((UInt8.ofNat (48 + u)).toNat - 48) = u
        rw [u8_of u h]; omega
    · obtain ⟨i1, i2, i3⟩ := ih (u / 10) (by omega)
      rw [dec_big u h]
      refine ⟨?_, ?_, by simp⟩
      · rw [allDigit_snoc, i1, digit8_of _ (by omega)]; rfl
      · rw [valOf_snoc, i2, u8_of _ (by omega)]; omega
theorem dec_len (u k : Nat) (hk : 1 ≤ k) (h : u < 10 ^ k) : (decDigits u).length ≤ k := by
  induction u using Nat.strongRecOn generalizing k with
  | _ u ih =>
    by_cases h1 : u < 10
    · rw [dec_small u h1]; simpa using hk
    · rw [dec_big u h1, List.length_append]
      have hk2 : 2 ≤ k := by
        rcases Nat.lt_or_ge k 2 with hh | hh
        · have : k = 1 := by omega
          subst this; omega
        · exact hh
      obtain ⟨j, rfl⟩ : ∃ j, k = j + 1 := ⟨k - 1, by omega⟩
      rw [Nat.pow_succ] at h
      have := ih (u / 10) (by omega) j (by omega) (by omega)
      simp; omega
theorem dec_len_big (u : Nat) (h : 1000000000 ≤ u) : 9 < (decDigits u).length := by
  obtain ⟨h1, h2, h3⟩ := dec_facts u
  rcases Nat.lt_or_ge 9 (decDigits u).length with hh | hh
  · exact hh
  · have hv := valOf_lt _ _ rfl h1
    rw [h2] at hv
    have : 10 ^ (decDigits u).length ≤ 10 ^ 9 := Nat.pow_le_pow_right (by omega) hh
    omega
theorem dec_head (u : Nat) (h : 1 ≤ u) : (decDigits u).head? ≠ some 48 := by
  induction u using Nat.strongRecOn with
  | _ u ih =>
    by_cases h1 : u < 10
    · rw [dec_small u h1]
      intro e
      have e2 : UInt8.ofNat (48 + u) = 48 := by simpa using e
      have := congrArg UInt8.toNat e2
      rw [u8_of u h1] at this
      have : (48 : UInt8).toNat = 48 := rfl
      omega
    · have i := ih (u / 10) (by omega) (by omega)
      rw [dec_big u h1]
      obtain ⟨_, _, h3⟩ := dec_facts (u / 10)
      match hd : decDigits (u / 10) with
      | [] => rw [hd] at h3; simp at h3
      | b :: r => rw [hd] at i; simpa using i
/-- A number's text is read as that number, where it is one. -/
theorem parse_itoa (n : Int) : parseV (itoa n) = if 0 ≤ n ∧ n ≤ 999999999 then some n.toNat else none := by
  unfold itoa
  by_cases h0 : n < 0
  · rw [if_pos h0, if_neg (by omega)]
    by_cases hl : 9 < (45 :: decDigits n.natAbs).length
    · exact parseV_long _ hl
    · rw [parseV_of _ (by simp) (by omega) (fun h => by simp at h)]
      unfold digitsV
      rw [show allDigit (45 :: decDigits n.natAbs) = false from by unfold allDigit; rw [List.all_cons, show digit8 45 = false from by decide]; rfl]
      rfl
  · rw [if_neg h0]
    obtain ⟨h1, h2, h3⟩ := dec_facts n.toNat
    by_cases hb : n ≤ 999999999
    · rw [if_pos ⟨by omega, hb⟩]
      have hl := dec_len n.toNat 9 (by omega) (by omega)
      rw [parseV_of _ h3 hl ?_]
      · unfold digitsV; rw [h1, h2]; rfl
      · intro hh
        by_cases hz : 1 ≤ n.toNat
        · exact absurd hh (dec_head _ hz)
        · exact dec_len _ 1 (by omega) (by omega)
    · rw [if_neg (by omega)]
      exact parseV_long _ (dec_len_big _ (by omega))
theorem dec_of (n : Nat) : ∀ l : List UInt8, l.length = n + 1 → allDigit l = true → l.head? ≠ some 48 → decDigits (valOf l) = l ∧ 1 ≤ valOf l := by
  induction n with
  | zero =>
    intro l hl hd hh
    match l, hl with
    | [b], _ =>
      have hb : digit8 b = true := by simpa [allDigit] using hd
      have hb2 := of_decide_eq_true (show decide (48 ≤ (b.toNat : Int) ∧ (b.toNat : Int) ≤ 57) = true from hb)
      have hne : b.toNat ≠ 48 := fun e => hh (by rw [show b = 48 from UInt8.toNat_inj.1 e]; rfl)
      have hv : valOf [b] = b.toNat - 48 := by simp [valOf]
      rw [hv, dec_small _ (by omega)]
      refine ⟨?_, by omega⟩
      congr 1
      apply UInt8.toNat_inj.1
      rw [u8_of _ (by omega)]; omega
  | succ n ih =>
    intro l hl hd hh
    obtain ⟨m, b, rfl⟩ : ∃ m b, l = m ++ [b] := ⟨l.dropLast, l.getLast (by intro e; rw [e] at hl; simp at hl), (List.dropLast_concat_getLast _).symm⟩
    have hm : m.length = n + 1 := by simpa using hl
    rw [allDigit_snoc, Bool.and_eq_true] at hd
    have hmh : m.head? ≠ some 48 := by
      match m, hm with
      | c :: r, _ => simpa using hh
    obtain ⟨i1, i2⟩ := ih m hm hd.1 hmh
    have hb2 := of_decide_eq_true (show decide (48 ≤ (b.toNat : Int) ∧ (b.toNat : Int) ≤ 57) = true from hd.2)
    rw [valOf_snoc, dec_big _ (by omega), show (valOf m * 10 + (b.toNat - 48)) / 10 = valOf m by omega, i1, show (valOf m * 10 + (b.toNat - 48)) % 10 = b.toNat - 48 by omega]
    refine ⟨?_, by omega⟩
    congr 2
    apply UInt8.toNat_inj.1
    rw [u8_of _ (by omega)]; omega
/-- What is read has just this text. -/
theorem itoa_parse (l : List UInt8) (k : Nat) (h : parseV l = some k) : itoa (k : Int) = l := by
  by_cases hc : l = [] ∨ 9 < l.length ∨ (l.head? = some 48 ∧ 1 < l.length)
  · unfold parseV at h; rw [if_pos hc] at h; cases h
  · unfold parseV at h
    rw [if_neg hc] at h
    cases hd : l.all digit8
    · rw [hd] at h; cases h
    · rw [hd] at h
      have hk : valOf l = k := by simpa using h
      unfold itoa
      rw [if_neg (by omega), Int.toNat_natCast, ← hk]
      have h0 : 0 < l.length := by
        match l, hc with
        | [], hc => exact absurd (.inl rfl) hc
        | _ :: _, _ => simp
      by_cases hh : l.head? = some 48
      · have hl : l.length = 1 := by
          rcases Nat.lt_or_ge 1 l.length with h1 | h1
          · exact absurd (.inr (.inr ⟨hh, h1⟩)) hc
          · omega
        match l, hl, hh with
        | [b], _, hh =>
          have : b = 48 := by simpa using hh
          subst this
          rw [show valOf [48] = 0 from rfl, dec_small 0 (by omega)]; rfl
      · exact (dec_of (l.length - 1) l (by omega) hd hh).1
theorem parseV_le (l : List UInt8) (k : Nat) (h : parseV l = some k) : k ≤ 999999999 := by
  by_cases hc : l = [] ∨ 9 < l.length ∨ (l.head? = some 48 ∧ 1 < l.length)
  · unfold parseV at h; rw [if_pos hc] at h; cases h
  · unfold parseV at h
    rw [if_neg hc] at h
    cases hd : l.all digit8
    · rw [hd] at h; cases h
    · rw [hd] at h
      have hk : valOf l = k := by simpa using h
      have hl : l.length ≤ 9 := by
        rcases Nat.lt_or_ge 9 l.length with h1 | h1
        · exact absurd (.inr (.inl h1)) hc
        · exact h1
      have hv := valOf_lt _ l rfl hd
      have : 10 ^ l.length ≤ 10 ^ 9 := Nat.pow_le_pow_right (by omega) hl
      omega
theorem itoa_len (n : Int) (h0 : -9223372036854775808 ≤ n) (h1 : n ≤ 9223372036854775807) : (itoa n).length ≤ 20 := by
  unfold itoa
  by_cases h : n < 0
  · rw [if_pos h]
    have := dec_len n.natAbs 19 (by omega) (by omega)
    simp; omega
  · rw [if_neg h]
    have := dec_len n.toNat 19 (by omega) (by omega)
    omega
end Go.Proofs.YtaildeglikhkaaaGreatDoor
