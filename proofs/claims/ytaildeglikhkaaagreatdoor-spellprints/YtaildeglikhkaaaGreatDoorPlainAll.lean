/- A number that was written is read back; a node ahead of its children. Plain. -/
import Derived.Test.YtaildeglikhkaaaGreatDoorRead
import Derived.Test.YtaildeglikhkaaaGreatDoorParse
import Derived.Lib.ItoaNum
/-! What was written is read back: a text between quotes, a kind's name, a number. Plain. -/
namespace Go.Proofs.YtaildeglikhkaaaGreatDoor

theorem drop_get {α : Type} {l : List α} {k : Nat} {c : α} {r : List α} (h : l.drop k = c :: r) : l[k]? = some c ∧ l.drop (k + 1) = r := by
  constructor
  · have : (l.drop k)[0]? = some c := by rw [h]; rfl
    simpa [List.getElem?_drop] using this
  · rw [← List.drop_drop, h]; rfl
theorem drop_app {α : Type} {l : List α} {k : Nat} {a r : List α} (h : l.drop k = a ++ r) : l.drop (k + a.length) = r := by
  rw [← List.drop_drop, h, List.drop_left]
theorem hex_back : ∀ v : Fin 16, hexV (hexC v.val) = some v.val := by decide +kernel
theorem beg_back : ∀ c : Fin 256, escB ((c.val : Nat) : Int) = true → begE (c.val / 16) = true := by decide +kernel
theorem qb_back (s : ByteArray) (k : Nat) (c : UInt8) (r : List UInt8) (h : s.data.toList.drop k = quoteB c ++ r) : qbR s k = (some c.toNat, k + (quoteB c).length) ∧ s.data.toList[k]? ≠ some 34 := by
  have hlt := c.toNat_lt
  unfold quoteB at h ⊢
  cases he : escB ((c.toNat : Nat) : Int) with
  | true =>
    rw [he, if_pos rfl] at h
    obtain ⟨h0, h1⟩ := drop_get h
    obtain ⟨h2, h3⟩ := drop_get h1
    obtain ⟨h4, _⟩ := drop_get h3
    have e1 : hexAt s (k + 1) = some (c.toNat / 16) := by
      unfold hexAt; rw [h2]; exact hex_back ⟨c.toNat / 16, by omega⟩
    have e2 : hexAt s (k + 1 + 1) = some (c.toNat % 16) := by
      unfold hexAt; rw [h4]; exact hex_back ⟨c.toNat % 16, by omega⟩
    have e3 : begE (c.toNat / 16) = true := beg_back ⟨c.toNat, hlt⟩ he
    have e4 : c.toNat / 16 * 16 + c.toNat % 16 = c.toNat := by omega
    refine ⟨?_, by rw [h0]; decide⟩
    unfold qbR
    rw [h0]
    simp only [if_true]
    unfold escR
    rw [e1]
    simp only [e3, if_true]
    rw [e2]
    simp only [e4, he, if_true]
    simp
  | false =>
    rw [he, if_neg (by decide)] at h
    obtain ⟨h0, _⟩ := drop_get h
    have n92 : c ≠ 92 := by rintro rfl; revert he; decide
    have n34 : c ≠ 34 := by rintro rfl; revert he; decide
    refine ⟨?_, by rw [h0]; simpa using n34⟩
    unfold qbR
    rw [h0]
    simp [n92, he]
theorem quG_back (s : ByteArray) (r : List UInt8) : ∀ (l : List UInt8) (f k : Nat) (a : List UInt8), l.length < f → s.data.toList.drop k = bodyQ l ++ 34 :: r → quG s f k a = (some (a ++ l), k + (bodyQ l).length + 1)
  | [], f + 1, k, a, _, h => by
    have h0 := (drop_get (c := 34) (r := r) (by simpa [bodyQ] using h)).1
    rw [quG, if_pos h0]
    simp [bodyQ]
  | c :: l, f + 1, k, a, hf, h => by
    have hb : bodyQ (c :: l) = quoteB c ++ bodyQ l := by simp [bodyQ]
    rw [hb, List.append_assoc] at h
    obtain ⟨h0, h1⟩ := qb_back s k c _ h
    have hr := quG_back s r l f (k + (quoteB c).length) (a ++ [c]) (by simpa using hf) (drop_app h)
    rw [quG, if_neg h1, h0]
    simp only
    have hc : c.toNat.toUInt8 = c := by simp
    rw [hc, hr, hb, List.length_append]
    simp [Nat.add_assoc]
theorem quote_back (s : ByteArray) (k : Nat) (l r : List UInt8) (h : s.data.toList.drop k = quoteL l ++ r) : quR s k = (some l, k + (quoteL l).length) := by
  unfold quoteL at h ⊢
  have h' : s.data.toList.drop k = 34 :: (bodyQ l ++ 34 :: r) := by rw [h]; simp
  obtain ⟨h0, h1⟩ := drop_get h'
  have hlen : ∀ m : List UInt8, m.length ≤ (bodyQ m).length := by
    intro m
    induction m with
    | nil => simp [bodyQ]
    | cons x m ih =>
      have : 1 ≤ (quoteB x).length := by unfold quoteB; split <;> simp
      simp only [bodyQ, List.flatMap_cons, List.length_append, List.length_cons] at ih ⊢
      omega
  have hsz : (s.data.toList.drop k).length ≤ s.size := by
    rw [List.length_drop, Array.length_toList]
    exact Nat.sub_le _ _
  rw [h'] at hsz
  simp only [List.length_cons, List.length_append] at hsz
  have := hlen l
  unfold quR
  rw [if_pos h0, quG_back s r l (s.size + 1) (k + 1) [] (by omega) h1]
  simp
  omega
theorem share_app : ∀ a r : List UInt8, shareN a (a ++ r) = a.length
  | [], _ => by simp [shareN]
  | x :: a, r => by simp [shareN, share_app a r]
/-- A name that shares less than its whole length with another, shares no more with what begins so. -/
theorem share_less : ∀ a m r : List UInt8, shareN a m < a.length → shareN a m < m.length → shareN a (m ++ r) = shareN a m
  | [], _, _, h, _ => by simp at h
  | _ :: _, [], _, _, h => by simp at h
  | x :: a, y :: m, r, h, h' => by
    by_cases e : x = y
    · simp only [shareN, e, if_true, List.length_cons, List.cons_append] at h h' ⊢
      rw [share_less a m r (by omega) (by omega)]
    · simp [shareN, e]
theorem kdG_pass (m : List UInt8) (b : List UInt8) (L2 : List (List UInt8)) : ∀ (L1 : List (List UInt8)) (i n : Nat), (∀ a ∈ L1, ¬ (0 < shareN a m ∧ shareN a m = a.length)) → (0 < shareN b m ∧ shareN b m = b.length) →
    kdG m (L1 ++ b :: L2) i n = (some (i + L1.length), b.length)
  | [], i, n, _, h => by
    rw [List.nil_append, kdG, if_pos h, h.2]
    rfl
  | a :: L1, i, n, h, hb => by
    rw [List.cons_append, kdG, if_neg (h a (by simp)), kdG_pass m b L2 L1 (i + 1) _ (fun x hx => h x (by simp [hx])) hb]
    simp only [List.length_cons]
    rw [Nat.add_assoc, Nat.add_comm 1]
theorem kinds_apart : ∀ j : Fin 38, ∀ i : Fin 38, i.val < j.val → kindL.getD j.val [] ≠ [] → kindL.getD i.val [] = [] ∨ (shareN (kindL.getD i.val []) (kindL.getD j.val []) < (kindL.getD i.val []).length ∧ shareN (kindL.getD i.val []) (kindL.getD j.val []) < (kindL.getD j.val []).length) := by decide +kernel
theorem kind_back (s : ByteArray) (k j : Nat) (r : List UInt8) (hj : j < 38) (hne : kindL.getD j [] ≠ []) (h : s.data.toList.drop k = kindL.getD j [] ++ r) : kdR s k = (some j, k + (kindL.getD j []).length) := by
  have hl : kindL = kindL.take j ++ kindL.getD j [] :: kindL.drop (j + 1) := by
    have hlt : j < kindL.length := by rw [kindL_length]; exact hj
    have e : kindL.getD j [] = kindL[j] := by rw [List.getD_eq_getElem?_getD, List.getElem?_eq_getElem hlt]; rfl
    rw [e, ← List.drop_eq_getElem_cons hlt, List.take_append_drop]
  have hp := kdG_pass (kindL.getD j [] ++ r) (kindL.getD j []) (kindL.drop (j + 1)) (kindL.take j) 0 0 (by
    intro a ha
    obtain ⟨i, hi, hai⟩ := List.mem_iff_getElem.1 ha
    have hi' : i < j := by simp [kindL_length] at hi; omega
    have hlt : i < kindL.length := by rw [kindL_length]; omega
    have e : kindL.getD i [] = a := by rw [List.getD_eq_getElem?_getD, List.getElem?_eq_getElem hlt, ← hai]; simp
    have := kinds_apart ⟨j, hj⟩ ⟨i, by omega⟩ hi' hne
    simp only [e] at this
    rcases this with h0 | ⟨h1, h2⟩
    · rw [h0]; simp [shareN]
    · rw [share_less _ _ _ h1 h2]; omega) ⟨by rw [share_app]; exact List.length_pos_iff.2 hne, share_app _ _⟩
  rw [← hl] at hp
  have hmin : (kindL.take j).length = j := by simp [kindL_length]; omega
  unfold kdR
  rw [h, hp, hmin]
  simp
end Go.Proofs.YtaildeglikhkaaaGreatDoor
/-! Plain facts on numerals: a number's text is read as that number, and what is read has just this text. -/
namespace Go.Proofs.YtaildeglikhkaaaGreatDoor
open Go.Lib (decDigits itoa)

theorem u8_of (d : Nat) (h : d < 10) : (UInt8.ofNat (48 + d)).toNat = 48 + d := by
  rw [UInt8.toNat_ofNat']; omega
theorem dec_small (u : Nat) (h : u < 10) : decDigits u = [UInt8.ofNat (48 + u)] := by rw [decDigits, dif_pos h]
theorem dec_big (u : Nat) (h : ¬ u < 10) : decDigits u = decDigits (u / 10) ++ [UInt8.ofNat (48 + u % 10)] := by rw [decDigits, dif_neg h]
theorem digit8_of (d : Nat) (h : d < 10) : digit8 (UInt8.ofNat (48 + d)) = true := by
  unfold digit8 digitB
  rw [u8_of d h]
  exact decide_eq_true (by omega)
theorem dec_facts (u : Nat) : allDigit (decDigits u) = true ∧ valOf (decDigits u) = u ∧ 0 < (decDigits u).length := by
  induction u using Nat.strongRecOn with
  | _ u ih =>
    by_cases h : u < 10
    · rw [dec_small u h]
      refine ⟨?_, ?_, by simp⟩
      · unfold allDigit; rw [List.all_cons, digit8_of u h]; rfl
      · show 0 * 10 + ((UInt8.ofNat (48 + u)).toNat - 48) = u
        rw [u8_of u h]; omega
    · obtain ⟨i1, i2, i3⟩ := ih (u / 10) (by omega)
      rw [dec_big u h]
      refine ⟨?_, ?_, by simp⟩
      · rw [allDigit_snoc, i1, digit8_of _ (by omega)]; rfl
      · rw [valOf_snoc, i2, u8_of _ (by omega)]; omega
theorem dec_len (u k : Nat) (hk : 1 ≤ k) (h : u < 10 ^ k) : (decDigits u).length ≤ k := by
  induction u using Nat.strongRecOn generalizing k with
  | _ u ih =>
    by_cases h1 : u < 10
    · rw [dec_small u h1]; simpa using hk
    · rw [dec_big u h1, List.length_append]
      have hk2 : 2 ≤ k := by
        rcases Nat.lt_or_ge k 2 with hh | hh
        · have : k = 1 := by omega
          subst this; omega
        · exact hh
      obtain ⟨j, rfl⟩ : ∃ j, k = j + 1 := ⟨k - 1, by omega⟩
      rw [Nat.pow_succ] at h
      have := ih (u / 10) (by omega) j (by omega) (by omega)
      simp; omega
theorem dec_len_big (u : Nat) (h : 1000000000 ≤ u) : 9 < (decDigits u).length := by
  obtain ⟨h1, h2, h3⟩ := dec_facts u
  rcases Nat.lt_or_ge 9 (decDigits u).length with hh | hh
  · exact hh
  · have hv := valOf_lt _ _ rfl h1
    rw [h2] at hv
    have : 10 ^ (decDigits u).length ≤ 10 ^ 9 := Nat.pow_le_pow_right (by omega) hh
    omega
theorem dec_head (u : Nat) (h : 1 ≤ u) : (decDigits u).head? ≠ some 48 := by
  induction u using Nat.strongRecOn with
  | _ u ih =>
    by_cases h1 : u < 10
    · rw [dec_small u h1]
      intro e
      have e2 : UInt8.ofNat (48 + u) = 48 := by simpa using e
      have := congrArg UInt8.toNat e2
      rw [u8_of u h1] at this
      have : (48 : UInt8).toNat = 48 := rfl
      omega
    · have i := ih (u / 10) (by omega) (by omega)
      rw [dec_big u h1]
      obtain ⟨_, _, h3⟩ := dec_facts (u / 10)
      match hd : decDigits (u / 10) with
      | [] => rw [hd] at h3; simp at h3
      | b :: r => rw [hd] at i; simpa using i
/-- A number's text is read as that number, where it is one. -/
theorem parse_itoa (n : Int) : parseV (itoa n) = if 0 ≤ n ∧ n ≤ 999999999 then some n.toNat else none := by
  unfold itoa
  by_cases h0 : n < 0
  · rw [if_pos h0, if_neg (by omega)]
    by_cases hl : 9 < (45 :: decDigits n.natAbs).length
    · exact parseV_long _ hl
    · rw [parseV_of _ (by simp) (by omega) (fun h => by simp at h)]
      unfold digitsV
      rw [show allDigit (45 :: decDigits n.natAbs) = false from by unfold allDigit; rw [List.all_cons, show digit8 45 = false from by decide]; rfl]
      rfl
  · rw [if_neg h0]
    obtain ⟨h1, h2, h3⟩ := dec_facts n.toNat
    by_cases hb : n ≤ 999999999
    · rw [if_pos ⟨by omega, hb⟩]
      have hl := dec_len n.toNat 9 (by omega) (by omega)
      rw [parseV_of _ h3 hl ?_]
      · unfold digitsV; rw [h1, h2]; rfl
      · intro hh
        by_cases hz : 1 ≤ n.toNat
        · exact absurd hh (dec_head _ hz)
        · exact dec_len _ 1 (by omega) (by omega)
    · rw [if_neg (by omega)]
      exact parseV_long _ (dec_len_big _ (by omega))
theorem dec_of (n : Nat) : ∀ l : List UInt8, l.length = n + 1 → allDigit l = true → l.head? ≠ some 48 → decDigits (valOf l) = l ∧ 1 ≤ valOf l := by
  induction n with
  | zero =>
    intro l hl hd hh
    match l, hl with
    | [b], _ =>
      have hb : digit8 b = true := by simpa [allDigit] using hd
      have hb2 := of_decide_eq_true (show decide (48 ≤ (b.toNat : Int) ∧ (b.toNat : Int) ≤ 57) = true from hb)
      have hne : b.toNat ≠ 48 := fun e => hh (by rw [show b = 48 from UInt8.toNat_inj.1 e]; rfl)
      have hv : valOf [b] = b.toNat - 48 := by simp [valOf]
      rw [hv, dec_small _ (by omega)]
      refine ⟨?_, by omega⟩
      congr 1
      apply UInt8.toNat_inj.1
      rw [u8_of _ (by omega)]; omega
  | succ n ih =>
    intro l hl hd hh
    obtain ⟨m, b, rfl⟩ : ∃ m b, l = m ++ [b] := ⟨l.dropLast, l.getLast (by intro e; rw [e] at hl; simp at hl), (List.dropLast_concat_getLast _).symm⟩
    have hm : m.length = n + 1 := by simpa using hl
    rw [allDigit_snoc, Bool.and_eq_true] at hd
    have hmh : m.head? ≠ some 48 := by
      match m, hm with
      | c :: r, _ => simpa using hh
    obtain ⟨i1, i2⟩ := ih m hm hd.1 hmh
    have hb2 := of_decide_eq_true (show decide (48 ≤ (b.toNat : Int) ∧ (b.toNat : Int) ≤ 57) = true from hd.2)
    rw [valOf_snoc, dec_big _ (by omega), show (valOf m * 10 + (b.toNat - 48)) / 10 = valOf m by omega, i1, show (valOf m * 10 + (b.toNat - 48)) % 10 = b.toNat - 48 by omega]
    refine ⟨?_, by omega⟩
    congr 2
    apply UInt8.toNat_inj.1
    rw [u8_of _ (by omega)]; omega
/-- What is read has just this text. -/
theorem itoa_parse (l : List UInt8) (k : Nat) (h : parseV l = some k) : itoa (k : Int) = l := by
  by_cases hc : l = [] ∨ 9 < l.length ∨ (l.head? = some 48 ∧ 1 < l.length)
  · unfold parseV at h; rw [if_pos hc] at h; cases h
  · unfold parseV at h
    rw [if_neg hc] at h
    cases hd : l.all digit8
    · rw [hd] at h; cases h
    · rw [hd] at h
      have hk : valOf l = k := by simpa using h
      unfold itoa
      rw [if_neg (by omega), Int.toNat_natCast, ← hk]
      have h0 : 0 < l.length := by
        match l, hc with
        | [], hc => exact absurd (.inl rfl) hc
        | _ :: _, _ => simp
      by_cases hh : l.head? = some 48
      · have hl : l.length = 1 := by
          rcases Nat.lt_or_ge 1 l.length with h1 | h1
          · exact absurd (.inr (.inr ⟨hh, h1⟩)) hc
          · omega
        match l, hl, hh with
        | [b], _, hh =>
          have : b = 48 := by simpa using hh
          subst this
          rw [show valOf [48] = 0 from rfl, dec_small 0 (by omega)]; rfl
      · exact (dec_of (l.length - 1) l (by omega) hd hh).1
theorem parseV_le (l : List UInt8) (k : Nat) (h : parseV l = some k) : k ≤ 999999999 := by
  by_cases hc : l = [] ∨ 9 < l.length ∨ (l.head? = some 48 ∧ 1 < l.length)
  · unfold parseV at h; rw [if_pos hc] at h; cases h
  · unfold parseV at h
    rw [if_neg hc] at h
    cases hd : l.all digit8
    · rw [hd] at h; cases h
    · rw [hd] at h
      have hk : valOf l = k := by simpa using h
      have hl : l.length ≤ 9 := by
        rcases Nat.lt_or_ge 9 l.length with h1 | h1
        · exact absurd (.inr (.inl h1)) hc
        · exact h1
      have hv := valOf_lt _ l rfl hd
      have : 10 ^ l.length ≤ 10 ^ 9 := Nat.pow_le_pow_right (by omega) hl
      omega
theorem itoa_len (n : Int) (h0 : -9223372036854775808 ≤ n) (h1 : n ≤ 9223372036854775807) : (itoa n).length ≤ 20 := by
  unfold itoa
  by_cases h : n < 0
  · rw [if_pos h]
    have := dec_len n.natAbs 19 (by omega) (by omega)
    simp; omega
  · rw [if_neg h]
    have := dec_len n.toNat 19 (by omega) (by omega)
    omega
end Go.Proofs.YtaildeglikhkaaaGreatDoor
namespace Go.Proofs.YtaildeglikhkaaaGreatDoor
open Go.Lib (decDigits itoa)

/-- What may follow a number: no number's first digit behind a blank, no digit. -/
def Stop : List UInt8 → Prop
  | [] => True
  | c :: r => c = 41 ∨ (c = 32 ∧ ∀ x, r.head? = some x → x = 34 ∨ x = 40)
theorem inB_at (s : ByteArray) (k : Nat) (lo hi c : UInt8) (h : s.data.toList[k]? = some c) : inB s k lo hi = (decide (lo ≤ c) && decide (c ≤ hi)) := by
  unfold inB; rw [h]
theorem inB_end (s : ByteArray) (k : Nat) (lo hi : UInt8) (h : s.data.toList[k]? = none) : inB s k lo hi = false := by
  unfold inB; rw [h]
theorem drop_none {α : Type} {l : List α} {k : Nat} (h : l.drop k = []) : l[k]? = none := by
  have : (l.drop k)[0]? = none := by rw [h]; rfl
  simpa [List.getElem?_drop] using this
theorem stop_number (s : ByteArray) (k : Nat) (r : List UInt8) (h : s.data.toList.drop k = r) (hr : Stop r) : (inB s k 32 32 && inB s (k + 1) 49 57) = false := by
  match r, hr with
  | [], _ => rw [inB_end s k 32 32 (drop_none h)]; rfl
  | c :: r, hr =>
    obtain ⟨h0, h1⟩ := drop_get h
    rw [inB_at s k 32 32 c h0]
    rcases hr with rfl | ⟨rfl, hr⟩
    · rfl
    · match r, hr with
      | [], _ => rw [inB_end s (k + 1) 49 57 (drop_none h1)]; rfl
      | x :: r, hr =>
        rw [inB_at s (k + 1) 49 57 x (drop_get h1).1]
        rcases hr x rfl with rfl | rfl <;> rfl
theorem stop_digit (s : ByteArray) (k : Nat) (r : List UInt8) (h : s.data.toList.drop k = r) (hr : Stop r) : inB s k 48 57 = false := by
  match r, hr with
  | [], _ => exact inB_end s k 48 57 (drop_none h)
  | c :: r, hr =>
    rw [inB_at s k 48 57 c (drop_get h).1]
    rcases hr with rfl | ⟨rfl, _⟩ <;> rfl
theorem digit8_in (c : UInt8) (h : digit8 c = true) : (decide ((48 : UInt8) ≤ c) && decide (c ≤ (57 : UInt8))) = true := by
  have hb := of_decide_eq_true (show decide (48 ≤ (c.toNat : Int) ∧ (c.toNat : Int) ≤ 57) = true from h)
  rw [Bool.and_eq_true]
  exact ⟨decide_eq_true (UInt8.le_iff_toNat_le.2 (by show 48 ≤ c.toNat; omega)), decide_eq_true (UInt8.le_iff_toNat_le.2 (by show c.toNat ≤ 57; omega))⟩
theorem run_back (s : ByteArray) (r : List UInt8) (hr : Stop r) : ∀ (l : List UInt8) (q f : Nat), l.length ≤ f → allDigit l = true → s.data.toList.drop q = l ++ r → runN s q f = l.length
  | [], q, 0, _, _, _ => rfl
  | [], q, f + 1, _, _, h => by
    rw [runN, stop_digit s q r h hr]
    rfl
  | c :: l, q, f + 1, hf, hd, h => by
    obtain ⟨h0, h1⟩ := drop_get (show s.data.toList.drop q = c :: (l ++ r) from h)
    have hc : digit8 c = true ∧ allDigit l = true := by simpa [allDigit] using hd
    rw [runN, inB_at s q 48 57 c h0, digit8_in c hc.1, if_pos rfl, run_back s r hr l (q + 1) f (by simpa using hf) hc.2 h1]
    rfl
theorem num_none (s : ByteArray) (k : Nat) (r : List UInt8) (h : s.data.toList.drop k = r) (hr : Stop r) : nuR s k = (0, k) := by
  unfold nuR
  rw [stop_number s k r h hr]
  rfl
theorem num_back (s : ByteArray) (k n : Nat) (r : List UInt8) (hn : 1 ≤ n) (hn2 : n ≤ 999999999) (h : s.data.toList.drop k = 32 :: (itoa (n : Int) ++ r)) (hr : Stop r) : nuR s k = (n, k + 1 + (itoa (n : Int)).length) := by
  have hp := parse_itoa (n : Int)
  rw [if_pos ⟨by omega, by omega⟩, Int.toNat_natCast] at hp
  have hi : itoa (n : Int) = decDigits n := by unfold itoa; rw [if_neg (by omega), Int.toNat_natCast]
  obtain ⟨f1, _, f3⟩ := dec_facts n
  have f4 := dec_len n 9 (by omega) (by omega)
  have f5 := dec_head n hn
  rw [hi] at h hp ⊢
  obtain ⟨h0, h1⟩ := drop_get h
  cases hd : decDigits n with
  | nil => rw [hd] at f3; simp at f3
  | cons c l =>
    rw [hd] at h1 f1 f4 f5 hp
    obtain ⟨h2, h3⟩ := drop_get (show s.data.toList.drop (k + 1) = c :: (l ++ r) from h1)
    have hc : digit8 c = true ∧ allDigit l = true := by simpa [allDigit] using f1
    have hb := of_decide_eq_true (show decide (48 ≤ (c.toNat : Int) ∧ (c.toNat : Int) ≤ 57) = true from hc.1)
    have hne : c.toNat ≠ 48 := fun e => f5 (by rw [show c = 48 from UInt8.toNat_inj.1 e]; rfl)
    have hin : inB s (k + 1) 49 57 = true := by
      rw [inB_at s (k + 1) 49 57 c h2, Bool.and_eq_true]
      exact ⟨decide_eq_true (UInt8.le_iff_toNat_le.2 (by show 49 ≤ c.toNat; omega)), decide_eq_true (UInt8.le_iff_toNat_le.2 (by show c.toNat ≤ 57; omega))⟩
    have hrun := run_back s r hr l (k + 1 + 1) 8 (by simpa using f4) hc.2 h3
    have hdg : dgN s (k + 1) = (c :: l).length := by unfold dgN; rw [hrun, List.length_cons, Nat.add_comm]
    unfold nuR
    rw [inB_at s k 32 32 32 h0, hin, hdg, h1, List.take_left, hp]
    rfl
/-- What follows a node's kind. -/
def tailB (x : Nd) : List UInt8 := (if x.n = 0 then [] else [32] ++ itoa x.n) ++ (if strK x.kind then [32] ++ quoteL x.s else [])
/-- A node whose text says all of it but what its children say. -/
def Says (x : Nd) : Prop := (wordK x.kind || cmdK x.kind) = true ∧ 0 ≤ x.n ∧ x.n ≤ 999999999 ∧ (strK x.kind = false → x.s = [])
theorem kind_named : ∀ j : Fin 38, (wordK (j.val : Int) || cmdK (j.val : Int)) = true → kindL.getD j.val [] ≠ [] := by decide +kernel
theorem kind_range (k : Int) (h : (wordK k || cmdK k) = true) : ∃ j : Nat, k = j ∧ j < 38 := by
  have : (1 ≤ k ∧ k ≤ 12) ∨ (20 ≤ k ∧ k ≤ 37) := by simpa [wordK, cmdK] using h
  exact ⟨k.toNat, by omega, by omega⟩
theorem node_back (s : ByteArray) (k : Nat) (x : Nd) (r : List UInt8) (hx : Says x) (h : s.data.toList.drop k = kindN x.kind ++ (tailB x ++ r)) (hr : Stop r) :
    noR s k = (some ⟨x.kind, x.n, 0, 0, x.s⟩, k + (kindN x.kind ++ tailB x).length) := by
  obtain ⟨hk, hn0, hn1, hs⟩ := hx
  obtain ⟨j, hj, hlt⟩ := kind_range x.kind hk
  obtain ⟨n, hn⟩ : ∃ n : Nat, x.n = n := ⟨x.n.toNat, by omega⟩
  have hkN : kindN x.kind = kindL.getD j [] := by unfold kindN; rw [hk, if_pos rfl, hj, Int.toNat_natCast]
  have hne := kind_named ⟨j, hlt⟩ (by rw [hj] at hk; exact hk)
  rw [hkN] at h ⊢
  have hkd := kind_back s k j _ hlt hne h
  have h1 := drop_app h
  have hq : Stop ((if strK x.kind then [32] ++ quoteL x.s else []) ++ r) := by
    cases strK x.kind
    · exact hr
    · exact .inr ⟨rfl, fun y hy => .inl (by simpa [quoteL] using hy.symm)⟩
  have hnu : nuR s (k + (kindL.getD j []).length) = (n, k + (kindL.getD j []).length + (if x.n = 0 then [] else [32] ++ itoa x.n).length) := by
    unfold tailB at h1
    rw [List.append_assoc] at h1
    by_cases hz : x.n = 0
    · rw [if_pos hz, List.nil_append] at h1
      rw [num_none s _ _ h1 hq, if_pos hz]
      have : n = 0 := by omega
      rw [this]; rfl
    · rw [if_neg hz, hn] at h1
      rw [num_back s _ n _ (by omega) (by omega) h1 hq, if_neg hz, hn]
      simp only [List.cons_append, List.nil_append, List.length_cons, Prod.mk.injEq, true_and]
      omega
  have h2 : s.data.toList.drop (k + (kindL.getD j []).length + (if x.n = 0 then [] else [32] ++ itoa x.n).length) = (if strK x.kind then [32] ++ quoteL x.s else []) ++ r := by
    unfold tailB at h1
    rw [List.append_assoc] at h1
    exact drop_app h1
  unfold noR
  rw [hkd]
  simp only
  rw [hnu]
  simp only
  unfold noS tailB
  rw [← hj]
  cases hS : strK x.kind with
  | false =>
    rw [hs hS, ← hn]
    simp [Nat.add_assoc]
  | true =>
    rw [hS] at h2
    obtain ⟨h3, h4⟩ := drop_get (show _ = 32 :: (quoteL x.s ++ r) from h2)
    rw [if_pos rfl, if_pos h3, quote_back s _ x.s r h4, ← hn]
    simp only [Option.map_some, if_true, List.length_append, List.length_cons, List.length_nil, Prod.mk.injEq, true_and]
    omega
end Go.Proofs.YtaildeglikhkaaaGreatDoor
