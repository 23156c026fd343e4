/- What is read has just this text: a text between quotes, a kind's name, a number, a node ahead of its children. Plain. -/
import Derived.Test.YtaildeglikhkaaaGreatDoorBack3
namespace Go.Proofs.YtaildeglikhkaaaGreatDoor
open Go.Lib (decDigits itoa)

theorem drop_at {α : Type} {l : List α} {k : Nat} {c : α} (h : l[k]? = some c) : l.drop k = c :: l.drop (k + 1) := by
  obtain ⟨hk, e⟩ := List.getElem?_eq_some_iff.1 h
  rw [List.drop_eq_getElem_cons hk, e]
theorem hex_fwd256 : ∀ c : Fin 256, ∀ v : Fin 16, hexV (UInt8.ofNat c.val) = some v.val → UInt8.ofNat c.val = hexC v.val := by decide +kernel
theorem hex_fwd (s : ByteArray) (k v : Nat) (h : hexAt s k = some v) : v < 16 ∧ s.data.toList.drop k = hexC v :: s.data.toList.drop (k + 1) := by
  have hlt := (hexAt_lt s k v h).1
  unfold hexAt at h
  cases hc : s.data.toList[k]? with
  | none => rw [hc] at h; cases h
  | some c =>
    rw [hc] at h
    have := hex_fwd256 ⟨c.toNat, c.toNat_lt⟩ ⟨v, hlt⟩ (by simpa using h)
    refine ⟨hlt, ?_⟩
    rw [drop_at hc, ← this]
    simp
theorem qb_fwd (s : ByteArray) (k v j : Nat) (h : qbR s k = (some v, j)) : s.data.toList.drop k = quoteB v.toUInt8 ++ s.data.toList.drop j := by
  unfold qbR at h
  cases hc : s.data.toList[k]? with
  | none => rw [hc] at h; cases h
  | some c =>
    rw [hc] at h
    simp only at h
    by_cases h92 : c = 92
    · rw [if_pos h92] at h
      unfold escR at h
      cases h1 : hexAt s (k + 1) with
      | none => rw [h1] at h; cases h
      | some a =>
        rw [h1] at h
        simp only at h
        cases hb : begE a with
        | false => rw [hb] at h; cases h
        | true =>
          rw [hb, if_pos rfl] at h
          cases h2 : hexAt s (k + 1 + 1) with
          | none => rw [h2] at h; cases h
          | some u =>
            rw [h2] at h
            simp only at h
            cases he : escB ((a * 16 + u : Nat) : Int) with
            | false => rw [he] at h; cases h
            | true =>
              rw [he, if_pos rfl] at h
              obtain ⟨ha, e1⟩ := hex_fwd s (k + 1) a h1
              obtain ⟨hu, e2⟩ := hex_fwd s (k + 1 + 1) u h2
              have hv : a * 16 + u = v := by simpa using congrArg Prod.fst h
              have hj : k + 1 + 2 = j := congrArg Prod.snd h
              have hn : v.toUInt8.toNat = v := by
                show v % 256 = v
                omega
              unfold quoteB
              rw [hn, ← hv, he, if_pos rfl, drop_at hc, h92, e1, e2, ← hj, show (a * 16 + u) / 16 = a by omega, show (a * 16 + u) % 16 = u by omega]
              rfl
    · rw [if_neg h92] at h
      cases he : escB ((c.toNat : Nat) : Int) with
      | true => rw [he] at h; cases h
      | false =>
        rw [he, if_neg (by decide)] at h
        have hv : c.toNat = v := by simpa using congrArg Prod.fst h
        have hj : k + 1 = j := congrArg Prod.snd h
        have hc2 : v.toUInt8 = c := by rw [← hv]; simp
        unfold quoteB
        rw [hc2, he, if_neg (by decide), drop_at hc, hj]
        rfl
theorem quG_fwd (s : ByteArray) : ∀ (f k : Nat) (a l : List UInt8) (j : Nat), quG s f k a = (some l, j) → ∃ m, l = a ++ m ∧ s.data.toList.drop k = bodyQ m ++ 34 :: s.data.toList.drop j
  | 0, _, _, _, _, h => by rw [quG] at h; cases h
  | f + 1, k, a, l, j, h => by
    rw [quG] at h
    by_cases h0 : s.data.toList[k]? = some 34
    · rw [if_pos h0] at h
      have h1 : a = l := by simpa using congrArg Prod.fst h
      have h2 : k + 1 = j := congrArg Prod.snd h
      exact ⟨[], by simp [h1], by rw [drop_at h0, h2]; simp [bodyQ]⟩
    · rw [if_neg h0] at h
      cases hq : qbR s k with
      | mk o q =>
        rw [hq] at h
        cases o with
        | none => cases h
        | some v =>
          obtain ⟨m, hm, hd⟩ := quG_fwd s f q (a ++ [v.toUInt8]) l j h
          refine ⟨v.toUInt8 :: m, by rw [hm]; simp, ?_⟩
          rw [qb_fwd s k v q hq, hd]
          simp [bodyQ]
theorem quote_fwd (s : ByteArray) (k : Nat) (l : List UInt8) (j : Nat) (h : quR s k = (some l, j)) : s.data.toList.drop k = quoteL l ++ s.data.toList.drop j := by
  unfold quR at h
  by_cases h0 : s.data.toList[k]? = some 34
  · rw [if_pos h0] at h
    obtain ⟨m, hm, hd⟩ := quG_fwd s _ _ _ _ _ h
    rw [drop_at h0, hd, hm]
    simp [quoteL]
  · rw [if_neg h0] at h; cases h
theorem share_whole : ∀ a m : List UInt8, shareN a m = a.length → m = a ++ m.drop a.length
  | [], _, _ => by simp
  | x :: a, [], h => by simp [shareN] at h
  | x :: a, y :: m, h => by
    by_cases e : x = y
    · simp only [shareN, e, if_true, List.length_cons, Nat.add_right_cancel_iff] at h
      rw [List.length_cons, List.drop_succ_cons, List.cons_append, ← share_whole a m h, e]
    · simp [shareN, e] at h
theorem kdG_fwd (m : List UInt8) : ∀ (L : List (List UInt8)) (i n v q : Nat), kdG m L i n = (some v, q) → i ≤ v ∧ ∃ a, L[v - i]? = some a ∧ 0 < a.length ∧ q = a.length ∧ shareN a m = a.length
  | [], _, _, _, _, h => by rw [kdG] at h; cases h
  | a :: L, i, n, v, q, h => by
    rw [kdG] at h
    by_cases h0 : 0 < shareN a m ∧ shareN a m = a.length
    · rw [if_pos h0] at h
      have h1 : i = v := by simpa using congrArg Prod.fst h
      have h2 : shareN a m = q := congrArg Prod.snd h
      exact ⟨by omega, a, by rw [← h1, Nat.sub_self]; rfl, by omega, by omega, h0.2⟩
    · rw [if_neg h0] at h
      obtain ⟨hi, b, hb, h1⟩ := kdG_fwd m L (i + 1) _ v q h
      refine ⟨by omega, b, ?_, h1⟩
      rw [show v - i = v - (i + 1) + 1 by omega]
      exact hb
theorem kind_word : ∀ j : Fin 38, kindL.getD j.val [] ≠ [] → (wordK (j.val : Int) || cmdK (j.val : Int)) = true := by decide +kernel
theorem kind_fwd (s : ByteArray) (k v q : Nat) (h : kdR s k = (some v, q)) : (wordK (v : Int) || cmdK (v : Int)) = true ∧ s.data.toList.drop k = kindN (v : Int) ++ s.data.toList.drop q := by
  unfold kdR at h
  cases hg : kdG (s.data.toList.drop k) kindL 0 0 with
  | mk o p =>
    rw [hg] at h
    have h1 : o = some v := congrArg Prod.fst h
    have h2 : k + p = q := congrArg Prod.snd h
    rw [h1] at hg
    obtain ⟨_, a, ha, h3, h4, h5⟩ := kdG_fwd _ _ _ _ _ _ hg
    rw [Nat.sub_zero] at ha
    have hlt : v < 38 := by rw [← kindL_length]; exact (List.getElem?_eq_some_iff.1 ha).1
    have hgd : kindL.getD v [] = a := by rw [List.getD_eq_getElem?_getD, ha]; rfl
    have hw := kind_word ⟨v, hlt⟩ (by rw [hgd]; exact List.length_pos_iff.1 h3)
    refine ⟨hw, ?_⟩
    unfold kindN
    rw [hw, if_pos rfl, Int.toNat_natCast, hgd, ← h2, h4, ← List.drop_drop]
    exact share_whole a _ h5
theorem in_digit (c lo : UInt8) (hlo : 48 ≤ lo.toNat) (h : (decide (lo ≤ c) && decide (c ≤ (57 : UInt8))) = true) : digit8 c = true ∧ lo.toNat ≤ c.toNat := by
  rw [Bool.and_eq_true] at h
  have h1 := UInt8.le_iff_toNat_le.1 (of_decide_eq_true h.1)
  have h2 : c.toNat ≤ 57 := UInt8.le_iff_toNat_le.1 (of_decide_eq_true h.2)
  refine ⟨?_, h1⟩
  show decide (48 ≤ (c.toNat : Int) ∧ (c.toNat : Int) ≤ 57) = true
  exact decide_eq_true ⟨by omega, by omega⟩
theorem run_fwd (s : ByteArray) : ∀ (f q : Nat), allDigit ((s.data.toList.drop q).take (runN s q f)) = true ∧ runN s q f ≤ f ∧ runN s q f ≤ (s.data.toList.drop q).length
  | 0, q => by simp [runN, allDigit]
  | f + 1, q => by
    rw [runN]
    cases hi : inB s q 48 57 with
    | false => simp [allDigit]
    | true =>
      rw [if_pos rfl]
      unfold inB at hi
      cases hc : s.data.toList[q]? with
      | none => rw [hc] at hi; cases hi
      | some c =>
        rw [hc] at hi
        obtain ⟨i1, i2, i3⟩ := run_fwd s f (q + 1)
        obtain ⟨hd, _⟩ := in_digit c 48 (by decide) hi
        rw [drop_at hc, List.take_succ_cons]
        refine ⟨?_, by omega, by simp only [List.length_cons]; omega⟩
        unfold allDigit at i1 ⊢
        rw [List.all_cons, hd, i1]
        rfl
/-- A number that is read has just this text. -/
theorem num_fwd (s : ByteArray) (k n q : Nat) (h : nuR s k = (n, q)) : n ≤ 999999999 ∧ s.data.toList.drop k = (if (n : Int) = 0 then [] else [32] ++ itoa (n : Int)) ++ s.data.toList.drop q := by
  unfold nuR at h
  cases hi : (inB s k 32 32 && inB s (k + 1) 49 57) with
  | false =>
    rw [hi, if_neg (by decide)] at h
    have h1 : 0 = n := congrArg Prod.fst h
    have h2 : k = q := congrArg Prod.snd h
    rw [← h1, ← h2]
    exact ⟨by omega, by simp⟩
  | true =>
    rw [hi, if_pos rfl] at h
    rw [Bool.and_eq_true] at hi
    obtain ⟨ha, hb⟩ := hi
    unfold inB at ha hb
    cases hc : s.data.toList[k]? with
    | none => rw [hc] at ha; cases ha
    | some b =>
      cases hc2 : s.data.toList[k + 1]? with
      | none => rw [hc2] at hb; cases hb
      | some c =>
        rw [hc] at ha
        rw [hc2] at hb
        simp only [Bool.and_eq_true] at ha
        have hb32 : b = 32 := by
          apply UInt8.toNat_inj.1
          have h1 := UInt8.le_iff_toNat_le.1 (of_decide_eq_true ha.1)
          have h2 := UInt8.le_iff_toNat_le.1 (of_decide_eq_true ha.2)
          omega
        obtain ⟨hd, h49⟩ := in_digit c 49 (by decide) hb
        obtain ⟨r1, r2, r3⟩ := run_fwd s 8 (k + 1 + 1)
        have ht : (s.data.toList.drop (k + 1)).take (dgN s (k + 1)) = c :: (s.data.toList.drop (k + 1 + 1)).take (runN s (k + 1 + 1) 8) := by
          unfold dgN
          rw [drop_at hc2, Nat.add_comm 1, List.take_succ_cons]
        have hlen : ((s.data.toList.drop (k + 1 + 1)).take (runN s (k + 1 + 1) 8)).length = runN s (k + 1 + 1) 8 := by rw [List.length_take]; omega
        have hne : (c :: (s.data.toList.drop (k + 1 + 1)).take (runN s (k + 1 + 1) 8)).head? = some 48 → (c :: (s.data.toList.drop (k + 1 + 1)).take (runN s (k + 1 + 1) 8)).length ≤ 1 := by
          intro e
          have : c = 48 := by simpa using e
          rw [this] at h49
          exact absurd h49 (by decide)
        have hall : allDigit (c :: (s.data.toList.drop (k + 1 + 1)).take (runN s (k + 1 + 1) 8)) = true := by
          unfold allDigit at r1 ⊢
          rw [List.all_cons, hd, r1]
          rfl
        have hp := parseV_of _ (by simp) (by simp only [List.length_cons, hlen]; omega) hne
        unfold digitsV at hp
        rw [hall, if_pos rfl] at hp
        have hle := parseV_le _ _ hp
        have hit := itoa_parse _ _ hp
        rw [ht, hp] at h
        have h1 : valOf (c :: (s.data.toList.drop (k + 1 + 1)).take (runN s (k + 1 + 1) 8)) = n := congrArg Prod.fst h
        have h2 : k + 1 + dgN s (k + 1) = q := congrArg Prod.snd h
        rw [h1] at hle hit
        have hn0 : n ≠ 0 := by
          rintro rfl
          have e0 : itoa ((0 : Nat) : Int) = [48] := by
            show decDigits 0 = [48]
            rw [dec_small 0 (by omega)]
            rfl
          rw [e0] at hit
          have : (48 : UInt8) = c := (List.cons.inj hit).1
          rw [← this] at h49
          exact absurd h49 (by decide)
        refine ⟨hle, ?_⟩
        rw [if_neg (by omega), hit, drop_at hc, hb32, ← h2, ← ht, List.append_assoc, ← List.drop_drop (i := dgN s (k + 1)) (j := k + 1), List.take_append_drop]
        rfl
/-- A node that is read has just this text ahead of its children. -/
theorem node_fwd (s : ByteArray) (k : Nat) (x : Nd) (j : Nat) (h : noR s k = (some x, j)) : Says x ∧ x.k = 0 ∧ x.size = 0 ∧ s.data.toList.drop k = kindN x.kind ++ tailB x ++ s.data.toList.drop j := by
  unfold noR at h
  cases hk : kdR s k with
  | mk o q =>
    rw [hk] at h
    cases o with
    | none => cases h
    | some kd =>
      simp only at h
      obtain ⟨hw, e1⟩ := kind_fwd s k kd q hk
      cases hn : nuR s q with
      | mk n p =>
        rw [hn] at h
        simp only at h
        obtain ⟨hle, e2⟩ := num_fwd s q n p hn
        unfold noS at h
        cases hs : strK kd with
        | false =>
          rw [hs, if_neg (by decide)] at h
          have h1 : (⟨kd, n, 0, 0, []⟩ : Nd) = x := by simpa using congrArg Prod.fst h
          have h2 : p = j := congrArg Prod.snd h
          subst h1 h2
          refine ⟨⟨hw, by simp, by simp only; omega, fun _ => rfl⟩, rfl, rfl, ?_⟩
          rw [e1, e2]
          simp [tailB, hs]
        | true =>
          rw [hs, if_pos rfl] at h
          by_cases h32 : s.data.toList[p]? = some 32
          · rw [if_pos h32] at h
            cases hq : quR s (p + 1) with
            | mk u z =>
              rw [hq] at h
              cases u with
              | none => cases h
              | some l =>
                have h1 : (⟨kd, n, 0, 0, l⟩ : Nd) = x := by simpa using congrArg Prod.fst h
                have h2 : z = j := congrArg Prod.snd h
                subst h1 h2
                refine ⟨⟨hw, by simp, by simp only; omega, fun hf => ?_⟩, rfl, rfl, ?_⟩
                · exact absurd (hs.symm.trans hf) (by decide)
                · rw [e1, e2, drop_at h32, quote_fwd s (p + 1) l z hq]
                  simp [tailB, hs]
          · rw [if_neg h32] at h; cases h
end Go.Proofs.YtaildeglikhkaaaGreatDoor
