/- A tree's text that is cut off is no tree's text: the reader fails at its end. Plain. -/
import Derived.Test.YtaildeglikhkaaaGreatDoorBack3
import Derived.Test.YtaildeglikhkaaaGreatDoorFwd
/-! Where the reader stands when a text begins as a tree's text does. Plain. -/
namespace Go.Proofs.YtaildeglikhkaaaGreatDoor
open Go.Lib (decDigits itoa)

theorem app_split {α : Type} {p t a b : List α} (h : p ++ t = a ++ b) : (∃ u, p ++ u = a ∧ t = u ++ b) ∨ (∃ q, p = a ++ q ∧ q ++ t = b) := by
  rcases List.append_eq_append_iff.1 h with ⟨u, h1, h2⟩ | ⟨q, h1, h2⟩
  · exact .inl ⟨u, h1.symm, h2⟩
  · exact .inr ⟨q, h1, h2.symm⟩
theorem qb_pre (s : ByteArray) (k : Nat) (c : UInt8) (p t r : List UInt8) (hT : p ++ t = quoteB c) (h : s.data.toList.drop k = p ++ r) : k + p.length ≤ (qbR s k).2 := by
  by_cases ht : t = []
  · subst ht
    rw [List.append_nil] at hT
    rw [hT] at h
    rw [(qb_back s k c r h).1, hT]
    exact Nat.le_refl _
  unfold quoteB at hT
  by_cases he : escB ((c.toNat : Nat) : Int) = true
  · rw [if_pos he] at hT
    match p, hT with
    | [], _ => exact qbR_ge s k
    | [a], hT =>
      have ha : a = 92 := by simp at hT; exact hT.1
      subst ha
      have h0 := (drop_get h).1
      unfold qbR
      rw [h0]
      exact escR_ge s (k + 1)
    | [a, b], hT =>
      have ha : a = 92 ∧ b = hexC (c.toNat / 16) := by simp at hT; exact ⟨hT.1, hT.2.1⟩
      obtain ⟨rfl, rfl⟩ := ha
      obtain ⟨h0, h1⟩ := drop_get h
      obtain ⟨h2, _⟩ := drop_get h1
      have hlt := c.toNat_lt
      have hx : hexAt s (k + 1) = some (c.toNat / 16) := by
        unfold hexAt
        rw [h2]
        exact hex_back ⟨c.toNat / 16, by omega⟩
      have hb := beg_back ⟨c.toNat, by omega⟩ he
      have hb' : begE (c.toNat / 16) = true := hb
      unfold qbR
      rw [h0]
      simp only
      rw [if_pos trivial]
      unfold escR
      rw [hx]
      simp only
      rw [if_pos hb']
      cases hexAt s (k + 1 + 1) with
      | none => simp
      | some v =>
        simp only
        split <;> simp <;> omega
    | a :: b :: d :: q, hT =>
      exfalso
      simp at hT
      exact ht hT.2.2.2.2
  · rw [if_neg he] at hT
    match p, hT with
    | [], _ => exact qbR_ge s k
    | a :: q, hT =>
      exfalso
      simp at hT
      exact ht hT.2.2
theorem quoteB_head (c : UInt8) : (quoteB c).head? ≠ some 34 ∧ quoteB c ≠ [] := by
  unfold quoteB
  by_cases he : escB ((c.toNat : Nat) : Int) = true
  · rw [if_pos he]; simp
  · rw [if_neg he]
    refine ⟨fun e => he ?_, by simp⟩
    have : c = 34 := by simpa using e
    rw [this]; rfl
theorem quG_pre (s : ByteArray) (r : List UInt8) : ∀ (l : List UInt8) (f k : Nat) (a p t : List UInt8), p ++ t = bodyQ l ++ [34] → s.data.toList.drop k = p ++ r → p.length < f → k + p.length ≤ (quG s f k a).2
  | _, 0, _, _, _, _, _, _, hf => by omega
  | [], f + 1, k, a, p, t, hT, h, _ => by
    match p, hT with
    | [], _ => exact quG_ge s _ _ _
    | b :: q, hT =>
      have hb : b = 34 ∧ q = [] := by simp [bodyQ] at hT; exact ⟨hT.1, hT.2.1⟩
      obtain ⟨rfl, rfl⟩ := hb
      have h0 := (drop_get h).1
      unfold quG
      rw [if_pos h0]
      simp
  | c :: l, f + 1, k, a, p, t, hT, h, hf => by
    have hb : bodyQ (c :: l) ++ [34] = quoteB c ++ (bodyQ l ++ [34]) := by simp [bodyQ]
    rw [hb] at hT
    by_cases hp : p = []
    · subst hp; exact quG_ge s _ _ _
    rcases app_split hT with ⟨u, h1, _⟩ | ⟨q, rfl, h2⟩
    · have hq := qb_pre s k c p u r h1 h
      have hne : s.data.toList[k]? ≠ some 34 := by
        cases p with
        | nil => exact absurd rfl hp
        | cons b q =>
          rw [(drop_get h).1]
          intro e
          have hbe : b = 34 := by simpa using e
          apply (quoteB_head c).1
          rw [← h1, hbe]
          rfl
      unfold quG
      rw [if_neg hne]
      cases hv : (qbR s k).1 with
      | none => exact hq
      | some v => exact Nat.le_trans hq (quG_ge s f _ _)
    · rw [List.append_assoc] at h
      obtain ⟨hq, hne⟩ := qb_back s k c (q ++ r) h
      have hlen : 0 < (quoteB c).length := List.length_pos_iff.2 (quoteB_head c).2
      have ih := quG_pre s r l f (k + (quoteB c).length) (a ++ [c.toNat.toUInt8]) q t h2 (drop_app h) (by rw [List.length_append] at hf; omega)
      unfold quG
      rw [if_neg hne, hq]
      simp only
      rw [List.length_append]
      omega
theorem drop_len (s : ByteArray) (k : Nat) (p r : List UInt8) (h : s.data.toList.drop k = p ++ r) : p.length ≤ s.size := by
  have := congrArg List.length h
  rw [List.length_drop, List.length_append, Array.length_toList] at this
  have e : s.data.size = s.size := rfl
  omega
theorem quR_pre (s : ByteArray) (k : Nat) (l p t r : List UInt8) (hT : p ++ t = quoteL l) (h : s.data.toList.drop k = p ++ r) : k + p.length ≤ (quR s k).2 := by
  match p, hT with
  | [], _ => exact quR_ge s k
  | a :: q, hT =>
    have hq : a = 34 ∧ q ++ t = bodyQ l ++ [34] := by
      have : a :: (q ++ t) = 34 :: (bodyQ l ++ [34]) := by rw [← List.cons_append, hT]; simp [quoteL]
      exact ⟨(List.cons.inj this).1, (List.cons.inj this).2⟩
    obtain ⟨rfl, hq⟩ := hq
    obtain ⟨h0, h1⟩ := drop_get h
    have hl := drop_len s k (34 :: q) r h
    have := quG_pre s r l (s.size + 1) (k + 1) [] q t hq h1 (by simp at hl; omega)
    unfold quR
    rw [if_pos h0]
    simp only [List.length_cons]
    omega
end Go.Proofs.YtaildeglikhkaaaGreatDoor
/-! Where the reader stands when a text begins as a node's text does. Plain. -/
namespace Go.Proofs.YtaildeglikhkaaaGreatDoor
open Go.Lib (decDigits itoa)

theorem kdG_max (m : List UInt8) : ∀ (L : List (List UInt8)) (i n q : Nat), kdG m L i n = (none, q) → n ≤ q ∧ ∀ a ∈ L, shareN a m ≤ q
  | [], i, n, q, h => by
    simp [kdG] at h
    exact ⟨by omega, fun a ha => by simp at ha⟩
  | a :: L, i, n, q, h => by
    unfold kdG at h
    split at h
    · simp at h
    · obtain ⟨h1, h2⟩ := kdG_max m L (i + 1) _ q h
      refine ⟨by omega, fun b hb => ?_⟩
      rcases List.mem_cons.1 hb with rfl | hb
      · omega
      · exact h2 b hb
theorem share_pre : ∀ p t r : List UInt8, p.length ≤ shareN (p ++ t) (p ++ r)
  | [], _, _ => Nat.zero_le _
  | a :: p, t, r => by
    have := share_pre p t r
    simp only [List.cons_append, shareN, if_true, List.length_cons]
    omega
theorem share_app2 : ∀ a x : List UInt8, shareN (a ++ x) a = a.length
  | [], x => by cases x <;> simp [shareN]
  | c :: a, x => by
    have := share_app2 a x
    simp only [List.cons_append, shareN, if_true, List.length_cons]
    omega
theorem kd_pre (s : ByteArray) (k j : Nat) (p t r : List UInt8) (hj : j < 38) (hne : kindL.getD j [] ≠ []) (hT : p ++ t = kindL.getD j []) (h : s.data.toList.drop k = p ++ r) : k + p.length ≤ (kdR s k).2 := by
  unfold kdR
  simp only
  rw [h]
  have hL : kindL.length = 38 := by decide
  have hjm : kindL[j]? = some (p ++ t) := by
    rw [hT, List.getD_eq_getElem?_getD]
    cases e : kindL[j]? with
    | none => rw [List.getElem?_eq_none_iff] at e; omega
    | some a => rfl
  rcases hk : kdG (p ++ r) kindL 0 0 with ⟨_ | v, q⟩
  · obtain ⟨_, h2⟩ := kdG_max _ _ _ _ _ hk
    have h3 := h2 (p ++ t) (List.mem_of_getElem? hjm)
    have h4 := share_pre p t r
    simp only
    omega
  · obtain ⟨_, a, ha, ha0, hq, hsh⟩ := kdG_fwd _ _ _ _ _ _ hk
    simp only
    rw [hq]
    rcases Nat.lt_or_ge a.length p.length with hlt | hge
    · exfalso
      have hw := share_whole a (p ++ r) hsh
      rcases app_split (p := a) (t := (p ++ r).drop a.length) (a := p) (b := r) hw.symm with ⟨u, hu, _⟩ | ⟨u, hu, _⟩
      · have ha' : kindL.getD v [] = a := by rw [List.getD_eq_getElem?_getD]; rw [Nat.sub_zero] at ha; rw [ha]; rfl
        have hv : v < 38 := by
          rw [Nat.sub_zero] at ha
          have := (List.getElem?_eq_some_iff.1 ha).1
          omega
        have hname : kindL.getD j [] = a ++ (u ++ t) := by rw [← hT, ← hu, List.append_assoc]
        have hane : a ≠ [] := List.length_pos_iff.1 ha0
        rcases Nat.lt_trichotomy v j with hvj | hvj | hvj
        · rcases kinds_apart ⟨j, hj⟩ ⟨v, hv⟩ hvj hne with e | ⟨e, _⟩
          · exact hane (ha'.symm.trans e)
          · simp only at e
            rw [ha', hname, share_app] at e
            omega
        · rw [hvj, hT.symm] at ha'
          rw [← ha', List.length_append] at hlt
          omega
        · rcases kinds_apart ⟨v, hv⟩ ⟨j, hj⟩ hvj (by simp only; rw [ha']; exact hane) with e | ⟨_, e⟩
          · exact hne e
          · simp only at e
            rw [ha', hname, share_app2] at e
            omega
      · rw [hu, List.length_append] at hlt
        omega
    · omega
theorem run_ge (s : ByteArray) (r : List UInt8) : ∀ (l : List UInt8) (q f : Nat), l.length ≤ f → allDigit l = true → s.data.toList.drop q = l ++ r → l.length ≤ runN s q f
  | [], _, _, _, _, _ => Nat.zero_le _
  | c :: l, q, f + 1, hf, hd, h => by
    obtain ⟨h0, h1⟩ := drop_get (show s.data.toList.drop q = c :: (l ++ r) from h)
    have hc : digit8 c = true ∧ allDigit l = true := by simpa [allDigit] using hd
    have := run_ge s r l (q + 1) f (by simpa using hf) hc.2 h1
    rw [runN, inB_at s q 48 57 c h0, digit8_in c hc.1, if_pos rfl]
    simp only [List.length_cons]
    omega
theorem run_end (s : ByteArray) (r : List UInt8) : ∀ (l : List UInt8) (q f : Nat), l.length ≤ f → allDigit l = true → s.data.toList.drop q = l ++ r → inB s (q + l.length) 48 57 = false → runN s q f = l.length
  | [], q, 0, _, _, _, _ => rfl
  | [], q, f + 1, _, _, _, he => by
    rw [List.length_nil, Nat.add_zero] at he
    rw [runN, he]
    rfl
  | c :: l, q, f + 1, hf, hd, h, he => by
    obtain ⟨h0, h1⟩ := drop_get (show s.data.toList.drop q = c :: (l ++ r) from h)
    have hc : digit8 c = true ∧ allDigit l = true := by simpa [allDigit] using hd
    have := run_end s r l (q + 1) f (by simpa using hf) hc.2 h1 (by rw [← he, List.length_cons]; congr 1; omega)
    rw [runN, inB_at s q 48 57 c h0, digit8_in c hc.1, if_pos rfl, this]
    rfl
/-- The digits of a number that is not 0. -/
theorem digits_of (n : Nat) (hn : 1 ≤ n) (hn2 : n ≤ 999999999) : ∃ c l, itoa (n : Int) = c :: l ∧ digit8 c = true ∧ allDigit l = true ∧ l.length ≤ 8 ∧ c.toNat ≠ 48 := by
  have hi : itoa (n : Int) = decDigits n := by
    unfold itoa
    rw [if_neg (by omega), Int.toNat_natCast]
  obtain ⟨f1, _, f3⟩ := dec_facts n
  have f4 := dec_len n 9 (by omega) (by omega)
  have f5 := dec_head n hn
  cases hd : decDigits n with
  | nil => rw [hd] at f3; simp at f3
  | cons c l =>
    rw [hd] at f1 f4 f5
    have hc : digit8 c = true ∧ allDigit l = true := by simpa [allDigit] using f1
    exact ⟨c, l, by rw [hi, hd], hc.1, hc.2, by simpa using f4, fun e => f5 (by rw [show c = 48 from UInt8.toNat_inj.1 e]; rfl)⟩
theorem first_digit (s : ByteArray) (k : Nat) (c : UInt8) (h : s.data.toList[k]? = some c) (hc : digit8 c = true) (hne : c.toNat ≠ 48) : inB s k 49 57 = true := by
  have hb := of_decide_eq_true (show decide (48 ≤ (c.toNat : Int) ∧ (c.toNat : Int) ≤ 57) = true from hc)
  rw [inB_at s k 49 57 c h, Bool.and_eq_true]
  exact ⟨decide_eq_true (UInt8.le_iff_toNat_le.2 (by show 49 ≤ c.toNat; omega)), decide_eq_true (UInt8.le_iff_toNat_le.2 (by show c.toNat ≤ 57; omega))⟩
theorem nu_pre (s : ByteArray) (k n : Nat) (p t r : List UInt8) (hn : 1 ≤ n) (hn2 : n ≤ 999999999) (hp : p ≠ []) (hT : p ++ t = itoa (n : Int)) (h : s.data.toList.drop k = 32 :: (p ++ r)) : k + 1 + p.length ≤ (nuR s k).2 := by
  obtain ⟨c, l, hi, hc, hl, hl8, hne⟩ := digits_of n hn hn2
  rw [hi] at hT
  match p, hp, hT with
  | a :: q, _, hT =>
    obtain ⟨rfl, hq⟩ := List.cons.inj (show a :: (q ++ t) = c :: l from hT)
    obtain ⟨h0, h1⟩ := drop_get h
    obtain ⟨h2, h3⟩ := drop_get (show s.data.toList.drop (k + 1) = a :: (q ++ r) from h1)
    have hin := first_digit s (k + 1) a h2 hc hne
    have hqd : allDigit q = true ∧ q.length ≤ 8 := by
      rw [← hq] at hl hl8
      rw [List.length_append] at hl8
      refine ⟨?_, by omega⟩
      unfold allDigit at hl ⊢
      rw [List.all_append] at hl
      simp only [Bool.and_eq_true] at hl
      exact hl.1
    have hrun := run_ge s r q (k + 1 + 1) 8 hqd.2 hqd.1 h3
    unfold nuR
    rw [inB_at s k 32 32 32 h0, hin]
    simp only [dgN, List.length_cons]
    show k + 1 + (q.length + 1) ≤ k + 1 + (1 + runN s (k + 1 + 1) 8)
    omega
theorem nu_end (s : ByteArray) (k n : Nat) (r : List UInt8) (hn : 1 ≤ n) (hn2 : n ≤ 999999999) (h : s.data.toList.drop k = 32 :: (itoa (n : Int) ++ r)) (he : inB s (k + 1 + (itoa (n : Int)).length) 48 57 = false) : (nuR s k).2 = k + 1 + (itoa (n : Int)).length := by
  obtain ⟨c, l, hi, hc, hl, hl8, hne⟩ := digits_of n hn hn2
  rw [hi] at h he ⊢
  obtain ⟨h0, h1⟩ := drop_get h
  obtain ⟨h2, h3⟩ := drop_get (show s.data.toList.drop (k + 1) = c :: (l ++ r) from h1)
  have hin := first_digit s (k + 1) c h2 hc hne
  have hrun := run_end s r l (k + 1 + 1) 8 hl8 hl h3 (by rw [← he, List.length_cons]; congr 1; omega)
  unfold nuR
  rw [inB_at s k 32 32 32 h0, hin]
  simp only [dgN, List.length_cons]
  show k + 1 + (1 + runN s (k + 1 + 1) 8) = k + 1 + (l.length + 1)
  omega
end Go.Proofs.YtaildeglikhkaaaGreatDoor
/-! Where the reader stands when a text begins as a tree's text does: at what they share, or behind. Plain. -/
namespace Go.Proofs.YtaildeglikhkaaaGreatDoor
open Go.Lib (decDigits itoa)

/-- The reader of a node stands far enough, or right ahead of a blank. -/
def Far (s : ByteArray) (o : Option Nd × Nat) (e : Nat) : Prop := e ≤ o.2 ∨ (o.1 ≠ none ∧ o.2 + 1 = e ∧ s.data.toList[o.2]? = some 32)
def quT (x : Nd) : List UInt8 := if strK x.kind then [32] ++ quoteL x.s else []
theorem noS_ge (s : ByteArray) (kd n j : Nat) : j ≤ (noS s kd n j).2 := by
  unfold noS
  split
  · split
    · have := quR_ge s (j + 1)
      simp only
      omega
    · exact Nat.le_refl _
  · exact Nat.le_refl _
/-- Behind the number: the quoted text, and a blank. -/
theorem tail_pre (s : ByteArray) (x : Nd) (kd n j : Nat) (hkd : strK (kd : Int) = strK x.kind) (p t r : List UInt8) (hp : p ≠ []) (hT : p ++ t = quT x ++ [32]) (h : s.data.toList.drop j = p ++ r) : Far s (noS s kd n j) (j + p.length) := by
  unfold quT at hT
  unfold noS
  rw [hkd]
  cases hs : strK x.kind with
  | false =>
    rw [hs] at hT
    match p, hp, hT with
    | a :: q, _, hT =>
      have hq : a = 32 ∧ q = [] := by simp at hT; exact ⟨hT.1, hT.2.1⟩
      obtain ⟨rfl, rfl⟩ := hq
      exact .inr ⟨by simp, rfl, (drop_get h).1⟩
  | true =>
    rw [hs] at hT
    match p, hp, hT with
    | a :: q, _, hT =>
      have hq : a = 32 ∧ q ++ t = quoteL x.s ++ [32] := by
        have : a :: (q ++ t) = 32 :: (quoteL x.s ++ [32]) := by rw [← List.cons_append, hT]; simp
        exact ⟨(List.cons.inj this).1, (List.cons.inj this).2⟩
      obtain ⟨rfl, hq⟩ := hq
      obtain ⟨h0, h1⟩ := drop_get h
      simp only [if_true]
      rw [if_pos h0]
      rcases app_split hq with ⟨u, hu, _⟩ | ⟨w, rfl, hw⟩
      · left
        have := quR_pre s (j + 1) x.s q u r hu h1
        simp only [List.length_cons]
        omega
      · match w, hw with
        | [], _ =>
          left
          rw [List.append_nil] at h1 ⊢
          have := quR_pre s (j + 1) x.s (quoteL x.s) [] r (by simp) h1
          simp only [List.length_cons]
          omega
        | b :: w, hw =>
          have hb : b = 32 ∧ w = [] := by simp at hw; exact ⟨hw.1, hw.2.1⟩
          obtain ⟨rfl, rfl⟩ := hb
          have h2 : s.data.toList.drop (j + 1) = quoteL x.s ++ (32 :: r) := by rw [show s.data.toList.drop (j + 1) = (quoteL x.s ++ [32]) ++ r from h1]; simp
          have hqb := quote_back s (j + 1) x.s (32 :: r) h2
          rw [hqb]
          have h3 := (drop_get (drop_app h2)).1
          refine .inr ⟨by simp, ?_, h3⟩
          simp only [List.length_cons, List.length_append, List.length_nil]
          omega
theorem nu_blank (s : ByteArray) (k : Nat) : (nuR s k).2 = k ∨ k + 2 ≤ (nuR s k).2 := by
  unfold nuR
  split
  · right
    simp only [dgN]
    omega
  · exact .inl rfl
theorem no_pre (s : ByteArray) (k : Nat) (x : Nd) (p t r : List UInt8) (hx : Says x) (hT : p ++ t = kindN x.kind ++ (tailB x ++ [32])) (h : s.data.toList.drop k = p ++ r) : Far s (noR s k) (k + p.length) := by
  obtain ⟨hk, hn0, hn1, hs⟩ := hx
  obtain ⟨j, hj, hlt⟩ := kind_range x.kind hk
  obtain ⟨n, hn⟩ : ∃ n : Nat, x.n = n := ⟨x.n.toNat, by omega⟩
  have hkN : kindN x.kind = kindL.getD j [] := by unfold kindN; rw [hk, if_pos rfl, hj, Int.toNat_natCast]
  have hne := kind_named ⟨j, hlt⟩ (by rw [hj] at hk; exact hk)
  rw [hkN] at hT
  rcases app_split hT with ⟨u, hu, _⟩ | ⟨q, rfl, hq⟩
  · left
    have h1 := kd_pre s k j p u r hlt hne hu h
    have h2 : (kdR s k).2 ≤ (noR s k).2 := by
      unfold noR
      cases (kdR s k).1 with
      | none => exact Nat.le_refl _
      | some kd => exact Nat.le_trans (nuR_ge s _) (noS_ge s _ _ _)
    omega
  · rw [List.append_assoc] at h
    have hkd := kind_back s k j _ hlt hne h
    have h1 := drop_app h
    have hno : noR s k = noS s j (nuR s (k + (kindL.getD j []).length)).1 (nuR s (k + (kindL.getD j []).length)).2 := by
      unfold noR
      rw [hkd]
    rw [hno, List.length_append, ← Nat.add_assoc]
    generalize k + (kindL.getD j []).length = k1 at h1 ⊢
    have hst : strK (j : Int) = strK x.kind := by rw [hj]
    have hge : (nuR s k1).2 ≤ (noS s j (nuR s k1).1 (nuR s k1).2).2 := noS_ge s _ _ _
    have hge0 := nuR_ge s k1
    by_cases hq0 : q = []
    · subst hq0
      exact .inl (by simp only [List.length_nil]; omega)
    have hTB : tailB x ++ [32] = (if x.n = 0 then [] else [32] ++ itoa x.n) ++ (quT x ++ [32]) := by unfold tailB quT; rw [List.append_assoc]
    rw [hTB] at hq
    by_cases hz : x.n = 0
    · rw [if_pos hz, List.nil_append] at hq
      rcases nu_blank s k1 with hb | hb
      · rw [hb]
        exact tail_pre s x j _ k1 hst q t r hq0 hq h1
      · -- a number stands here: then only the blank is shared
        match q, hq0, hq with
        | a :: w, _, hq =>
          have hw : w = [] := by
            cases w with
            | nil => rfl
            | cons b w =>
              exfalso
              unfold quT at hq
              have hin : (inB s k1 32 32 && inB s (k1 + 1) 49 57) = true := by
                cases hc : (inB s k1 32 32 && inB s (k1 + 1) 49 57) with
                | true => rfl
                | false =>
                  have : (nuR s k1).2 = k1 := by unfold nuR; rw [hc]; rfl
                  omega
              obtain ⟨h2, h3⟩ := drop_get (show s.data.toList.drop k1 = a :: (b :: w ++ r) from h1)
              have h4 := (drop_get (show s.data.toList.drop (k1 + 1) = b :: (w ++ r) from h3)).1
              rw [Bool.and_eq_true, inB_at s (k1 + 1) 49 57 b h4] at hin
              cases hsx : strK x.kind with
              | false => rw [hsx] at hq; simp at hq
              | true =>
                rw [hsx] at hq
                have hb : b = 34 := by simp [quoteL] at hq; exact hq.2.1
                rw [hb] at hin
                exact absurd hin.2 (by decide)
          subst hw
          exact .inl (by simp only [List.length_cons, List.length_nil]; omega)
    · rw [if_neg hz] at hq
      have hn' : 1 ≤ n := by omega
      rw [hn] at hq hn1
      match q, hq0, hq with
      | a :: w, _, hq =>
        have hw : a = 32 ∧ w ++ t = itoa (n : Int) ++ (quT x ++ [32]) := by
          have : a :: (w ++ t) = 32 :: (itoa (n : Int) ++ (quT x ++ [32])) := by rw [← List.cons_append, hq]; simp
          exact ⟨(List.cons.inj this).1, (List.cons.inj this).2⟩
        obtain ⟨rfl, hw⟩ := hw
        have h1' : s.data.toList.drop k1 = 32 :: (w ++ r) := h1
        by_cases hw0 : w = []
        · subst hw0
          -- only the blank
          rcases nu_blank s k1 with hb | hb
          · rw [hb]
            have h32 := (drop_get h1').1
            unfold noS
            rw [hst]
            cases strK x.kind with
            | false => exact .inr ⟨by simp, rfl, h32⟩
            | true =>
              simp only [if_true]
              rw [if_pos h32]
              left
              have := quR_ge s (k1 + 1)
              simp only [List.length_cons, List.length_nil]
              omega
          · exact .inl (by simp only [List.length_cons, List.length_nil]; omega)
        · rcases app_split hw with ⟨u, hu, _⟩ | ⟨y, rfl, hy⟩
          · left
            have := nu_pre s k1 n w u r hn' (by omega) hw0 hu h1'
            simp only [List.length_cons]
            omega
          · by_cases hy0 : y = []
            · subst hy0
              rw [List.append_nil] at h1' hw0 ⊢
              left
              have := nu_pre s k1 n (itoa (n : Int)) [] r hn' (by omega) hw0 (by simp) h1'
              simp only [List.length_cons]
              omega
            · have h5 : s.data.toList.drop k1 = 32 :: (itoa (n : Int) ++ (y ++ r)) := by rw [h1', List.append_assoc]
              have h6 : s.data.toList.drop (k1 + 1 + (itoa (n : Int)).length) = y ++ r := drop_app (drop_get h5).2
              have hy1 : ∃ z, y = 32 :: z := by
                cases y with
                | nil => exact absurd rfl hy0
                | cons b z =>
                  refine ⟨z, ?_⟩
                  have : b = 32 := by
                    unfold quT at hy
                    cases hsx : strK x.kind with
                    | false => rw [hsx] at hy; simp at hy; exact hy.1
                    | true => rw [hsx] at hy; simp at hy; exact hy.1
                  rw [this]
              obtain ⟨z, rfl⟩ := hy1
              have h7 := (drop_get (show s.data.toList.drop (k1 + 1 + (itoa (n : Int)).length) = 32 :: (z ++ r) from h6)).1
              have he := nu_end s k1 n _ hn' (by omega) h5 (by rw [inB_at s _ 48 57 32 h7]; rfl)
              rw [he]
              have := tail_pre s x j (nuR s k1).1 (k1 + 1 + (itoa (n : Int)).length) hst (32 :: z) t r hy0 hy h6
              have e : k1 + 1 + (itoa (n : Int)).length + (32 :: z).length = k1 + (32 :: (itoa (n : Int) ++ 32 :: z)).length := by
                simp only [List.length_cons, List.length_append]
                omega
              rw [e] at this
              exact this
theorem kids_blank (s : ByteArray) (f d j : Nat) (X : List Nd) (c : Nat) (hf : 0 < f) (h : s.data.toList[j]? = some 32) : j + 1 ≤ (kidsG s f d j X c).2.1 := by
  obtain ⟨g, rfl⟩ : ∃ g, f = g + 1 := ⟨f - 1, by omega⟩
  rw [kidsG, if_neg (by rw [h]; decide), if_pos h]
  have h1 := (read_ge s g).1 d (j + 1) X
  rcases ht : treeG s g d (j + 1) X with ⟨_ | _, i, Y⟩
  · rw [ht] at h1; exact h1
  · rw [ht] at h1
    simp only at h1 ⊢
    exact Nat.le_trans h1 ((read_ge s g).2 d i Y (c + 1))
/-- How far a tree's beginning is read. -/
def TrPre (d : Nat) (Y : List Nd) : Prop := ∀ (s : ByteArray) (f dep k : Nat) (X : List Nd) (p t r : List UInt8), p ++ t = textL bgB d Y → t ≠ [] → s.data.toList.drop k = p ++ r → dep + d ≤ 121 → X.length + Y.length ≤ 3001 → p.length < f →
  k + p.length ≤ (treeG s f dep k X).2.1
theorem kids_pre (d : Nat) (s : ByteArray) (dep : Nat) (r : List UInt8) (hd : dep + d ≤ 121) : ∀ (Ys : List (List Nd)) (f k : Nat) (X : List Nd) (c : Nat) (p t : List UInt8), (∀ Y ∈ Ys, TrBack d Y ∧ TrPre d Y) → p ++ t = kidsT d Ys ++ [41] → t ≠ [] → s.data.toList.drop k = p ++ r → X.length + Ys.flatten.length ≤ 3001 → p.length < f →
    k + p.length ≤ (kidsG s f dep k X c).2.1
  | _, 0, _, _, _, _, _, _, _, _, _, _, hf => by omega
  | [], f + 1, k, X, c, p, t, _, hT, ht, h, _, _ => by
    have hp : p = [] := by
      cases p with
      | nil => rfl
      | cons a q =>
        exfalso
        simp [kidsT] at hT
        exact ht hT.2.2
    subst hp
    exact (read_ge s (f + 1)).2 dep k X c
  | Y :: Ys, f + 1, k, X, c, p, t, hY, hT, ht, h, hX, hf => by
    match p, hT with
    | [], _ => exact (read_ge s (f + 1)).2 dep k X c
    | a :: q, hT =>
      have hq : a = 32 ∧ q ++ t = textL bgB d Y ++ (kidsT d Ys ++ [41]) := by
        have : a :: (q ++ t) = 32 :: (textL bgB d Y ++ (kidsT d Ys ++ [41])) := by rw [← List.cons_append, hT, kidsT_cons]; simp
        exact ⟨(List.cons.inj this).1, (List.cons.inj this).2⟩
      obtain ⟨rfl, hq⟩ := hq
      simp only [List.length_cons] at hf
      simp only [List.flatten_cons, List.length_append] at hX
      obtain ⟨h0, h1⟩ := drop_get (show _ = 32 :: (q ++ r) from h)
      rw [kidsG, if_neg (by rw [h0]; decide), if_pos h0]
      simp only [List.length_cons]
      have key : ∀ u, q ++ u = textL bgB d Y → u ≠ [] → k + (q.length + 1) ≤ (match treeG s f dep (k + 1) X with
          | (false, j, Y) => ((none : Option Nat), j, Y)
          | (true, j, Y) => kidsG s f dep j Y (c + 1)).2.1 := by
        intro u hu hu0
        have h2 := (hY Y (by simp)).2 s f dep (k + 1) X q u r hu hu0 h1 hd (by omega) (by omega)
        rcases hr : treeG s f dep (k + 1) X with ⟨_ | _, i, Z⟩
        · rw [hr] at h2; simp only at h2 ⊢; omega
        · rw [hr] at h2
          have h3 := (read_ge s f).2 dep i Z (c + 1)
          simp only at h2 ⊢
          omega
      rcases app_split hq with ⟨u, hu, hut⟩ | ⟨w, rfl, hw⟩
      · by_cases hu0 : u = []
        · subst hu0
          rw [List.append_nil] at hu
          subst hu
          have ht2 := (hY Y (by simp)).1 s f dep (k + 1) X r h1 hd (by omega) (by omega)
          rw [ht2]
          have h3 := (read_ge s f).2 dep (k + 1 + (textL bgB d Y).length) (X ++ Y) (c + 1)
          simp only
          omega
        · exact key u hu hu0
      · rw [List.append_assoc] at h1
        simp only [List.length_append] at hf ⊢
        have ht2 := (hY Y (by simp)).1 s f dep (k + 1) X _ h1 hd (by omega) (by omega)
        have ih := kids_pre d s dep r hd Ys f (k + 1 + (textL bgB d Y).length) (X ++ Y) (c + 1) w t (fun Z hZ => hY Z (by simp [hZ])) hw ht (drop_app h1) (by simp only [List.length_append]; omega) (by omega)
        rw [ht2]
        simp only
        omega
theorem tree_pre {d : Nat} {Y : List Nd} (h : Seg d Y) : (∀ x ∈ Y, Says x) → TrPre d Y := by
  induction h with
  | mk d kind n t Ys hs ih =>
    intro hx s f dep k X p u r hT hu h hd hX hf
    rw [textL_new bgB d kind n t Ys hs] at hT
    have hlen : (newN kind n t Ys).length = Ys.flatten.length + 1 := by simp [newN]
    rw [hlen] at hX
    have hsub : ∀ Z ∈ Ys, ∀ x ∈ Z, Says x := fun Z hZ x hx' => hx x (by
      simp only [newN, List.mem_cons]
      exact .inr (List.mem_flatten.2 ⟨Z, hZ, hx'⟩))
    have hm : ∀ Z ∈ Ys, TrBack d Z ∧ TrPre d Z := fun Z hZ => ⟨tree_back (hs Z hZ) (hsub Z hZ), ih Z hZ (hsub Z hZ)⟩
    have h0 := hx ⟨kind, n, Ys.length, Ys.flatten.length + 1, t⟩ (by simp [newN])
    obtain ⟨g, rfl⟩ : ∃ g, f = g + 1 := ⟨f - 1, by omega⟩
    match p, hT with
    | [], _ => exact (read_ge s (g + 1)).1 dep k X
    | a :: q, hT =>
      obtain ⟨x, hxe⟩ : ∃ x : Nd, x = ⟨kind, n, Ys.length, Ys.flatten.length + 1, t⟩ := ⟨_, rfl⟩
      rw [← hxe] at h0 hT
      have hxk : x.kind = kind := by rw [hxe]
      have hq : a = 40 ∧ q ++ u = (kindN x.kind ++ tailB x) ++ (kidsT d Ys ++ [41]) := by
        have : a :: (q ++ u) = 40 :: ((kindN x.kind ++ tailB x) ++ (kidsT d Ys ++ [41])) := by rw [← List.cons_append, hT]; simp [bgB, kidsT]
        exact ⟨(List.cons.inj this).1, (List.cons.inj this).2⟩
      obtain ⟨rfl, hq⟩ := hq
      obtain ⟨h1, h2⟩ := drop_get (show _ = 40 :: (q ++ r) from h)
      simp only [List.length_cons] at hf ⊢
      rw [treeG, if_neg (by omega), if_pos h1]
      -- up to the node, and a blank behind it
      have near : ∀ y, q ++ y = kindN x.kind ++ (tailB x ++ [32]) → k + (q.length + 1) ≤ (match (noR s (k + 1)).1 with
          | none => (false, (noR s (k + 1)).2, X)
          | some n => match kidsG s g (dep + 1) (noR s (k + 1)).2 (if X.length ≤ 3000 then X ++ [n] else X) 0 with
            | (none, j, Y) => (false, j, Y)
            | (some c, j, Y) => (true, j, if X.length ≤ 3000 then fixN Y X.length c else Y)).2.1 := by
        intro y hy
        have hfar := no_pre s (k + 1) x q y r h0 hy h2
        rcases hfar with hl | ⟨hn0, he, h32⟩
        · cases hno : (noR s (k + 1)).1 with
          | none => simp only; omega
          | some m =>
            have h3 := (read_ge s g).2 (dep + 1) (noR s (k + 1)).2 (if X.length ≤ 3000 then X ++ [m] else X) 0
            simp only
            rcases hk : kidsG s g (dep + 1) (noR s (k + 1)).2 (if X.length ≤ 3000 then X ++ [m] else X) 0 with ⟨_ | c, i, Z⟩
            · rw [hk] at h3; simp only at h3 ⊢; omega
            · rw [hk] at h3; simp only at h3 ⊢; omega
        · cases hno : (noR s (k + 1)).1 with
          | none => exact absurd hno hn0
          | some m =>
            have h3 := kids_blank s g (dep + 1) (noR s (k + 1)).2 (if X.length ≤ 3000 then X ++ [m] else X) 0 (by omega) h32
            simp only
            rcases hk : kidsG s g (dep + 1) (noR s (k + 1)).2 (if X.length ≤ 3000 then X ++ [m] else X) 0 with ⟨_ | c, i, Z⟩
            · rw [hk] at h3; simp only at h3 ⊢; omega
            · rw [hk] at h3; simp only at h3 ⊢; omega
      rcases app_split hq with ⟨y, hy, _⟩ | ⟨w, rfl, hw⟩
      · exact near (y ++ [32]) (by rw [← List.append_assoc, hy, List.append_assoc])
      · match w, hw with
        | [], _ => exact near [32] (by rw [List.append_nil, List.append_assoc])
        | b :: w, hw =>
          cases Ys with
          | nil =>
            exfalso
            simp [kidsT] at hw
            exact hu hw.2.2
          | cons Z Zs =>
            obtain ⟨v, hv⟩ := text_head d Z (hs Z (by simp))
            have hb : b = 32 ∧ w ++ u = 40 :: (v ++ (kidsT d Zs ++ [41])) := by
              have : b :: (w ++ u) = 32 :: (40 :: (v ++ (kidsT d Zs ++ [41]))) := by rw [← List.cons_append, hw, kidsT_cons, hv]; simp
              exact ⟨(List.cons.inj this).1, (List.cons.inj this).2⟩
            obtain ⟨rfl, hw2⟩ := hb
            match w, hw2 with
            | [], _ => exact near [] (by rw [List.append_nil, List.append_assoc])
            | e :: w, hw2 =>
              have he : e = 40 := (List.cons.inj (show e :: (w ++ u) = 40 :: _ from hw2)).1
              subst he
              have hst : Stop ((32 :: 40 :: w) ++ r) := .inr ⟨rfl, fun y hy => .inr (by simpa using hy.symm)⟩
              have h2' : s.data.toList.drop (k + 1) = kindN x.kind ++ (tailB x ++ ((32 :: 40 :: w) ++ r)) := by rw [h2]; simp
              have hno := node_back s (k + 1) x _ h0 h2' hst
              have h3 : s.data.toList.drop (k + 1 + (kindN x.kind ++ tailB x).length) = (32 :: 40 :: w) ++ r := by
                rw [← List.append_assoc] at h2'
                exact drop_app h2'
              obtain ⟨J, hJ⟩ : ∃ J, k + 1 + (kindN x.kind ++ tailB x).length = J := ⟨_, rfl⟩
              rw [hJ] at hno h3
              have hk := kids_pre d s (dep + 1) r (by omega) (Z :: Zs) g J (X ++ [⟨x.kind, x.n, 0, 0, x.s⟩]) 0 (32 :: 40 :: w) u hm hw hu h3 (by simp only [List.length_append, List.length_cons, List.length_nil]; omega) (by simp only [List.length_append] at hf; omega)
              have hlen2 : (kindN x.kind ++ tailB x ++ 32 :: 40 :: w).length = (kindN x.kind ++ tailB x).length + (32 :: 40 :: w).length := List.length_append
              rw [hno, hlen2]
              simp only [if_pos (show X.length ≤ 3000 by omega)]
              have key : ∀ o : Option Nat × Nat × List Nd, J + (32 :: 40 :: w).length ≤ o.2.1 → k + ((kindN x.kind ++ tailB x).length + (32 :: 40 :: w).length + 1) ≤ (match o with
                  | (none, j, Y) => (false, j, Y)
                  | (some c, j, Y) => (true, j, fixN Y X.length c)).2.1 := by
                rintro ⟨_ | c, i, Z2⟩ ho
                · simp only at ho ⊢
                  omega
                · simp only at ho ⊢
                  omega
              exact key _ hk
/-- A text that begins as a tree's text, and not with all of it: the reader comes so far at least. -/
theorem read_pre (d : Nat) (l : List Nd) (h : Seg d l) (hd : d ≤ 120) (hl : l.length ≤ 3001) (hx : ∀ x ∈ l, Says x) (s : ByteArray) (p t r : List UInt8) (hT : p ++ t = textL bgB d l) (ht : t ≠ []) (hs : s.data.toList = p ++ r) : p.length ≤ (readG s).2.1 := by
  have hsz := drop_len s 0 p r (by simpa using hs)
  have := tree_pre h hx s (s.size + 1) 1 0 [] p t r hT ht (by simpa using hs) (by omega) (by simpa using hl) (by omega)
  unfold readG
  omega
/-- A tree's text, and more behind it: the reader reads the tree, and stands behind it. -/
theorem read_more (d : Nat) (l : List Nd) (h : Seg d l) (hd : d ≤ 120) (hl : l.length ≤ 3001) (hx : ∀ x ∈ l, Says x) (s : ByteArray) (r : List UInt8) (hs : s.data.toList = textL bgB d l ++ r) : readG s = (true, (textL bgB d l).length, l) := by
  have hsz := drop_len s 0 (textL bgB d l) r (by simpa using hs)
  unfold readG
  rw [tree_back h hx s (s.size + 1) 1 0 [] r (by simpa using hs) (by omega) (by simpa using hl) (by omega)]
  simp
end Go.Proofs.YtaildeglikhkaaaGreatDoor
namespace Go.Proofs.YtaildeglikhkaaaGreatDoor
open Go.Lib (decDigits itoa)

theorem end_none (s : ByteArray) (k : Nat) (p : List UInt8) (h : s.data.toList.drop k = p) (i : Nat) (_hk : k ≤ i) (hi : k + p.length ≤ i) : s.data.toList[i]? = none := by
  rw [← h, List.length_drop] at hi
  rw [List.getElem?_eq_none_iff]
  omega
theorem tree_end (s : ByteArray) (f d k : Nat) (X : List Nd) (h : s.data.toList[k]? = none) : (treeG s f d k X).1 = false := by
  cases f with
  | zero => rw [treeG]
  | succ f =>
    rw [treeG]
    split
    · rfl
    · rw [if_neg (by rw [h]; simp)]
theorem kids_end (s : ByteArray) (f d k : Nat) (X : List Nd) (c : Nat) (h : s.data.toList[k]? = none) : (kidsG s f d k X c).1 = none := by
  cases f with
  | zero => rw [kidsG]
  | succ f =>
    rw [kidsG, if_neg (by rw [h]; simp), if_neg (by rw [h]; simp)]
theorem kids_blank_end (s : ByteArray) (f d k : Nat) (X : List Nd) (c : Nat) (h : s.data.toList[k]? = some 32) (h1 : s.data.toList[k + 1]? = none) : (kidsG s f d k X c).1 = none := by
  cases f with
  | zero => rw [kidsG]
  | succ f =>
    have := tree_end s f d (k + 1) X h1
    rw [kidsG, if_neg (by rw [h]; decide), if_pos h]
    rcases hr : treeG s f d (k + 1) X with ⟨_ | _, i, Y⟩
    · rfl
    · rw [hr] at this; cases this
def TrFail (d : Nat) (Y : List Nd) : Prop := ∀ (s : ByteArray) (f dep k : Nat) (X : List Nd) (p t : List UInt8), p ++ t = textL bgB d Y → t ≠ [] → s.data.toList.drop k = p → dep + d ≤ 121 → X.length + Y.length ≤ 3001 → p.length < f →
  (treeG s f dep k X).1 = false
theorem kids_fail (d : Nat) (s : ByteArray) (dep : Nat) (hd : dep + d ≤ 121) : ∀ (Ys : List (List Nd)) (f k : Nat) (X : List Nd) (c : Nat) (p t : List UInt8), (∀ Y ∈ Ys, TrBack d Y ∧ TrFail d Y) → p ++ t = kidsT d Ys ++ [41] → t ≠ [] → s.data.toList.drop k = p → X.length + Ys.flatten.length ≤ 3001 → p.length < f →
    (kidsG s f dep k X c).1 = none
  | _, 0, _, _, _, _, _, _, _, _, _, _, hf => by omega
  | [], f + 1, k, X, c, p, t, _, hT, ht, h, _, _ => by
    have hp : p = [] := by
      cases p with
      | nil => rfl
      | cons a q =>
        exfalso
        simp [kidsT] at hT
        exact ht hT.2.2
    subst hp
    exact kids_end s (f + 1) dep k X c (end_none s k [] h k (Nat.le_refl _) (Nat.le_refl _))
  | Y :: Ys, f + 1, k, X, c, p, t, hY, hT, ht, h, hX, hf => by
    match p, hT with
    | [], _ => exact kids_end s (f + 1) dep k X c (end_none s k [] h k (Nat.le_refl _) (Nat.le_refl _))
    | a :: q, hT =>
      have hq : a = 32 ∧ q ++ t = textL bgB d Y ++ (kidsT d Ys ++ [41]) := by
        have : a :: (q ++ t) = 32 :: (textL bgB d Y ++ (kidsT d Ys ++ [41])) := by rw [← List.cons_append, hT, kidsT_cons]; simp
        exact ⟨(List.cons.inj this).1, (List.cons.inj this).2⟩
      obtain ⟨rfl, hq⟩ := hq
      simp only [List.length_cons] at hf
      simp only [List.flatten_cons, List.length_append] at hX
      obtain ⟨h0, h1⟩ := drop_get h
      rw [kidsG, if_neg (by rw [h0]; decide), if_pos h0]
      rcases app_split hq with ⟨u, hu, hut⟩ | ⟨w, rfl, hw⟩
      · by_cases hu0 : u = []
        · subst hu0
          rw [List.append_nil] at hu
          have ht2 := (hY Y (by simp)).1 s f dep (k + 1) X [] (by rw [h1, hu, List.append_nil]) hd (by omega) (by rw [← hu]; omega)
          rw [ht2]
          exact kids_end s f dep _ _ _ (end_none s (k + 1) q h1 _ (by omega) (by rw [hu]; omega))
        · have h2 := (hY Y (by simp)).2 s f dep (k + 1) X q u hu hu0 h1 hd (by omega) (by omega)
          rcases hr : treeG s f dep (k + 1) X with ⟨_ | _, i, Z⟩
          · rfl
          · rw [hr] at h2; cases h2
      · simp only [List.length_append] at hf
        have ht2 := (hY Y (by simp)).1 s f dep (k + 1) X w h1 hd (by omega) (by omega)
        have ih := kids_fail d s dep hd Ys f (k + 1 + (textL bgB d Y).length) (X ++ Y) (c + 1) w t (fun Z hZ => hY Z (by simp [hZ])) hw ht (drop_app h1) (by simp only [List.length_append]; omega) (by omega)
        rw [ht2]
        exact ih
theorem none_false (X : List Nd) (g : List Nd → Nat → List Nd) (o : Option Nat × Nat × List Nd) (h : o.1 = none) : (match o with
    | (none, j, Y) => (false, j, Y)
    | (some c, j, Y) => (true, j, if X.length ≤ 3000 then g Y c else Y)).1 = false := by
  obtain ⟨_ | c, i, Z⟩ := o
  · rfl
  · cases h
theorem none_false2 (g : List Nd → Nat → List Nd) (o : Option Nat × Nat × List Nd) (h : o.1 = none) : (match o with
    | (none, j, Y) => (false, j, Y)
    | (some c, j, Y) => (true, j, g Y c)).1 = false := by
  obtain ⟨_ | c, i, Z⟩ := o
  · rfl
  · cases h
theorem tree_fail {d : Nat} {Y : List Nd} (h : Seg d Y) : (∀ x ∈ Y, Says x) → TrFail d Y := by
  induction h with
  | mk d kind n t Ys hs ih =>
    intro hx s f dep k X p u hT hu h hd hX hf
    rw [textL_new bgB d kind n t Ys hs] at hT
    have hlen : (newN kind n t Ys).length = Ys.flatten.length + 1 := by simp [newN]
    rw [hlen] at hX
    have hsub : ∀ Z ∈ Ys, ∀ x ∈ Z, Says x := fun Z hZ x hx' => hx x (by
      simp only [newN, List.mem_cons]
      exact .inr (List.mem_flatten.2 ⟨Z, hZ, hx'⟩))
    have hm : ∀ Z ∈ Ys, TrBack d Z ∧ TrFail d Z := fun Z hZ => ⟨tree_back (hs Z hZ) (hsub Z hZ), ih Z hZ (hsub Z hZ)⟩
    have h0 := hx ⟨kind, n, Ys.length, Ys.flatten.length + 1, t⟩ (by simp [newN])
    obtain ⟨g, rfl⟩ : ∃ g, f = g + 1 := ⟨f - 1, by omega⟩
    match p, hT with
    | [], _ => exact tree_end s (g + 1) dep k X (end_none s k [] h k (Nat.le_refl _) (Nat.le_refl _))
    | a :: q, hT =>
      obtain ⟨x, hxe⟩ : ∃ x : Nd, x = ⟨kind, n, Ys.length, Ys.flatten.length + 1, t⟩ := ⟨_, rfl⟩
      rw [← hxe] at h0 hT
      have hq : a = 40 ∧ q ++ u = (kindN x.kind ++ tailB x) ++ (kidsT d Ys ++ [41]) := by
        have : a :: (q ++ u) = 40 :: ((kindN x.kind ++ tailB x) ++ (kidsT d Ys ++ [41])) := by rw [← List.cons_append, hT]; simp [bgB, kidsT]
        exact ⟨(List.cons.inj this).1, (List.cons.inj this).2⟩
      obtain ⟨rfl, hq⟩ := hq
      obtain ⟨h1, h2⟩ := drop_get h
      simp only [List.length_cons] at hf
      rw [treeG, if_neg (by omega), if_pos h1]
      have near : ∀ y, q ++ y = kindN x.kind ++ (tailB x ++ [32]) → (match (noR s (k + 1)).1 with
          | none => (false, (noR s (k + 1)).2, X)
          | some n => match kidsG s g (dep + 1) (noR s (k + 1)).2 (if X.length ≤ 3000 then X ++ [n] else X) 0 with
            | (none, j, Y) => (false, j, Y)
            | (some c, j, Y) => (true, j, if X.length ≤ 3000 then fixN Y X.length c else Y)).1 = false := by
        intro y hy
        have hfar := no_pre s (k + 1) x q y [] h0 hy (by rw [h2, List.append_nil])
        rcases hfar with hl | ⟨hn0, he, h32⟩
        · cases hno : (noR s (k + 1)).1 with
          | none => rfl
          | some m => exact none_false X (fun Y c => fixN Y X.length c) _ (kids_end s g (dep + 1) (noR s (k + 1)).2 _ 0 (end_none s (k + 1) q h2 _ (by omega) hl))
        · cases hno : (noR s (k + 1)).1 with
          | none => exact absurd hno hn0
          | some m => exact none_false X (fun Y c => fixN Y X.length c) _ (kids_blank_end s g (dep + 1) (noR s (k + 1)).2 _ 0 h32 (end_none s (k + 1) q h2 _ (by omega) (by omega)))
      rcases app_split hq with ⟨y, hy, _⟩ | ⟨w, rfl, hw⟩
      · exact near (y ++ [32]) (by rw [← List.append_assoc, hy, List.append_assoc])
      · match w, hw with
        | [], _ => exact near [32] (by rw [List.append_nil, List.append_assoc])
        | b :: w, hw =>
          cases Ys with
          | nil =>
            exfalso
            simp [kidsT] at hw
            exact hu hw.2.2
          | cons Z Zs =>
            obtain ⟨v, hv⟩ := text_head d Z (hs Z (by simp))
            have hb : b = 32 ∧ w ++ u = 40 :: (v ++ (kidsT d Zs ++ [41])) := by
              have : b :: (w ++ u) = 32 :: (40 :: (v ++ (kidsT d Zs ++ [41]))) := by rw [← List.cons_append, hw, kidsT_cons, hv]; simp
              exact ⟨(List.cons.inj this).1, (List.cons.inj this).2⟩
            obtain ⟨rfl, hw2⟩ := hb
            match w, hw2 with
            | [], _ => exact near [] (by rw [List.append_nil, List.append_assoc])
            | e :: w, hw2 =>
              have he : e = 40 := (List.cons.inj (show e :: (w ++ u) = 40 :: _ from hw2)).1
              subst he
              have hst : Stop (32 :: 40 :: w) := .inr ⟨rfl, fun y hy => .inr (by simpa using hy.symm)⟩
              have h2' : s.data.toList.drop (k + 1) = kindN x.kind ++ (tailB x ++ (32 :: 40 :: w)) := by rw [h2]; simp
              have hno := node_back s (k + 1) x _ h0 h2' hst
              have h3 : s.data.toList.drop (k + 1 + (kindN x.kind ++ tailB x).length) = 32 :: 40 :: w := by
                rw [← List.append_assoc] at h2'
                exact drop_app h2'
              obtain ⟨J, hJ⟩ : ∃ J, k + 1 + (kindN x.kind ++ tailB x).length = J := ⟨_, rfl⟩
              rw [hJ] at hno h3
              have hk := kids_fail d s (dep + 1) (by omega) (Z :: Zs) g J (X ++ [⟨x.kind, x.n, 0, 0, x.s⟩]) 0 (32 :: 40 :: w) u hm hw hu h3 (by simp only [List.length_append, List.length_cons, List.length_nil]; omega) (by simp only [List.length_append] at hf; omega)
              rw [hno]
              simp only [if_pos (show X.length ≤ 3000 by omega)]
              exact none_false2 (fun Y c => fixN Y X.length c) _ hk
/-- A tree's text that is cut off is not read. -/
theorem read_cut (d : Nat) (l : List Nd) (h : Seg d l) (hd : d ≤ 120) (hl : l.length ≤ 3001) (hx : ∀ x ∈ l, Says x) (s : ByteArray) (t : List UInt8) (hT : s.data.toList ++ t = textL bgB d l) (ht : t ≠ []) : (readG s).1 = false := by
  unfold readG
  refine tree_fail h hx s (s.size + 1) 1 0 [] s.data.toList t hT ht (by simp) (by omega) (by simpa using hl) ?_
  have e : s.data.toList.length = s.size := by rw [Array.length_toList]; rfl
  omega
end Go.Proofs.YtaildeglikhkaaaGreatDoor
