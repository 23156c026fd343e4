/- The document's own lexer: what stands here, whatever it is. -/
import Derived.Test.YtlbdecohmjpgaaaDoorRf8
namespace Go.Proofs.YtlbdecohmjpgaaaDoor
open Go.RowKit

def notQ (c : UInt8) : Bool := c != 39
theorem pSing_tw : ∀ l : List UInt8, pSing l = if (l.takeWhile notQ).length < l.length then some (l.drop ((l.takeWhile notQ).length + 1)) else none
  | [] => rfl
  | c :: t => by
    rw [pSing, List.takeWhile_cons]
    by_cases hc : c = 39
    · subst hc
      rfl
    · rw [if_neg hc, pSing_tw t, show notQ c = true by simp [notQ, hc]]
      simp only [if_true, List.length_cons, List.drop_succ_cons]
      by_cases h : (t.takeWhile notQ).length < t.length
      · rw [if_pos h, if_pos (by omega)]
      · rw [if_neg h, if_neg (by omega)]
theorem notQ_at (s : ByteArray) (a k : Nat) (hk : k < s.size) (h1 : a ≤ k) (h2 : k < a + ((s.data.toList.drop a).takeWhile notQ).length) : s[k] ≠ 39 := by
  have hm : (s.data.toList.drop a)[k - a]? = some s[k] := by rw [List.getElem?_drop, show a + (k - a) = k by omega]; exact s_get s k hk
  have hp := List.takeWhile_prefix (l := s.data.toList.drop a) notQ
  have hm2 : ((s.data.toList.drop a).takeWhile notQ)[k - a]? = some s[k] := by
    rw [List.prefix_iff_eq_take.1 hp, List.getElem?_take_of_lt (by omega)]
    exact hm
  have := mem_tw (List.mem_of_getElem? hm2)
  simpa [notQ] using this
theorem notQ_end (s : ByteArray) (a : Nat) (hK : a + ((s.data.toList.drop a).takeWhile notQ).length < s.size) : s[a + ((s.data.toList.drop a).takeWhile notQ).length] = 39 := by
  obtain ⟨x, h1, h2⟩ := tw_end (p := notQ) (l := s.data.toList.drop a) (by rw [len_drop']; omega)
  rw [List.getElem?_drop, s_get s _ hK] at h1
  cases h1
  simpa [notQ] using h2
/-- What one step comes to. -/
def special (l : List UInt8) : Bool := match l with
  | [] => false
  | c :: t => c == 92 || c == 39 || c == 34 || dolB (c :: t)
def stepR (N : Nat) (X : List Pt) (l : List UInt8) : Except Er (List Pt × List UInt8) := match l with
  | [] => .ok (X, [])
  | c :: t => if special (c :: t) then preR X (parts N c t) else .ok (textP X 1 (N - (t.length + 1)) [c], t)
theorem stepR_spec {N : Nat} {X : List Pt} {c : UInt8} {t : List UInt8} (h : c = 92 ∨ c = 39 ∨ c = 34 ∨ dolB (c :: t) = true) : stepR N X (c :: t) = preR X (parts N c t) := by
  have : special (c :: t) = true := by
    rcases h with rfl | rfl | rfl | h
    · rfl
    · rfl
    · rfl
    · simp [special, h]
  rw [stepR, this, if_pos rfl]
theorem stepR_byte {N : Nat} {X : List Pt} {c : UInt8} {t : List UInt8} (h1 : c ≠ 92) (h2 : c ≠ 39) (h3 : c ≠ 34) (h4 : dolB (c :: t) = false) : stepR N X (c :: t) = .ok (textP X 1 (N - (t.length + 1)) [c], t) := by
  have : special (c :: t) = false := by simp [special, h1, h2, h3, h4]
  rw [stepR, this, if_neg (by simp)]
theorem dollar_plain {N : Nat} {l : List UInt8} {p : Pt} {u : List UInt8} (h : dollar N l = .ok (p, u)) : p = ⟨p.kind, p.pos, p.n, false, p.s⟩ := by
  match l, h with
  | [], h => cases h
  | [_], h => cases h
  | a :: c :: t, h =>
    rw [dollar] at h
    split at h
    · split at h
      · cases h
      · cases h; rfl
    · split at h
      · split at h
        · obtain ⟨rfl, _, _⟩ := varR_ok h
          rfl
        · cases h
      · split at h
        · cases h; rfl
        · split at h
          · cases h; rfl
          · split at h
            · cases h; rfl
            · obtain ⟨rfl, _, _⟩ := varR_ok h
              rfl
theorem part_any {W : World} {b B : Nat} {s : ByteArray} {i : Nat} {av v : Value} {X : List Pt} (h : Lx W b s i 0 av) (hO : RPt W B v X) (hbB : b < B) (hBW : B ≤ W.heap.size) (hs : s.size ≤ 8192) (hX : X.length ≤ i) (hi : i < s.size) (hXs : ∀ p ∈ X, p.s.length ≤ 8192 + i) :
    Calls Tryd.prog 26 #[.pointer (some ⟨b, 0, none⟩), v] W fun e w' => ∃ v', e = .returned v' ∧ PrtR W b B s av (stepR s.size X (s.data.toList.drop i)) v' w' := by
  have hd := drop_cons s i hi
  have hl := len_drop' s (i + 1)
  have hpos : s.size - ((s.data.toList.drop (i + 1)).length + 1) = i := by omega
  have hXl : X.length < 100000 := by omega
  have hXs' : ∀ p ∈ X, p.s.length ≤ 100000 := fun p hp => by have := hXs p hp; omega
  by_cases c92 : s[i] = 92
  · rw [hd, stepR_spec (Or.inl c92)]
    by_cases hn : i + 1 < s.size
    · exact part_esc h hO hbB hBW hs hXl hi c92 hn
    · exact part_escEnd h hO hbB hBW hs hXl hi c92 (by omega)
  by_cases c39 : s[i] = 39
  · rw [hd, stepR_spec (Or.inr (Or.inl c39))]
    obtain ⟨tw, htw⟩ : ∃ tw, tw = (s.data.toList.drop (i + 1)).takeWhile notQ := ⟨_, rfl⟩
    have hle : tw.length ≤ (s.data.toList.drop (i + 1)).length := by rw [htw]; exact (List.takeWhile_sublist _).length_le
    have hA : ∀ k (hk : k < s.size), i + 1 ≤ k → k < i + 1 + tw.length → s[k] ≠ 39 := fun k hk h1 h2 => notQ_at s (i + 1) k hk h1 (by rw [← htw]; exact h2)
    have hpr : parts s.size s[i] (s.data.toList.drop (i + 1)) = (match pSing (s.data.toList.drop (i + 1)) with
      | none => .error ⟨2, i⟩
      | some u => .ok ([⟨2, i, 0, false, (s.data.toList.drop (i + 1)).take ((s.data.toList.drop (i + 1)).length - u.length - 1)⟩], u)) := by
      rw [parts.eq_def, if_neg c92, if_pos c39, hpos]
      cases pSing (s.data.toList.drop (i + 1)) <;> rfl
    rw [pSing_tw, ← htw] at hpr
    by_cases hin : tw.length < (s.data.toList.drop (i + 1)).length
    · rw [if_pos hin] at hpr
      have hB : s[i + 1 + tw.length] = 39 := by
        have := notQ_end s (i + 1) (by rw [← htw]; omega)
        simpa [← htw] using this
      have hr : preR X (parts s.size s[i] (s.data.toList.drop (i + 1))) = .ok (X ++ [⟨2, i, 0, false, tw⟩], s.data.toList.drop (i + 1 + tw.length + 1)) := by
        rw [hpr]
        simp only [preR, List.length_drop, List.drop_drop]
        rw [show s.data.toList.length - (i + 1) - (s.data.toList.length - (i + 1 + (tw.length + 1))) - 1 = tw.length by rw [ba_length]; omega, show i + 1 + (tw.length + 1) = i + 1 + tw.length + 1 by omega]
        conv => lhs; rw [htw, take_self, ← htw]
      rw [hr]
      exact part_single h hO hbB hBW hs hXl hi c39 (i + 1 + tw.length) (by omega) (by omega) hA (by omega) hB tw (by rw [ext_nm, show i + 1 + tw.length - (i + 1) = tw.length by omega, htw, take_self])
    · rw [if_neg hin] at hpr
      rw [hpr]
      exact part_unsingle h hO hbB hBW hs hXl hi c39 (i + 1 + tw.length) (by omega) (by omega) hA (by omega)
  by_cases c34 : s[i] = 34
  · rw [hd, stepR_spec (Or.inr (Or.inr (Or.inl c34)))]
    exact part_double h hO hbB hBW hs hX hi hXs c34
  by_cases c36 : s[i] = 36
  · cases hdl : dolB (s.data.toList.drop i) with
    | true =>
      have hdl' := hdl
      rw [hd] at hdl'
      rw [hd, stepR_spec (Or.inr (Or.inr (Or.inr hdl')))]
      cases hdr : dollar s.size (s.data.toList.drop i) with
      | error x =>
        have hdr' := hdr
        rw [hd] at hdr'
        have hr : preR X (parts s.size s[i] (s.data.toList.drop (i + 1))) = .error x := by
          rw [parts.eq_def, if_neg c92, if_neg c39, if_neg c34, if_pos hdl', hdr']
          rfl
        rw [hr]
        exact part_dollarBad h hO hbB hBW hs hXl hi c36 x hdl hdr
      | ok q0 =>
        obtain ⟨p0, u0⟩ := q0
        have hdr' := hdr
        rw [hd] at hdr'
        have hr : preR X (parts s.size s[i] (s.data.toList.drop (i + 1))) = .ok (X ++ [p0], u0) := by
          rw [parts.eq_def, if_neg c92, if_neg c39, if_neg c34, if_pos hdl', hdr']
          rfl
        rw [hr]
        have hq : p0 = ⟨p0.kind, p0.pos, p0.n, false, p0.s⟩ := dollar_plain hdr
        have := part_dollar h hO hbB hBW hs hXl hi c36 p0 u0 hdl hdr
        rw [← hq] at this
        exact this
    | false =>
      have hdl' := hdl
      rw [hd] at hdl'
      rw [hd, stepR_byte c92 c39 c34 hdl', hpos]
      exact part_byte36 h hO hbB hBW hs hXl hi hXs' c36 hdl
  · have hdl : dolB (s[i] :: s.data.toList.drop (i + 1)) = false := by
      cases s.data.toList.drop (i + 1) with
      | nil => rfl
      | cons a r => simp [dolB, c36]
    rw [hd, stepR_byte c92 c39 c34 hdl, hpos]
    exact part_byte h hO hbB hBW hs hXl hi hXs' c92 c39 c34 c36
end Go.Proofs.YtlbdecohmjpgaaaDoor
