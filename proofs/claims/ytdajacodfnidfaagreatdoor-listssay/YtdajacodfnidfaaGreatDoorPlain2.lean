/- Plain facts on escaped texts, closed texts, parts and matches; nothing of the program is in it. -/
import Derived.Test.YtdajacodfnidfaaGreatDoorPlain
import Derived.Lib.TrimByte
namespace Go.Proofs.YtdajacodfnidfaaGreatDoor

/-! Closed texts. -/
/-- How many takers stand at the end. -/
def tr (l : List UInt8) : Nat := (l.reverse.takeWhile (· == 92)).length
theorem tr_eq (l : List UInt8) : l.length - (Lib.trimRightB l 92).length = tr l := by
  unfold tr Lib.trimRightB
  have h : (l.reverse.takeWhile (· == 92)).length + (l.reverse.dropWhile (· == 92)).length = l.length := by
    rw [← List.length_append, List.takeWhile_append_dropWhile, List.length_reverse]
  rw [List.length_reverse]
  omega
theorem tr_le (l : List UInt8) : tr l ≤ l.length := by
  have := (List.takeWhile_sublist (l := l.reverse) (· == 92)).length_le
  rw [List.length_reverse] at this
  exact this
theorem tr_cons (c : UInt8) (l : List UInt8) : tr (c :: l) = if tr l = l.length ∧ c = 92 then tr l + 1 else tr l := by
  unfold tr
  rw [List.reverse_cons, List.takeWhile_append, List.length_reverse]
  by_cases h : (l.reverse.takeWhile (· == 92)).length = l.length
  · rw [if_pos h]
    by_cases hc : c = 92
    · subst hc; simp [h]
    · simp [h, hc]
  · rw [if_neg h, if_neg (fun e => h e.1)]
/-- Closed, read from the front. -/
def cl : List UInt8 → Bool
  | [] => true
  | [c] => c != 92
  | c :: d :: r => if c = 92 then cl r else cl (d :: r)
theorem cl_eq (l : List UInt8) : decide (tr l % 2 = 0) = cl l := by
  induction l using cl.induct with
  | case1 => rfl
  | case2 c =>
    rw [tr_cons]
    by_cases h : c = 92
    · subst h; rfl
    · simp [tr, cl, h]
  | case3 d r ih =>
    have h1 := tr_cons d r
    have h2 := tr_cons 92 (d :: r)
    have hle := tr_le r
    simp only [cl, if_true, ← ih]
    have h3 : tr (92 :: d :: r) = tr r ∨ tr (92 :: d :: r) = tr r + 2 := by
      by_cases hd : tr r = r.length ∧ d = 92
      · rw [if_pos hd] at h1
        rw [if_pos ⟨by rw [h1, hd.1]; rfl, rfl⟩] at h2
        right; omega
      · rw [if_neg hd] at h1
        rw [if_neg (fun e => by have := e.1; simp at this; omega)] at h2
        left; omega
    rw [Bool.eq_iff_iff]
    simp only [decide_eq_true_eq]
    omega
  | case4 c d r h ih =>
    rw [tr_cons, if_neg (fun e => h e.2), ih]
    simp [cl, h]

theorem chunks_snd (l : List UInt8) : (chunks l).map Prod.snd = letts l := by
  induction l using letts.induct with
  | case1 => rfl
  | case2 c => rfl
  | case3 d r ih => simp [chunks, letts, ih]
  | case4 c d r h ih => simp [chunks, letts, h, ih]
theorem chunks_flat (l : List UInt8) : (chunks l).flatMap Prod.fst = l := by
  induction l using letts.induct with
  | case1 => rfl
  | case2 c => rfl
  | case3 d r ih => simp [chunks, ih]
  | case4 c d r h ih => simp [chunks, h, ih]
theorem chunks_cons (c : UInt8) (r : List UInt8) (h : c ≠ 92) : chunks (c :: r) = ([c], (c, true)) :: chunks r := by
  cases r with
  | nil => simp [chunks, h]
  | cons d r => simp [chunks, h]
theorem chunks_take (d : UInt8) (r : List UInt8) : chunks (92 :: d :: r) = ([92, d], (d, false)) :: chunks r := by simp [chunks]
theorem chunks_append (a b : List UInt8) (h : cl a = true) : chunks (a ++ b) = chunks a ++ chunks b := by
  induction a using cl.induct with
  | case1 => rfl
  | case2 c =>
    have hc : c ≠ 92 := by simpa [cl] using h
    rw [List.singleton_append, chunks_cons c b hc, chunks_cons c [] hc]
    rfl
  | case3 d r ih =>
    simp only [List.cons_append]
    rw [chunks_take, chunks_take, ih (by simpa [cl] using h)]
    rfl
  | case4 c d r hc ih =>
    rw [List.cons_append, chunks_cons c _ hc, chunks_cons c _ hc, ih (by simpa [cl, hc] using h)]
    rfl
theorem letts_append (a b : List UInt8) (h : cl a = true) : letts (a ++ b) = letts a ++ letts b := by
  rw [← chunks_snd, chunks_append a b h, List.map_append, chunks_snd, chunks_snd]

/-! Escaped texts. -/
/-- Is a byte escaped? -/
def specialC (c : UInt8) : Bool := c == 42 || c == 63 || c == 91 || c == 93 || c == 92 || blankC c
/-- The escaped text. -/
def escL (l : List UInt8) : List UInt8 := l.flatMap fun c => if specialC c then [92, c] else [c]
theorem special_92 (c : UInt8) (h : specialC c = false) : c ≠ 92 := by
  intro e; subst e; revert h; decide
theorem escL_cons (c : UInt8) (l : List UInt8) : escL (c :: l) = (if specialC c then [92, c] else [c]) ++ escL l := by simp [escL]
theorem chunks_esc : ∀ l : List UInt8, chunks (escL l) = l.map fun c => (if specialC c then ([92, c], (c, false)) else ([c], (c, true)))
  | [] => rfl
  | c :: l => by
    rw [escL_cons, List.map_cons, ← chunks_esc l]
    by_cases h : specialC c = true
    · rw [if_pos h, if_pos h]
      exact chunks_take c _
    · rw [if_neg h, if_neg h]
      exact chunks_cons c _ (special_92 c (by simpa using h))
theorem letts_esc (l : List UInt8) : letts (escL l) = l.map fun c => (c, !specialC c) := by
  rw [← chunks_snd, chunks_esc, List.map_map]
  apply List.map_congr_left
  intro c _
  cases h : specialC c <;> simp [h]
theorem plain_esc (l : List UInt8) : (letts (escL l)).map Prod.fst = l := by
  rw [letts_esc, List.map_map]
  exact List.map_id' l
theorem cl_esc : ∀ l : List UInt8, cl (escL l) = true
  | [] => rfl
  | c :: l => by
    rw [escL_cons]
    by_cases h : specialC c = true
    · rw [if_pos h]
      simp [cl, cl_esc l]
    · rw [if_neg h]
      have hc := special_92 c (by simpa using h)
      cases he : escL l with
      | nil => simp [cl, hc]
      | cons d r =>
        have := cl_esc l
        rw [he] at this
        simp [cl, hc, this]
/-- Letters none of which is a pattern byte. -/
def tame (L : List Lt) : Prop := ∀ x ∈ L, isL x 42 = false ∧ isL x 63 = false ∧ isL x 91 = false
theorem tame_esc (l : List UInt8) : tame (letts (escL l)) := by
  rw [letts_esc]
  intro x hx
  obtain ⟨c, _, rfl⟩ := List.mem_map.1 hx
  have hk : ∀ d : UInt8, specialC d = true → isL (c, !specialC c) d = false := by
    intro d hd
    by_cases e : c = d
    · subst e; simp [isL, hd]
    · simp [isL, e]
  exact ⟨hk 42 (by decide), hk 63 (by decide), hk 91 (by decide)⟩
theorem live_tame : ∀ L : List Lt, tame L → liveR L = false
  | [], _ => rfl
  | x :: r, h => by
    obtain ⟨h1, h2, h3⟩ := h x (by simp)
    simp [liveR, h1, h2, h3, live_tame r (fun y hy => h y (by simp [hy]))]
theorem pcs_tame : ∀ L : List Lt, tame L → pcs L = L.map fun x => (false, setAdd setNo x.1.toNat x.1.toNat)
  | [], _ => by simp [pcs]
  | x :: r, h => by
    obtain ⟨h1, h2, h3⟩ := h x (by simp)
    rw [pcs]
    simp [h1, h2, h3, closeIn, pcs_tame r (fun y hy => h y (by simp [hy]))]
theorem mt_self : ∀ l t : List UInt8, mt (l.map fun c => (false, setAdd setNo c.toNat c.toNat)) t = decide (l = t)
  | [], [] => rfl
  | [], c :: t => rfl
  | c :: l, [] => rfl
  | c :: l, d :: t => by
    have ih := mt_self l t
    simp only [List.map_cons, mt, Bool.false_eq_true, if_false, ih]
    have hs : setAdd setNo c.toNat c.toNat d.toNat = decide (c = d) := by
      simp only [setAdd, setNo, Bool.false_or]
      rw [Bool.eq_iff_iff]
      simp only [Bool.and_eq_true, decide_eq_true_eq]
      constructor
      · rintro ⟨h1, h2⟩; exact UInt8.toNat_inj.1 (by omega)
      · rintro rfl; exact ⟨Nat.le_refl _, Nat.le_refl _⟩
    rw [hs, Bool.eq_iff_iff]
    simp
theorem match_esc (l t : List UInt8) : mt (pcs (letts (escL l))) t = decide (l = t) := by
  rw [pcs_tame _ (tame_esc l), letts_esc, List.map_map]
  exact mt_self l t

/-! Parts. -/
/-- No living blank. -/
def noBlank (cs : List (List UInt8 × Lt)) : Prop := ∀ x ∈ cs, (x.2.2 && blankC x.2.1) = false
theorem splitR_none : ∀ (cs : List (List UInt8 × Lt)) (acc : List UInt8), noBlank cs → splitR acc cs = one (acc ++ cs.flatMap Prod.fst)
  | [], acc, _ => by simp [splitR]
  | (raw, l) :: r, acc, h => by
    have h1 := h (raw, l) (by simp)
    simp only at h1
    simp only [splitR, h1, Bool.false_eq_true, if_false]
    rw [splitR_none r (acc ++ raw) (fun x hx => h x (by simp [hx]))]
    simp
theorem split_esc (l : List UInt8) : splitL (escL l) = one (escL l) := by
  unfold splitL
  rw [splitR_none, List.nil_append, chunks_flat]
  intro x hx
  rw [chunks_esc] at hx
  obtain ⟨c, _, rfl⟩ := List.mem_map.1 hx
  cases h : specialC c
  · simp only [Bool.false_eq_true, if_false, Bool.true_and]
    cases hb : blankC c with
    | false => rfl
    | true => exfalso; unfold specialC at h; rw [hb] at h; simp at h
  · simp
theorem splitR_mid (acc raw : List UInt8) (l : Lt) (hl : (l.2 && blankC l.1) = true) : ∀ (cs ds : List (List UInt8 × Lt)), splitR acc (cs ++ (raw, l) :: ds) = splitR acc cs ++ splitR [] ds
  | [], ds => by simp [splitR, hl]
  | (raw', l') :: cs, ds => by
    by_cases h : (l'.2 && blankC l'.1) = true
    · simp only [List.cons_append, splitR, h, if_true, List.append_assoc]
      rw [splitR_mid [] raw l hl cs ds]
    · simp only [List.cons_append, splitR, h]
      exact splitR_mid (acc ++ raw') raw l hl cs ds
theorem split_two (a b : List UInt8) (sep : UInt8) (h : cl a = true) (hs : blankC sep = true) : splitL (a ++ sep :: b) = splitL a ++ splitL b := by
  have h92 : sep ≠ 92 := by intro e; subst e; revert hs; decide
  unfold splitL
  rw [chunks_append a _ h, chunks_cons sep b h92, splitR_mid [] [sep] (sep, true) (by simpa using hs)]
/-- Chunks as they are read. -/
def GoodC : List (List UInt8 × Lt) → Prop
  | [] => True
  | x :: r => ((∃ c, c ≠ 92 ∧ x = ([c], (c, true))) ∨ (∃ d, x = ([92, d], (d, false))) ∨ (x = ([92], (92, false)) ∧ r = [])) ∧ GoodC r
theorem good_chunks (l : List UInt8) : GoodC (chunks l) := by
  induction l using letts.induct with
  | case1 => trivial
  | case2 c =>
    by_cases h : c = 92
    · subst h; exact ⟨.inr (.inr ⟨rfl, rfl⟩), trivial⟩
    · rw [chunks_cons c [] h]; exact ⟨.inl ⟨c, h, rfl⟩, trivial⟩
  | case3 d r ih => rw [chunks_take]; exact ⟨.inr (.inl ⟨d, rfl⟩), ih⟩
  | case4 c d r h ih => rw [chunks_cons c _ h]; exact ⟨.inl ⟨c, h, rfl⟩, ih⟩
theorem good_back : ∀ cs, GoodC cs → chunks (cs.flatMap Prod.fst) = cs
  | [], _ => rfl
  | x :: r, ⟨h, hr⟩ => by
    have ih := good_back r hr
    rw [List.flatMap_cons]
    rcases h with ⟨c, hc, rfl⟩ | ⟨d, rfl⟩ | ⟨rfl, rfl⟩
    · simp only [List.cons_append, List.nil_append]
      rw [chunks_cons c _ hc, ih]
    · simp only [List.cons_append, List.nil_append]
      rw [chunks_take, ih]
    · rfl
theorem good_left : ∀ cs ds, GoodC (cs ++ ds) → GoodC cs
  | [], _, _ => trivial
  | x :: r, ds, ⟨h, hr⟩ => by
    refine ⟨?_, good_left r ds hr⟩
    rcases h with h | h | ⟨h, e⟩
    · exact .inl h
    · exact .inr (.inl h)
    · exact .inr (.inr ⟨h, (List.append_eq_nil_iff.1 e).1⟩)
theorem good_right : ∀ cs ds, GoodC (cs ++ ds) → GoodC ds
  | [], _, h => h
  | _ :: r, ds, h => good_right r ds h.2
theorem one_part (zs : List (List UInt8 × Lt)) (h : GoodC zs) (hn : noBlank zs) (hz : zs.flatMap Prod.fst ≠ []) : splitL (zs.flatMap Prod.fst) = [zs.flatMap Prod.fst] := by
  unfold splitL
  rw [good_back zs h, splitR_none zs [] hn, List.nil_append]
  simp [one, hz]
theorem parts_good : ∀ (cs as_ : List (List UInt8 × Lt)), GoodC (as_ ++ cs) → noBlank as_ → ∀ z ∈ splitR (as_.flatMap Prod.fst) cs, z ≠ [] ∧ splitL z = [z]
  | [], as_, hg, hn, z, hz => by
    rw [List.append_nil] at hg
    simp only [splitR, one] at hz
    split at hz
    · simp at hz
    · rename_i hne
      obtain rfl := List.mem_singleton.1 hz
      exact ⟨hne, one_part as_ hg hn hne⟩
  | (raw, l) :: cs, as_, hg, hn, z, hz => by
    by_cases h : (l.2 && blankC l.1) = true
    · simp only [splitR, h, if_true] at hz
      rcases List.mem_append.1 hz with hz | hz
      · unfold one at hz
        split at hz
        · simp at hz
        · rename_i hne
          obtain rfl := List.mem_singleton.1 hz
          exact ⟨hne, one_part as_ (good_left _ _ hg) hn hne⟩
      · exact parts_good cs [] (good_right [(raw, l)] cs (good_right as_ _ hg)) (fun x hx => by simp at hx) z hz
    · simp only [splitR, h] at hz
      have e : (as_ ++ [(raw, l)]).flatMap Prod.fst = as_.flatMap Prod.fst ++ raw := by simp
      rw [← e] at hz
      refine parts_good cs (as_ ++ [(raw, l)]) (by rw [List.append_assoc]; exact hg) (fun x hx => ?_) z hz
      rcases List.mem_append.1 hx with hx | hx
      · exact hn x hx
      · obtain rfl := List.mem_singleton.1 hx
        simpa using h
theorem part_alone (l z : List UInt8) (hz : z ∈ splitL l) : z ≠ [] ∧ splitL z = [z] :=
  parts_good (chunks l) [] (good_chunks l) (fun x hx => by simp at hx) z hz

/-! Matches of two patterns. -/
theorem mt_append : ∀ (A B : List Pc) (s : List UInt8), mt (A ++ B) s = true ↔ ∃ i, i ≤ s.length ∧ mt A (s.take i) = true ∧ mt B (s.drop i) = true
  | [], B, s => by
    constructor
    · intro h; exact ⟨0, by simp, rfl, by simpa using h⟩
    · rintro ⟨i, hi, h1, h2⟩
      have : s.take i = [] := by simpa [mt] using h1
      have hi0 : i = 0 ∨ s = [] := by simpa using this
      rcases hi0 with rfl | rfl
      · simpa using h2
      · simpa using h2
  | (m, f) :: A, B, s => by
    cases m with
    | true =>
      simp only [List.cons_append, mt, if_true, starM_iff]
      constructor
      · rintro ⟨k, hk, h⟩
        obtain ⟨i, hi, h1, h2⟩ := (mt_append A B _).1 h
        simp at hi
        refine ⟨k + i, by omega, ⟨k, by simp; omega, ?_⟩, by rw [← List.drop_drop]; exact h2⟩
        rw [List.drop_take, show k + i - k = i by omega]
        exact h1
      · rintro ⟨i, hi, ⟨k, hk, h1⟩, h2⟩
        simp at hk
        refine ⟨k, by omega, (mt_append A B _).2 ⟨i - k, by simp; omega, ?_, ?_⟩⟩
        · rw [List.drop_take] at h1; exact h1
        · rw [List.drop_drop, show k + (i - k) = i by omega]; exact h2
    | false =>
      cases s with
      | nil =>
        simp [mt]
      | cons c s =>
        simp only [List.cons_append, mt, Bool.false_eq_true, if_false, Bool.and_eq_true]
        constructor
        · rintro ⟨h0, h⟩
          obtain ⟨i, hi, h1, h2⟩ := (mt_append A B s).1 h
          exact ⟨i + 1, by simpa using hi, by simpa using ⟨h0, h1⟩, by simpa using h2⟩
        · rintro ⟨i, hi, h1, h2⟩
          cases i with
          | zero => simp at h1
          | succ i =>
            simp at h1
            exact ⟨h1.1, (mt_append A B s).2 ⟨i, by simpa using hi, h1.2, by simpa using h2⟩⟩
theorem mt_star_mid (A B : List Pc) (f : Nat → Bool) (s : List UInt8) : mt (A ++ (true, f) :: B) s = true ↔ ∃ i k, i ≤ k ∧ k ≤ s.length ∧ mt A (s.take i) = true ∧ mt B (s.drop k) = true := by
  rw [mt_append]
  constructor
  · rintro ⟨i, hi, h1, h2⟩
    simp only [mt, if_true, starM_iff] at h2
    obtain ⟨k, hk, h2⟩ := h2
    simp at hk
    exact ⟨i, i + k, by omega, by omega, h1, by rw [← List.drop_drop]; exact h2⟩
  · rintro ⟨i, k, hik, hk, h1, h2⟩
    refine ⟨i, by omega, h1, ?_⟩
    simp only [mt, if_true, starM_iff]
    exact ⟨k - i, by simp; omega, by rw [List.drop_drop, show i + (k - i) = k by omega]; exact h2⟩
/-- Without an opening bracket in the first one, pieces of letters behind letters are the pieces of both. -/
theorem pcs_append : ∀ (A B : List Lt), (∀ x ∈ A, isL x 91 = false) → pcs (A ++ B) = pcs A ++ pcs B
  | [], B, _ => by rw [pcs]; simp
  | x :: r, B, h => by
    have hx := h x (by simp)
    have ih := pcs_append r B (fun y hy => h y (by simp [hy]))
    rw [List.cons_append, pcs, pcs]
    have hc : ∀ q, closeIn x q = none := fun q => by simp [closeIn, hx]
    rw [hc, hc]
    by_cases h1 : isL x 42 = true
    · simp [h1, ih]
    · by_cases h2 : isL x 63 = true
      · simp [h1, h2, ih]
      · simp [h1, h2, ih]
theorem letts_mem (l : List UInt8) : ∀ x ∈ letts l, x.2 = true → x.1 ∈ l := by
  induction l using letts.induct with
  | case1 => intro x hx; simp [letts] at hx
  | case2 c => intro x hx; simp [letts] at hx; subst hx; simp
  | case3 d r ih =>
    intro x hx h
    simp only [letts, if_true, List.mem_cons] at hx
    rcases hx with rfl | hx
    · simp at h
    · simp [ih x hx h]
  | case4 c d r hc ih =>
    intro x hx h
    simp only [letts, hc, if_false, List.mem_cons] at hx
    rcases hx with rfl | hx
    · simp
    · have := ih x hx h
      simp at this ⊢
      rcases this with e | e
      · exact .inr (.inl e)
      · exact .inr (.inr e)
theorem no_open (p : List UInt8) (h : 91 ∉ p) : ∀ x ∈ letts p, isL x 91 = false := by
  intro x hx
  cases h2 : isL x 91 with
  | false => rfl
  | true =>
    have h3 : x.2 = true ∧ x.1 = 91 := by simpa [isL] using h2
    exact absurd (h3.2 ▸ letts_mem p x hx h3.1) h
end Go.Proofs.YtdajacodfnidfaaGreatDoor
