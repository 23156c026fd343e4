/- Escape, Closed, Plain. -/
import Derived.Test.YtfafhjglcaikoaaGreatDoorG13
import Derived.Lib.TrimByte
import Derived.Test.YtfafhjglcaikoaaGreatDoorG9
/-! Plain facts on escaped texts, closed texts, parts and matches; nothing of the program is in it. -/
namespace Go.Proofs.YtfafhjglcaikoaaGreatDoor

/-! Closed texts. -/
/-- How many takers stand at the end. -/
def tr (l : List UInt8) : Nat := (l.reverse.takeWhile (· == 92)).length
theorem tr_eq (l : List UInt8) : l.length - (Lib.trimRightB l 92).length = tr l := by
  unfold tr Lib.trimRightB
  have h : (l.reverse.takeWhile (· == 92)).length + (l.reverse.dropWhile (· == 92)).length = l.length := by
    rw [← List.length_append, List.takeWhile_append_dropWhile, List.length_reverse]
  rw [List.length_reverse]
  omega
theorem tr_le (l : List UInt8) : tr l ≤ l.length := by
  have := (List.takeWhile_sublist (l := l.reverse) (· == 92)).length_le
  rw [List.length_reverse] at this
  exact this
theorem tr_cons (c : UInt8) (l : List UInt8) : tr (c :: l) = if tr l = l.length ∧ c = 92 then tr l + 1 else tr l := by
  unfold tr
  rw [List.reverse_cons, List.takeWhile_append, List.length_reverse]
  by_cases h : (l.reverse.takeWhile (· == 92)).length = l.length
  · rw [if_pos h]
    by_cases hc : c = 92
    · subst hc; simp [h]
    · simp [h, hc]
  · rw [if_neg h, if_neg (fun e => h e.1)]
/-- Closed, read from the front. -/
def cl : List UInt8 → Bool
  | [] => true
  | [c] => c != 92
  | c :: d :: r => if c = 92 then cl r else cl (d :: r)
theorem cl_eq (l : List UInt8) : decide (tr l % 2 = 0) = cl l := by
  induction l using cl.induct with
  | case1 => rfl
  | case2 c =>
    rw [tr_cons]
    by_cases h : c = 92
    · subst h; rfl
    · simp [tr, cl, h]
  | case3 d r ih =>
    have h1 := tr_cons d r
    have h2 := tr_cons 92 (d :: r)
    have hle := tr_le r
    simp only [cl, if_true, ← ih]
    have h3 : tr (92 :: d :: r) = tr r ∨ tr (92 :: d :: r) = tr r + 2 := by
      by_cases hd : tr r = r.length ∧ d = 92
      · rw [if_pos hd] at h1
        rw [if_pos ⟨by rw [h1, hd.1]; rfl, rfl⟩] at h2
        right; omega
      · rw [if_neg hd] at h1
        rw [if_neg (fun e => by have := e.1; simp at this; omega)] at h2
        left; omega
    rw [Bool.eq_iff_iff]
    simp only [decide_eq_true_eq]
    omega
  | case4 c d r h ih =>
    rw [tr_cons, if_neg (fun e => h e.2), ih]
    simp [cl, h]

theorem chunks_snd (l : List UInt8) : (chunks l).map Prod.snd = letts l := by
  induction l using letts.induct with
  | case1 => rfl
  | case2 c => rfl
  | case3 d r ih => simp [chunks, letts, ih]
  | case4 c d r h ih => simp [chunks, letts, h, ih]
theorem chunks_flat (l : List UInt8) : (chunks l).flatMap Prod.fst = l := by
  induction l using letts.induct with
  | case1 => rfl
  | case2 c => rfl
  | case3 d r ih => simp [chunks, ih]
  | case4 c d r h ih => simp [chunks, h, ih]
theorem chunks_cons (c : UInt8) (r : List UInt8) (h : c ≠ 92) : chunks (c :: r) = ([c], (c, true)) :: chunks r := by
  cases r with
  | nil => simp [chunks, h]
  | cons d r => simp [chunks, h]
theorem chunks_take (d : UInt8) (r : List UInt8) : chunks (92 :: d :: r) = ([92, d], (d, false)) :: chunks r := by simp [chunks]
theorem chunks_append (a b : List UInt8) (h : cl a = true) : chunks (a ++ b) = chunks a ++ chunks b := by
  induction a using cl.induct with
  | case1 => rfl
  | case2 c =>
    have hc : c ≠ 92 := by simpa [cl] using h
    rw [List.singleton_append, chunks_cons c b hc, chunks_cons c [] hc]
    rfl
  | case3 d r ih =>
    simp only [List.cons_append]
    rw [chunks_take, chunks_take, ih (by simpa [cl] using h)]
    rfl
  | case4 c d r hc ih =>
    rw [List.cons_append, chunks_cons c _ hc, chunks_cons c _ hc, ih (by simpa [cl, hc] using h)]
    rfl
theorem letts_append (a b : List UInt8) (h : cl a = true) : letts (a ++ b) = letts a ++ letts b := by
  rw [← chunks_snd, chunks_append a b h, List.map_append, chunks_snd, chunks_snd]

/-! Escaped texts. -/
/-- Is a byte escaped? -/
def specialC (c : UInt8) : Bool := c == 42 || c == 63 || c == 91 || c == 93 || c == 92 || blankC c
/-- The escaped text. -/
def escL (l : List UInt8) : List UInt8 := l.flatMap fun c => if specialC c then [92, c] else [c]
theorem special_92 (c : UInt8) (h : specialC c = false) : c ≠ 92 := by
  intro e; subst e; revert h; decide
theorem escL_cons (c : UInt8) (l : List UInt8) : escL (c :: l) = (if specialC c then [92, c] else [c]) ++ escL l := by simp [escL]
theorem chunks_esc : ∀ l : List UInt8, chunks (escL l) = l.map fun c => (if specialC c then ([92, c], (c, false)) else ([c], (c, true)))
  | [] => rfl
  | c :: l => by
    rw [escL_cons, List.map_cons, ← chunks_esc l]
    by_cases h : specialC c = true
    · rw [if_pos h, if_pos h]
      exact chunks_take c _
    · rw [if_neg h, if_neg h]
      exact chunks_cons c _ (special_92 c (by simpa using h))
theorem letts_esc (l : List UInt8) : letts (escL l) = l.map fun c => (c, !specialC c) := by
  rw [← chunks_snd, chunks_esc, List.map_map]
  apply List.map_congr_left
  intro c _
  cases h : specialC c <;> simp [h]
theorem plain_esc (l : List UInt8) : (letts (escL l)).map Prod.fst = l := by
  rw [letts_esc, List.map_map]
  exact List.map_id' l
theorem cl_esc : ∀ l : List UInt8, cl (escL l) = true
  | [] => rfl
  | c :: l => by
    rw [escL_cons]
    by_cases h : specialC c = true
    · rw [if_pos h]
      simp [cl, cl_esc l]
    · rw [if_neg h]
      have hc := special_92 c (by simpa using h)
      cases he : escL l with
      | nil => simp [cl, hc]
      | cons d r =>
        have := cl_esc l
        rw [he] at this
        simp [cl, hc, this]
/-- Letters none of which is a pattern byte. -/
def tame (L : List Lt) : Prop := ∀ x ∈ L, isL x 42 = false ∧ isL x 63 = false ∧ isL x 91 = false
theorem tame_esc (l : List UInt8) : tame (letts (escL l)) := by
  rw [letts_esc]
  intro x hx
  obtain ⟨c, _, rfl⟩ := List.mem_map.1 hx
  have hk : ∀ d : UInt8, specialC d = true → isL (c, !specialC c) d = false := by
    intro d hd
    by_cases e : c = d
    · subst e; simp [isL, hd]
    · simp [isL, e]
  exact ⟨hk 42 (by decide), hk 63 (by decide), hk 91 (by decide)⟩
theorem live_tame : ∀ L : List Lt, tame L → liveR L = false
  | [], _ => rfl
  | x :: r, h => by
    obtain ⟨h1, h2, h3⟩ := h x (by simp)
    simp [liveR, h1, h2, h3, live_tame r (fun y hy => h y (by simp [hy]))]
theorem pcs_tame : ∀ L : List Lt, tame L → pcs L = L.map fun x => (false, setAdd setNo x.1.toNat x.1.toNat)
  | [], _ => by simp [pcs]
  | x :: r, h => by
    obtain ⟨h1, h2, h3⟩ := h x (by simp)
    rw [pcs]
    simp [h1, h2, h3, closeIn, pcs_tame r (fun y hy => h y (by simp [hy]))]
theorem mt_self : ∀ l t : List UInt8, mt (l.map fun c => (false, setAdd setNo c.toNat c.toNat)) t = decide (l = t)
  | [], [] => rfl
  | [], c :: t => rfl
  | c :: l, [] => rfl
  | c :: l, d :: t => by
    have ih := mt_self l t
    simp only [List.map_cons, mt, Bool.false_eq_true, if_false, ih]
    have hs : setAdd setNo c.toNat c.toNat d.toNat = decide (c = d) := by
      simp only [setAdd, setNo, Bool.false_or]
      rw [Bool.eq_iff_iff]
      simp only [Bool.and_eq_true, decide_eq_true_eq]
      constructor
      · rintro ⟨h1, h2⟩; exact UInt8.toNat_inj.1 (by omega)
      · rintro rfl; exact ⟨Nat.le_refl _, Nat.le_refl _⟩
    rw [hs, Bool.eq_iff_iff]
    simp
theorem match_esc (l t : List UInt8) : mt (pcs (letts (escL l))) t = decide (l = t) := by
  rw [pcs_tame _ (tame_esc l), letts_esc, List.map_map]
  exact mt_self l t

/-! Parts. -/
/-- No living blank. -/
def noBlank (cs : List (List UInt8 × Lt)) : Prop := ∀ x ∈ cs, (x.2.2 && blankC x.2.1) = false
theorem splitR_none : ∀ (cs : List (List UInt8 × Lt)) (acc : List UInt8), noBlank cs → splitR acc cs = one (acc ++ cs.flatMap Prod.fst)
  | [], acc, _ => by simp [splitR]
  | (raw, l) :: r, acc, h => by
    have h1 := h (raw, l) (by simp)
    simp only at h1
    simp only [splitR, h1, Bool.false_eq_true, if_false]
    rw [splitR_none r (acc ++ raw) (fun x hx => h x (by simp [hx]))]
    simp
theorem split_esc (l : List UInt8) : splitL (escL l) = one (escL l) := by
  unfold splitL
  rw [splitR_none, List.nil_append, chunks_flat]
  intro x hx
  rw [chunks_esc] at hx
  obtain ⟨c, _, rfl⟩ := List.mem_map.1 hx
  cases h : specialC c
  · simp only [Bool.false_eq_true, if_false, Bool.true_and]
    cases hb : blankC c with
    | false => rfl
    | true => exfalso; unfold specialC at h; rw [hb] at h; simp at h
  · simp
theorem splitR_mid (acc raw : List UInt8) (l : Lt) (hl : (l.2 && blankC l.1) = true) : ∀ (cs ds : List (List UInt8 × Lt)), splitR acc (cs ++ (raw, l) :: ds) = splitR acc cs ++ splitR [] ds
  | [], ds => by simp [splitR, hl]
  | (raw', l') :: cs, ds => by
    by_cases h : (l'.2 && blankC l'.1) = true
    · simp only [List.cons_append, splitR, h, if_true, List.append_assoc]
      rw [splitR_mid [] raw l hl cs ds]
    · simp only [List.cons_append, splitR, h]
      exact splitR_mid (acc ++ raw') raw l hl cs ds
theorem split_two (a b : List UInt8) (sep : UInt8) (h : cl a = true) (hs : blankC sep = true) : splitL (a ++ sep :: b) = splitL a ++ splitL b := by
  have h92 : sep ≠ 92 := by intro e; subst e; revert hs; decide
  unfold splitL
  rw [chunks_append a _ h, chunks_cons sep b h92, splitR_mid [] [sep] (sep, true) (by simpa using hs)]
/-- Chunks as they are read. -/
def GoodC : List (List UInt8 × Lt) → Prop
  | [] => True
  | x :: r => ((∃ c, c ≠ 92 ∧ x = ([c], (c, true))) ∨ (∃ d, x = ([92, d], (d, false))) ∨ (x = ([92], (92, false)) ∧ r = [])) ∧ GoodC r
theorem good_chunks (l : List UInt8) : GoodC (chunks l) := by
  induction l using letts.induct with
  | case1 => trivial
  | case2 c =>
    by_cases h : c = 92
    · subst h; exact ⟨.inr (.inr ⟨rfl, rfl⟩), trivial⟩
    · rw [chunks_cons c [] h]; exact ⟨.inl ⟨c, h, rfl⟩, trivial⟩
  | case3 d r ih => rw [chunks_take]; exact ⟨.inr (.inl ⟨d, rfl⟩), ih⟩
  | case4 c d r h ih => rw [chunks_cons c _ h]; exact ⟨.inl ⟨c, h, rfl⟩, ih⟩
theorem good_back : ∀ cs, GoodC cs → chunks (cs.flatMap Prod.fst) = cs
  | [], _ => rfl
  | x :: r, ⟨h, hr⟩ => by
    have ih := good_back r hr
    rw [List.flatMap_cons]
    rcases h with ⟨c, hc, rfl⟩ | ⟨d, rfl⟩ | ⟨rfl, rfl⟩
    · simp only [List.cons_append, List.nil_append]
      rw [chunks_cons c _ hc, ih]
    · simp only [List.cons_append, List.nil_append]
      rw [chunks_take, ih]
    · rfl
theorem good_left : ∀ cs ds, GoodC (cs ++ ds) → GoodC cs
  | [], _, _ => trivial
  | x :: r, ds, ⟨h, hr⟩ => by
    refine ⟨?_, good_left r ds hr⟩
    rcases h with h | h | ⟨h, e⟩
    · exact .inl h
    · exact .inr (.inl h)
    · exact .inr (.inr ⟨h, (List.append_eq_nil_iff.1 e).1⟩)
theorem good_right : ∀ cs ds, GoodC (cs ++ ds) → GoodC ds
  | [], _, h => h
  | _ :: r, ds, h => good_right r ds h.2
theorem one_part (zs : List (List UInt8 × Lt)) (h : GoodC zs) (hn : noBlank zs) (hz : zs.flatMap Prod.fst ≠ []) : splitL (zs.flatMap Prod.fst) = [zs.flatMap Prod.fst] := by
  unfold splitL
  rw [good_back zs h, splitR_none zs [] hn, List.nil_append]
  simp [one, hz]
theorem parts_good : ∀ (cs as_ : List (List UInt8 × Lt)), GoodC (as_ ++ cs) → noBlank as_ → ∀ z ∈ splitR (as_.flatMap Prod.fst) cs, z ≠ [] ∧ splitL z = [z]
  | [], as_, hg, hn, z, hz => by
    rw [List.append_nil] at hg
    simp only [splitR, one] at hz
    split at hz
    · simp at hz
    · rename_i hne
      obtain rfl := List.mem_singleton.1 hz
      exact ⟨hne, one_part as_ hg hn hne⟩
  | (raw, l) :: cs, as_, hg, hn, z, hz => by
    by_cases h : (l.2 && blankC l.1) = true
    · simp only [splitR, h, if_true] at hz
      rcases List.mem_append.1 hz with hz | hz
      · unfold one at hz
        split at hz
        · simp at hz
        · rename_i hne
          obtain rfl := List.mem_singleton.1 hz
          exact ⟨hne, one_part as_ (good_left _ _ hg) hn hne⟩
      · exact parts_good cs [] (good_right [(raw, l)] cs (good_right as_ _ hg)) (fun x hx => by simp at hx) z hz
    · simp only [splitR, h] at hz
      have e : (as_ ++ [(raw, l)]).flatMap Prod.fst = as_.flatMap Prod.fst ++ raw := by simp
      rw [← e] at hz
      refine parts_good cs (as_ ++ [(raw, l)]) (by rw [List.append_assoc]; exact hg) (fun x hx => ?_) z hz
      rcases List.mem_append.1 hx with hx | hx
      · exact hn x hx
      · obtain rfl := List.mem_singleton.1 hx
        simpa using h
theorem part_alone (l z : List UInt8) (hz : z ∈ splitL l) : z ≠ [] ∧ splitL z = [z] :=
  parts_good (chunks l) [] (good_chunks l) (fun x hx => by simp at hx) z hz

/-! Matches of two patterns. -/
theorem mt_append : ∀ (A B : List Pc) (s : List UInt8), mt (A ++ B) s = true ↔ ∃ i, i ≤ s.length ∧ mt A (s.take i) = true ∧ mt B (s.drop i) = true
  | [], B, s => by
    constructor
    · intro h; exact ⟨0, by simp, rfl, by simpa using h⟩
    · rintro ⟨i, hi, h1, h2⟩
      have : s.take i = [] := by simpa [mt] using h1
      have hi0 : i = 0 ∨ s = [] := by simpa using this
      rcases hi0 with rfl | rfl
      · simpa using h2
      · simpa using h2
  | (m, f) :: A, B, s => by
    cases m with
    | true =>
      simp only [List.cons_append, mt, if_true, starM_iff]
      constructor
      · rintro ⟨k, hk, h⟩
        obtain ⟨i, hi, h1, h2⟩ := (mt_append A B _).1 h
        simp at hi
        refine ⟨k + i, by omega, ⟨k, by simp; omega, ?_⟩, by rw [← List.drop_drop]; exact h2⟩
        rw [List.drop_take, show k + i - k = i by omega]
        exact h1
      · rintro ⟨i, hi, ⟨k, hk, h1⟩, h2⟩
        simp at hk
        refine ⟨k, by omega, (mt_append A B _).2 ⟨i - k, by simp; omega, ?_, ?_⟩⟩
        · rw [List.drop_take] at h1; exact h1
        · rw [List.drop_drop, show k + (i - k) = i by omega]; exact h2
    | false =>
      cases s with
      | nil =>
        simp [mt]
      | cons c s =>
        simp only [List.cons_append, mt, Bool.false_eq_true, if_false, Bool.and_eq_true]
        constructor
        · rintro ⟨h0, h⟩
          obtain ⟨i, hi, h1, h2⟩ := (mt_append A B s).1 h
          exact ⟨i + 1, by simpa using hi, by simpa using ⟨h0, h1⟩, by simpa using h2⟩
        · rintro ⟨i, hi, h1, h2⟩
          cases i with
          | zero => simp at h1
          | succ i =>
            simp at h1
            exact ⟨h1.1, (mt_append A B s).2 ⟨i, by simpa using hi, h1.2, by simpa using h2⟩⟩
theorem mt_star_mid (A B : List Pc) (f : Nat → Bool) (s : List UInt8) : mt (A ++ (true, f) :: B) s = true ↔ ∃ i k, i ≤ k ∧ k ≤ s.length ∧ mt A (s.take i) = true ∧ mt B (s.drop k) = true := by
  rw [mt_append]
  constructor
  · rintro ⟨i, hi, h1, h2⟩
    simp only [mt, if_true, starM_iff] at h2
    obtain ⟨k, hk, h2⟩ := h2
    simp at hk
    exact ⟨i, i + k, by omega, by omega, h1, by rw [← List.drop_drop]; exact h2⟩
  · rintro ⟨i, k, hik, hk, h1, h2⟩
    refine ⟨i, by omega, h1, ?_⟩
    simp only [mt, if_true, starM_iff]
    exact ⟨k - i, by simp; omega, by rw [List.drop_drop, show i + (k - i) = k by omega]; exact h2⟩
/-- Without an opening bracket in the first one, pieces of letters behind letters are the pieces of both. -/
theorem pcs_append : ∀ (A B : List Lt), (∀ x ∈ A, isL x 91 = false) → pcs (A ++ B) = pcs A ++ pcs B
  | [], B, _ => by rw [pcs]; simp
  | x :: r, B, h => by
    have hx := h x (by simp)
    have ih := pcs_append r B (fun y hy => h y (by simp [hy]))
    rw [List.cons_append, pcs, pcs]
    have hc : ∀ q, closeIn x q = none := fun q => by simp [closeIn, hx]
    rw [hc, hc]
    by_cases h1 : isL x 42 = true
    · simp [h1, ih]
    · by_cases h2 : isL x 63 = true
      · simp [h1, h2, ih]
      · simp [h1, h2, ih]
theorem letts_mem (l : List UInt8) : ∀ x ∈ letts l, x.2 = true → x.1 ∈ l := by
  induction l using letts.induct with
  | case1 => intro x hx; simp [letts] at hx
  | case2 c => intro x hx; simp [letts] at hx; subst hx; simp
  | case3 d r ih =>
    intro x hx h
    simp only [letts, if_true, List.mem_cons] at hx
    rcases hx with rfl | hx
    · simp at h
    · simp [ih x hx h]
  | case4 c d r hc ih =>
    intro x hx h
    simp only [letts, hc, if_false, List.mem_cons] at hx
    rcases hx with rfl | hx
    · simp
    · have := ih x hx h
      simp at this ⊢
      rcases this with e | e
      · exact .inr (.inl e)
      · exact .inr (.inr e)
theorem no_open (p : List UInt8) (h : 91 ∉ p) : ∀ x ∈ letts p, isL x 91 = false := by
  intro x hx
  cases h2 : isL x 91 with
  | false => rfl
  | true =>
    have h3 : x.2 = true ∧ x.1 = 91 := by simpa [isL] using h2
    exact absurd (h3.2 ▸ letts_mem p x hx h3.1) h
end Go.Proofs.YtfafhjglcaikoaaGreatDoor
namespace Go.Proofs.YtfafhjglcaikoaaGreatDoor
open Go.RowKit Go.Shelf
attribute [local go_sem] Oper.semAt_some

theorem escL_snoc (l : List UInt8) (c : UInt8) : escL (l ++ [c]) = escL l ++ (if specialC c then [92, c] else [c]) := by simp [escL]
theorem escL_length : ∀ l : List UInt8, (escL l).length ≤ 2 * l.length
  | [] => by simp [escL]
  | c :: l => by
    have := escL_length l
    unfold escL at this ⊢
    rw [List.flatMap_cons, List.length_append]
    have h : (if specialC c then [92, c] else [c]).length ≤ 2 := by split <;> simp
    simp only [List.length_cons]
    omega

theorem index_special (c : UInt8) : decide (0 ≤ Lib.indexByte [42, 63, 91, 93, 92] c) = (c == 42 || c == 63 || c == 91 || c == 93 || c == 92) := by
  by_cases h1 : c = 42
  · subst h1; decide
  by_cases h2 : c = 63
  · subst h2; decide
  by_cases h3 : c = 91
  · subst h3; decide
  by_cases h4 : c = 93
  · subst h4; decide
  by_cases h5 : c = 92
  · subst h5; decide
  simp [Lib.indexByte, h1, h2, h3, h4, h5, Ne.symm h1, Ne.symm h2, Ne.symm h3, Ne.symm h4, Ne.symm h5]

set_option maxHeartbeats 400000 in
theorem escaped_any (c : UInt8) (w : World) :
    Calls Tryz.prog 286 #[.int .u8 c.toNat] w fun e w' => e = .returned (.bool (specialC c)) ∧ w' = w := by
  have hc : ((c.toNat : Int)).toNat.toUInt8 = c := by simp
  obtain ⟨b, hb⟩ : ∃ b, (c == 42 || c == 63 || c == 91 || c == 93 || c == 92) = b := ⟨_, rfl⟩
  have hi := index_special c
  have hsp : specialC c = (b || blankC c) := by simp only [specialC, hb]
  rw [hb] at hi
  rw [hsp]
  clear hsp hb
  have HC : Hid _ := hc
  clear hc
  cases b
  all_goals
    go_enter Tryz.func286, Tryz.ntmps286
    go_wp2_with (first | (go_at_call 188; refine (Tryz.strings_IndexByte _ _ _).mono ?_; rintro e w1 ⟨rfl, hw1⟩; obtain rfl := hw1.symm; rw [HC.out]) | (go_at_call 280; refine (blank_any _ _).mono ?_; rintro e w1 ⟨rfl, hw1⟩; obtain rfl := hw1.symm))
    go_ret
    exact ⟨rfl, rfl⟩

set_option maxHeartbeats 1000000 in
set_option maxRecDepth 100000 in
theorem escape_any (s : ByteArray) (hs : s.size < 35184372088832) (w : World) :
    Calls Tryz.prog 249 #[.string s] w fun e w' => e = .returned (.string ⟨(escL s.data.toList).toArray⟩) ∧ Below w.heap.size w w' := by
  go_enter Tryz.func249, Tryz.ntmps249
  go_wp2
  go_loopw [4, 7] (fun _ v7 wr => ∃ k : Nat, v7 = .int .i64 k ∧ k ≤ s.size ∧ Bld wr w.heap.size w.heap.size (escL (s.data.toList.take k)) ∧ Below w.heap.size w wr) (fun _ v7 _ => s.size - (intOf v7).toNat)
  case atStart => exact ⟨0, rfl, by omega, ⟨Nat.le_refl _, _, _, .inl rfl, Cel.new w 300 _, World.ownsRow_nil _ _ _ _⟩, (Below.refl _ w).alloc (Nat.le_refl _) _⟩
  case round =>
    obtain ⟨k, rfl, hk, hB, hw⟩ := hrel
    by_cases hlt : k < s.size
    · have hts : s.data.toList.take (k + 1) = s.data.toList.take k ++ [s[k]] := take_snocL (s_get s k hlt)
      have hel : (escL (s.data.toList.take k)).length ≤ 2 * k := Nat.le_trans (escL_length _) (by simp; omega)
      have HTS : Hid _ := hts
      clear hts
      have hwz := hw.size
      cases hq : specialC s[k]
      · go_wp2_with (first | (go_at_call 286; refine (escaped_any _ _).mono ?_; rintro e w1 ⟨rfl, hw1⟩; obtain rfl := hw1.symm; rw [hq]) | (go_at_call 285; refine (writeByte_bld w.heap.size _ _ _ _ hB (by omega) hwz).mono ?_; rintro e w1 ⟨rfl, hB1, hk1⟩))
        go_roundw
        case rel => exact ⟨k + 1, by simp, hlt, by rw [HTS.out, escL_snoc, hq]; exact hB1, hw.trans hk1.1⟩
        case measure => simp [intOf]; omega
      · go_wp2_with (first | (go_at_call 286; refine (escaped_any _ _).mono ?_; rintro e w1 ⟨rfl, hw1⟩; obtain rfl := hw1.symm; rw [hq]) | (go_at_call 237; refine (writeString_bld w.heap.size _ _ ⟨#[92]⟩ _ hB (by have h92 : (⟨#[92]⟩ : ByteArray).size = 1 := rfl; omega) hwz).mono ?_; rintro e w1 ⟨rfl, hB1, hk1⟩; have hz1 := Nat.le_trans hwz hk1.1.size) | (go_at_call 285; refine (writeByte_bld w.heap.size _ _ _ _ hB1 (by simp; omega) hz1).mono ?_; rintro e w2 ⟨rfl, hB2, hk2⟩))
        go_roundw
        case rel => exact ⟨k + 1, by simp, hlt, by rw [HTS.out, escL_snoc, hq]; simpa using hB2, (hw.trans hk1.1).trans hk2.1⟩
        case measure => simp [intOf]; omega
    · have hks : k = s.size := by omega
      have htk : s.data.toList.take k = s.data.toList := by rw [hks]; exact List.take_of_length_le (by simp)
      rw [htk] at hB
      go_wp2_with (go_at_call 238; refine (string_bld w.heap.size _ _ _ hB hw.size).mono ?_; rintro e w1 ⟨rfl, hb1, _⟩)
      go_ret
      exact ⟨rfl, hw.trans hb1⟩

set_option maxRecDepth 100000 in
set_option maxHeartbeats 2000000 in
theorem plain_in (n : Nat) (hn : 3 ≤ n) (s : ByteArray) (hs : s.size < 35184372088832) (w : World) :
    CallsIn Fence.wide n Tryz.prog 248 #[.string s] w fun e w' => e = .returned (.string ⟨((letts s.data.toList).map Prod.fst).toArray⟩) ∧ Below w.heap.size w w' := by
  have h1 : 1 ≤ n := by omega
  obtain ⟨L, hL⟩ : ∃ L, letts s.data.toList = L := ⟨_, rfl⟩
  rw [hL]
  have hxs : (placed 0 s.data.toList).map Prod.snd = L := by rw [placed_snd, hL]
  have hlen : (placed 0 s.data.toList).length = L.length := by rw [← hxs]; simp
  have hLs : L.length ≤ s.size := by rw [← hL]; exact Nat.le_trans (letts_length_le _) (by simp)
  clear hL
  have HXS : Hid _ := hxs
  have HLEN : Hid _ := hlen
  clear hxs hlen
  refine callsIn_of_wp_marks Tryz.func248 rfl trivial ?_ rfl
  simp only [Tryz.ntmps248, List.size_toArray, List.length_cons, List.length_nil, Nat.reduceAdd, Nat.reduceSub, Array.replicate_succ, Array.replicate_zero, List.push_toArray, List.append_toArray, List.nil_append, List.cons_append]
  gi_wp2
  refine ⟨trivial, ?_⟩
  refine (callsIn_wide.2 (letters_any _ _)).mono ?_
  rintro e w1 ⟨rfl, rfl⟩
  gi_wp2
  have c1 := Cel.new w 300 #[.pointer none, .slice none 0 0]
  have c2 := Cel.new (w.alloc (.cells #[.pointer none, .slice none 0 0] 300)) 9 #[.string s]
  rw [World.size_alloc] at c2
  have hB0 : Below w.heap.size w ((w.alloc (.cells #[.pointer none, .slice none 0 0] 300)).alloc (.cells #[.string s] 9)) := ((Below.refl _ w).alloc (Nat.le_refl _) _).alloc (by simp) _
  refine wpIn_range_each (b := w.heap.size + 1) rfl h1 (gf := 297) (lb := #[.pointer (some ⟨w.heap.size + 1, 0, none⟩)]) (by first | rfl | simp [Act.eval]) trivial (enters_of Tryz.func297 (by kernel_rfl) rfl)
    (letters_each (n - 1) (by omega) (w.heap.size + 1) s (by omega) _ (c2.cell 0)) (by simp) (Below.refl _ _) (fun _ => rfl)
    (fun k W => Bld W w.heap.size w.heap.size ((L.take k).map Prod.fst) ∧ Cel W (w.heap.size + 1) 9 #[.string s] ∧ Below w.heap.size w W)
    ?own ⟨⟨Nat.le_refl _, _, _, .inl rfl, c1.alloc _, World.ownsRow_nil _ _ _ _⟩, c2, hB0⟩
    (fun x a' W => ∃ Bx, w.heap.size + 1 < Bx ∧ Cel W Bx 319 #[.int .u8 x.2.1.toNat, .bool x.2.2] ∧ a' = { tmps := #[.string s, undef, .string ⟨#[]⟩, .pointer (some ⟨w.heap.size, 0, none⟩), undef, .pointer (some ⟨Bx, 0, none⟩), .string s, .func (.func 297) #[] #[.pointer (some ⟨w.heap.size + 1, 0, none⟩)], .int .i64 x.1, ltV x.2, undef, undef, undef, undef], defers := [] })
    ?axown ?assign ?body ?done
  case own =>
    rintro k X Y row ⟨⟨b1, p, v, hp, hc, ho⟩, a4, a5⟩ hg hr
    have hr' : ∀ r, row = some r → ∃ o : Obj, X.heap[r]? = some o ∧ o.isCells = false := fun r e => (hr r e).2
    exact ⟨⟨b1, p, v, hp, hc.own hg hr', owns_own ho hg hr'⟩, a4.own hg hr', a5.grown hg a5.size (fun q e => by have := (hr q e).1; simp at this; omega)⟩
  case axown =>
    rintro x a' _ X Y row ⟨Bx, h2, h3, h4⟩ hg hr
    exact ⟨Bx, h2, h3.own hg (fun r e => (hr r e).2), h4⟩
  case assign =>
    rintro l k x W K hx ⟨⟨b1, p, v, hp, hc, ho⟩, a4, a5⟩ hK
    gi_wp2
    exact hK _ _ ((KeepsOthers.alloc _ _).from _) (Below.heap_alloc _ _ _ a4.lt) ⟨⟨b1, p, v, hp, hc.alloc _, ho.alloc _⟩, a4.alloc _, a5.alloc a5.size _⟩ ⟨W.heap.size, a4.lt, Cel.new W 319 _, rfl⟩
  case body =>
    rintro l k x a' W hx ⟨hB, a4, a5⟩ ⟨Bx, b1, b2, rfl⟩
    have hxL : L[k]? = some x.2 := by rw [← HXS.out, List.getElem?_map, hx]; rfl
    have hkL : k < L.length := (List.getElem?_eq_some_iff.1 hxL).1
    have hts : L.take (k + 1) = L.take k ++ [x.2] := take_snocL hxL
    have hlk : ((L.take k).map Prod.fst).length < 70368744177664 := by simp; omega
    have HTS : Hid _ := hts
    clear hxL hts hx
    have d1 : W.cell? ⟨Bx, 0, none⟩ = some (.int .u8 x.2.1.toNat) := b2.cell 0
    gi_wp2
    refine ⟨trivial, fun _ => by omega, ?_⟩
    refine (CallsIn.inRound l (callsIn_wide.2 (writeByte_bld w.heap.size _ _ x.2.1 _ hB hlk a5.size))).mono ?_
    rintro e W2 ⟨rfl, hB2, hk2⟩
    gi_wp2
    have a4' := hk2.2.2 _ _ _ a4 (by decide) (by omega)
    refine ⟨hk2.2.1.from _, a4'.trans a4.symm, ?_, a4', a5.trans hk2.1⟩
    rw [HTS.out]; simpa using hB2
  case done =>
    rintro D W hD ⟨hB, a4, a5⟩ hK
    rw [HLEN.out, List.take_length] at hB
    gi_wp2
    refine ⟨trivial, ?_⟩
    refine (callsIn_wide.2 (string_bld w.heap.size _ _ _ hB a5.size)).mono ?_
    rintro e W2 ⟨rfl, hb2, hk2⟩
    gi_wp2
    have hne : D ≠ w.heap.size := by simp at hD; omega
    have g1 : W2.heap[D]? = some (.deferred (some [])) := hk2 D _ hK (fun e => hne (by cases e; rfl)) (fun c fz e => by cases e)
    refine ⟨by simp, .inl ⟨_, _, rfl, run_takeDeferred g1, ?_⟩⟩
    exact ⟨_, results_tmp rfl _ _ _, rfl, (a5.trans hb2).trans (belowK_b (w := w) (Nat.le_refl _) W2 D _ _ (by simp at hD; omega) g1 rfl rfl)⟩

theorem plain_any (s : ByteArray) (hs : s.size < 35184372088832) (w : World) :
    Calls Tryz.prog 248 #[.string s] w fun e w' => e = .returned (.string ⟨((letts s.data.toList).map Prod.fst).toArray⟩) ∧ Below w.heap.size w w' := callsIn_wide.1 (plain_in 3 (Nat.le_refl _) s hs w)
end Go.Proofs.YtfafhjglcaikoaaGreatDoor
