/- Plain: tokens that are printed are read back. -/
import Derived.Test.YtnlbjgioleoihaaGreatDoorPureX
namespace Go.Proofs.YtnlbjgioleoihaaGreatDoor

/-- A token as it is written; tokens behind a first one; all. -/
def prTk (t : Tk) : List UInt8 := if t.kind = 13 then prW t.parts else sgn t.kind
def prR : List Tk → List UInt8
  | [] => []
  | t :: ts => (if t.kind = 0 then [] else [32]) ++ (prTk t ++ prR ts)
def prL : List Tk → List UInt8
  | [] => []
  | t :: ts => prTk t ++ prR ts
/-- A token that may be read, and is not the end. -/
def GT (t : Tk) : Prop := (1 ≤ t.kind ∧ t.kind ≤ 12 ∧ t.parts = []) ∨ (t.kind = 13 ∧ GW t.parts ∧ ∃ p r, t.parts = p :: r ∧ (p.kind = 1 → ∃ c s, p.s = c :: s ∧ c ≠ 35))
inductive TG : List Tk → Prop
  | one {t : Tk} (h : t.kind = 0) (hp : t.parts = []) : TG [t]
  | cons {t : Tk} {ts : List Tk} (h : GT t) (hts : TG ts) : TG (t :: ts)
theorem GT.ne {t : Tk} (h : GT t) : t.kind ≠ 0 := by
  rcases h with ⟨h, _⟩ | ⟨h, _⟩ <;> omega
theorem dw_head {q : UInt8 → Bool} : ∀ (l : List UInt8) (c : UInt8) (t : List UInt8), l.dropWhile q = c :: t → q c = false
  | [], c, t, h => by cases h
  | d :: l, c, t, h => by
    rw [List.dropWhile_cons] at h
    split at h
    · exact dw_head l c t h
    · rename_i hd
      cases h
      simpa using hd
theorem over_cons {l : List UInt8} {c : UInt8} {t : List UInt8} (h : over l = c :: t) : blk c = false ∧ c ≠ 35 := by
  refine ⟨over_head l c t h, ?_⟩
  rintro rfl
  unfold over at h
  split at h
  · have := dw_head _ _ _ h
    exact absurd this (by decide)
  · rename_i hn
    rw [h] at hn
    exact hn rfl
theorem token_good {N : Nat} {l : List UInt8} {t : Tk} {u : List UInt8} (h : tokenL N (over l) = .ok (t, u)) :
    (t.kind = 0 ∧ t.parts = []) ∨ (GT t ∧ (prTk t).length + 4 * u.length + 1 ≤ 4 * (over l).length) := by
  have hoc := fun c r => @over_cons l c r
  generalize over l = m at h hoc
  unfold tokenL at h
  by_cases hne : best 13 m ≠ 0
  · rw [if_pos hne] at h
    have hlt := best_lt 13 m (by omega)
    have hpf := best_prefix 13 m
    generalize best 13 m = k at h hne hlt hpf
    obtain ⟨rfl, rfl⟩ := Prod.mk.inj (Except.ok.inj h)
    have hs := sgn_pos k hne hlt
    have hle := (List.isPrefixOf_iff_prefix.1 hpf).length_le
    refine .inr ⟨.inl ⟨by show 1 ≤ k; omega, by show k ≤ 12; omega, rfl⟩, ?_⟩
    have e : prTk ⟨k, N - m.length, []⟩ = sgn k := by
      unfold prTk
      rw [if_neg (by show ¬ k = 13; omega)]
    rw [e, List.length_drop]
    omega
  · have h0 : best 13 m = 0 := by simpa using hne
    rw [if_neg hne] at h
    cases m with
    | nil => cases h; exact .inl ⟨rfl, rfl⟩
    | cons c r =>
      obtain ⟨o1, o2⟩ := hoc c r rfl
      simp only at h
      split at h
      · cases h
      · rename_i h38
        have hwe := best_byte c r h0 h38 o1
        cases hw : word N (c :: r).length (c :: r) with
        | error e => rw [hw] at h; cases h
        | ok q =>
          obtain ⟨ps, v⟩ := q
          rw [hw] at h
          obtain ⟨rfl, rfl⟩ := Prod.mk.inj (Except.ok.inj h)
          obtain ⟨g1, _, _, g4⟩ := word_good _ _ _ _ hw
          obtain ⟨g5, p, r', e, g6⟩ := g4 c r rfl hwe (by simp)
          refine .inr ⟨.inr ⟨rfl, g1, p, r', e, fun hk => ?_⟩, g5⟩
          obtain ⟨s, hs⟩ := g6 hk
          exact ⟨c, s, hs, o2⟩
abbrev tokW (N : Nat) : List UInt8 → Except Er (Tk × List UInt8) := fun m => tokenL N (over m)
/-- What is read is good, and no longer when printed than this. -/
theorem lex_tg {N : Nat} : ∀ (f : Nat) (l : List UInt8) (ts : List Tk), l.length < f → lexW (tokW N) f l = .ok ts → TG ts ∧ (prR ts).length ≤ 4 * l.length := by
  intro f
  induction f with
  | zero => intro l ts h; omega
  | succ f ih =>
    intro l ts hf h
    have hol := over_len l
    cases ht : tokenL N (over l) with
    | error e => rw [lexW_err (tokW N) f l e ht] at h; cases h
    | ok r =>
      obtain ⟨t, u⟩ := r
      rcases token_good ht with ⟨h0, hp⟩ | ⟨hg, hl⟩
      · rw [lexW_end (tokW N) f l t u ht h0] at h
        cases h
        refine ⟨.one h0 hp, ?_⟩
        have e : prR [t] = [] := by
          rw [prR, if_pos h0, prTk, if_neg (by omega), h0]
          rfl
        rw [e]
        exact Nat.zero_le _
      · rw [lexW_more (tokW N) f l t u ht hg.ne] at h
        cases hx : lexW (tokW N) f u with
        | error e => rw [hx] at h; cases h
        | ok rs =>
          rw [hx] at h
          cases h
          obtain ⟨i1, i2⟩ := ih u rs (by omega) hx
          refine ⟨.cons hg i1, ?_⟩
          show (prR (t :: rs)).length ≤ _
          rw [prR, if_neg hg.ne]
          simp only [List.length_append, List.length_cons, List.length_nil]
          omega
/-- The same token, but for its place, and flat parts. -/
def Mate (t m : Tk) : Prop := t.kind = m.kind ∧ ∀ out, flatS out m.parts = flatS out t.parts
inductive Mates : List Tk → List Tk → Prop
  | nil : Mates [] []
  | cons {t m : Tk} {ts ms : List Tk} (h : Mate t m) (hs : Mates ts ms) : Mates (t :: ts) (m :: ms)
theorem Mates.len {ts ms : List Tk} (h : Mates ts ms) : ms.length = ts.length := by
  induction h with
  | nil => rfl
  | cons h hs ih => rw [List.length_cons, List.length_cons, ih]
theorem Mates.get {ts ms : List Tk} (h : Mates ts ms) : ∀ (i : Nat) (t m : Tk), ts[i]? = some t → ms[i]? = some m → Mate t m := by
  induction h with
  | nil => intro i t m e; cases e
  | cons h hs ih =>
    intro i t m e1 e2
    cases i with
    | zero => cases e1; cases e2; exact h
    | succ i => exact ih i t m e1 e2
theorem best_sgn (k : Nat) (h1 : 1 ≤ k) (h2 : k ≤ 12) (v : List UInt8) (hv : v = [] ∨ ∃ t, v = 32 :: t) : best 13 (sgn k ++ v) = k := by
  obtain rfl | rfl | rfl | rfl | rfl | rfl | rfl | rfl | rfl | rfl | rfl | rfl : k = 1 ∨ k = 2 ∨ k = 3 ∨ k = 4 ∨ k = 5 ∨ k = 6 ∨ k = 7 ∨ k = 8 ∨ k = 9 ∨ k = 10 ∨ k = 11 ∨ k = 12 := by omega
  all_goals
    rcases hv with rfl | ⟨t, rfl⟩
    · simp [best, sgn, List.isPrefixOf]
    · simp [best, sgn, List.isPrefixOf]
theorem sgn_head (k : Nat) (h1 : 1 ≤ k) (h2 : k ≤ 12) : ∃ c s, sgn k = c :: s ∧ blk c = false ∧ c ≠ 35 := by
  obtain rfl | rfl | rfl | rfl | rfl | rfl | rfl | rfl | rfl | rfl | rfl | rfl : k = 1 ∨ k = 2 ∨ k = 3 ∨ k = 4 ∨ k = 5 ∨ k = 6 ∨ k = 7 ∨ k = 8 ∨ k = 9 ∨ k = 10 ∨ k = 11 ∨ k = 12 := by omega
  all_goals exact ⟨_, _, rfl, by decide, by decide⟩
theorem over_none' {c : UInt8} (t : List UInt8) (h1 : blk c = false) (h2 : c ≠ 35) : over (c :: t) = c :: t := by
  have hd : (c :: t).dropWhile blk = c :: t := by rw [List.dropWhile_cons, h1]; rfl
  rw [over, hd, if_neg (by simp [h2])]
theorem over_sp (l : List UInt8) : over (32 :: l) = over l := by
  have : (32 :: l).dropWhile blk = l.dropWhile blk := by rw [List.dropWhile_cons]; rfl
  unfold over
  rw [this]
theorem prW_head {ps : List Pt} (h : GW ps) (hh : ∃ p r, ps = p :: r ∧ (p.kind = 1 → ∃ c s, p.s = c :: s ∧ c ≠ 35)) : ∃ c s, prW ps = c :: s ∧ wEnd c = false ∧ c ≠ 35 := by
  obtain ⟨p, r, rfl, hk⟩ := hh
  cases h with
  | cons g1 g2 g3 =>
    rw [prW]
    by_cases h3 : 3 ≤ p.kind
    · obtain ⟨a, t, e1, _⟩ := dollar_back g1 h3 0 (prW r)
      unfold prPt
      rw [if_neg (by omega), if_neg (by omega)]
      split
      · exact ⟨34, _, rfl, by decide, by decide⟩
      · exact ⟨36, t, e1, by decide, by decide⟩
    · cases g1 with
      | txt a s h hl =>
        obtain ⟨c, s', e, h35⟩ := hk rfl
        obtain rfl : s = c :: s' := e
        have hc : ¬ (tEnd c || dolB (c :: s')) = true := fun e => by
          rw [liv, if_pos e] at hl
          cases hl
        have hc' : tEnd c = false ∧ dolB (c :: s') = false := by simpa using hc
        exact ⟨c, s' ++ prW r, rfl, (tEnd_not hc'.1).1, h35⟩
      | dead a s => exact ⟨39, _, by rw [prPt_dead]; rfl, by decide, by decide⟩
      | star a q => exact absurd (by simp) h3
      | var a q s h => exact absurd (by simp) h3
      | sub a q s h => exact absurd (by simp) h3
      | num a n q h1 h9 => exact absurd (by simp) h3
      | many a q => exact absurd (by simp) h3
theorem token_back {t : Tk} (h : GT t) (N : Nat) {v : List UInt8} (hv : v = [] ∨ ∃ t, v = 32 :: t) : over (prTk t ++ v) = prTk t ++ v ∧ prTk t ≠ [] ∧ ∃ m, tokenL N (prTk t ++ v) = .ok (m, v) ∧ Mate t m := by
  rcases h with ⟨h1, h2, h3⟩ | ⟨h1, h2, h3⟩
  · have e : prTk t = sgn t.kind := by rw [prTk, if_neg (by omega)]
    rw [e]
    obtain ⟨c, s, es, hb, h35⟩ := sgn_head t.kind h1 h2
    have hbs := best_sgn t.kind h1 h2 v hv
    refine ⟨by rw [es]; exact over_none' _ hb h35, by rw [es]; simp, ⟨t.kind, N - (sgn t.kind ++ v).length, []⟩, ?_, rfl, fun out => by rw [h3]⟩
    rw [tokenL.eq_def, hbs, if_pos (by omega), List.drop_left' rfl]
  · have e : prTk t = prW t.parts := by rw [prTk, if_pos h1]
    rw [e]
    obtain ⟨c, s, es, hw, h35⟩ := prW_head h2 h3
    obtain ⟨qs, q1, q2⟩ := word_back N hv h2
    have q3 := q2 _ (Nat.le_refl _)
    rw [es, List.cons_append] at q3 ⊢
    refine ⟨over_word _ hw h35, by simp, ⟨13, N - (c :: (s ++ v)).length, qs⟩, ?_, h1, q1⟩
    rw [tokenL, if_neg (by rw [best_none _ hw]; simp), if_neg (wEnd_no hw).2.2.2.2.1, q3]
theorem prR_form {ts : List Tk} (h : TG ts) : prR ts = [] ∨ ∃ t, prR ts = 32 :: t := by
  cases h with
  | @one t h0 hp =>
    refine .inl ?_
    rw [prR, if_pos h0, prTk, if_neg (by omega), h0]
    rfl
  | @cons t ts h hts => exact .inr ⟨_, by rw [prR, if_neg h.ne]; rfl⟩
theorem lex_end (N f : Nat) : lexW (tokW N) (f + 1) [] = .ok [⟨0, N, []⟩] := rfl
theorem lexR_back (N : Nat) : ∀ {ts : List Tk}, TG ts → ∀ f, (prR ts).length < f → ∃ ms, lexW (tokW N) f (prR ts) = .ok ms ∧ Mates ts ms := by
  intro ts h
  induction h with
  | @one t h0 hp =>
    intro f hf
    obtain ⟨f, rfl⟩ : ∃ f', f = f' + 1 := ⟨f - 1, by omega⟩
    have e : prR [t] = [] := by
      rw [prR, if_pos h0, prTk, if_neg (by omega), h0]
      rfl
    rw [e]
    exact ⟨_, lex_end N f, .cons ⟨h0, fun out => by rw [hp]⟩ .nil⟩
  | @cons t ts h hts ih =>
    intro f hf
    obtain ⟨k1, k2, m, k3, k4⟩ := token_back h N (prR_form hts)
    have e : prR (t :: ts) = 32 :: (prTk t ++ prR ts) := by rw [prR, if_neg h.ne]; rfl
    rw [e] at hf ⊢
    simp only [List.length_cons, List.length_append] at hf
    obtain ⟨f, rfl⟩ : ∃ f', f = f' + 1 := ⟨f - 1, by omega⟩
    obtain ⟨ms, i1, i2⟩ := ih f (by omega)
    have hT : tokW N (32 :: (prTk t ++ prR ts)) = .ok (m, prR ts) := by
      show tokenL N (over _) = _
      rw [over_sp, k1, k3]
    refine ⟨m :: ms, ?_, .cons k4 i2⟩
    rw [lexW_more (tokW N) f _ m _ hT (by rw [← k4.1]; exact h.ne), i1]
    rfl
/-- A source's tokens, printed, are read back. -/
theorem lex_back {l : List UInt8} {ts : List Tk} (h : lexL l = .ok ts) : TG ts ∧ (prL ts).length ≤ 4 * l.length ∧ ∃ ms, lexL (prL ts) = .ok ms ∧ Mates ts ms := by
  obtain ⟨h1, h2⟩ := lex_tg (N := l.length) (l.length + 1) l ts (by omega) h
  have hle : (prL ts).length ≤ (prR ts).length := by
    cases ts with
    | nil => exact Nat.le_refl _
    | cons t ts => rw [prL, prR]; simp only [List.length_append]; omega
  refine ⟨h1, Nat.le_trans hle h2, ?_⟩
  cases h1 with
  | @one t h0 hp =>
    have e : prL [t] = [] := by
      rw [prL, prTk, if_neg (by omega), h0]
      rfl
    rw [e]
    exact ⟨_, lex_end 0 0, .cons ⟨h0, fun out => by rw [hp]⟩ .nil⟩
  | @cons t ts hg hts =>
    rw [prL]
    obtain ⟨k1, k2, m, k3, k4⟩ := token_back hg (prTk t ++ prR ts).length (prR_form hts)
    have hpos : 1 ≤ (prTk t).length := by
      cases hx : prTk t with
      | nil => exact absurd hx k2
      | cons c r => simp
    obtain ⟨ms, i1, i2⟩ := lexR_back (prTk t ++ prR ts).length hts (prTk t ++ prR ts).length (by rw [List.length_append]; omega)
    refine ⟨m :: ms, ?_, .cons k4 i2⟩
    have hT : tokW (prTk t ++ prR ts).length (prTk t ++ prR ts) = .ok (m, prR ts) := by
      show tokenL _ (over _) = _
      rw [k1, k3]
    rw [lexL, lexW_more (tokW (prTk t ++ prR ts).length) _ _ m _ hT (by rw [← k4.1]; exact hg.ne), i1]
    rfl
end Go.Proofs.YtnlbjgioleoihaaGreatDoor
