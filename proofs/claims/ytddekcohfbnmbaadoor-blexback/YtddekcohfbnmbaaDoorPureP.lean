/- Plain: places and glue. -/
import Derived.Test.YtddekcohfbnmbaaDoorPureB
namespace Go.Proofs.YtddekcohfbnmbaaDoor

/-- What is left behind a byte that is no blank. -/
def Lb (m u : List UInt8) : Prop := ∃ w c, m = w ++ c :: u ∧ blk c = false
theorem Lb.cons {m u : List UInt8} (d : UInt8) (h : Lb m u) : Lb (d :: m) u := by
  obtain ⟨w, c, rfl, hc⟩ := h
  exact ⟨d :: w, c, rfl, hc⟩
theorem Lb.pre {x u : List UInt8} (hne : x ≠ []) (h : ∀ c ∈ x, blk c = false) : Lb (x ++ u) u := by
  rcases List.eq_nil_or_concat x with rfl | ⟨y, c, rfl⟩
  · exact absurd rfl hne
  · rw [List.concat_eq_append] at *
    exact ⟨y, c, by simp, h c (by simp)⟩
theorem qraw_split : ∀ (l x u : List UInt8), qraw l = some (x, u) → l = x ++ 39 :: u
  | [], x, u, h => by cases h
  | [c], x, u, h => by
    rw [qraw] at h
    split at h
    · rename_i hc; cases h; rw [hc]; rfl
    · cases h
  | c :: d :: t, x, u, h => by
    rw [qraw] at h
    split at h
    · rename_i hc
      split at h
      · rename_i hd
        cases hq : qraw t with
        | none => rw [hq] at h; cases h
        | some q =>
          obtain ⟨x', u'⟩ := q
          rw [hq] at h
          obtain ⟨rfl, rfl⟩ := Prod.mk.inj (Option.some.inj h)
          rw [hc, hd, qraw_split t x' u' hq]
          rfl
      · cases h; rw [hc]; rfl
    · cases hq : qraw (d :: t) with
      | none => rw [hq] at h; cases h
      | some q =>
        obtain ⟨x', u'⟩ := q
        rw [hq] at h
        obtain ⟨rfl, rfl⟩ := Prod.mk.inj (Option.some.inj h)
        rw [qraw_split (d :: t) x' u' hq]
        rfl
theorem sgn_last (k : Nat) : ∀ c ∈ sgn k, blk c = false := by
  unfold sgn
  split <;> decide
theorem cont_blk (c : UInt8) (h : cont8 c = true) : blk c = false := by
  unfold cont8 contB startB digitB at h
  unfold blk
  have h1 : c ≠ 32 := by rintro rfl; simp at h
  have h2 : c ≠ 9 := by rintro rfl; simp at h
  simp [h1, h2]
theorem inW_blk (c : UInt8) (h : inW c = true) : blk c = false := by
  unfold inW at h
  unfold blk
  have h1 : c ≠ 32 := by rintro rfl; simp at h
  have h2 : c ≠ 9 := by rintro rfl; simp at h
  simp [h1, h2]
theorem nrun_pre (l : List UInt8) : ∃ r, l = nrun l ++ r ∧ ∀ c ∈ nrun l, cont8 c = true := by
  cases l with
  | nil => exact ⟨[], rfl, fun c h => by cases h⟩
  | cons c t =>
    rw [nrun]
    split
    · exact ⟨(c :: t).dropWhile cont8, (List.takeWhile_append_dropWhile).symm, fun d hd => List.all_eq_true.1 (List.all_takeWhile (p := cont8) (l := c :: t)) d hd⟩
    · exact ⟨c :: t, rfl, fun d hd => by cases hd⟩
theorem varR_last {k p : Nat} {g : Bool} {l : List UInt8} {t : Tb} {u : List UInt8} (h : varR k p g l = .ok (t, u)) : Lb l u := by
  unfold varR at h
  split at h
  · rename_i hh
    obtain ⟨_, rfl⟩ := Prod.mk.inj (Except.ok.inj h)
    cases l with
    | nil => cases hh
    | cons c r =>
      have : c = 42 := by simpa using hh
      exact ⟨[], c, rfl, by rw [this]; rfl⟩
  · split at h
    · rename_i hn
      obtain ⟨_, rfl⟩ := Prod.mk.inj (Except.ok.inj h)
      obtain ⟨r, hr, hc⟩ := nrun_pre l
      have hd : ∀ n r : List UInt8, l = n ++ r → l.drop n.length = r := fun n r e => by rw [e]; exact List.drop_left
      rw [hd _ _ hr]
      have hl : Lb (nrun l ++ r) r := Lb.pre (fun e => by rw [e] at hn; cases hn) (fun c h => cont_blk c (hc c h))
      rw [← hr] at hl
      exact hl
    · cases h
theorem dollar_last {p : Nat} {g : Bool} {l : List UInt8} {t : Tb} {u : List UInt8} (h : dollar p g l = .ok (t, u)) : Lb l u := by
  have key : ∀ (c : UInt8) {k : Nat}, l.head? = some c → varR k p g (l.drop 1) = .ok (t, u) → Lb l u := fun c k hh hv => by
    cases l with
    | nil => cases hh
    | cons d r => exact (varR_last hv).cons d
  unfold dollar at h
  split at h
  · rename_i hh; exact key _ hh h
  · split at h
    · rename_i hh; exact key _ hh h
    · split at h
      · rename_i hc
        obtain ⟨_, rfl⟩ := Prod.mk.inj (Except.ok.inj h)
        cases l with
        | nil => exact absurd hc (by decide)
        | cons d r =>
          refine ⟨[], d, rfl, ?_⟩
          have hd : cnts d = true := hc
          have h1 : d ≠ 32 := by rintro rfl; exact absurd hd (by decide)
          have h2 : d ≠ 9 := by rintro rfl; exact absurd hd (by decide)
          simp [blk, h1, h2]
      · exact varR_last h
/-- A token ends with a byte that is no blank. -/
theorem token_last {N : Nat} {l : List UInt8} {t : Tb} {u : List UInt8} (h : tokenL N l = .ok (t, u)) (h0 : t.kind ≠ 0) : Lb (over l) u := by
  unfold tokenL tokenM at h
  have hb := best_sgn 18 (over l)
  split at h
  · rename_i hne
    generalize best 18 (over l) = kb at h hb hne
    obtain ⟨_, rfl⟩ := Prod.mk.inj (Except.ok.inj h)
    obtain ⟨r, hr⟩ := List.isPrefixOf_iff_prefix.1 hb.1
    have hd : (over l).drop (sgn kb).length = r := by rw [← hr]; exact List.drop_left
    rw [hd, ← hr]
    exact Lb.pre (hb.2 hne) (sgn_last kb)
  · rename_i hne
    have hb0 : best 18 (over l) = 0 := by simpa using hne
    cases hm : over l with
    | nil =>
      rw [hm] at h
      obtain ⟨rfl, _⟩ := Prod.mk.inj (Except.ok.inj h)
      exact absurd rfl h0
    | cons c r =>
      rw [hm] at h hb0
      obtain ⟨o1, o2⟩ := over_head l c r hm
      have hw : writ (N - (r.length + 1)) (glueB N l (c :: r)) c r = .ok (t, u) := h
      unfold writ at hw
      split at hw
      · cases hq : qraw r with
        | none => rw [hq] at hw; cases hw
        | some q =>
          obtain ⟨x, v⟩ := q
          rw [hq] at hw
          obtain ⟨_, rfl⟩ := Prod.mk.inj (Except.ok.inj hw)
          exact ⟨c :: x, 39, by rw [qraw_split r x v hq]; rfl, rfl⟩
      · split at hw
        · exact (dollar_last hw).cons c
        · split at hw
          · cases hw
          · rename_i c39 c36 c3896
            have hiw : inW c = true := inW_here hb0 o1 o2 c39 c36 (fun e => c3896 (Or.inl e)) (fun e => c3896 (Or.inr e))
            obtain ⟨_, rfl⟩ := Prod.mk.inj (Except.ok.inj hw)
            have hs : (c :: r).takeWhile inW ++ (c :: r).dropWhile inW = c :: r := List.takeWhile_append_dropWhile
            have hl : Lb ((c :: r).takeWhile inW ++ (c :: r).dropWhile inW) ((c :: r).dropWhile inW) := Lb.pre (by rw [List.takeWhile_cons, hiw]; simp) (fun d hd => inW_blk d (List.all_eq_true.1 (List.all_takeWhile (p := inW) (l := c :: r)) d hd))
            rw [hs] at hl
            exact hl
theorem dw_suf (q : UInt8 → Bool) (l : List UInt8) : ∃ w, l = w ++ l.dropWhile q ∧ ∀ c ∈ w, q c = true :=
  ⟨l.takeWhile q, (List.takeWhile_append_dropWhile).symm, fun c hc => List.all_eq_true.1 (List.all_takeWhile (p := q) (l := l)) c hc⟩
/-- What is passed over: nothing, or a blank is the last of it, or the end or a newline stands behind it. -/
theorem over_gap (l : List UInt8) : ∃ w, l = w ++ over l ∧ (w = [] ∨ (∃ y c, w = y ++ [c] ∧ blk c = true) ∨ over l = [] ∨ ∃ r, over l = 10 :: r) := by
  obtain ⟨w, hw, hb⟩ := dw_suf blk l
  unfold over overC
  split
  · obtain ⟨v, hv, _⟩ := dw_suf notNl (l.dropWhile blk)
    refine ⟨w ++ v, by rw [List.append_assoc, ← hv]; exact hw, Or.inr (Or.inr ?_)⟩
    cases hd : (l.dropWhile blk).dropWhile notNl with
    | nil => exact Or.inl rfl
    | cons c r =>
      have := dropWhile_head (q := notNl) _ c r hd
      have hc : c = 10 := by simpa [notNl] using this
      exact Or.inr ⟨r, by rw [hc]⟩
  · refine ⟨w, hw, ?_⟩
    rcases List.eq_nil_or_concat w with rfl | ⟨y, c, rfl⟩
    · exact Or.inl rfl
    · rw [List.concat_eq_append] at *
      exact Or.inr (Or.inl ⟨y, c, rfl, hb c (by simp)⟩)
theorem best_nl (r : List UInt8) : best 18 (10 :: r) = 1 := by
  have h1 : ∀ k, (sgn k).isPrefixOf (10 :: r) = true → (sgn k).length ≤ 1 := fun k h => by
    unfold sgn at h ⊢
    split at h <;> simp_all [List.isPrefixOf]
  have h2 : best 2 (10 :: r) = 1 := by
    rw [best, best, best]
    simp [sgn, List.isPrefixOf]
  have key : ∀ n, best (n + 2) (10 :: r) = 1 := by
    intro n
    induction n with
    | zero => exact h2
    | succ n ih =>
      rw [best, ih, if_neg]
      rintro ⟨h3, h4⟩
      have := h1 (n + 2) h4
      have h5 : (sgn 1).length = 1 := rfl
      omega
  exact key 16
theorem token_nl {N : Nat} {l r : List UInt8} {t : Tb} {u : List UInt8} (h : tokenL N l = .ok (t, u)) (ho : over l = 10 :: r) : t.kind = 1 := by
  unfold tokenL tokenM at h
  rw [ho, best_nl, if_pos (by decide)] at h
  obtain ⟨rfl, _⟩ := Prod.mk.inj (Except.ok.inj h)
  rfl
/-- What the law asks of a token and the byte ahead of it. -/
def Ahd (L : List UInt8) (t : Tb) : Prop := ∃ c, L[t.pos - 1]? = some c ∧ (t.glue = true → blk c = false) ∧ (t.glue = false → blk c = false → t.kind = 0 ∨ t.kind = 1)
def Chain (L : List UInt8) : Nat → List Tb → Prop
  | _, [] => False
  | q, t :: r => q < t.pos ∧ Ahd L t ∧ ((t.kind = 0 ∧ t.pos = L.length ∧ r = []) ∨ (t.kind ≠ 0 ∧ t.pos < L.length ∧ Chain L t.pos r))
theorem at_end {L w u : List UInt8} {c : UInt8} (h : L = w ++ c :: u) : L[L.length - u.length - 1]? = some c := by
  have : L.length - u.length - 1 = w.length := by rw [h]; simp only [List.length_append, List.length_cons]; omega
  rw [this, h]
  simp
theorem chain_of {L : List UInt8} : ∀ (f : Nat) (x l : List UInt8) (c : UInt8) (q : Nat) (ts : List Tb), L = x ++ c :: l → blk c = false → q < x.length + 1 → l.length < f → lexW (tokenL L.length) f l = .ok ts → Chain L q ts := by
  intro f
  induction f with
  | zero => intro x l c q ts _ _ _ hf; omega
  | succ f ih =>
    intro x l c q ts hL hc hq hf h
    rw [lexW] at h
    have hN : L.length = x.length + 1 + l.length := by rw [hL]; simp only [List.length_append, List.length_cons]; omega
    have hcl : L[L.length - l.length - 1]? = some c := at_end hL
    cases ht : tokenL L.length l with
    | error e => rw [ht] at h; cases h
    | ok p =>
      obtain ⟨t, u⟩ := p
      rw [ht] at h
      have hok := token_ok ht
      obtain ⟨w, hw, hgap⟩ := over_gap l
      have hwl : l.length = w.length + (over l).length := by conv => lhs; rw [hw]; rw [List.length_append]
      have hpe : t.pos = L.length - (over l).length := by
        rcases hok with ⟨_, h2, _, h4, _⟩ | ⟨_, _, h3, _, _⟩
        · rw [h2, h4]; simp
        · exact h3
      have hge : t.glue = decide (w = []) := by
        have : t.glue = glueB L.length l (over l) := by
          rcases hok with ⟨_, _, _, h4, h5⟩ | ⟨_, _, _, _, h5⟩
          · rw [h5, h4]
          · exact h5
        rw [this]
        unfold glueB
        rw [decide_eq_true (show 0 < L.length - l.length by omega), Bool.true_and]
        refine decide_eq_decide.2 ⟨fun e => List.eq_nil_of_length_eq_zero (by omega), fun e => by rw [e] at hwl; simpa using hwl⟩
      have hpos : q < t.pos := by omega
      have hAh : Ahd L t := by
        by_cases hw0 : w = []
        · refine ⟨c, ?_, fun _ => hc, fun hg => ?_⟩
          · rw [hpe, show (over l).length = l.length by rw [hw0] at hwl; simpa using hwl.symm]
            exact hcl
          · rw [hge, decide_eq_true hw0] at hg; cases hg
        · have hg : t.glue = false := by rw [hge]; exact decide_eq_false hw0
          have hL2 : L = (x ++ c :: w) ++ over l := by
            have e : x ++ c :: l = x ++ c :: (w ++ over l) := by rw [← hw]
            rw [hL, e]
            simp
          rcases hgap with e | ⟨y, b, e, hb⟩ | e | ⟨r, e⟩
          · exact absurd e hw0
          · refine ⟨b, ?_, (fun h1 => by rw [hg] at h1; cases h1), (fun _ h2 => by rw [hb] at h2; cases h2)⟩
            rw [hpe]
            exact at_end (w := x ++ c :: y) (by rw [hL2, e]; simp)
          · have hk : t.kind = 0 := by
              rcases hok with ⟨h1, _⟩ | ⟨_, h2, _⟩
              · exact h1
              · exact absurd e h2
            have hlt : t.pos - 1 < L.length := by omega
            exact ⟨L[t.pos - 1], List.getElem?_eq_getElem hlt, (fun h1 => by rw [hg] at h1; cases h1), fun _ _ => Or.inl hk⟩
          · have hk : t.kind = 1 := token_nl ht e
            have hlt : t.pos - 1 < L.length := by omega
            exact ⟨L[t.pos - 1], List.getElem?_eq_getElem hlt, (fun h1 => by rw [hg] at h1; cases h1), fun _ _ => Or.inr hk⟩
      by_cases h0 : t.kind = 0
      · simp only [h0, if_true] at h
        obtain rfl := (Except.ok.inj h).symm
        refine ⟨hpos, hAh, Or.inl ⟨h0, ?_, rfl⟩⟩
        rcases hok with ⟨_, h2, _⟩ | ⟨h1, _⟩
        · exact h2
        · exact absurd h0 h1
      · simp only [if_neg h0] at h
        cases hr : lexW (tokenL L.length) f u with
        | error e => rw [hr] at h; cases h
        | ok rs =>
          rw [hr] at h
          obtain rfl := (Except.ok.inj h).symm
          obtain ⟨v, d, hv, hd⟩ := token_last ht h0
          have hm : (over l).length = v.length + 1 + u.length := by rw [hv]; simp only [List.length_append, List.length_cons]; omega
          refine ⟨hpos, hAh, Or.inr ⟨h0, by omega, ih (x ++ c :: (w ++ v)) u d t.pos rs ?_ hd ?_ (by omega) hr⟩⟩
          · have e : x ++ c :: l = x ++ c :: (w ++ (v ++ d :: u)) := by rw [← hv, ← hw]
            rw [hL, e]
            simp
          · simp only [List.length_append, List.length_cons]
            omega
/-- What the law asks of all the tokens of a source. -/
theorem lex_chain {L : List UInt8} {ts : List Tb} (h : lexL L = .ok ts) : ∃ t r, ts = t :: r ∧ t.glue = false ∧ ((t.kind = 0 ∧ t.pos = L.length ∧ r = []) ∨ (t.kind ≠ 0 ∧ t.pos < L.length ∧ Chain L t.pos r)) := by
  unfold lexL at h
  rw [lexW] at h
  cases ht : tokenL L.length L with
  | error e => rw [ht] at h; cases h
  | ok p =>
    obtain ⟨t, u⟩ := p
    rw [ht] at h
    have hok := token_ok ht
    have hg : ∀ m : List UInt8, glueB L.length L m = false := fun m => by
      unfold glueB
      rw [decide_eq_false (show ¬ 0 < L.length - L.length by omega), Bool.false_and]
    by_cases h0 : t.kind = 0
    · simp only [h0, if_true] at h
      obtain rfl := (Except.ok.inj h).symm
      rcases hok with ⟨_, h2, _, _, h5⟩ | ⟨h1, _⟩
      · exact ⟨t, [], rfl, by rw [h5, hg], Or.inl ⟨h0, h2, rfl⟩⟩
      · exact absurd h0 h1
    · simp only [if_neg h0] at h
      cases hr : lexW (tokenL L.length) L.length u with
      | error e => rw [hr] at h; cases h
      | ok rs =>
        rw [hr] at h
        obtain rfl := (Except.ok.inj h).symm
        obtain ⟨w, hw, _⟩ := over_gap L
        obtain ⟨v, d, hv, hd⟩ := token_last ht h0
        rcases hok with ⟨h1, _⟩ | ⟨_, _, h3, h4, h5⟩
        · exact absurd h1 h0
        · have hol := over_len L
          have hL : L = (w ++ v) ++ d :: u := by
            have e : L = w ++ (v ++ d :: u) := by rw [← hv]; exact hw
            rw [List.append_assoc]
            exact e
          have hN : L.length = (w ++ v).length + 1 + u.length := by
            have := congrArg List.length hL
            rw [List.length_append, List.length_cons] at this
            omega
          refine ⟨t, rs, rfl, by rw [h5, hg], Or.inr ⟨h0, by omega, chain_of _ (w ++ v) u d t.pos rs hL hd ?_ (by omega) hr⟩⟩
          have hm : (over L).length = v.length + 1 + u.length := by rw [hv]; simp only [List.length_append, List.length_cons]; omega
          rw [List.length_append] at hN ⊢
          omega
/-- A chain's tokens, one by one. -/
theorem Chain.at {L : List UInt8} : ∀ {q : Nat} {ts : List Tb}, Chain L q ts → ∀ i t, ts[i]? = some t → (Ahd L t ∧ t.pos ≤ L.length ∧ (i = 0 → q < t.pos) ∧ (∀ j s, i = j + 1 → ts[j]? = some s → s.pos < t.pos))
  | q, [], h, i, t, ht => h.elim
  | q, s :: r, h, i, t, ht => by
    obtain ⟨h1, h2, h3⟩ := h
    cases i with
    | zero =>
      obtain rfl := Option.some.inj (show some s = some t from ht)
      refine ⟨h2, ?_, fun _ => h1, fun j s' e => by omega⟩
      rcases h3 with ⟨_, e, _⟩ | ⟨_, e, _⟩ <;> omega
    | succ i =>
      rcases h3 with ⟨_, _, e⟩ | ⟨_, _, hc⟩
      · rw [e] at ht; cases ht
      · have ht' : r[i]? = some t := ht
        obtain ⟨a1, a2, a3, a4⟩ := hc.at i t ht'
        refine ⟨a1, a2, fun e => by omega, fun j s' e hs => ?_⟩
        obtain rfl : j = i := by omega
        cases j with
        | zero =>
          obtain rfl := Option.some.inj (show some s = some s' from hs)
          exact a3 rfl
        | succ j => exact a4 j s' rfl hs
theorem Chain.last {L : List UInt8} : ∀ {q : Nat} {ts : List Tb}, Chain L q ts → ∃ t, ts[ts.length - 1]? = some t ∧ t.kind = 0 ∧ t.pos = L.length ∧ 0 < ts.length
  | q, [], h => h.elim
  | q, s :: r, h => by
    obtain ⟨h1, h2, h3⟩ := h
    rcases h3 with ⟨a, b, rfl⟩ | ⟨_, _, hc⟩
    · exact ⟨s, rfl, a, b, by simp⟩
    · obtain ⟨t, a, b, c, d⟩ := hc.last
      refine ⟨t, ?_, b, c, by simp⟩
      rw [List.length_cons, show r.length + 1 - 1 = (r.length - 1) + 1 by omega]
      exact a
/-- A chain is no longer than what is left of the source. -/
theorem Chain.len {L : List UInt8} : ∀ {q : Nat} {ts : List Tb}, Chain L q ts → ts.length + q ≤ L.length
  | _, [], h => h.elim
  | q, s :: r, h => by
    obtain ⟨h1, h2, h3⟩ := h
    rcases h3 with ⟨_, b, rfl⟩ | ⟨_, _, hc⟩
    · rw [List.length_cons, List.length_nil]
      omega
    · have := hc.len
      rw [List.length_cons]
      omega
end Go.Proofs.YtddekcohfbnmbaaDoor
