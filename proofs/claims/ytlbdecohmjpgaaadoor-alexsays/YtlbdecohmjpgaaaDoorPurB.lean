/- The document's own lexer: its tokens in memory. -/
import Derived.Test.YtlbdecohmjpgaaaDoorRf9
import Derived.Test.YtlbdecohmjpgaaaDoorPureT
/-! Plain: one step of the document's word; kinds and lengths of its parts. -/
namespace Go.Proofs.YtlbdecohmjpgaaaDoor

/-- A part that is no living text, and no longer than this. -/
def Ok1 (M : Nat) (p : Pt) : Prop := p.kind ≠ 1 ∧ p.s.length ≤ M
theorem dollar_ok1 {N : Nat} {l : List UInt8} {p : Pt} {u : List UInt8} (h : dollar N l = .ok (p, u)) : Ok1 l.length p := by
  refine ⟨?_, dollar_sz h⟩
  match l, h with
  | [], h => cases h
  | [_], h => cases h
  | a :: c :: t, h =>
    rw [dollar] at h
    split at h
    · split at h
      · cases h
      · cases h; simp
    · split at h
      · split at h
        · obtain ⟨rfl, _, _⟩ := varR_ok h
          simp
        · cases h
      · split at h
        · cases h; simp
        · split at h
          · cases h; simp
          · split at h
            · cases h; simp
            · obtain ⟨rfl, _, _⟩ := varR_ok h
              simp
theorem dead_sz : ∀ (f : Nat) (l : List UInt8), (dead f l).1.length + (dead f l).2.length ≤ l.length := by
  intro f
  induction f with
  | zero => intro l; simp [dead]
  | succ f ih =>
    intro l
    cases l with
    | nil => rw [dead_nil]; simp
    | cons c t =>
      by_cases hs : c = 34 ∨ dolB (c :: t) = true
      · rw [dead_stop _ _ _ hs]; simp
      · rw [dead_more _ _ _ hs]
        have h1 := dByte_len (c :: t)
        have h2 := ih ((c :: t).drop (dByte (c :: t)).2)
        rw [List.length_drop] at h2
        simp only [List.length_append]
        omega
theorem quoted_ok1 {N : Nat} {l : List UInt8} {p : Pt} {u : List UInt8} (h : quoted N l = .ok (p, u)) : Ok1 l.length p := by
  rw [quoted] at h
  split at h
  · cases hd : dollar N l with
    | error e => rw [hd] at h; cases h
    | ok q =>
      obtain ⟨p0, u0⟩ := q
      rw [hd] at h
      cases h
      exact ⟨(dollar_ok1 hd).1, (dollar_ok1 hd).2⟩
  · cases h
    exact ⟨by simp, by have := dead_sz l.length l; simp only; omega⟩
theorem dbl_ok1 {N a : Nat} : ∀ (f : Nat) (l : List UInt8) (ps : List Pt) (v : List UInt8), dbl N a f l = .ok (ps, v) → ∀ p ∈ ps, Ok1 l.length p := by
  intro f
  induction f with
  | zero => intro l ps v h; cases l <;> cases h
  | succ f ih =>
    intro l ps v h
    cases l with
    | nil => rw [dbl_nil] at h; cases h
    | cons c t =>
      by_cases hc : c = 34
      · subst hc
        rw [dbl_quote] at h
        cases h
        intro p hp
        cases hp
      · cases hq : quoted N (c :: t) with
        | error e => rw [dbl_err _ _ _ _ _ hc e hq] at h; cases h
        | ok q =>
          obtain ⟨p0, u⟩ := q
          rw [dbl_ok _ _ _ _ _ hc p0 u hq] at h
          have hu := (quoted_ok hc hq).2
          cases hr : dbl N a f u with
          | error e => rw [hr] at h; cases h
          | ok r =>
            rw [hr] at h
            cases h
            intro p hp
            rcases List.mem_append.1 hp with hp | hp
            · simp at hp; rw [hp]; exact quoted_ok1 hq
            · have h3 := ih u r.1 r.2 hr p hp
              exact ⟨h3.1, by have := h3.2; omega⟩
/-- A word's other parts. -/
theorem parts_ok1 {N : Nat} {c : UInt8} {t : List UInt8} {ps : List Pt} {u : List UInt8} (hs : c = 92 ∨ c = 39 ∨ c = 34 ∨ dolB (c :: t) = true) (h : parts N c t = .ok (ps, u)) : ∀ p ∈ ps, Ok1 (t.length + 1) p := by
  by_cases c92 : c = 92
  · rw [parts.eq_def, if_pos c92] at h
    cases h
    intro p hp
    simp at hp
    rw [hp]
    refine ⟨by simp, ?_⟩
    cases t <;> simp
  by_cases c39 : c = 39
  · rw [parts.eq_def, if_neg c92, if_pos c39] at h
    cases hq : pSing t with
    | none => rw [hq] at h; cases h
    | some v =>
      rw [hq] at h
      cases h
      intro p hp
      simp at hp
      rw [hp]
      exact ⟨by simp, by simp only [List.length_take]; omega⟩
  by_cases c34 : c = 34
  · subst c34
    rw [parts_dq, dblR] at h
    have hd := dead_sz t.length t
    cases hr : dbl N (N - (t.length + 1)) (t.length + 1) (dead t.length t).2 with
    | error e => rw [hr] at h; cases h
    | ok r =>
      rw [hr] at h
      cases h
      intro p hp
      rcases List.mem_append.1 hp with hp | hp
      · simp at hp; rw [hp]; exact ⟨by simp, by simp only; omega⟩
      · have h3 := dbl_ok1 _ _ r.1 r.2 hr p hp
        exact ⟨h3.1, by have := h3.2; omega⟩
  have hd : dolB (c :: t) = true := by
    rcases hs with h | h | h | h
    · exact absurd h c92
    · exact absurd h c39
    · exact absurd h c34
    · exact h
  rw [parts.eq_def, if_neg c92, if_neg c39, if_neg c34, if_pos hd] at h
  cases hr : dollar N (c :: t) with
  | error e => rw [hr] at h; cases h
  | ok r =>
    obtain ⟨p0, u0⟩ := r
    rw [hr] at h
    cases h
    intro p hp
    simp at hp
    rw [hp]
    exact dollar_ok1 hr
theorem textP_sz {X : List Pt} {a : Nat} {c : UInt8} {M : Nat} (h : ∀ p ∈ X, p.s.length ≤ M) : ∀ p ∈ textP X 1 a [c], p.s.length ≤ M + 1 := by
  rcases List.eq_nil_or_concat X with rfl | ⟨Y, q, rfl⟩
  · rw [textP_new (by simp)]
    intro p hp
    simp at hp
    rw [hp]
    simp
  · rw [List.concat_eq_append] at *
    by_cases hq : q.kind = 1
    · rw [textP_on hq]
      intro p hp
      rcases List.mem_append.1 hp with hp | hp
      · have := h p (by simp [hp]); omega
      · have := h q (by simp)
        simp at hp; rw [hp]; simp; omega
    · rw [textP_new (by intro r hr; simp at hr; rw [← hr]; exact hq)]
      intro p hp
      rcases List.mem_append.1 hp with hp | hp
      · have := h p hp; omega
      · simp at hp; rw [hp]; simp
theorem textP_len (X : List Pt) (a : Nat) (c : UInt8) : (textP X 1 a [c]).length ≤ X.length + 1 := by
  rcases List.eq_nil_or_concat X with rfl | ⟨Y, q, rfl⟩
  · rw [textP_new (by simp)]; simp
  · rw [List.concat_eq_append]
    by_cases hq : q.kind = 1
    · rw [textP_on hq]; simp
    · rw [textP_new (by intro r hr; simp at hr; rw [← hr]; exact hq)]; simp
/-- One step of a word. -/
theorem step_ok {N : Nat} {X X' : List Pt} {c : UInt8} {t u : List UInt8} (hw : wEnd c = false) (hN : t.length + 1 ≤ N) (h : stepR N X (c :: t) = .ok (X', u)) :
    fin N X (c :: t) = fin N X' u ∧ u.length ≤ t.length ∧ X'.length + u.length ≤ X.length + (t.length + 1) ∧ ∀ M, N ≤ M → (∀ p ∈ X, p.s.length ≤ M) → ∀ p ∈ X', p.s.length ≤ M + 1 := by
  by_cases hs : c = 92 ∨ c = 39 ∨ c = 34 ∨ dolB (c :: t) = true
  · rw [stepR_spec hs] at h
    cases hp : parts N c t with
    | error e => rw [hp] at h; cases h
    | ok r =>
      obtain ⟨ps, v⟩ := r
      rw [hp] at h
      cases h
      have hpo := parts_ok hN hw hp
      obtain ⟨p1, r1, hps, _⟩ := hpo.2.2.1
      have hk := parts_ok1 hs hp
      refine ⟨fin_parts hw (liv_no hs) hp (fun q hq => (hk q (List.mem_of_getLast? hq)).1) (by rw [hps]; simp) hN, hpo.2.1, ?_, ?_⟩
      · simp only [List.length_append]
        have := hpo.1
        omega
      · intro M hM hX p hp'
        rcases List.mem_append.1 hp' with hp' | hp'
        · have := hX p hp'; omega
        · have := (hk p hp').2; omega
  · simp only [not_or] at hs
    obtain ⟨h1, h2, h3, h4⟩ := hs
    have h4' : dolB (c :: t) = false := by simpa using h4
    rw [stepR_byte h1 h2 h3 h4'] at h
    cases h
    refine ⟨fin_byte hw h1 h2 h3 h4', Nat.le_refl _, ?_, fun M _ hX => textP_sz hX⟩
    have := textP_len X (N - (t.length + 1)) c
    omega
theorem step_err {N : Nat} {X : List Pt} {c : UInt8} {t : List UInt8} {x : Er} (hw : wEnd c = false) (h : stepR N X (c :: t) = .error x) : fin N X (c :: t) = .error x := by
  by_cases hs : c = 92 ∨ c = 39 ∨ c = 34 ∨ dolB (c :: t) = true
  · rw [stepR_spec hs] at h
    cases hp : parts N c t with
    | error e =>
      rw [hp] at h
      cases h
      exact fin_err hw (liv_no hs) hp
    | ok r => rw [hp] at h; cases h
  · simp only [not_or] at hs
    rw [stepR_byte hs.1 hs.2.1 hs.2.2.1 (by simpa using hs.2.2.2)] at h
    cases h
end Go.Proofs.YtlbdecohmjpgaaaDoor
namespace Go.Proofs.YtlbdecohmjpgaaaDoor
open Go.RowKit

/-- The document's tokens, of one's own. -/
structure RTk (W : World) (B : Nat) (v : Value) (K : List (Value × Tk)) : Prop where
  row : W.ownsRow B 45 3 v K.length (tkCs K)
  parts : ∀ q ∈ K, RPt W B q.1 q.2.parts
theorem RTk.nil (W : World) (B : Nat) : RTk W B (.slice none 0 0) [] := ⟨World.ownsRow_nil W B _ _, fun q h => by cases h⟩
/-- Only older blocks turned, and such as are not there yet. -/
theorem RPt.past {W W' : World} {B : Nat} {v : Value} {X : List Pt} {S : Nat → Prop} (h : RPt W B v X) (hT : Turn S W W') (hS : ∀ i, S i → i < B ∨ W.heap.size ≤ i) : RPt W' B v X := by
  refine owns_turn h hT fun g hg hs => ?_
  have h1 := World.ownsRow.lt h g hg
  rcases hS g hs with h2 | h2
  · have := h1.1; omega
  · have := h1.2; omega
theorem RTk.past {W W' : World} {B : Nat} {v : Value} {K : List (Value × Tk)} {S : Nat → Prop} (h : RTk W B v K) (hT : Turn S W W') (hS : ∀ i, S i → i < B ∨ W.heap.size ≤ i) : RTk W' B v K := by
  refine ⟨owns_turn h.row hT fun g hg hs => ?_, fun q hq => (h.parts q hq).past hT hS⟩
  have h1 := World.ownsRow.lt h.row g hg
  rcases hS g hs with h2 | h2
  · have := h1.1; omega
  · have := h1.2; omega
theorem RTk.below {W W' : World} {B : Nat} {v : Value} {K : List (Value × Tk)} (h : RTk W B v K) (hb : Below W.heap.size W W') : RTk W' B v K := h.past (Turn.ofBelow (S := fun _ => False) hb) (fun _ e => e.elim)
theorem RTk.form {W : World} {B : Nat} {v : Value} {K : List (Value × Tk)} (h : RTk W B v K) : ∃ ad cap, v = .slice ad K.length cap := owns_slice h.row
theorem RTk.lower {W : World} {B B' : Nat} {v : Value} {K : List (Value × Tk)} (h : RTk W B v K) (hB : B' ≤ B) : RTk W B' v K := ⟨owns_lower h.row hB, fun q hq => (h.parts q hq).lower hB⟩
theorem RPt.grown {X w6 : World} {B B' n : Nat} {v row : Value} {P : List Pt} {xs : List Value} (h : RPt X B v P) (hr : X.ownsRow B' 45 3 row n xs) (hg : X.grownBy w6 row.ownBlock) : RPt w6 B v P :=
  owns_turn h (Turn.ofGrown hg) (fun b hb e => owns_apart2 h hr (by decide) b hb e)
/-- A token more. -/
theorem RTk.snoc {X w6 : World} {B : Nat} {v v6 : Value} {K : List (Value × Tk)} {q : Value × Tk} (h : RTk X B v K) (hq : RPt X B q.1 q.2.parts) (ho : w6.ownsRow B 45 3 v6 (K.length + 1) (tkCs K ++ tkC q)) (hg : X.grownBy w6 v.ownBlock) : RTk w6 B v6 (K ++ [q]) := by
  refine ⟨by rw [tkCs_append, tkCs_one, List.length_append]; exact ho, fun r hr => ?_⟩
  rcases List.mem_append.1 hr with hr | hr
  · exact (h.parts r hr).grown h.row hg
  · rw [List.mem_singleton.1 hr]; exact hq.grown h.row hg
theorem infoTR : (Tryd.prog.info? 45).map (fun i => (i.zero, i.size, i.bytes)) = some (some (.agg zT), 3, 40) := by kernel_rfl
/-- What a source comes to, by the document. -/
def LexR (W : World) (R : Except Er (List Tk)) (v : Value) (c : Int) (av : Value) (w' : World) : Prop := match R with
  | .ok l => c = 0 ∧ av = .slice none 0 0 ∧ ∃ K : List (Value × Tk), K.map Prod.snd = l ∧ RTk w' W.heap.size v K
  | .error x => v = .slice none 0 0 ∧ c = codE x.code ∧ ∃ fb, av = .slice (some ⟨fb, 0, none⟩) 1 1 ∧ Cel w' fb 3 #[.int .i64 (x.pos : Nat)]
end Go.Proofs.YtlbdecohmjpgaaaDoor
