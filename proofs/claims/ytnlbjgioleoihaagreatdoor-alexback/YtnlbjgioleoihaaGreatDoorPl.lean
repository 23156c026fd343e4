/- Where a source's tokens and their parts lie. -/
import Derived.Test.YtnlbjgioleoihaaGreatDoorRd19
namespace Go.Proofs.YtnlbjgioleoihaaGreatDoor

/-- A token that is not the end: a sign, or a word whose parts rise from its place on. -/
def WordOk (N : Nat) (t : Tk) : Prop := t.pos < N ∧ ((t.kind < 13 ∧ t.parts = []) ∨ (t.kind = 13 ∧ Rise t.pos N t.parts ∧ ∃ p r, t.parts = p :: r ∧ p.pos = t.pos))
/-- Tokens rise from a on; the last one is the end. -/
def Good (N : Nat) : Nat → List Tk → Prop
  | _, [] => False
  | a, t :: r => (t.kind = 0 ∧ t.pos = N ∧ t.parts = [] ∧ r = []) ∨ (t.kind ≠ 0 ∧ a ≤ t.pos ∧ WordOk N t ∧ Good N (t.pos + 1) r)
theorem Good.lower {N : Nat} : ∀ {a a' : Nat} {l : List Tk}, a' ≤ a → Good N a l → Good N a' l
  | _, _, [], _, h => h
  | _, _, _ :: _, _, .inl h => .inl h
  | _, _, _ :: _, ha, .inr ⟨h1, h2, h3⟩ => .inr ⟨h1, by omega, h3⟩
theorem lex_good {N : Nat} {T : List UInt8 → Except Er (Tk × List UInt8)} (hT : T = fun m => tokenL N (over m)) : ∀ (f : Nat) (l : List UInt8) (ts : List Tk), l.length ≤ N → l.length < f → lexW T f l = .ok ts → Good N (N - l.length) ts := by
  intro f
  induction f with
  | zero => intro l ts _ h; omega
  | succ f ih =>
    intro l ts hl hf h
    cases ht : tokenL N (over l) with
    | error e =>
      rw [lexW_err T f l e (by rw [hT]; exact ht)] at h
      cases h
    | ok r =>
      obtain ⟨t, u⟩ := r
      rcases token_ok hl ht with ⟨h0, h1, h2⟩ | ⟨h0, h1, h2, h3, h4⟩
      · rw [lexW_end T f l t u (by rw [hT]; exact ht) h0] at h
        cases h
        exact .inl ⟨h0, h1, h2, rfl⟩
      · rw [lexW_more T f l t u (by rw [hT]; exact ht) h0] at h
        cases hr : lexW T f u with
        | error e => rw [hr] at h; cases h
        | ok ts' =>
          rw [hr] at h
          cases h
          have := ih u ts' (by omega) (by omega) hr
          refine .inr ⟨h0, h2, ⟨by omega, ?_⟩, this.lower (by omega)⟩
          rcases h4 with h4 | ⟨h5, h6, h7⟩
          · exact .inl h4
          · exact .inr ⟨h5, h6.upper (by omega), h7⟩
theorem lex_good' {l : List UInt8} {ts : List Tk} (h : lexL l = .ok ts) : Good l.length 0 ts := by
  have := lex_good rfl (l.length + 1) l ts (Nat.le_refl _) (by omega) h
  exact this.lower (by omega)
theorem lex_err' {N : Nat} {T : List UInt8 → Except Er (Tk × List UInt8)} (hT : T = fun m => tokenL N (over m)) : ∀ (f : Nat) (l : List UInt8) (e : Er), l.length ≤ N → lexW T f l = .error e → e.pos < N := by
  intro f
  induction f with
  | zero => intro l e _ h; cases h
  | succ f ih =>
    intro l e hl h
    cases ht : tokenL N (over l) with
    | error e' =>
      rw [lexW_err T f l e' (by rw [hT]; exact ht)] at h
      cases h
      exact token_err hl ht
    | ok r =>
      obtain ⟨t, u⟩ := r
      rcases token_ok hl ht with ⟨h0, _⟩ | ⟨h0, h1, _⟩
      · rw [lexW_end T f l t u (by rw [hT]; exact ht) h0] at h
        cases h
      · rw [lexW_more T f l t u (by rw [hT]; exact ht) h0] at h
        cases hr : lexW T f u with
        | error e' =>
          rw [hr] at h
          cases h
          exact ih u e (by omega) hr
        | ok ts' => rw [hr] at h; cases h
theorem lex_err {l : List UInt8} {e : Er} (h : lexL l = .error e) : e.pos < l.length := lex_err' rfl _ l e (Nat.le_refl _) h
/-- A token by its number. -/
theorem Good.at {N : Nat} : ∀ {a : Nat} {l : List Tk}, Good N a l → ∀ i t, l[i]? = some t → (t.kind = 0 ∧ t.pos = N ∧ t.parts = [] ∧ i + 1 = l.length) ∨ (t.kind ≠ 0 ∧ a ≤ t.pos ∧ WordOk N t ∧ i + 1 < l.length)
  | _, [], h, _, _, _ => h.elim
  | _, x :: r, .inl ⟨h1, h2, h3, h4⟩, i, t, ht => by
    subst h4
    cases i with
    | zero => cases ht; exact .inl ⟨h1, h2, h3, rfl⟩
    | succ i => simp at ht
  | a, x :: r, .inr ⟨h1, h2, h3, h4⟩, i, t, ht => by
    cases i with
    | zero =>
      cases ht
      refine .inr ⟨h1, h2, h3, ?_⟩
      cases r with
      | nil => exact h4.elim
      | cons y r => simp
    | succ i =>
      rcases h4.at i t (by simpa using ht) with ⟨k1, k2, k3, k4⟩ | ⟨k1, k2, k3, k4⟩
      · exact .inl ⟨k1, k2, k3, by simp; omega⟩
      · exact .inr ⟨k1, by omega, k3, by simp; omega⟩
theorem Good.next {N : Nat} : ∀ {a : Nat} {l : List Tk}, Good N a l → ∀ i t t', l[i]? = some t → l[i + 1]? = some t' → t'.kind ≠ 0 → t.pos < t'.pos
  | _, [], h, _, _, _, _, _, _ => h.elim
  | _, x :: r, .inl ⟨h1, h2, h3, h4⟩, i, t, t', _, ht', _ => by
    subst h4
    simp at ht'
  | a, x :: r, .inr ⟨h1, h2, h3, h4⟩, i, t, t', ht, ht', h0 => by
    cases i with
    | zero =>
      cases ht
      rcases h4.at 0 t' (by simpa using ht') with ⟨k1, _⟩ | ⟨_, k2, _⟩
      · exact absurd k1 h0
      · omega
    | succ i => exact h4.next i t t' (by simpa using ht) (by simpa using ht') h0
theorem Good.last {N : Nat} : ∀ {a : Nat} {l : List Tk}, Good N a l → ∃ t, l[l.length - 1]? = some t ∧ t.kind = 0 ∧ t.pos = N ∧ 0 < l.length
  | _, [], h => h.elim
  | _, x :: r, .inl ⟨h1, h2, h3, h4⟩ => by subst h4; exact ⟨x, rfl, h1, h2, by simp⟩
  | a, x :: r, .inr ⟨h1, h2, h3, h4⟩ => by
    obtain ⟨t, k1, k2, k3, k4⟩ := h4.last
    refine ⟨t, ?_, k2, k3, by simp⟩
    rw [List.length_cons, show r.length + 1 - 1 = (r.length - 1) + 1 by omega, List.getElem?_cons_succ]
    exact k1
theorem Good.len {N : Nat} : ∀ {a : Nat} {l : List Tk}, Good N a l → a ≤ N → l.length ≤ N - a + 1
  | _, [], h, _ => h.elim
  | _, x :: r, .inl ⟨_, _, _, h4⟩, _ => by subst h4; simp
  | a, x :: r, .inr ⟨_, h2, h3, h4⟩, _ => by
    have := h4.len (by have := h3.1; omega)
    have := h3.1
    rw [List.length_cons]
    omega
theorem Rise.at {z : Nat} : ∀ {a : Nat} {l : List Pt}, Rise a z l → ∀ (k : Nat) (p : Pt), l[k]? = some p → a ≤ p.pos ∧ p.pos < z
  | _, [], _, _, _, h => by simp at h
  | _, x :: r, ⟨h1, h2, h3⟩, k, p, h => by
    cases k with
    | zero => cases h; exact ⟨h1, h2⟩
    | succ k =>
      have := h3.at k p (by simpa using h)
      exact ⟨by omega, this.2⟩
theorem Rise.len {z : Nat} : ∀ {a : Nat} {l : List Pt}, Rise a z l → l.length ≤ z - a
  | _, [], _ => by simp
  | _, x :: r, ⟨h1, h2, h3⟩ => by
    have := h3.len
    rw [List.length_cons]
    omega
theorem Rise.next {z : Nat} : ∀ {a : Nat} {l : List Pt}, Rise a z l → ∀ (k : Nat) (p p' : Pt), l[k]? = some p → l[k + 1]? = some p' → p.pos < p'.pos
  | _, [], _, _, _, _, h, _ => by simp at h
  | _, x :: r, ⟨h1, h2, h3⟩, k, p, p', h, h' => by
    cases k with
    | zero =>
      cases h
      have := h3.at 0 p' (by simpa using h')
      omega
    | succ k => exact h3.next k p p' (by simpa using h) (by simpa using h')
end Go.Proofs.YtnlbjgioleoihaaGreatDoor
