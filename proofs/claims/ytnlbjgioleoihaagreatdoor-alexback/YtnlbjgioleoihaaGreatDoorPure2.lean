/- Where parts lie, and how many there are: plain facts. -/
import Derived.Test.YtnlbjgioleoihaaGreatDoorPure1
namespace Go.Proofs.YtnlbjgioleoihaaGreatDoor

/-- The parts' places rise, from a on, and stay below z. -/
def Rise (a z : Nat) : List Pt → Prop
  | [] => True
  | p :: r => a ≤ p.pos ∧ p.pos < z ∧ Rise (p.pos + 1) z r
theorem Rise.lower {a a' z : Nat} (h : a' ≤ a) : ∀ {l : List Pt}, Rise a z l → Rise a' z l
  | [], _ => trivial
  | _ :: _, ⟨h1, h2, h3⟩ => ⟨by omega, h2, h3⟩
theorem Rise.upper {z z' : Nat} (h : z ≤ z') : ∀ {a : Nat} {l : List Pt}, Rise a z l → Rise a z' l
  | _, [], _ => trivial
  | _, _ :: _, ⟨h1, h2, h3⟩ => ⟨h1, by omega, h3.upper h⟩
theorem Rise.append {m z : Nat} (h : m ≤ z) : ∀ {a : Nat} {l r : List Pt}, Rise a m l → Rise m z r → a ≤ m → Rise a z (l ++ r)
  | _, [], _, _, h2, ha => h2.lower ha
  | _, _ :: _, _, ⟨h1, h2, h3⟩, h4, _ => ⟨h1, by omega, h3.append h h4 (by omega)⟩
theorem dbl_ok' {N a : Nat} : ∀ (f : Nat) (l : List UInt8) (ps : List Pt) (v : List UInt8), l.length ≤ N → dbl N a f l = .ok (ps, v) → ps.length + v.length + 1 ≤ l.length ∧ Rise (N - l.length) (N - v.length) ps := by
  intro f
  induction f with
  | zero => intro l ps v _ h; cases h
  | succ f ih =>
    intro l ps v hl h
    cases l with
    | nil => cases h
    | cons c t =>
      rw [dbl] at h
      split at h
      · cases h
        exact ⟨by simp, trivial⟩
      · rename_i hc
        cases hq : quoted N (c :: t) with
        | error e => rw [hq] at h; cases h
        | ok r =>
          obtain ⟨p, u⟩ := r
          rw [hq] at h
          simp only at h
          obtain ⟨h1, h2⟩ := quoted_ok hc hq
          cases hd : dbl N a f u with
          | error e => rw [hd] at h; cases h
          | ok r2 =>
            obtain ⟨qs, w⟩ := r2
            rw [hd] at h
            cases h
            obtain ⟨h3, h4⟩ := ih u qs v (by omega) hd
            simp only [List.length_cons] at h1 h2 hl ⊢
            exact ⟨by omega, by omega, by omega, h4.lower (by omega)⟩
theorem dbl_err' {N a : Nat} : ∀ (f : Nat) (l : List UInt8) (e : Er), l.length ≤ N → dbl N a f l = .error e → e.pos = a ∨ (N - l.length ≤ e.pos ∧ e.pos < N) := by
  intro f
  induction f with
  | zero => intro l e _ h; cases h; exact .inl rfl
  | succ f ih =>
    intro l e hl h
    cases l with
    | nil => cases h; exact .inl rfl
    | cons c t =>
      rw [dbl] at h
      split at h
      · cases h
      · rename_i hc
        cases hq : quoted N (c :: t) with
        | error e' =>
          rw [hq] at h
          cases h
          obtain ⟨h1, h2⟩ := quoted_err hq
          exact .inr ⟨by omega, by omega⟩
        | ok r =>
          obtain ⟨p, u⟩ := r
          rw [hq] at h
          simp only at h
          obtain ⟨h1, h2⟩ := quoted_ok hc hq
          cases hd : dbl N a f u with
          | error e' =>
            rw [hd] at h
            cases h
            rcases ih u e (by omega) hd with h3 | h3
            · exact .inl h3
            · exact .inr ⟨by omega, h3.2⟩
          | ok r2 =>
            obtain ⟨qs, w⟩ := r2
            rw [hd] at h
            cases h
theorem liv_len : ∀ (l : List UInt8), (liv l).length ≤ l.length
  | [] => Nat.le_refl _
  | c :: t => by
    rw [liv]
    split
    · simp
    · have := liv_len t
      simp; omega
theorem tEnd_of {c : UInt8} (h1 : wEnd c = false) (h2 : c ≠ 92) (h3 : c ≠ 39) (h4 : c ≠ 34) : tEnd c = false := by
  unfold wEnd at h1
  unfold tEnd
  simp only [List.contains_eq_mem, List.mem_cons, List.not_mem_nil, or_false, decide_eq_false_iff_not, not_or] at h1 ⊢
  exact ⟨h1.1, h1.2.1, h1.2.2.1, h1.2.2.2.1, h1.2.2.2.2.1, h1.2.2.2.2.2.1, h1.2.2.2.2.2.2.1, h1.2.2.2.2.2.2.2.1, h1.2.2.2.2.2.2.2.2.1, h1.2.2.2.2.2.2.2.2.2, h2, h3, h4⟩
/-- Parts take bytes, the first one lies where they begin, and they rise. -/
theorem parts_ok {N : Nat} {c : UInt8} {t : List UInt8} {ps : List Pt} {u : List UInt8} (hN : t.length + 1 ≤ N) (hw : wEnd c = false) (h : parts N c t = .ok (ps, u)) :
    ps.length + u.length ≤ t.length + 1 ∧ u.length ≤ t.length ∧ (∃ p r, ps = p :: r ∧ p.pos = N - (t.length + 1)) ∧ Rise (N - (t.length + 1)) (N - u.length) ps := by
  unfold parts at h
  split at h
  · cases h
    have : t.tail.length ≤ t.length := by rw [List.length_tail]; omega
    exact ⟨by simp; omega, this, ⟨_, _, rfl, rfl⟩, Nat.le_refl _, by show N - (t.length + 1) < N - t.tail.length; omega, trivial⟩
  · rename_i h92
    split at h
    · cases hp : pSing t with
      | none => rw [hp] at h; cases h
      | some v =>
        rw [hp] at h
        have := pSing_lt _ _ hp
        cases h
        exact ⟨by simp; omega, by omega, ⟨_, _, rfl, rfl⟩, Nat.le_refl _, by show N - (t.length + 1) < N - u.length; omega, trivial⟩
    · rename_i h39
      split at h
      · cases hd : dbl N (N - (t.length + 1)) (t.length + 1) (dead t.length t).2 with
        | error e => rw [hd] at h; cases h
        | ok r =>
          obtain ⟨qs, v⟩ := r
          rw [hd] at h
          cases h
          have hl := dead_le t.length t
          obtain ⟨h1, h2⟩ := dbl_ok' _ _ _ _ (by omega) hd
          refine ⟨by simp; omega, by omega, ⟨_, _, rfl, rfl⟩, Nat.le_refl _, by show N - (t.length + 1) < N - u.length; omega, ?_⟩
          exact h2.lower (by show N - (t.length + 1) + 1 ≤ _; omega)
      · rename_i h34
        split at h
        · cases hd : dollar N (c :: t) with
          | error e => rw [hd] at h; cases h
          | ok r =>
            obtain ⟨p, v⟩ := r
            rw [hd] at h
            cases h
            obtain ⟨h1, h2⟩ := dollar_ok hd
            rw [List.length_cons] at h1 h2
            exact ⟨by simp; omega, by omega, ⟨_, _, rfl, h1⟩, by omega, by omega, trivial⟩
        · rename_i hdl
          cases h
          have h1 : 1 ≤ (liv (c :: t)).length := by
            rw [liv, if_neg (by rw [tEnd_of hw h92 h39 h34]; simpa using hdl)]
            simp
          have h2 := liv_len (c :: t)
          simp only [List.length_drop, List.length_cons, List.length_nil] at h2 ⊢
          exact ⟨by omega, by omega, ⟨_, _, rfl, rfl⟩, Nat.le_refl _, by show N - (t.length + 1) < _; omega, trivial⟩
theorem parts_err {N : Nat} {c : UInt8} {t : List UInt8} {e : Er} (hN : t.length + 1 ≤ N) (h : parts N c t = .error e) : e.pos < N := by
  unfold parts at h
  split at h
  · cases h
  · split at h
    · cases hp : pSing t with
      | none => rw [hp] at h; cases h; show N - (t.length + 1) < N; omega
      | some v => rw [hp] at h; cases h
    · split at h
      · cases hd : dbl N (N - (t.length + 1)) (t.length + 1) (dead t.length t).2 with
        | error e' =>
          rw [hd] at h
          cases h
          have hl := dead_le t.length t
          rcases dbl_err' _ _ _ (by omega) hd with h1 | h1
          · omega
          · exact h1.2
        | ok r =>
          obtain ⟨qs, v⟩ := r
          rw [hd] at h
          cases h
      · split at h
        · rename_i hdl
          cases hd : dollar N (c :: t) with
          | error e' =>
            rw [hd] at h
            cases h
            have := dollar_err hd (dolB_len hdl)
            rw [List.length_cons] at this
            omega
          | ok r =>
            obtain ⟨p, v⟩ := r
            rw [hd] at h
            cases h
        · cases h
end Go.Proofs.YtnlbjgioleoihaaGreatDoor
