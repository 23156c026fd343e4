/- The document's scanner of commands, over plain lists: word by word, command by command. -/
import Derived.Test.YtlihkblllakhmaaGreatDoorPlain
/-! The document's scanner of a word, over plain lists: a byte at a time, bytes joined to the last part where that is a text. -/
namespace Go.Proofs.YtlihkblllakhmaaGreatDoor

theorem q_passB_lt : ∀ (l : List UInt8) (n : Nat) (u : List UInt8), passB n l = some u → u.length < l.length
  | [], _, _, h => by simp [passB] at h
  | [c], n, u, h => by
    unfold passB at h
    split at h
    · cases h; simp
    · cases h
  | c :: d :: t, n, u, h => by
    unfold passB at h
    split at h
    · have := q_passB_lt t n u h
      simp only [List.length_cons]
      omega
    · split at h
      · have := q_passB_lt (d :: t) _ u h
        simp only [List.length_cons] at this ⊢
        omega
      · split at h
        · split at h
          · cases h; simp
          · have := q_passB_lt (d :: t) _ u h
            simp only [List.length_cons] at this ⊢
            omega
        · have := q_passB_lt (d :: t) _ u h
          simp only [List.length_cons] at this ⊢
          omega
theorem q_passK_lt : ∀ (l : List UInt8) (n m : Nat) (u : List UInt8), passK n m l = some u → u.length < l.length
  | [], _, _, _, h => by simp [passK] at h
  | [c], n, m, u, h => by
    unfold passK at h
    split at h
    · cases h; simp
    · cases h
  | c :: d :: t, n, m, u, h => by
    have ih : ∀ n m, passK n m (d :: t) = some u → u.length < (c :: d :: t).length := fun n m h => by
      have := q_passK_lt (d :: t) n m u h
      simp only [List.length_cons] at this ⊢
      omega
    unfold passK at h
    split at h
    · have := q_passK_lt t n m u h
      simp only [List.length_cons]
      omega
    · split at h
      · exact ih _ _ h
      · split at h
        · exact ih _ _ h
        · split at h
          · exact ih _ _ h
          · split at h
            · split at h
              · split at h
                · cases h; simp
                · exact ih _ _ h
              · exact ih _ _ h
            · exact ih _ _ h
theorem nrun_cons (c : UInt8) (t : List UInt8) : nrun (c :: t) = if start8 c then (c :: t).takeWhile cont8 else [] := rfl
theorem nrun_pos {c : UInt8} {t : List UInt8} (h : start8 c = true) : 1 ≤ (nrun (c :: t)).length := by
  rw [nrun_cons, if_pos h, List.takeWhile_cons_of_pos (show cont8 c = true by unfold cont8 contB; unfold start8 at h; rw [h]; rfl)]
  simp
theorem dollar_cons (N : Nat) (c0 c : UInt8) (t : List UInt8) : dollar N (c0 :: c :: t) =
    if c = 42 then .ok (⟨2, N - (t.length + 2), 0, [42]⟩, t)
    else if cnts c then .ok (⟨4, N - (t.length + 2), c.toNat - 48, []⟩, t)
    else if 20 < (nrun (c :: t)).length then .error ⟨0, N - (t.length + 2)⟩
    else .ok (⟨2, N - (t.length + 2), 0, nrun (c :: t)⟩, (c :: t).drop (nrun (c :: t)).length) := rfl
theorem q_dollar_lt {N : Nat} {l : List UInt8} {p : Pt} {u : List UInt8} (hd : dolB l = true) (h : dollar N l = .ok (p, u)) : u.length < l.length ∧ p.kind ≠ 1 := by
  match l, hd, h with
  | c0 :: c :: t, hd, h =>
    rw [dollar_cons] at h
    simp only [dolB, dolC, Bool.and_eq_true, Bool.or_eq_true, beq_iff_eq] at hd
    by_cases h1 : c = 42
    · rw [if_pos h1] at h
      cases h
      exact ⟨by simp; omega, by simp⟩
    · rw [if_neg h1] at h
      by_cases h2 : cnts c = true
      · rw [if_pos h2] at h
        cases h
        exact ⟨by simp; omega, by simp⟩
      · rw [if_neg h2] at h
        by_cases h3 : 20 < (nrun (c :: t)).length
        · rw [if_pos h3] at h
          cases h
        · rw [if_neg h3] at h
          cases h
          have hs : start8 c = true := by
            rcases hd.2 with (h | h) | h
            · exact absurd h h1
            · exact absurd h h2
            · exact h
          have := nrun_pos (t := t) hs
          exact ⟨by simp only [List.length_drop, List.length_cons]; omega, by simp⟩
/-- One step: a byte of text, or a part. -/
def stepD (N : Nat) : List UInt8 → Except Er (Pt × List UInt8)
  | [] => .error ⟨0, 0⟩
  | c :: t =>
    if c = 92 then (match t with
      | [] => .ok (⟨1, N - (t.length + 1), 0, [92]⟩, [])
      | d :: u => .ok (⟨1, N - (t.length + 1), 0, [escC d]⟩, u))
    else if c = 91 then (match passK 0 0 t with
      | none => .error ⟨1, N - (t.length + 1)⟩
      | some u => .ok (⟨3, N - (t.length + 1), 0, t.take (t.length - u.length - 1)⟩, u))
    else if dolB (c :: t) then dollar N (c :: t)
    else .ok (⟨1, N - (t.length + 1), 0, [c]⟩, t)
theorem stepD_cons (N : Nat) (c : UInt8) (t : List UInt8) : stepD N (c :: t) =
    if c = 92 then (match t with
      | [] => .ok (⟨1, N - (t.length + 1), 0, [92]⟩, [])
      | d :: u => .ok (⟨1, N - (t.length + 1), 0, [escC d]⟩, u))
    else if c = 91 then (match passK 0 0 t with
      | none => .error ⟨1, N - (t.length + 1)⟩
      | some u => .ok (⟨3, N - (t.length + 1), 0, t.take (t.length - u.length - 1)⟩, u))
    else if dolB (c :: t) then dollar N (c :: t)
    else .ok (⟨1, N - (t.length + 1), 0, [c]⟩, t) := rfl
theorem stepD_lt {N : Nat} {l : List UInt8} {p : Pt} {u : List UInt8} (h : stepD N l = .ok (p, u)) : u.length < l.length := by
  match l, h with
  | c :: t, h =>
    rw [stepD_cons] at h
    by_cases h1 : c = 92
    · rw [if_pos h1] at h
      cases t with
      | nil => cases h; simp
      | cons d u => cases h; simp; omega
    · rw [if_neg h1] at h
      by_cases h2 : c = 91
      · rw [if_pos h2] at h
        cases hk : passK 0 0 t with
        | none => rw [hk] at h; cases h
        | some v =>
          rw [hk] at h
          cases h
          have := q_passK_lt _ _ _ _ hk
          simp only [List.length_cons]
          omega
      · rw [if_neg h2] at h
        by_cases h3 : dolB (c :: t) = true
        · rw [if_pos h3] at h
          exact (q_dollar_lt h3 h).1
        · rw [if_neg h3] at h
          cases h
          simp
/-- A part behind others: a text goes on with a text. -/
def joinP (ps : List Pt) (p : Pt) : List Pt := match ps.getLast? with
  | some q => if q.kind = 1 ∧ p.kind = 1 then ps.dropLast ++ [⟨q.kind, q.pos, q.n, q.s ++ p.s⟩] else ps ++ [p]
  | none => ps ++ [p]
def q_textE (ps : List Pt) : Bool := match ps.getLast? with
  | some q => decide (q.kind = 1)
  | none => false
theorem joinP_new {ps : List Pt} {p : Pt} (h : q_textE ps = false ∨ p.kind ≠ 1) : joinP ps p = ps ++ [p] := by
  unfold joinP
  unfold q_textE at h
  split
  · rename_i q hq
    rw [hq] at h
    rw [if_neg]
    rintro ⟨h1, h2⟩
    rcases h with h | h
    · simp [h1] at h
    · exact h h2
  · rfl
theorem joinP_on (ps : List Pt) (a : Nat) (s : List UInt8) (b : Nat) (z : List UInt8) : joinP (ps ++ [⟨1, a, 0, s⟩]) ⟨1, b, 0, z⟩ = ps ++ [⟨1, a, 0, s ++ z⟩] := by
  simp [joinP]
theorem textE_snoc (ps : List Pt) (p : Pt) : q_textE (ps ++ [p]) = decide (p.kind = 1) := by simp [q_textE]
/-- The parts up to a byte of e, as the document has them. -/
def docL (N : Nat) (e : List UInt8) : Nat → List Pt → List UInt8 → Except Er (List Pt × List UInt8)
  | 0, ps, l => .ok (ps, l)
  | _ + 1, ps, [] => .ok (ps, [])
  | f + 1, ps, c :: t => if e.contains c then .ok (ps, c :: t) else (match stepD N (c :: t) with
    | .error x => .error x
    | .ok (p, u) => docL N e f (joinP ps p) u)
theorem docL_fuel (N : Nat) (e : List UInt8) : ∀ (f g : Nat) (ps : List Pt) (l : List UInt8), l.length ≤ f → l.length ≤ g → docL N e f ps l = docL N e g ps l
  | 0, 0, _, _, _, _ => rfl
  | 0, g + 1, ps, [], _, _ => rfl
  | f + 1, 0, ps, [], _, _ => rfl
  | f + 1, g + 1, ps, [], _, _ => rfl
  | f + 1, g + 1, ps, c :: t, hf, hg => by
    unfold docL
    split
    · rfl
    · split
      · rfl
      · rename_i p u hs
        have := stepD_lt hs
        simp only [List.length_cons] at this hf hg
        exact docL_fuel N e f g _ u (by omega) (by omega)
theorem pByte_cons (c : UInt8) (t : List UInt8) : pByte (c :: t) = if c = 92 then (match t with
      | [] => (92, 1)
      | d :: _ => (escC d, 2)) else (c, 1) := rfl
theorem pByte_pos {c : UInt8} {t : List UInt8} : 1 ≤ (pByte (c :: t)).2 := by
  rw [pByte_cons]
  split
  · cases t <;> simp
  · simp
/-- A byte of text is a step. -/
theorem stepD_text (N : Nat) (e : List UInt8) (c : UInt8) (t : List UInt8) (h : stopP e (c :: t) = false) : stepD N (c :: t) = .ok (⟨1, N - (t.length + 1), 0, [(pByte (c :: t)).1]⟩, (c :: t).drop (pByte (c :: t)).2) := by
  simp only [stopP, Bool.or_eq_false_iff, beq_eq_false_iff_ne] at h
  rw [stepD_cons, pByte_cons]
  by_cases h92 : c = 92
  · rw [if_pos h92, if_pos h92]
    cases t with
    | nil => simp
    | cons d u => simp
  · rw [if_neg h92, if_neg h92, if_neg h.1.2, if_neg (by rw [h.2]; simp)]
    simp
theorem doc_text (N : Nat) (e : List UInt8) : ∀ (g f : Nat) (ps : List Pt) (a : Nat) (s l : List UInt8), l.length ≤ g → l.length ≤ f → docL N e f (ps ++ [⟨1, a, 0, s⟩]) l = docL N e f (ps ++ [⟨1, a, 0, s ++ (plainL e g l).1⟩]) (plainL e g l).2 ∧ stopP e (plainL e g l).2 = true ∧ (plainL e g l).2.length ≤ l.length
  | 0, f, ps, a, s, [], _, _ => by simp [plainL, stopP]
  | g + 1, f, ps, a, s, [], _, _ => by simp [plainL, stopP]
  | g + 1, 0, ps, a, s, c :: t, _, hf => by simp at hf
  | g + 1, f + 1, ps, a, s, c :: t, hg, hf => by
    unfold plainL
    by_cases hs : stopP e (c :: t) = true
    · rw [if_pos hs]
      simp only [List.append_nil]
      exact ⟨trivial, hs, Nat.le_refl _⟩
    · have hs' : stopP e (c :: t) = false := by simpa using hs
      rw [if_neg hs]
      have h1 := stepD_text N e c t hs'
      have hp := pByte_pos (c := c) (t := t)
      have hc : e.contains c = false := by
        simp only [stopP, Bool.or_eq_false_iff] at hs'
        exact hs'.1.1
      have hlt : ((c :: t).drop (pByte (c :: t)).2).length ≤ t.length := by simp only [List.length_drop, List.length_cons]; omega
      simp only [List.length_cons] at hg hf
      obtain ⟨e1, e2, e3⟩ := doc_text N e g f ps a (s ++ [(pByte (c :: t)).1]) ((c :: t).drop (pByte (c :: t)).2) (by omega) (by omega)
      refine ⟨?_, e2, by simp only [List.length_cons]; omega⟩
      have e0 : docL N e (f + 1) (ps ++ [⟨1, a, 0, s⟩]) (c :: t) = docL N e f (ps ++ [⟨1, a, 0, s ++ [(pByte (c :: t)).1]⟩]) ((c :: t).drop (pByte (c :: t)).2) := by
        rw [docL, if_neg (by rw [hc]; simp), h1]
        simp only [joinP_on]
      rw [e0, e1]
      simp only [List.append_assoc, List.singleton_append]
      exact docL_fuel N e f (f + 1) _ _ (by omega) (by omega)
theorem doc_parts (N : Nat) (e : List UInt8) : ∀ (n : Nat) (l : List UInt8) (f g : Nat) (ps : List Pt), l.length ≤ n → l.length ≤ f → l.length ≤ g → (q_textE ps = false ∨ stopP e l = true) →
    docL N e f ps l = (match partsL N e g l with
      | .error x => .error x
      | .ok (qs, v) => .ok (ps ++ qs, v))
  | n, [], f, g, ps, _, _, _, _ => by
    cases f <;> cases g <;> simp [docL, partsL]
  | 0, c :: t, _, _, _, h, _, _, _ => by simp at h
  | n + 1, c :: t, 0, _, _, _, h, _, _ => by simp at h
  | n + 1, c :: t, f + 1, 0, _, _, _, h, _ => by simp at h
  | n + 1, c :: t, f + 1, g + 1, ps, hn, hf, hg, ht => by
    simp only [List.length_cons] at hn hf hg
    rw [docL, partsL]
    by_cases hc : e.contains c = true
    · rw [if_pos hc, if_pos hc]
      simp
    · rw [if_neg hc, if_neg hc]
      by_cases h91 : c = 91
      · subst h91
        have e1 : partL N e (91 :: t) = (match passK 0 0 t with
          | none => .error ⟨1, N - (t.length + 1)⟩
          | some u => .ok (⟨3, N - (t.length + 1), 0, t.take (t.length - u.length - 1)⟩, u)) := by
          unfold partL
          rw [if_pos (show (91 :: t).head? = some 91 from rfl)]
          rfl
        have e2 : stepD N (91 :: t) = partL N e (91 :: t) := by
          rw [e1]
          rfl
        rw [e2]
        cases hk : partL N e (91 :: t) with
        | error x => rfl
        | ok r =>
          obtain ⟨p, u⟩ := r
          have hlt := stepD_lt (e2.trans hk)
          have hkind : p.kind ≠ 1 := by
            rw [e1] at hk
            split at hk
            · cases hk
            · cases hk; simp
          simp only [List.length_cons] at hlt
          simp only
          rw [joinP_new (.inr hkind), doc_parts N e n u f g (ps ++ [p]) (by omega) (by omega) (by omega) (.inl (by rw [textE_snoc]; simp [hkind]))]
          generalize partsL N e _ _ = r
          rcases r with x | ⟨qs, v⟩ <;> simp
      · by_cases hd : dolB (c :: t) = true
        · have h92 : ¬ c = 92 := by
            rintro rfl
            cases t with
            | nil => simp [dolB] at hd
            | cons d t => simp [dolB] at hd
          have e1 : partL N e (c :: t) = dollar N (c :: t) := by
            unfold partL
            rw [if_neg (by simp [h91]), if_pos hd]
          have e2 : stepD N (c :: t) = dollar N (c :: t) := by
            rw [stepD_cons, if_neg h92, if_neg h91, if_pos hd]
          rw [e1, e2]
          cases hk : dollar N (c :: t) with
          | error x => rfl
          | ok r =>
            obtain ⟨p, u⟩ := r
            obtain ⟨hlt, hkind⟩ := q_dollar_lt hd hk
            simp only [List.length_cons] at hlt
            simp only
            rw [joinP_new (.inr hkind), doc_parts N e n u f g (ps ++ [p]) (by omega) (by omega) (by omega) (.inl (by rw [textE_snoc]; simp [hkind]))]
            generalize partsL N e _ _ = r
            rcases r with x | ⟨qs, v⟩ <;> simp
        · have hs : stopP e (c :: t) = false := by
            simp only [stopP, Bool.or_eq_false_iff, beq_eq_false_iff_ne]
            exact ⟨⟨by simpa using hc, h91⟩, by simpa using hd⟩
          have htx : q_textE ps = false := ht.resolve_right (by rw [hs]; simp)
          have e1 : partL N e (c :: t) = .ok (⟨1, N - (t.length + 1), 0, (plainL e (t.length + 1) (c :: t)).1⟩, (plainL e (t.length + 1) (c :: t)).2) := by
            unfold partL
            rw [if_neg (by simp [h91]), if_neg hd]
            rfl
          have hp := pByte_pos (c := c) (t := t)
          have hlt : ((c :: t).drop (pByte (c :: t)).2).length ≤ t.length := by simp only [List.length_drop, List.length_cons]; omega
          have e3 : plainL e (t.length + 1) (c :: t) = ((pByte (c :: t)).1 :: (plainL e t.length ((c :: t).drop (pByte (c :: t)).2)).1, (plainL e t.length ((c :: t).drop (pByte (c :: t)).2)).2) := by
            rw [plainL, if_neg (by rw [hs]; simp)]
          obtain ⟨d1, d2, d3⟩ := doc_text N e t.length f ps (N - (t.length + 1)) [(pByte (c :: t)).1] ((c :: t).drop (pByte (c :: t)).2) hlt (by omega)
          rw [stepD_text N e c t hs, e1, e3]
          simp only
          rw [joinP_new (.inl htx), d1, doc_parts N e n _ f g _ (by omega) (by omega) (by omega) (.inr d2)]
          simp only [List.singleton_append]
          generalize partsL N e _ _ = r
          rcases r with x | ⟨qs, v⟩ <;> simp
end Go.Proofs.YtlihkblllakhmaaGreatDoor
namespace Go.Proofs.YtlihkblllakhmaaGreatDoor

theorem q_parts_le (N : Nat) (e : List UInt8) {l : List UInt8} {qs : List Pt} {v : List UInt8} {g : Nat} (hg : l.length ≤ g) (h : partsL N e g l = .ok (qs, v)) : v.length ≤ l.length := by
  have hd := doc_parts N e l.length l l.length g [] (Nat.le_refl _) (Nat.le_refl _) hg (.inl rfl)
  rw [h] at hd
  have key : ∀ (f : Nat) (ps : List Pt) (l : List UInt8) (r : List Pt × List UInt8), docL N e f ps l = .ok r → r.2.length ≤ l.length := by
    intro f
    induction f with
    | zero => intro ps l r h; cases h; exact Nat.le_refl _
    | succ f ih =>
      intro ps l r h
      cases l with
      | nil => cases h; exact Nat.le_refl _
      | cons c t =>
        rw [docL] at h
        by_cases hc : e.contains c = true
        · rw [if_pos hc] at h
          cases h
          exact Nat.le_refl _
        · rw [if_neg hc] at h
          cases hs : stepD N (c :: t) with
          | error x => rw [hs] at h; cases h
          | ok pu =>
            obtain ⟨p, u⟩ := pu
            rw [hs] at h
            have h1 := stepD_lt hs
            have h2 := ih _ _ _ h
            omega
  exact key _ _ _ _ hd
theorem parts_first (N : Nat) {c : UInt8} {t : List UInt8} {qs : List Pt} {v : List UInt8} {g : Nat} (hg : t.length + 1 ≤ g) (hc : endS.contains c = false) (h : partsL N endS g (c :: t) = .ok (qs, v)) : v.length < t.length + 1 := by
  obtain ⟨g, rfl⟩ : ∃ k, g = k + 1 := ⟨g - 1, by omega⟩
  rw [partsL, if_neg (by rw [hc]; simp)] at h
  cases hp : partL N endS (c :: t) with
  | error x => rw [hp] at h; cases h
  | ok pu =>
    obtain ⟨p, u⟩ := pu
    rw [hp] at h
    simp only at h
    cases hq : partsL N endS g u with
    | error x => rw [hq] at h; cases h
    | ok qv =>
      obtain ⟨ps, w⟩ := qv
      rw [hq] at h
      cases h
      have hu : u.length < t.length + 1 := by
        have hd := doc_parts N endS (t.length + 1) (c :: t) (t.length + 1) (t.length + 1) [] (by simp) (by simp) (by simp) (.inl rfl)
        by_cases h91 : c = 91
        · subst h91
          have e2 : stepD N (91 :: t) = partL N endS (91 :: t) := by
            unfold partL
            rw [if_pos (show (91 :: t).head? = some 91 from rfl)]
            rfl
          have := stepD_lt (e2.trans hp)
          simpa using this
        · by_cases hdl : dolB (c :: t) = true
          · have e1 : partL N endS (c :: t) = dollar N (c :: t) := by
              unfold partL
              rw [if_neg (by simp [h91]), if_pos hdl]
            rw [e1] at hp
            have := (q_dollar_lt hdl hp).1
            simpa using this
          · have hs : stopP endS (c :: t) = false := by
              simp only [stopP, Bool.or_eq_false_iff, beq_eq_false_iff_ne]
              exact ⟨⟨hc, h91⟩, by simpa using hdl⟩
            have e1 : partL N endS (c :: t) = .ok (⟨1, N - (t.length + 1), 0, (plainL endS (t.length + 1) (c :: t)).1⟩, (plainL endS (t.length + 1) (c :: t)).2) := by
              unfold partL
              rw [if_neg (by simp [h91]), if_neg hdl]
              rfl
            rw [e1] at hp
            cases hp
            rw [plainL, if_neg (by rw [hs]; simp)]
            have hp := pByte_pos (c := c) (t := t)
            have h3 := (doc_text N endS t.length t.length [] 0 [] ((c :: t).drop (pByte (c :: t)).2) (by simp only [List.length_drop, List.length_cons]; omega) (by simp only [List.length_drop, List.length_cons]; omega)).2.2
            simp only [List.length_drop, List.length_cons] at h3
            simp only
            omega
      have := q_parts_le N endS (by omega) hq
      omega
theorem closed_same {N : Nat} {w w' : Wd} {u v : List UInt8} (h : closedL N w u = .ok (w', v)) : w' = w ∧ v = u := by
  cases u with
  | nil => cases h; exact ⟨rfl, rfl⟩
  | cons c t =>
    simp only [closedL] at h
    split at h
    · cases h; exact ⟨rfl, rfl⟩
    · cases h
/-- A word goes on, and lies where it begins. -/
theorem q_word_lt {N : Nat} {c : UInt8} {t : List UInt8} {w : Wd} {u : List UInt8} (hc : endS.contains c = false) (h : wordL N (c :: t) = .ok (w, u)) : u.length < t.length + 1 ∧ w.pos = N - (t.length + 1) := by
  unfold wordL at h
  by_cases h1 : c = 123
  · subst h1
    rw [if_pos (show (123 :: t).head? = some 123 from rfl)] at h
    cases hk : passB 0 t with
    | none => rw [show ((123 : UInt8) :: t).tail = t from rfl, hk] at h; cases h
    | some v =>
      rw [show ((123 : UInt8) :: t).tail = t from rfl, hk] at h
      obtain ⟨rfl, rfl⟩ := closed_same h
      have := q_passB_lt _ _ _ hk
      exact ⟨by omega, rfl⟩
  · rw [if_neg (by simp [h1])] at h
    by_cases h2 : c = 34
    · subst h2
      rw [if_pos (show (34 :: t).head? = some 34 from rfl)] at h
      cases hk : partsL N [34] (34 :: t).length (34 :: t).tail with
      | error x => rw [hk] at h; cases h
      | ok r =>
        obtain ⟨ps, v⟩ := r
        have := q_parts_le N [34] (by simp) hk
        rw [hk] at h
        cases v with
        | nil => cases h
        | cons d v =>
          simp only at h
          obtain ⟨rfl, rfl⟩ := closed_same h
          simp only [List.length_cons, List.tail_cons] at this
          exact ⟨by omega, rfl⟩
    · rw [if_neg (by simp [h2])] at h
      cases hk : partsL N endS (c :: t).length (c :: t) with
      | error x => rw [hk] at h; cases h
      | ok r =>
        obtain ⟨ps, v⟩ := r
        rw [hk] at h
        cases h
        exact ⟨parts_first N (by simp) hc hk, rfl⟩
/-- Commands, as the document reads them: what is done, the command so far, what is left. -/
def docS (N : Nat) : Nat → List Cm → Cm → List UInt8 → Except Er (List Cm)
  | 0, out, c, _ => .ok (if c.words.isEmpty then out else out ++ [c])
  | _ + 1, out, c, [] => .ok (if c.words.isEmpty then out else out ++ [c])
  | f + 1, out, c, b :: t =>
    if blk b then docS N f out c t
    else if sepS.contains b then docS N f (if c.words.isEmpty then out else out ++ [c]) ⟨0, []⟩ t
    else if b = 35 ∧ c.words.isEmpty = true then docS N f out c ((b :: t).dropWhile notNl)
    else (match wordL N (b :: t) with
      | .error x => .error x
      | .ok (w, u) => docS N f out ⟨if c.words.isEmpty then w.pos else c.pos, c.words ++ [w]⟩ u)
theorem drop_hash (t : List UInt8) : ((35 : UInt8) :: t).dropWhile notNl = t.dropWhile notNl := by
  rw [List.dropWhile_cons_of_pos (by decide)]
theorem drop_le (p : UInt8 → Bool) (t : List UInt8) : (t.dropWhile p).length ≤ t.length := (List.dropWhile_sublist p).length_le
theorem end_of {b : UInt8} (h1 : ¬ blk b = true) (h2 : ¬ sepS.contains b = true) : endS.contains b = false := by
  have hb : blk b = false := by simpa using h1
  have hs : sepS.contains b = false := by simpa using h2
  unfold blk blkS at hb
  unfold sepS at hs
  unfold endS
  simp only [List.contains_cons, List.contains_nil, Bool.or_false, Bool.or_eq_false_iff] at hb hs ⊢
  exact ⟨hb.1, hb.2, hs.1, hs.2⟩
theorem docS_fuel (N : Nat) : ∀ (f g : Nat) (out : List Cm) (c : Cm) (l : List UInt8), l.length ≤ f → l.length ≤ g → docS N f out c l = docS N g out c l
  | 0, 0, _, _, _, _, _ => rfl
  | 0, g + 1, out, c, [], _, _ => rfl
  | f + 1, 0, out, c, [], _, _ => rfl
  | f + 1, g + 1, out, c, [], _, _ => rfl
  | f + 1, g + 1, out, c, b :: t, hf, hg => by
    simp only [List.length_cons] at hf hg
    rw [docS, docS]
    by_cases h1 : blk b = true
    · rw [if_pos h1, if_pos h1]
      exact docS_fuel N f g _ _ _ (by omega) (by omega)
    · rw [if_neg h1, if_neg h1]
      by_cases h2 : sepS.contains b = true
      · rw [if_pos h2, if_pos h2]
        exact docS_fuel N f g _ _ _ (by omega) (by omega)
      · rw [if_neg h2, if_neg h2]
        by_cases h3 : b = 35 ∧ c.words.isEmpty = true
        · rw [if_pos h3, if_pos h3, h3.1, drop_hash]
          have := drop_le notNl t
          exact docS_fuel N f g _ _ _ (by omega) (by omega)
        · rw [if_neg h3, if_neg h3]
          cases hw : wordL N (b :: t) with
          | error x => rfl
          | ok r =>
            obtain ⟨w, u⟩ := r
            have := (q_word_lt (end_of h1 h2) hw).1
            exact docS_fuel N f g _ _ _ (by omega) (by omega)
theorem q_words_le (N : Nat) : ∀ (g : Nat) (l : List UInt8) (ws : List Wd) (v : List UInt8), (∀ b, l.head? = some b → blk b = false) → wordsL N g l = .ok (ws, v) → v.length ≤ l.length ∧ (v = [] ∨ l.length ≤ g → v = [] ∨ ∃ b t, v = b :: t ∧ sepS.contains b = true)
  | 0, l, ws, v, _, h => by
    cases h
    refine ⟨Nat.le_refl _, fun h => ?_⟩
    rcases h with h | h
    · exact .inl h
    · exact .inl (List.eq_nil_of_length_eq_zero (by omega))
  | g + 1, [], ws, v, _, h => by cases h; exact ⟨Nat.le_refl _, fun _ => .inl rfl⟩
  | g + 1, c :: t, ws, v, hb, h => by
    rw [wordsL] at h
    by_cases hc : sepS.contains c = true
    · rw [if_pos hc] at h
      cases h
      exact ⟨Nat.le_refl _, fun _ => .inr ⟨c, t, rfl, hc⟩⟩
    · rw [if_neg hc] at h
      cases hw : wordL N (c :: t) with
      | error x => rw [hw] at h; cases h
      | ok r =>
        obtain ⟨w, u⟩ := r
        rw [hw] at h
        simp only at h
        cases hws : wordsL N g (u.dropWhile blk) with
        | error x => rw [hws] at h; cases h
        | ok q =>
          obtain ⟨ws', v'⟩ := q
          rw [hws] at h
          obtain rfl : v' = v := by cases h; rfl
          have hlt := (q_word_lt (end_of (by rw [hb c rfl]; simp) hc) hw).1
          have hd := drop_le blk u
          obtain ⟨i1, i2⟩ := q_words_le N g (u.dropWhile blk) ws' v' (fun b hb => by
            have := List.head?_dropWhile_not blk u
            rw [hb] at this
            simpa using this) hws
          refine ⟨by simp only [List.length_cons]; omega, fun h => i2 ?_⟩
          rcases h with h | h
          · exact .inl h
          · simp only [List.length_cons] at h
            exact .inr (by omega)
theorem over_blk {b : UInt8} {t : List UInt8} (h : blk b = true) : over (b :: t) = over t := by
  unfold over
  rw [List.dropWhile_cons_of_pos h]
theorem over_stay {b : UInt8} {t : List UInt8} (h : ¬ blk b = true) : over (b :: t) = if b = 35 then (b :: t).dropWhile notNl else b :: t := by
  unfold over overC
  rw [List.dropWhile_cons_of_neg h]
  by_cases h35 : b = 35
  · rw [if_pos (by rw [h35]; rfl), if_pos h35]
  · rw [if_neg (by simp [h35]), if_neg h35]
theorem over_le (l : List UInt8) : (over l).length ≤ l.length := by
  unfold over overC
  have h1 := drop_le blk l
  split
  · have := drop_le notNl (l.dropWhile blk)
    omega
  · exact h1
/-- Behind a word: the rest of its command. -/
theorem doc_words (N : Nat) : ∀ (n : Nat) (l : List UInt8) (f g : Nat) (out : List Cm) (p : Nat) (ws : List Wd), l.length ≤ n → l.length ≤ f → l.length ≤ g → ws ≠ [] →
    docS N f out ⟨p, ws⟩ l = (match wordsL N g (l.dropWhile blk) with
      | .error x => .error x
      | .ok (vs, v) => docS N f (out ++ [⟨p, ws ++ vs⟩]) ⟨0, []⟩ v.tail)
  | n, [], f, g, out, p, ws, _, _, _, hws => by
    have hne : ws.isEmpty = false := by cases ws with | nil => exact absurd rfl hws | cons _ _ => rfl
    cases f <;> cases g <;> simp [docS, wordsL, hne]
  | 0, c :: t, _, _, _, _, _, h, _, _, _ => by simp at h
  | n + 1, c :: t, 0, _, _, _, _, _, h, _, _ => by simp at h
  | n + 1, c :: t, f + 1, 0, _, _, _, _, _, h, _ => by simp at h
  | n + 1, c :: t, f + 1, g + 1, out, p, ws, hn, hf, hg, hws => by
    have hne : ws.isEmpty = false := by cases ws with | nil => exact absurd rfl hws | cons _ _ => rfl
    simp only [List.length_cons] at hn hf hg
    by_cases h1 : blk c = true
    · rw [docS, if_pos h1, List.dropWhile_cons_of_pos h1, doc_words N n t f (g + 1) out p ws (by omega) (by omega) (by omega) hws]
      cases hw : wordsL N (g + 1) (t.dropWhile blk) with
      | error x => rfl
      | ok r =>
        obtain ⟨vs, v⟩ := r
        have hd := drop_le blk t
        have := (q_words_le N _ _ _ _ (fun b hb => by
          have := List.head?_dropWhile_not blk t
          rw [hb] at this
          simpa using this) hw).1
        simp only
        exact docS_fuel N f (f + 1) _ _ _ (by rw [List.length_tail]; omega) (by rw [List.length_tail]; omega)
    · rw [List.dropWhile_cons_of_neg h1, docS, if_neg h1, wordsL]
      by_cases h2 : sepS.contains c = true
      · rw [if_pos h2, if_pos h2]
        simp only [hne, List.append_nil, List.tail_cons]
        exact docS_fuel N f (f + 1) _ _ _ (by omega) (by omega)
      · rw [if_neg h2, if_neg h2, if_neg (by simp [hne])]
        cases hw : wordL N (c :: t) with
        | error x => rfl
        | ok r =>
          obtain ⟨w, u⟩ := r
          have hlt := (q_word_lt (end_of h1 h2) hw).1
          simp only [hne]
          rw [show (if false = true then w.pos else p) = p from rfl, doc_words N n u f g out p (ws ++ [w]) (by omega) (by omega) (by omega) (by simp)]
          cases hws2 : wordsL N g (u.dropWhile blk) with
          | error x => rfl
          | ok q =>
            obtain ⟨vs, v⟩ := q
            have hd := drop_le blk u
            have := (q_words_le N _ _ _ _ (fun b hb => by
              have := List.head?_dropWhile_not blk u
              rw [hb] at this
              simpa using this) hws2).1
            simp only [List.append_assoc, List.singleton_append]
            exact docS_fuel N f (f + 1) _ _ _ (by rw [List.length_tail]; omega) (by rw [List.length_tail]; omega)
/-- A command, and what is behind it. -/
theorem doc_cmd (N : Nat) : ∀ (n : Nat) (l : List UInt8) (f : Nat) (out : List Cm) (q : Nat), l.length ≤ n → l.length ≤ f →
    docS N f out ⟨q, []⟩ l = (match commandL N l with
      | .error x => .error x
      | .ok (m, u) => docS N f (if m.words.isEmpty then out else out ++ [m]) ⟨0, []⟩ u)
  | n, [], f, out, q, _, _ => by
    cases f <;> simp [docS, commandL, over, overC, wordsL]
  | 0, c :: t, _, _, _, h, _ => by simp at h
  | n + 1, c :: t, 0, _, _, _, h => by simp at h
  | n + 1, c :: t, f + 1, out, q, hn, hf => by
    simp only [List.length_cons] at hn hf
    have hstep : ∀ (u : List UInt8), u.length ≤ t.length → over (c :: t) = over u → docS N (f + 1) out ⟨q, []⟩ (c :: t) = docS N f out ⟨q, []⟩ u → docS N (f + 1) out ⟨q, []⟩ (c :: t) = (match commandL N (c :: t) with
        | .error x => .error x
        | .ok (m, u) => docS N (f + 1) (if m.words.isEmpty then out else out ++ [m]) ⟨0, []⟩ u) := fun u hu ho hs => by
      rw [hs, doc_cmd N n u f out q (by omega) (by omega)]
      unfold commandL
      rw [ho]
      cases hw : wordsL N (over u).length (over u) with
      | error x => rfl
      | ok r =>
        obtain ⟨vs, v⟩ := r
        have hv : v.length ≤ (over u).length := by
          by_cases hh : ∀ b, (over u).head? = some b → blk b = false
          · exact (q_words_le N _ _ _ _ hh hw).1
          · exfalso
            apply hh
            intro b hb
            unfold over overC at hb
            split at hb
            · have h1 := List.head?_dropWhile_not notNl (u.dropWhile blk)
              rw [hb] at h1
              have h2 : notNl b = false := by simpa using h1
              have h3 : b = 10 := by simpa [notNl] using h2
              rw [h3]
              decide
            · have h1 := List.head?_dropWhile_not blk u
              rw [hb] at h1
              simpa using h1
        have := over_le u
        simp only
        exact docS_fuel N f (f + 1) _ _ _ (by rw [List.length_tail]; omega) (by rw [List.length_tail]; omega)
    by_cases h1 : blk c = true
    · exact hstep t (Nat.le_refl _) (over_blk h1) (by rw [docS, if_pos h1])
    · by_cases h2 : sepS.contains c = true
      · have h35 : ¬ c = 35 := by
          rintro rfl
          exact absurd h2 (by decide)
        rw [docS, if_neg h1, if_pos h2]
        unfold commandL
        rw [over_stay h1, if_neg h35, List.length_cons, wordsL, if_pos h2]
        simp only [List.isEmpty_nil, if_true, List.tail_cons]
        exact docS_fuel N f (f + 1) _ _ _ (by omega) (by omega)
      · by_cases h35 : c = 35
        · subst h35
          have hd := drop_le notNl t
          refine hstep (t.dropWhile notNl) hd ?_ ?_
          · rw [over_stay h1, if_pos rfl, drop_hash]
            cases hx : t.dropWhile notNl with
            | nil => rfl
            | cons b r =>
              have hh := List.head?_dropWhile_not notNl t
              rw [hx] at hh
              have h3 : b = 10 := by simpa [notNl] using hh
              subst h3
              rw [over_stay (by decide), if_neg (by decide)]
          · rw [docS, if_neg h1, if_neg h2, if_pos ⟨rfl, rfl⟩, drop_hash]
        · rw [docS, if_neg h1, if_neg h2, if_neg (fun h => h35 h.1)]
          unfold commandL
          rw [over_stay h1, if_neg h35, List.length_cons, wordsL, if_neg h2]
          cases hw : wordL N (c :: t) with
          | error x => rfl
          | ok r =>
            obtain ⟨w, u⟩ := r
            obtain ⟨hlt, hp⟩ := q_word_lt (end_of h1 h2) hw
            simp only [List.isEmpty_nil, if_true, List.nil_append]
            rw [doc_words N n u f t.length out w.pos [w] (by omega) (by omega) (by omega) (by simp), hp]
            cases hws2 : wordsL N t.length (u.dropWhile blk) with
            | error x => rfl
            | ok q =>
              obtain ⟨vs, v⟩ := q
              have hd := drop_le blk u
              have := (q_words_le N _ _ _ _ (fun b hb => by
                have := List.head?_dropWhile_not blk u
                rw [hb] at this
                simpa using this) hws2).1
              simp only [List.singleton_append, List.isEmpty_cons]
              exact docS_fuel N f (f + 1) _ _ _ (by rw [List.length_tail]; omega) (by rw [List.length_tail]; omega)
theorem head_over (l : List UInt8) : ∀ b, (over l).head? = some b → blk b = false := by
  intro b hb
  unfold over overC at hb
  split at hb
  · have h1 := List.head?_dropWhile_not notNl (l.dropWhile blk)
    rw [hb] at h1
    have h3 : b = 10 := by simpa [notNl] using h1
    rw [h3]
    decide
  · have h1 := List.head?_dropWhile_not blk l
    rw [hb] at h1
    simpa using h1
theorem cmd_lt {N : Nat} {l u : List UInt8} {m : Cm} (hl : l ≠ []) (h : commandL N l = .ok (m, u)) : u.length < l.length := by
  unfold commandL at h
  cases hw : wordsL N (over l).length (over l) with
  | error x => rw [hw] at h; cases h
  | ok r =>
    obtain ⟨ws, v⟩ := r
    rw [hw] at h
    cases h
    have h1 := (q_words_le N _ _ _ _ (head_over l) hw).1
    have h2 := over_le l
    have h3 : 0 < l.length := List.length_pos_iff.2 hl
    rw [List.length_tail]
    omega
/-- The document's scanner is the program's. -/
theorem doc_scan (N : Nat) : ∀ (n : Nat) (l : List UInt8) (f g : Nat) (out : List Cm), l.length ≤ n → l.length ≤ f → l.length ≤ g →
    docS N f out ⟨0, []⟩ l = (match scanW (commandL N) g l with
      | .error x => .error x
      | .ok ms => .ok (out ++ ms))
  | n, [], f, g, out, _, _, _ => by
    cases f <;> cases g <;> simp [docS, scanW]
  | 0, c :: t, _, _, _, h, _, _ => by simp at h
  | n + 1, c :: t, 0, _, _, _, h, _ => by simp at h
  | n + 1, c :: t, f + 1, 0, _, _, _, h => by simp at h
  | n + 1, c :: t, f + 1, g + 1, out, hn, hf, hg => by
    simp only [List.length_cons] at hn hf hg
    rw [doc_cmd N (n + 1) (c :: t) (f + 1) out 0 (by simpa using hn) (by simpa using hf), scanW]
    cases hc : commandL N (c :: t) with
    | error x => rfl
    | ok r =>
      obtain ⟨m, u⟩ := r
      have hlt := cmd_lt (by simp) hc
      simp only [List.length_cons] at hlt
      simp only
      rw [doc_scan N n u (f + 1) g _ (by omega) (by omega) (by omega)]
      cases scanW (commandL N) g u with
      | error x => rfl
      | ok ms =>
        cases m.words.isEmpty <;> simp
theorem doc_all (l : List UInt8) (f : Nat) (hf : l.length ≤ f) : docS l.length f [] ⟨0, []⟩ l = scanL l := by
  rw [doc_scan l.length l.length l f l.length [] (Nat.le_refl _) hf (Nat.le_refl _)]
  unfold scanL
  cases scanW (commandL l.length) l.length l <;> simp
end Go.Proofs.YtlihkblllakhmaaGreatDoor
