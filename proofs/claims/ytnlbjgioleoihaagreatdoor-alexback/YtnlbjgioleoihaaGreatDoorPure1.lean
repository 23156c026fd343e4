/- How far what is read goes: plain facts. -/
import Derived.Test.YtnlbjgioleoihaaGreatDoorPlain
namespace Go.Proofs.YtnlbjgioleoihaaGreatDoor

theorem pSing_lt : ∀ (l u : List UInt8), pSing l = some u → u.length < l.length
  | [], u, h => by cases h
  | c :: t, u, h => by
    rw [pSing] at h
    split at h
    · cases h; simp
    · have := pSing_lt t u h; simp; omega
theorem pass_lt : ∀ (f k : Nat) (l u : List UInt8), pass f k l = some u → u.length < l.length := by
  intro f
  induction f with
  | zero => intro k l u h; cases k <;> cases h
  | succ f ih =>
    intro k l u h
    cases l with
    | nil => cases k <;> cases h
    | cons c t =>
      have ht : t.tail.length ≤ t.length := by rw [List.length_tail]; omega
      cases k with
      | zero =>
        have e : pass (f + 1) 0 (c :: t) = if c = 34 then some t else if c = 92 then pass f 0 t.tail else if c = 36 ∧ t.head? = some 40 then (pass f 1 t.tail).bind (pass f 0) else pass f 0 t := rfl
        rw [e] at h
        rw [List.length_cons]
        split at h
        · cases h; omega
        · split at h
          · have := ih _ _ _ h; omega
          · split at h
            · cases h1 : pass f 1 t.tail with
              | none => rw [h1] at h; cases h
              | some v =>
                rw [h1] at h
                have a := ih _ _ _ h1
                have b := ih _ _ _ h
                omega
            · have := ih _ _ _ h; omega
      | succ k =>
        have e : pass (f + 1) (k + 1) (c :: t) = if c = 92 then pass f (k + 1) t.tail else if c = 39 then (pSing t).bind (pass f (k + 1)) else if c = 34 then (pass f 0 t).bind (pass f (k + 1)) else if c = 40 then pass f (k + 2) t else if c = 41 then (if k = 0 then some t else pass f k t) else pass f (k + 1) t := rfl
        rw [e] at h
        rw [List.length_cons]
        split at h
        · have := ih _ _ _ h; omega
        · split at h
          · cases h1 : pSing t with
            | none => rw [h1] at h; cases h
            | some v =>
              rw [h1] at h
              have a := pSing_lt _ _ h1
              have b := ih _ _ _ h
              omega
          · split at h
            · cases h1 : pass f 0 t with
              | none => rw [h1] at h; cases h
              | some v =>
                rw [h1] at h
                have a := ih _ _ _ h1
                have b := ih _ _ _ h
                omega
            · split at h
              · have := ih _ _ _ h; omega
              · split at h
                · split at h
                  · cases h; omega
                  · have := ih _ _ _ h; omega
                · have := ih _ _ _ h; omega
theorem varR_ok {p : Nat} {nm u : List UInt8} {q : Pt} {v : List UInt8} (h : varR p nm u = .ok (q, v)) : q = ⟨3, p, 0, false, nm⟩ ∧ v = u ∧ nameB nm = true := by
  unfold varR at h
  split at h
  · rename_i hn
    cases h
    exact ⟨rfl, rfl, hn⟩
  · cases h
theorem varR_err {p : Nat} {nm u : List UInt8} {e : Er} (h : varR p nm u = .error e) : e = ⟨0, p⟩ := by
  unfold varR at h
  split at h
  · cases h
  · cases h; rfl
/-- A dollar's part lies where the dollar does, and takes bytes. -/
theorem dollar_ok {N : Nat} {l : List UInt8} {q : Pt} {v : List UInt8} (h : dollar N l = .ok (q, v)) : q.pos = N - l.length ∧ v.length < l.length := by
  match l with
  | [] => cases h
  | [_] => cases h
  | a :: c :: t =>
    unfold dollar at h
    simp only [List.length_cons] at h ⊢
    split at h
    · split at h
      · cases h
      · rename_i u hu
        have := pass_lt _ _ _ _ hu
        cases h
        exact ⟨rfl, by omega⟩
    · split at h
      · split at h
        · obtain ⟨rfl, rfl, _⟩ := varR_ok h
          exact ⟨rfl, by rw [List.length_drop]; omega⟩
        · cases h
      · split at h
        · cases h; exact ⟨rfl, by omega⟩
        · split at h
          · cases h; exact ⟨rfl, by omega⟩
          · split at h
            · cases h; exact ⟨rfl, by omega⟩
            · obtain ⟨rfl, rfl, _⟩ := varR_ok h
              exact ⟨rfl, by rw [List.length_drop, List.length_cons]; omega⟩
theorem dollar_err {N : Nat} {l : List UInt8} {e : Er} (h : dollar N l = .error e) (hl : 2 ≤ l.length) : e.pos = N - l.length := by
  match l with
  | [] => simp at hl
  | [_] => simp at hl
  | a :: c :: t =>
    unfold dollar at h
    simp only [List.length_cons] at h ⊢
    split at h
    · split at h
      · cases h; rfl
      · cases h
    · split at h
      · split at h
        · rw [varR_err h]
        · cases h; rfl
      · split at h
        · cases h
        · split at h
          · cases h
          · split at h
            · cases h
            · rw [varR_err h]
theorem dByte_ge (l : List UInt8) (h : l ≠ []) : 1 ≤ (dByte l).2 := by
  unfold dByte
  cases l with
  | nil => exact absurd rfl h
  | cons c t =>
    simp only
    split
    · cases t with
      | nil => simp
      | cons d t =>
        simp only
        split <;> simp
    · simp
theorem dead_le : ∀ (f : Nat) (l : List UInt8), (dead f l).2.length ≤ l.length := by
  intro f
  induction f with
  | zero => intro l; exact Nat.le_refl _
  | succ f ih =>
    intro l
    cases l with
    | nil => exact Nat.le_refl _
    | cons c t =>
      rw [dead]
      split
      · exact Nat.le_refl _
      · have := ih ((c :: t).drop (dByte (c :: t)).2)
        rw [List.length_drop] at this
        simp only
        omega
theorem dead_lt (f : Nat) (c : UInt8) (t : List UInt8) (h : ¬ (c = 34 ∨ dolB (c :: t) = true)) : (dead (f + 1) (c :: t)).2.length < (c :: t).length := by
  rw [dead, if_neg h]
  have a := dead_le f ((c :: t).drop (dByte (c :: t)).2)
  have b := dByte_ge (c :: t) (by simp)
  rw [List.length_drop] at a
  simp only [List.length_cons] at a ⊢
  omega
theorem quoted_ok {N : Nat} {c : UInt8} {t : List UInt8} {q : Pt} {v : List UInt8} (hc : c ≠ 34) (h : quoted N (c :: t) = .ok (q, v)) : q.pos = N - (c :: t).length ∧ v.length < (c :: t).length := by
  unfold quoted at h
  split at h
  · cases hd : dollar N (c :: t) with
    | error e => rw [hd] at h; cases h
    | ok r =>
      obtain ⟨p, u⟩ := r
      rw [hd] at h
      cases h
      have := dollar_ok hd
      exact ⟨this.1, this.2⟩
  · rename_i hd
    cases h
    exact ⟨rfl, dead_lt t.length c t (fun e => e.elim hc hd)⟩
theorem dolB_len {l : List UInt8} (h : dolB l = true) : 2 ≤ l.length := by
  match l with
  | [] => cases h
  | [_] => cases h
  | _ :: _ :: _ => simp
theorem quoted_err {N : Nat} {l : List UInt8} {e : Er} (h : quoted N l = .error e) : e.pos = N - l.length ∧ 2 ≤ l.length := by
  unfold quoted at h
  split at h
  · rename_i hdl
    cases hd : dollar N l with
    | error e' => rw [hd] at h; cases h; exact ⟨dollar_err hd (dolB_len hdl), dolB_len hdl⟩
    | ok r =>
      obtain ⟨p, u⟩ := r
      rw [hd] at h
      cases h
  · cases h
end Go.Proofs.YtnlbjgioleoihaaGreatDoor
