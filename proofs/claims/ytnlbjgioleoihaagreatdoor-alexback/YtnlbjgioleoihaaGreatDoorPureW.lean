/- Plain: which parts a word that is read has; how long they are when printed. -/
import Derived.Test.YtnlbjgioleoihaaGreatDoorPureV
namespace Go.Proofs.YtnlbjgioleoihaaGreatDoor

/-- A part that may be read. -/
inductive GP : Pt → Prop
  | txt (a : Nat) (s : List UInt8) (h : s ≠ []) (hl : liv s = s) : GP ⟨1, a, 0, false, s⟩
  | dead (a : Nat) (s : List UInt8) : GP ⟨2, a, 0, false, s⟩
  | star (a : Nat) (q : Bool) : GP ⟨3, a, 0, q, [42]⟩
  | var (a : Nat) (q : Bool) (s : List UInt8) (h : nameB s = true) : GP ⟨3, a, 0, q, s⟩
  | sub (a : Nat) (q : Bool) (s : List UInt8) (h : ∀ (g : Nat) (v : List UInt8), (s ++ 41 :: v).length < g → pass g 1 (s ++ 41 :: v) = some v) : GP ⟨4, a, 0, q, s⟩
  | num (a n : Nat) (q : Bool) (h1 : 1 ≤ n) (h9 : n ≤ 9) : GP ⟨5, a, n, q, []⟩
  | many (a : Nat) (q : Bool) : GP ⟨6, a, 0, q, []⟩
theorem GP.quo {p : Pt} (h : GP p) (h3 : 3 ≤ p.kind) : GP (quo p) := by
  cases h with
  | txt a s => simp at h3
  | dead a s => simp at h3
  | star a q => exact .star a true
  | var a q s h => exact .var a true s h
  | sub a q s h => exact .sub a true s h
  | num a n q h1 h9 => exact .num a n true h1 h9
  | many a q => exact .many a true
theorem nameB_ne {s : List UInt8} (h : nameB s = true) : s ≠ [42] ∧ 1 ≤ s.length := by
  cases s with
  | nil => cases h
  | cons c t =>
    refine ⟨fun e => ?_, by simp⟩
    rw [e] at h
    exact absurd h (by decide)
theorem prDol_var {a : Nat} {q : Bool} {s : List UInt8} (h : nameB s = true) : prDol ⟨3, a, 0, q, s⟩ = 36 :: 123 :: (s ++ [125]) := by
  unfold prDol
  rw [if_pos rfl, if_neg (nameB_ne h).1]
theorem cnts_num {c : UInt8} (h : cnts c = true) : 1 ≤ c.toNat - 48 ∧ c.toNat - 48 ≤ 9 ∧ UInt8.ofNat (48 + (c.toNat - 48)) = c := by
  unfold cnts at h
  rw [Bool.and_eq_true, decide_eq_true_eq, decide_eq_true_eq] at h
  refine ⟨by omega, by omega, ?_⟩
  rw [show 48 + (c.toNat - 48) = c.toNat by omega]
  exact UInt8.ofNat_toNat
theorem nrun_le (l : List UInt8) : (nrun l).length ≤ l.length := by
  cases l with
  | nil => simp [nrun]
  | cons c t =>
    rw [nrun]
    split
    · exact (List.takeWhile_prefix _).length_le
    · simp
theorem tw_le (q : UInt8 → Bool) (l : List UInt8) : (l.takeWhile q).length ≤ l.length := (List.takeWhile_prefix _).length_le
theorem dollar_good {N : Nat} {l : List UInt8} {p : Pt} {u : List UInt8} (h : dollar N l = .ok (p, u)) :
    GP p ∧ p.quoted = false ∧ 3 ≤ p.kind ∧ (prDol p).length + 4 * u.length + 4 ≤ 4 * l.length := by
  have hv : ∀ (p0 : Nat) (nm w : List UInt8), varR p0 nm w = .ok (p, u) → nm.length + 1 + w.length ≤ l.length → GP p ∧ p.quoted = false ∧ 3 ≤ p.kind ∧ (prDol p).length + 4 * u.length + 4 ≤ 4 * l.length := fun p0 nm w hw hl => by
    obtain ⟨rfl, rfl, h3⟩ := varR_ok hw
    refine ⟨.var _ _ _ h3, rfl, by simp, ?_⟩
    rw [prDol_var h3]
    have := (nameB_ne h3).2
    simp only [List.length_cons, List.length_append, List.length_nil]
    omega
  match l, h with
  | [], h => cases h
  | [_], h => cases h
  | a :: c :: t, h =>
    rw [dollar] at h
    split at h
    · split at h
      · cases h
      · rename_i w hp
        cases h
        obtain ⟨s, h1, h2⟩ := pass_back _ _ _ _ hp
        have e : t.take (t.length - u.length - 1) = s := by
          rw [h1]
          exact take_at s u _
        rw [e]
        refine ⟨.sub _ _ _ h2, rfl, by simp, ?_⟩
        have hl := congrArg List.length h1
        simp only [List.length_append, List.length_cons] at hl
        show (36 :: 40 :: (s ++ [41]) : List UInt8).length + 4 * u.length + 4 ≤ _
        simp only [List.length_cons, List.length_append, List.length_nil]
        omega
    · split at h
      · split at h
        · rename_i hlt
          refine hv _ _ _ h ?_
          rw [List.length_drop]
          simp only [List.length_cons]
          omega
        · cases h
      · split at h
        · cases h
          refine ⟨.star _ _, rfl, by simp, ?_⟩
          show 2 + 4 * u.length + 4 ≤ 4 * (u.length + 1 + 1)
          omega
        · split at h
          · cases h
            refine ⟨.many _ _, rfl, by simp, ?_⟩
            show 2 + 4 * u.length + 4 ≤ 4 * (u.length + 1 + 1)
            omega
          · split at h
            · rename_i hc
              cases h
              obtain ⟨n1, n2, _⟩ := cnts_num hc
              refine ⟨.num _ _ _ n1 n2, rfl, by simp, ?_⟩
              show 2 + 4 * u.length + 4 ≤ 4 * (u.length + 1 + 1)
              omega
            · refine hv _ _ _ h ?_
              have := nrun_le (c :: t)
              rw [List.length_drop]
              simp only [List.length_cons] at this ⊢
              omega
theorem prPt_quo {p : Pt} (h3 : 3 ≤ p.kind) : (prPt (quo p)).length ≤ (prDol p).length + 2 := by
  have e : prDol (quo p) = prDol p := rfl
  unfold prPt
  rw [if_neg (by show ¬ p.kind = 1; omega), if_neg (by show ¬ p.kind = 2; omega), e]
  split
  · simp only [List.length_cons, List.length_append, List.length_nil]; omega
  · omega
theorem prPt_dol {p : Pt} (h3 : 3 ≤ p.kind) (hq : p.quoted = false) : prPt p = prDol p := by
  unfold prPt
  rw [if_neg (by omega), if_neg (by omega), hq]
  rfl
theorem prPt_dead (a : Nat) (s : List UInt8) : prPt ⟨2, a, 0, false, s⟩ = 39 :: (escS s ++ [39]) := rfl
theorem prDead_len (a : Nat) (s : List UInt8) : (prPt ⟨2, a, 0, false, s⟩).length ≤ 4 * s.length + 2 := by
  rw [prPt_dead]
  have := escS_len s
  simp only [List.length_cons, List.length_append, List.length_nil]
  omega
/-- Where dead text between double quotes ends. -/
def stopD (l : List UInt8) : Prop := ∀ c t, l = c :: t → c = 34 ∨ dolB (c :: t) = true
theorem dByte_len2 (l : List UInt8) : (dByte l).1.length ≤ (dByte l).2 ∧ (dByte l).2 ≤ l.length := by
  unfold dByte
  split
  · simp
  · split
    · split
      · simp
      · split <;> simp
    · simp
theorem dead_good : ∀ (f : Nat) (l : List UInt8), l.length ≤ f → (dead f l).1.length + (dead f l).2.length ≤ l.length ∧ stopD (dead f l).2
  | 0, l, h => by
    obtain rfl := List.eq_nil_of_length_eq_zero (Nat.le_zero.1 h)
    exact ⟨Nat.le_refl _, fun c t e => by cases e⟩
  | f + 1, [], _ => ⟨Nat.le_refl _, fun c t e => by cases e⟩
  | f + 1, c :: t, h => by
    rw [dead]
    split
    · rename_i hc
      refine ⟨by simp, fun d r e => ?_⟩
      obtain ⟨rfl, rfl⟩ := List.cons.inj e
      exact hc
    · have h1 := dByte_ge (c :: t) (by simp)
      have h2 := dByte_len2 (c :: t)
      have ih := dead_good f ((c :: t).drop (dByte (c :: t)).2) (by rw [List.length_drop]; omega)
      refine ⟨?_, ih.2⟩
      have h3 := ih.1
      rw [List.length_drop] at h3
      simp only [List.length_append]
      omega
theorem dbl_good {N a : Nat} : ∀ (f : Nat) (l : List UInt8) (ps : List Pt) (v : List UInt8), dbl N a f l = .ok (ps, v) →
    (∀ p ∈ ps, GP p ∧ p.kind ≠ 1) ∧ (prW ps).length + 4 * v.length + 2 ≤ 4 * l.length ∧ (stopD l → (prW ps).length + 4 * v.length + 4 ≤ 4 * l.length) := by
  intro f
  induction f with
  | zero => intro l ps v h; cases h
  | succ f ih =>
    intro l ps v h
    cases l with
    | nil => cases h
    | cons c t =>
      rw [dbl] at h
      split at h
      · cases h
        have : (prW []).length = 0 := rfl
        refine ⟨by simp, ?_, fun _ => ?_⟩ <;> simp only [List.length_cons] <;> omega
      · rename_i hc
        cases hq : quoted N (c :: t) with
        | error e => rw [hq] at h; cases h
        | ok r =>
          obtain ⟨p, u⟩ := r
          rw [hq] at h
          simp only at h
          cases hd : dbl N a f u with
          | error e => rw [hd] at h; cases h
          | ok r2 =>
            obtain ⟨qs, w⟩ := r2
            rw [hd] at h
            cases h
            obtain ⟨i1, i2, i3⟩ := ih u qs v hd
            unfold quoted at hq
            split at hq
            · cases hdl : dollar N (c :: t) with
              | error e => rw [hdl] at hq; cases hq
              | ok r3 =>
                obtain ⟨p0, u0⟩ := r3
                rw [hdl] at hq
                cases hq
                obtain ⟨d1, d2, d3, d4⟩ := dollar_good hdl
                have d5 := prPt_quo d3
                have hk : (prW (quo p0 :: qs)).length = (prPt (quo p0)).length + (prW qs).length := by rw [prW, List.length_append]
                refine ⟨fun p hp => ?_, by omega, fun _ => by omega⟩
                rcases List.mem_cons.1 hp with rfl | hp
                · exact ⟨d1.quo d3, by show p0.kind ≠ 1; omega⟩
                · exact i1 p hp
            · rename_i hdn
              cases hq
              obtain ⟨g1, g2⟩ := dead_good _ (c :: t) (Nat.le_refl _)
              have g3 := i3 g2
              have g4 := prDead_len (N - (c :: t).length) (dead (c :: t).length (c :: t)).1
              refine ⟨fun p hp => ?_, ?_, fun hs => ?_⟩
              · rcases List.mem_cons.1 hp with rfl | hp
                · exact ⟨.dead _ _, by simp⟩
                · exact i1 p hp
              · rw [prW, List.length_append]
                omega
              · rcases hs c t rfl with e | e
                · exact absurd e hc
                · exact absurd e hdn
/-- Where living text ends. -/
def stopL (l : List UInt8) : Prop := ∀ c t, l = c :: t → tEnd c = true ∨ dolB (c :: t) = true
theorem liv_stop : ∀ l : List UInt8, stopL (l.drop (liv l).length)
  | [] => fun c t e => by cases e
  | c :: t => by
    rw [liv]
    by_cases hc : (tEnd c || dolB (c :: t)) = true
    · rw [if_pos hc]
      intro d r e
      obtain ⟨rfl, rfl⟩ := List.cons.inj e
      simpa using hc
    · rw [if_neg hc]
      exact liv_stop t
theorem parts_good {N : Nat} {c : UInt8} {t : List UInt8} {ps : List Pt} {u : List UInt8} (hw : wEnd c = false) (h : parts N c t = .ok (ps, u)) :
    (∀ p ∈ ps, GP p) ∧ ps ≠ [] ∧ (prW ps).length + 4 * u.length + 1 ≤ 4 * (t.length + 1) ∧
      ((stopL u ∧ ∃ a s, ps = [⟨1, a, 0, false, c :: s⟩]) ∧ ¬ (tEnd c = true ∨ dolB (c :: t) = true) ∨ ∀ p ∈ ps, p.kind ≠ 1) := by
  rw [parts.eq_def] at h
  split at h
  · cases h
    refine ⟨by simp; exact .dead _ _, by simp, ?_, .inr (by simp)⟩
    rw [prW, List.length_append, show (prW []).length = 0 from rfl]
    cases t with
    | nil =>
      have : (prPt ⟨2, N - (([] : List UInt8).length + 1), 0, false, [92]⟩).length = 3 := rfl
      simp only [List.tail_nil, List.length_nil] at this ⊢
      omega
    | cons d t =>
      have := prDead_len (N - ((d :: t).length + 1)) [d]
      simp only [List.length_cons, List.length_nil, List.tail_cons] at this ⊢
      omega
  · split at h
    · cases hp : pSing t with
      | none => rw [hp] at h; cases h
      | some w =>
        rw [hp] at h
        cases h
        obtain ⟨a, h1, h2⟩ := pSing_split t u hp
        have e : t.take (t.length - u.length - 1) = a := by
          rw [h1]
          exact take_at a u _
        rw [e]
        refine ⟨by simp; exact .dead _ _, by simp, ?_, .inr (by simp)⟩
        have := prDead_len (N - (t.length + 1)) a
        have hl := congrArg List.length h1
        simp only [List.length_append, List.length_cons] at hl
        rw [prW, List.length_append, show (prW []).length = 0 from rfl]
        omega
    · rename_i h92 h39
      split at h
      · cases hd : dbl N (N - (t.length + 1)) (t.length + 1) (dead t.length t).2 with
        | error e => rw [hd] at h; cases h
        | ok r =>
          obtain ⟨qs, w⟩ := r
          rw [hd] at h
          cases h
          obtain ⟨i1, i2, i3⟩ := dbl_good _ _ _ _ hd
          obtain ⟨g1, g2⟩ := dead_good t.length t (Nat.le_refl _)
          have g3 := i3 g2
          have g4 := prDead_len (N - (t.length + 1)) (dead t.length t).1
          refine ⟨fun p hp => ?_, by simp, ?_, .inr (fun p hp => ?_)⟩
          · rcases List.mem_cons.1 hp with rfl | hp
            · exact .dead _ _
            · exact (i1 p hp).1
          · rw [prW, List.length_append]
            omega
          · rcases List.mem_cons.1 hp with rfl | hp
            · simp
            · exact (i1 p hp).2
      · rename_i h34
        split at h
        · cases hd : dollar N (c :: t) with
          | error e => rw [hd] at h; cases h
          | ok r =>
            obtain ⟨p, w⟩ := r
            rw [hd] at h
            cases h
            obtain ⟨d1, d2, d3, d4⟩ := dollar_good hd
            refine ⟨by simpa using d1, by simp, ?_, .inr (by simp; omega)⟩
            rw [prW, List.length_append, show (prW []).length = 0 from rfl, prPt_dol d3 d2]
            simp only [List.length_cons] at d4
            omega
        · rename_i hdn
          cases h
          have ht := tEnd_of hw h92 h39 h34
          have el : liv (c :: t) = c :: liv t := by rw [liv, if_neg (by simp [ht]; simpa using hdn)]
          have hb := liv_back (c :: t) [] (.inl rfl)
          rw [List.append_nil] at hb
          have hl : (liv (c :: t)).length ≤ (c :: t).length := liv_len _
          refine ⟨by simp; exact .txt _ _ (by rw [el]; simp) hb, by simp, ?_, .inl ⟨⟨liv_stop _, _, liv t, by rw [el]⟩, ?_⟩⟩
          · rw [prW, List.length_append, show (prW []).length = 0 from rfl, List.length_drop]
            show (liv (c :: t)).length + 0 + _ + 1 ≤ _
            rw [el] at hl ⊢
            simp only [List.length_cons] at hl ⊢
            omega
          · rintro (e | e)
            · rw [ht] at e; cases e
            · exact hdn e
/-- The parts of a word that is read: no two living texts one behind the other. -/
inductive GW : List Pt → Prop
  | nil : GW []
  | cons {p : Pt} {ps : List Pt} (h : GP p) (h2 : p.kind = 1 → ∀ q, ps.head? = some q → q.kind ≠ 1) (h3 : GW ps) : GW (p :: ps)
theorem GW.app : ∀ {a b : List Pt}, (∀ p ∈ a, GP p ∧ p.kind ≠ 1) → GW b → GW (a ++ b)
  | [], b, _, hb => hb
  | p :: a, b, h, hb => by
    have := h p List.mem_cons_self
    exact .cons this.1 (fun e => absurd e this.2) (GW.app (fun q hq => h q (List.mem_cons_of_mem _ hq)) hb)
theorem word_good {N : Nat} : ∀ (f : Nat) (l : List UInt8) (ps : List Pt) (u : List UInt8), word N f l = .ok (ps, u) →
    GW ps ∧ (stopL l → ∀ q, ps.head? = some q → q.kind ≠ 1) ∧ (prW ps).length + 4 * u.length ≤ 4 * l.length ∧
      (∀ c t, l = c :: t → wEnd c = false → 1 ≤ f → (prW ps).length + 4 * u.length + 1 ≤ 4 * l.length ∧ ∃ p r, ps = p :: r ∧ (p.kind = 1 → ∃ s, p.s = c :: s)) := by
  intro f
  induction f with
  | zero =>
    intro l ps u h
    cases h
    exact ⟨.nil, (fun _ q e => by cases e), (by rw [show (prW []).length = 0 from rfl]; omega), (fun _ _ _ _ e => by omega)⟩
  | succ f ih =>
    intro l ps u h
    cases l with
    | nil => cases h; exact ⟨.nil, (fun _ q e => by cases e), (by rw [show (prW []).length = 0 from rfl]; omega), (fun _ _ e => by cases e)⟩
    | cons c t =>
      cases hw : wEnd c with
      | true =>
        rw [word_end _ _ _ (.inr ⟨c, t, rfl, hw⟩)] at h
        cases h
        exact ⟨.nil, (fun _ q e => by cases e), (by rw [show (prW []).length = 0 from rfl]; omega), (fun c' t' e hc => by cases e; rw [hw] at hc; cases hc)⟩
      | false =>
        cases hp : parts N c t with
        | error e => rw [word_err _ _ _ _ hw e hp] at h; cases h
        | ok r =>
          obtain ⟨qs, v⟩ := r
          rw [word_ok _ _ _ _ hw qs v hp] at h
          cases hv : word N f v with
          | error e => rw [hv] at h; cases h
          | ok r2 =>
            obtain ⟨q2, u2⟩ := r2
            rw [hv] at h
            cases h
            obtain ⟨g1, g2, g3, _⟩ := ih v q2 u2 hv
            obtain ⟨a1, a2, a3, a4⟩ := parts_good hw hp
            have hlen : (prW (qs ++ q2)).length + 4 * u2.length + 1 ≤ 4 * (c :: t).length := by
              rw [prW_app, List.length_append, List.length_cons]
              omega
            have hne : ∃ p r, qs ++ q2 = p :: r ∧ p ∈ qs := by
              cases qs with
              | nil => exact absurd rfl a2
              | cons p r => exact ⟨p, r ++ q2, rfl, List.mem_cons_self⟩
            obtain ⟨p, r, e1, e2⟩ := hne
            rcases a4 with ⟨⟨b1, a, s, rfl⟩, b2⟩ | b1
            · refine ⟨.cons (a1 _ List.mem_cons_self) (fun _ q hq => g2 b1 q hq) g1, fun hs => absurd (hs c t rfl) b2, Nat.le_of_succ_le hlen, fun c' t' e _ _ => ?_⟩
              cases e
              exact ⟨hlen, _, _, rfl, fun _ => ⟨s, rfl⟩⟩
            · refine ⟨GW.app (fun p hp => ⟨a1 p hp, b1 p hp⟩) g1, fun _ q hq => ?_, Nat.le_of_succ_le hlen, fun c' t' e _ _ => ⟨hlen, p, r, e1, fun e => absurd e (b1 p e2)⟩⟩
              rw [e1] at hq
              cases hq
              exact b1 p e2
end Go.Proofs.YtnlbjgioleoihaaGreatDoor
