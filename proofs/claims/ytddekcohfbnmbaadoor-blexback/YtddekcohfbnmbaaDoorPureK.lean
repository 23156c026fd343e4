/- Plain: what is printed is read back. -/
import Derived.Test.YtddekcohfbnmbaaDoorPureP
import Derived.Test.YtddekcohfbnmbaaDoorPureC
import Derived.Test.YtddekcohfbnmbaaDoorPureO
import Derived.Test.YtddekcohfbnmbaaDoorRd9
namespace Go.Proofs.YtddekcohfbnmbaaDoor

/-- A token as it is written. -/
def prB (t : Tb) : List UInt8 :=
  if t.kind = 18 then t.s
  else if t.kind = 19 then 39 :: (quo t.s ++ [39])
  else if t.kind = 20 then 36 :: t.s
  else if t.kind = 21 then 36 :: 35 :: t.s
  else if t.kind = 22 then 36 :: 34 :: t.s
  else if t.kind = 23 then [36, UInt8.ofNat (48 + t.n)]
  else sgn t.kind
/-- Tokens behind a first one; all of them. -/
def prR : List Tb → List UInt8
  | [] => []
  | t :: ts => (if t.glue then [] else [32]) ++ (prB t ++ prR ts)
def prL : List Tb → List UInt8
  | [] => []
  | t :: ts => prB t ++ prR ts
/-- The second is as the first, up to where it has a space or both end. -/
inductive Sim : List UInt8 → List UInt8 → Prop
  | nil : Sim [] []
  | sp (u x : List UInt8) : Sim u (32 :: x)
  | cons (c : UInt8) {u v : List UInt8} (h : Sim u v) : Sim (c :: u) (c :: v)
theorem Sim.app {u v : List UInt8} (h : Sim u v) : ∀ x : List UInt8, Sim (x ++ u) (x ++ v)
  | [] => h
  | c :: x => Sim.cons c (Sim.app h x)
theorem Sim.pre {m n : List UInt8} (h : Sim m n) : ∀ p : List UInt8, 32 ∉ p → p.isPrefixOf n = true → p.isPrefixOf m = true := by
  induction h with
  | nil => intro p _ h; exact h
  | sp u x =>
    intro p hp h
    cases p with
    | nil => cases u <;> rfl
    | cons a p =>
      rw [List.isPrefixOf, Bool.and_eq_true, beq_iff_eq] at h
      exact absurd (by rw [h.1]; exact List.mem_cons_self) hp
  | cons c h ih =>
    intro p hp h'
    cases p with
    | nil => rfl
    | cons a p =>
      rw [List.isPrefixOf, Bool.and_eq_true] at h' ⊢
      exact ⟨h'.1, ih p (fun e => hp (List.mem_cons_of_mem _ e)) h'.2⟩
theorem Sim.not {q : UInt8 → Bool} {u v : List UInt8} (h : Sim u v) (h32 : q 32 = false) (hu : ∀ c, u.head? = some c → q c = false) : ∀ c, v.head? = some c → q c = false := by
  cases h with
  | nil => intro c h; cases h
  | sp x => intro c h; cases h; exact h32
  | cons c h => intro d hd; exact hu d hd
theorem sgn_no32 : ∀ k, 32 ∉ sgn k := by
  intro k
  unfold sgn
  split <;> decide
theorem sgn_inj : ∀ k, k < 18 → ∀ j, j < 18 → sgn k = sgn j → k = j := by decide
theorem best_sim {m n : List UInt8} (h : Sim m n) {k : Nat} (hk : best 18 m = k) (hp : (sgn k).isPrefixOf n = true) : best 18 n = k := by
  have hk18 : k < 18 := by rw [← hk]; exact best_lt 18 m (by omega)
  obtain ⟨p2, _⟩ := best_sgn 18 n
  have hj18 := best_lt 18 n (by omega)
  have l2 := best_ge 18 n k hk18 hp
  generalize best 18 n = j at p2 hj18 l2 ⊢
  have p3 := h.pre _ (sgn_no32 j) p2
  have l1 := best_ge 18 m j hj18 p3
  rw [hk] at l1
  have q1 := List.isPrefixOf_iff_prefix.1 p2
  have q2 := List.isPrefixOf_iff_prefix.1 hp
  exact sgn_inj j hj18 k hk18 ((List.prefix_of_prefix_length_le q1 q2 l1).eq_of_length (by omega))
/-- A run is taken whole, and no more. -/
theorem run_back {q : UInt8 → Bool} {a v : List UInt8} (ha : ∀ c ∈ a, q c = true) (hv : ∀ c, v.head? = some c → q c = false) : (a ++ v).takeWhile q = a ∧ (a ++ v).dropWhile q = v := by
  rw [List.takeWhile_append_of_pos ha, List.dropWhile_append_of_pos ha]
  cases v with
  | nil => simp
  | cons c v =>
    have hc := hv c rfl
    simp [hc]
theorem drop_not {q : UInt8 → Bool} (l : List UInt8) : ∀ c, (l.dropWhile q).head? = some c → q c = false := fun c h => by
  cases hd : l.dropWhile q with
  | nil => rw [hd] at h; cases h
  | cons d t =>
    rw [hd] at h
    cases h
    exact dropWhile_head l _ t hd
theorem qraw_back : ∀ (l x u : List UInt8), qraw l = some (x, u) → quo (unq x) = x ∧ (u.head? ≠ some 39) ∧ ∀ v : List UInt8, v.head? ≠ some 39 → qraw (x ++ 39 :: v) = some (x, v)
  | [], x, u, h => by cases h
  | [c], x, u, h => by
    rw [qraw] at h
    split at h
    · cases h
      refine ⟨rfl, by simp, fun v hv => ?_⟩
      cases v with
      | nil => rfl
      | cons d v =>
        rw [List.nil_append, qraw, if_pos rfl, if_neg (fun e => hv (by rw [e]; rfl))]
    · cases h
  | c :: d :: t, x, u, h => by
    rw [qraw] at h
    split at h
    · split at h
      · cases hq : qraw t with
        | none => rw [hq] at h; cases h
        | some q =>
          obtain ⟨y, w⟩ := q
          rw [hq] at h
          cases h
          obtain ⟨h1, h2, h3⟩ := qraw_back t y w hq
          refine ⟨?_, h2, fun v hv => ?_⟩
          · rw [unq, if_pos ⟨rfl, rfl⟩, quo, if_pos rfl, h1]
          · show qraw (39 :: 39 :: (y ++ 39 :: v)) = _
            rw [qraw, if_pos rfl, if_pos rfl, h3 v hv]
            rfl
      · rename_i hd
        cases h
        refine ⟨rfl, fun e => hd (Option.some.inj e), fun v hv => ?_⟩
        cases v with
        | nil => rfl
        | cons e v =>
          rw [List.nil_append, qraw, if_pos rfl, if_neg (fun e' => hv (by rw [e']; rfl))]
    · rename_i hc
      cases hq : qraw (d :: t) with
      | none => rw [hq] at h; cases h
      | some q =>
        obtain ⟨y, w⟩ := q
        rw [hq] at h
        cases h
        obtain ⟨h1, h2, h3⟩ := qraw_back (d :: t) y w hq
        refine ⟨?_, h2, fun v hv => ?_⟩
        · rw [unq_cons _ hc, quo, if_neg hc, h1]
        · show qraw (c :: (y ++ 39 :: v)) = _
          rw [raw_cons _ hc, h3 v hv]
          rfl
theorem nrun_back {l : List UInt8} (h : nrun l ≠ []) : ∃ u, l = nrun l ++ u ∧ u = l.drop (nrun l).length ∧ ∀ v, Sim u v → nrun (nrun l ++ v) = nrun l := by
  cases l with
  | nil => exact absurd rfl h
  | cons c t =>
    by_cases hc : start8 c
    · have e : nrun (c :: t) = (c :: t).takeWhile cont8 := by rw [nrun, if_pos hc]
      have hcc : cont8 c = true := by
        unfold cont8 contB
        unfold start8 at hc
        rw [hc]; rfl
      refine ⟨(c :: t).dropWhile cont8, ?_, ?_, fun v hv => ?_⟩
      · rw [e, List.takeWhile_append_dropWhile]
      · rw [e]
        conv => rhs; rw [← List.takeWhile_append_dropWhile (p := cont8) (l := c :: t)]
        rw [List.takeWhile_append_dropWhile]
        conv => rhs; arg 2; rw [← List.takeWhile_append_dropWhile (p := cont8) (l := c :: t)]
        rw [List.drop_left']
        rfl
      · have hv' := hv.not (q := cont8) (by decide) (drop_not _)
        have hr := run_back (q := cont8) (a := (c :: t).takeWhile cont8) (fun x hx => tw_mem _ x hx) hv'
        rw [e]
        rw [List.takeWhile_cons, if_pos hcc, List.cons_append, nrun, if_pos hc]
        rw [List.takeWhile_cons, if_pos hcc, List.cons_append] at hr
        exact hr.1
    · rw [nrun, if_neg hc] at h
      exact absurd rfl h
theorem varR_back {k p : Nat} {g : Bool} {l : List UInt8} {t : Tb} {u : List UInt8} (h : varR k p g l = .ok (t, u)) : t = ⟨k, p, 0, t.s, g⟩ ∧ l = t.s ++ u ∧ t.s ≠ [] ∧ ∀ (p' : Nat) (g' : Bool) (v : List UInt8), Sim u v → varR k p' g' (t.s ++ v) = .ok (⟨k, p', 0, t.s, g'⟩, v) := by
  unfold varR at h
  split at h
  · rename_i hh
    cases l with
    | nil => cases hh
    | cons c l =>
      obtain rfl := Option.some.inj hh
      cases h
      exact ⟨rfl, rfl, by simp, fun p' g' v _ => varR_star k p' g' v⟩
  · split at h
    · rename_i hn
      have hne : nrun l ≠ [] := fun e => by rw [e] at hn; cases hn
      have h20 : (nrun l).length ≤ 20 := by
        rw [nrun_name l hne] at hn
        exact of_decide_eq_true hn
      obtain ⟨u', e1, e2, e3⟩ := nrun_back hne
      cases h
      refine ⟨rfl, ?_, hne, fun p' g' v hv => ?_⟩
      · show l = nrun l ++ l.drop (nrun l).length
        rw [← e2]; exact e1
      · have e4 := e3 v (by rw [e2]; exact hv)
        show varR k p' g' (nrun l ++ v) = .ok (⟨k, p', 0, nrun l, g'⟩, v)
        rw [varR_name k p' g' (nrun l ++ v) (by rw [e4]; exact hne) (by rw [e4]; exact h20), e4]
        rw [List.drop_left' rfl]
    · cases h
theorem len_quo : ∀ l : List UInt8, l.length ≤ (quo l).length
  | [] => by simp
  | c :: t => by
    have := len_quo t
    rw [quo]
    split <;> simp only [List.length_cons] <;> omega
/-- What a token that is read has. -/
structure Tok (M : Nat) (t : Tb) : Prop where
  kind : t.kind < 24
  num : t.kind = 23 → 1 ≤ t.n ∧ t.n ≤ 9
  len : t.s.length ≤ M
theorem cnts_num {c : UInt8} (h : cnts c = true) : 1 ≤ c.toNat - 48 ∧ c.toNat - 48 ≤ 9 ∧ UInt8.ofNat (48 + (c.toNat - 48)) = c := by
  unfold cnts at h
  rw [Bool.and_eq_true, decide_eq_true_eq, decide_eq_true_eq] at h
  refine ⟨by omega, by omega, ?_⟩
  rw [show 48 + (c.toNat - 48) = c.toNat by omega]
  exact UInt8.ofNat_toNat
theorem dollar_back {p : Nat} {g : Bool} {r : List UInt8} {t : Tb} {u : List UInt8} (h : dollar p g r = .ok (t, u)) :
    ∃ x, prB t = 36 :: x ∧ x ≠ [] ∧ r = x ++ u ∧ Tok r.length t ∧ t.kind ≠ 0 ∧ ∀ (p' : Nat) (g' : Bool) (v : List UInt8), Sim u v → dollar p' g' (x ++ v) = .ok ({ t with pos := p', glue := g' }, v) := by
  cases r with
  | nil =>
    have : dollar p g [] = .error ⟨0, p⟩ := rfl
    rw [this] at h
    cases h
  | cons c r =>
    by_cases h35 : c = 35
    · subst h35
      have e : ∀ p g r, dollar p g (35 :: r) = varR 21 p g r := fun _ _ _ => rfl
      rw [e] at h
      obtain ⟨h1, h2, h3, h4⟩ := varR_back h
      generalize t.s = s at h1 h2 h3 h4
      subst h1
      refine ⟨35 :: s, rfl, by simp, by rw [h2]; rfl, ⟨by simp, (fun e => by simp at e), ?_⟩, by simp, fun p' g' v hv => ?_⟩
      · rw [h2]; simp; omega
      · rw [List.cons_append, e]; exact h4 p' g' v hv
    · by_cases h34 : c = 34
      · subst h34
        have e : ∀ p g r, dollar p g (34 :: r) = varR 22 p g r := fun _ _ _ => rfl
        rw [e] at h
        obtain ⟨h1, h2, h3, h4⟩ := varR_back h
        generalize t.s = s at h1 h2 h3 h4
        subst h1
        refine ⟨34 :: s, rfl, by simp, by rw [h2]; rfl, ⟨by simp, (fun e => by simp at e), ?_⟩, by simp, fun p' g' v hv => ?_⟩
        · rw [h2]; simp; omega
        · rw [List.cons_append, e]; exact h4 p' g' v hv
      · have e : ∀ p g r, dollar p g (c :: r) = if cnts c then .ok (⟨23, p, c.toNat - 48, [], g⟩, r) else varR 20 p g (c :: r) := fun p g r => by
          unfold dollar
          rw [if_neg (by simpa using h35), if_neg (by simpa using h34)]
          rfl
        rw [e] at h
        by_cases hc : cnts c = true
        · rw [if_pos hc] at h
          obtain ⟨n1, n2, n3⟩ := cnts_num hc
          cases h
          refine ⟨[c], ?_, by simp, rfl, ⟨by simp, fun _ => ⟨n1, n2⟩, by simp⟩, by simp, fun p' g' v hv => ?_⟩
          · show [36, UInt8.ofNat (48 + (c.toNat - 48))] = [36, c]
            rw [n3]
          · show dollar p' g' (c :: v) = _
            rw [e, if_pos hc]
        · rw [if_neg hc] at h
          obtain ⟨h1, h2, h3, h4⟩ := varR_back h
          generalize t.s = s at h1 h2 h3 h4
          subst h1
          cases s with
          | nil => exact absurd rfl h3
          | cons d s =>
            obtain ⟨rfl, h2'⟩ := List.cons.inj h2
            refine ⟨c :: s, rfl, by simp, h2, ⟨by simp, (fun e => by simp at e), ?_⟩, by simp, fun p' g' v hv => ?_⟩
            · rw [h2]; simp
            · rw [List.cons_append, e, if_neg hc]; exact h4 p' g' v hv
theorem tokM_back {N : Nat} {g : Bool} {m : List UInt8} {t : Tb} {u : List UInt8} (h : tokenM N g m = .ok (t, u)) (h0 : t.kind ≠ 0) (hm : ∀ c, m.head? = some c → blk c = false ∧ c ≠ 35) :
    m = prB t ++ u ∧ prB t ≠ [] ∧ Tok m.length t ∧ ∀ (N' : Nat) (g' : Bool) (v : List UInt8), Sim u v → tokenM N' g' (prB t ++ v) = .ok ({ t with pos := N' - (prB t ++ v).length, glue := g' }, v) := by
  unfold tokenM at h
  have hb := best_sgn 18 m
  by_cases hne : best 18 m ≠ 0
  · rw [if_pos hne] at h
    have hlt := best_lt 18 m (by omega)
    generalize hk : best 18 m = k at h hb hne hlt
    obtain ⟨rfl, rfl⟩ := Prod.mk.inj (Except.ok.inj h)
    have hs := hb.2 hne
    obtain ⟨r, hr⟩ := List.isPrefixOf_iff_prefix.1 hb.1
    have e : ∀ p g, prB (⟨k, p, 0, [], g⟩ : Tb) = sgn k := fun p g => by
      unfold prB
      simp only
      rw [if_neg (by omega), if_neg (by omega), if_neg (by omega), if_neg (by omega), if_neg (by omega), if_neg (by omega)]
    have hd : m.drop (sgn k).length = r := by rw [← hr]; exact List.drop_left' rfl
    rw [e, hd]
    refine ⟨hr.symm, hs, ⟨by simp only; omega, fun e => by simp only at e; omega, by simp⟩, fun N' g' v hv => ?_⟩
    have hbv : best 18 (sgn k ++ v) = k := best_sim (m := m) (by rw [← hr]; exact hv.app _) hk (List.isPrefixOf_iff_prefix.2 ⟨v, rfl⟩)
    unfold tokenM
    rw [hbv, if_pos hne, List.drop_left' rfl]
  · have hb0 : best 18 m = 0 := by simpa using hne
    rw [if_neg hne] at h
    cases m with
    | nil => cases h; exact absurd rfl h0
    | cons c r =>
      have hw : writ (N - (r.length + 1)) g c r = .ok (t, u) := h
      obtain ⟨o1, o2⟩ := hm c rfl
      have hB : ∀ r', Sim (c :: r) (c :: r') → best 18 (c :: r') = 0 := fun r' hs => best_sim hs hb0 rfl
      unfold writ at hw
      by_cases c39 : c = 39
      · rw [if_pos c39] at hw
        cases hq : qraw r with
        | none => rw [hq] at hw; cases hw
        | some q =>
          obtain ⟨x, w⟩ := q
          rw [hq] at hw
          cases hw
          obtain ⟨h1, h2, h3⟩ := qraw_back r x w hq
          have h4 := qraw_split r x w hq
          subst c39
          have e : prB (⟨19, N - (r.length + 1), 0, unq x, g⟩ : Tb) = 39 :: (x ++ [39]) := by
            show 39 :: (quo (unq x) ++ [39]) = _
            rw [h1]
          rw [e]
          refine ⟨by rw [h4]; simp, by simp, ⟨by simp, (fun e => by simp at e), ?_⟩, fun N' g' v hv => ?_⟩
          · have hx : (unq x).length ≤ (quo (unq x)).length := len_quo _
            rw [h1] at hx
            rw [h4]; simp; omega
          · have hs : Sim (39 :: r) (39 :: (x ++ 39 :: v)) := by
              rw [h4]
              exact Sim.cons 39 (Sim.app (Sim.cons 39 hv) x)
            have e2 : (39 :: (x ++ [39])) ++ v = 39 :: (x ++ 39 :: v) := by simp
            rw [e2, tokM_writ (hB _ hs)]
            have hv39 : v.head? ≠ some 39 := fun e => by
              have := hv.not (q := fun c => c == 39) (by decide) (fun c hc => by
                simp only [beq_eq_false_iff_ne]
                rintro rfl
                exact h2 hc) 39 e
              simp at this
            unfold writ
            rw [if_pos rfl, h3 v hv39]
            simp
      · rw [if_neg c39] at hw
        by_cases c36 : c = 36
        · rw [if_pos c36] at hw
          subst c36
          obtain ⟨x, h1, h2, h3, h4, h5, h6⟩ := dollar_back hw
          rw [h1]
          refine ⟨by rw [h3]; rfl, by simp, ⟨h4.kind, h4.num, Nat.le_trans h4.len (by simp)⟩, fun N' g' v hv => ?_⟩
          have hs : Sim (36 :: r) (36 :: (x ++ v)) := by
            rw [h3]
            exact Sim.cons 36 (Sim.app hv x)
          rw [List.cons_append, tokM_writ (hB _ hs)]
          unfold writ
          rw [if_neg c39, if_pos rfl]
          exact h6 _ g' v hv
        · rw [if_neg c36] at hw
          by_cases c3 : c = 38 ∨ c = 96
          · rw [if_pos c3] at hw; cases hw
          · rw [if_neg c3] at hw
            have hiw : inW c = true := inW_here hb0 o1 o2 c39 c36 (fun e => c3 (Or.inl e)) (fun e => c3 (Or.inr e))
            cases hw
            have e : ∀ p g, prB (⟨18, p, 0, (c :: r).takeWhile inW, g⟩ : Tb) = (c :: r).takeWhile inW := fun _ _ => rfl
            rw [e]
            refine ⟨List.takeWhile_append_dropWhile.symm, ?_, ⟨by simp, (fun e => by simp at e), (List.takeWhile_sublist _).length_le⟩, fun N' g' v hv => ?_⟩
            · rw [List.takeWhile_cons, if_pos hiw]; simp
            · have hv' := hv.not (q := inW) (by decide) (drop_not _)
              have hr := run_back (q := inW) (a := (c :: r).takeWhile inW) (fun x hx => tw_mem _ x hx) hv'
              have hs0 : Sim (c :: r) ((c :: r).takeWhile inW ++ v) := by
                conv => arg 1; rw [← List.takeWhile_append_dropWhile (p := inW) (l := c :: r)]
                exact hv.app _
              have ec : (c :: r).takeWhile inW = c :: r.takeWhile inW := by rw [List.takeWhile_cons, if_pos hiw]
              rw [ec, List.cons_append] at hs0 hr ⊢
              rw [tokM_writ (hB _ hs0)]
              unfold writ
              rw [if_neg c39, if_neg c36, if_neg c3, hr.1, hr.2]
              rfl
/-- The same token, but for its place. -/
def Alike (t m : Tb) : Prop := t.kind = m.kind ∧ t.s = m.s ∧ t.n = m.n ∧ (t.kind ≠ 0 → t.glue = m.glue)
inductive Mates : List Tb → List Tb → Prop
  | nil : Mates [] []
  | cons {t m : Tb} {ts ms : List Tb} (h : Alike t m) (r : Mates ts ms) : Mates (t :: ts) (m :: ms)
theorem Mates.len {ts ms : List Tb} (h : Mates ts ms) : ms.length = ts.length := by
  induction h with
  | nil => rfl
  | cons h r ih => simp only [List.length_cons, ih]
theorem Mates.get {ts ms : List Tb} (h : Mates ts ms) : ∀ (i : Nat) (t m : Tb), ts[i]? = some t → ms[i]? = some m → Alike t m := by
  induction h with
  | nil => intro i t m h; cases h
  | cons h r ih =>
    intro i t m h1 h2
    cases i with
    | zero => cases h1; cases h2; exact h
    | succ i => exact ih i t m h1 h2
theorem over_hd (l : List UInt8) : ∀ c, (over l).head? = some c → blk c = false ∧ c ≠ 35 := fun c h => by
  cases ho : over l with
  | nil => rw [ho] at h; cases h
  | cons d t =>
    rw [ho] at h
    cases h
    exact over_head l _ t ho
theorem over_pr {x : List UInt8} (v : List UInt8) (hx : x ≠ []) (h : ∀ c, x.head? = some c → blk c = false ∧ c ≠ 35) : over (x ++ v) = x ++ v := by
  cases x with
  | nil => exact absurd rfl hx
  | cons c x =>
    obtain ⟨h1, h2⟩ := h c rfl
    exact over_none _ h1 h2
theorem prB_end {t : Tb} (h : t.kind = 0) : prB t = [] := by
  unfold prB
  rw [h]
  rfl
theorem tokL_end {N : Nat} {l : List UInt8} (h : over l = []) : ∃ g, tokenL N l = .ok (⟨0, N, 0, [], g⟩, []) := by
  refine ⟨glueB N l [], ?_⟩
  unfold tokenL
  rw [h]
  unfold tokenM
  rw [best_nil, if_neg (by simp)]
theorem rest_back : ∀ (f : Nat) (u : List UInt8) (ts : List Tb) (N : Nat), u.length < f → u.length < N → lexW (tokenL N) f u = .ok ts →
    Sim u (prR ts) ∧ (prR ts).length ≤ u.length ∧ (∀ t ∈ ts, Tok u.length t) ∧ ts ≠ [] ∧ ∀ (N' f' : Nat), (prR ts).length < N' → (prR ts).length < f' → ∃ ms, lexW (tokenL N') f' (prR ts) = .ok ms ∧ Mates ts ms := by
  intro f
  induction f with
  | zero => intro u ts N h; omega
  | succ f ih =>
    intro u ts N hf hN h
    cases ht : tokenL N u with
    | error e => rw [lexW_err _ _ _ _ ht] at h; cases h
    | ok q =>
      obtain ⟨t, v⟩ := q
      rcases token_ok ht with ⟨k0, _, _, ho, hg⟩ | ⟨k0, hne, _, hvl, hg⟩
      · rw [lexW_end _ _ _ t v ht k0] at h
        cases h
        have hs : t.s = [] ∧ t.n = 0 := by
          obtain ⟨g, e⟩ := tokL_end (N := N) ho
          rw [ht] at e
          obtain ⟨rfl, _⟩ := Prod.mk.inj (Except.ok.inj e)
          exact ⟨rfl, rfl⟩
        have hT : ∀ t' ∈ [t], Tok u.length t' := fun t' h' => by
          rw [List.mem_singleton] at h'
          subst h'
          exact ⟨by omega, by omega, by rw [hs.1]; simp⟩
        have hA : ∀ N' g, Alike t ⟨0, N', 0, [], g⟩ := fun N' g => ⟨k0, hs.1, hs.2, fun e => absurd k0 e⟩
        cases hgl : t.glue with
        | true =>
          have e : prR [t] = [] := by rw [prR, hgl, prB_end k0]; rfl
          rw [hgl] at hg
          have hu : u = [] := by
            unfold glueB at hg
            have := (Bool.and_eq_true _ _ ▸ hg.symm).2
            exact List.eq_nil_of_length_eq_zero (of_decide_eq_true this)
          rw [e]
          refine ⟨hu ▸ Sim.nil, by simp, hT, by simp, fun N' f' hN' hf' => ?_⟩
          obtain ⟨f'', rfl⟩ : ∃ f'', f' = f'' + 1 := ⟨f' - 1, by omega⟩
          obtain ⟨g, eg⟩ := tokL_end (N := N') (l := []) rfl
          exact ⟨_, lexW_end _ _ _ _ _ eg rfl, Mates.cons (hA N' g) Mates.nil⟩
        | false =>
          have e : prR [t] = [32] := by rw [prR, hgl, prB_end k0]; rfl
          rw [hgl] at hg
          have hu : 0 < u.length := by
            unfold glueB at hg
            rcases Nat.eq_zero_or_pos u.length with h0 | h0
            · rw [h0] at hg
              simp at hg
              omega
            · exact h0
          rw [e]
          refine ⟨Sim.sp _ _, hu, hT, by simp, fun N' f' hN' hf' => ?_⟩
          obtain ⟨f'', rfl⟩ : ∃ f'', f' = f'' + 1 := ⟨f' - 1, by omega⟩
          obtain ⟨g, eg⟩ := tokL_end (N := N') (l := [32]) rfl
          exact ⟨_, lexW_end _ _ _ _ _ eg rfl, Mates.cons (hA N' g) Mates.nil⟩
      · have hM : tokenM N (glueB N u (over u)) (over u) = .ok (t, v) := ht
        obtain ⟨b1, b2, b3, b4⟩ := tokM_back hM k0 (over_hd u)
        rw [lexW_more _ _ _ t v ht k0] at h
        have hol := over_len u
        cases hr : lexW (tokenL N) f v with
        | error e => rw [hr] at h; cases h
        | ok ts' =>
          rw [hr] at h
          cases h
          obtain ⟨i1, i2, i3, i4, i5⟩ := ih v ts' N (by omega) (by omega) hr
          have hT : ∀ t' ∈ t :: ts', Tok u.length t' := fun t' h' => by
            rcases List.mem_cons.1 h' with rfl | h'
            · exact ⟨b3.kind, b3.num, by have := b3.len; omega⟩
            · have := i3 t' h'
              exact ⟨this.kind, this.num, by have := this.len; omega⟩
          have hhd : ∀ c, (prB t).head? = some c → blk c = false ∧ c ≠ 35 := fun c hc => by
            refine over_hd u c ?_
            rw [b1, List.head?_append, hc]
            rfl
          have hml : (over u).length = (prB t).length + v.length := by rw [b1, List.length_append]
          have hpl : 0 < (prB t).length := List.length_pos_iff.2 b2
          obtain ⟨R, hR⟩ : ∃ R, R = prR ts' := ⟨_, rfl⟩
          rw [← hR] at i1 i2 i5
          have ho := over_pr R b2 hhd
          have hlR : (prB t ++ R).length = (prB t).length + R.length := List.length_append
          cases hgl : t.glue with
          | true =>
            have e : prR ([t] ++ ts') = prB t ++ R := by rw [List.singleton_append, prR, hgl, hR]; rfl
            rw [hgl] at hg
            have hul : u.length = (over u).length := by
              unfold glueB at hg
              exact of_decide_eq_true (Bool.and_eq_true _ _ ▸ hg.symm).2
            obtain ⟨w, hw, _⟩ := over_gap u
            have hw0 : w = [] := by
              have := congrArg List.length hw
              rw [List.length_append] at this
              exact List.eq_nil_of_length_eq_zero (by omega)
            rw [hw0, List.nil_append] at hw
            rw [e]
            refine ⟨?_, by omega, hT, by simp, fun N' f' hN' hf' => ?_⟩
            · rw [hw, b1]; exact i1.app _
            · obtain ⟨f'', rfl⟩ : ∃ f'', f' = f'' + 1 := ⟨f' - 1, by omega⟩
              obtain ⟨ms, m1, m2⟩ := i5 N' f'' (by omega) (by omega)
              have et : tokenL N' (prB t ++ R) = .ok ({ t with pos := N' - (prB t ++ R).length, glue := true }, R) := by
                unfold tokenL
                rw [ho, show glueB N' (prB t ++ R) (prB t ++ R) = true by
                  unfold glueB
                  rw [decide_eq_true (by omega), decide_eq_true rfl]
                  rfl]
                exact b4 N' true R i1
              refine ⟨{ t with pos := N' - (prB t ++ R).length, glue := true } :: ms, ?_, Mates.cons ⟨rfl, rfl, rfl, fun _ => hgl⟩ m2⟩
              rw [lexW_more _ _ _ _ _ et k0, m1]
              rfl
          | false =>
            have e : prR ([t] ++ ts') = 32 :: (prB t ++ R) := by rw [List.singleton_append, prR, hgl, hR]; rfl
            rw [hgl] at hg
            have hul : (over u).length < u.length := by
              rcases Nat.lt_or_ge (over u).length u.length with h0 | h0
              · exact h0
              · unfold glueB at hg
                rw [decide_eq_true (by omega), decide_eq_true (by omega)] at hg
                cases hg
            rw [e]
            refine ⟨Sim.sp _ _, by rw [List.length_cons]; omega, hT, by simp, fun N' f' hN' hf' => ?_⟩
            rw [List.length_cons] at hN' hf'
            obtain ⟨f'', rfl⟩ : ∃ f'', f' = f'' + 1 := ⟨f' - 1, by omega⟩
            obtain ⟨ms, m1, m2⟩ := i5 N' f'' (by omega) (by omega)
            have et : tokenL N' (32 :: (prB t ++ R)) = .ok ({ t with pos := N' - (prB t ++ R).length, glue := false }, R) := by
              unfold tokenL
              rw [over_blk _ (by decide), ho, show glueB N' (32 :: (prB t ++ R)) (prB t ++ R) = false by
                unfold glueB
                rw [decide_eq_false (p := (32 :: (prB t ++ R)).length = (prB t ++ R).length) (by rw [List.length_cons]; omega), Bool.and_false]]
              exact b4 N' false R i1
            refine ⟨{ t with pos := N' - (prB t ++ R).length, glue := false } :: ms, ?_, Mates.cons ⟨rfl, rfl, rfl, fun _ => hgl⟩ m2⟩
            rw [lexW_more _ _ _ _ _ et k0, m1]
            rfl
/-- What a source's tokens are written as has these tokens. -/
theorem lex_back {L : List UInt8} {ts : List Tb} (h : lexL L = .ok ts) : (prL ts).length ≤ L.length ∧ (∀ t ∈ ts, Tok L.length t) ∧ ∃ ms, lexL (prL ts) = .ok ms ∧ Mates ts ms := by
  unfold lexL at h
  cases ht : tokenL L.length L with
  | error e => rw [lexW_err _ _ _ _ ht] at h; cases h
  | ok q =>
    obtain ⟨t, v⟩ := q
    rcases token_ok ht with ⟨k0, _, _, ho, hg⟩ | ⟨k0, hne, _, hvl, hg⟩
    · rw [lexW_end _ _ _ t v ht k0] at h
      cases h
      have hs : t.s = [] ∧ t.n = 0 := by
        obtain ⟨g, e⟩ := tokL_end (N := L.length) ho
        rw [ht] at e
        obtain ⟨rfl, _⟩ := Prod.mk.inj (Except.ok.inj e)
        exact ⟨rfl, rfl⟩
      have e : prL [t] = [] := by rw [prL, prR, prB_end k0]; rfl
      rw [e]
      obtain ⟨g, eg⟩ := tokL_end (N := 0) (l := []) rfl
      refine ⟨by simp, fun t' h' => ?_, _, lexW_end _ _ _ _ _ eg rfl, Mates.cons ⟨k0, hs.1, hs.2, fun e => absurd k0 e⟩ Mates.nil⟩
      rw [List.mem_singleton] at h'
      subst h'
      exact ⟨by omega, by omega, by rw [hs.1]; simp⟩
    · have hM : tokenM L.length (glueB L.length L (over L)) (over L) = .ok (t, v) := ht
      obtain ⟨b1, b2, b3, b4⟩ := tokM_back hM k0 (over_hd L)
      rw [lexW_more _ _ _ t v ht k0] at h
      have hol := over_len L
      cases hr : lexW (tokenL L.length) L.length v with
      | error e => rw [hr] at h; cases h
      | ok ts' =>
        rw [hr] at h
        cases h
        obtain ⟨i1, i2, i3, i4, i5⟩ := rest_back L.length v ts' L.length (by omega) (by omega) hr
        have hhd : ∀ c, (prB t).head? = some c → blk c = false ∧ c ≠ 35 := fun c hc => by
          refine over_hd L c ?_
          rw [b1, List.head?_append, hc]
          rfl
        have hml : (over L).length = (prB t).length + v.length := by rw [b1, List.length_append]
        have hpl : 0 < (prB t).length := List.length_pos_iff.2 b2
        have hgl : t.glue = false := by
          rw [hg]
          unfold glueB
          rw [decide_eq_false (by omega), Bool.false_and]
        obtain ⟨R, hR⟩ : ∃ R, R = prR ts' := ⟨_, rfl⟩
        rw [← hR] at i1 i2 i5
        have ho := over_pr R b2 hhd
        have hlR : (prB t ++ R).length = (prB t).length + R.length := List.length_append
        have e : prL ([t] ++ ts') = prB t ++ R := by rw [List.singleton_append, prL, hR]
        rw [e]
        refine ⟨by omega, fun t' h' => ?_, ?_⟩
        · rcases List.mem_cons.1 h' with rfl | h'
          · exact ⟨b3.kind, b3.num, by have := b3.len; omega⟩
          · have := i3 t' h'
            exact ⟨this.kind, this.num, by have := this.len; omega⟩
        · obtain ⟨ms, m1, m2⟩ := i5 (prB t ++ R).length (prB t ++ R).length (by omega) (by omega)
          have et : tokenL (prB t ++ R).length (prB t ++ R) = .ok ({ t with pos := (prB t ++ R).length - (prB t ++ R).length, glue := false }, R) := by
            unfold tokenL
            rw [ho, show glueB (prB t ++ R).length (prB t ++ R) (prB t ++ R) = false by
              unfold glueB
              rw [decide_eq_false (by omega), Bool.false_and]]
            exact b4 _ false R i1
          refine ⟨{ t with pos := (prB t ++ R).length - (prB t ++ R).length, glue := false } :: ms, ?_, Mates.cons ⟨rfl, rfl, rfl, fun _ => hgl⟩ m2⟩
          unfold lexL
          rw [lexW_more _ _ _ _ _ et k0, m1]
          rfl
end Go.Proofs.YtddekcohfbnmbaaDoor
