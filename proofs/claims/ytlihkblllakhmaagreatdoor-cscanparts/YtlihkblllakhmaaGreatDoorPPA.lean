/- Two sources behind one another, plainly; how many there are of all, and how far their places go. -/
import Derived.Test.YtlihkblllakhmaaGreatDoorPQA
/-! What is read of a source, another one behind it, plainly: the bytes that are left; shifted places. -/
namespace Go.Proofs.YtlihkblllakhmaaGreatDoor

/-! ### what is left is a part of what was there -/
theorem passB_sub : ∀ (f : Nat) (L : List UInt8) (n : Nat) (u : List UInt8), L.length ≤ f → passB n L = some u → ∀ c ∈ u, c ∈ L
  | _, [], n, u, _, h => by rw [passB_nil] at h; cases h
  | 0, c :: t, n, u, hf, _ => absurd hf (by simp)
  | f + 1, c :: t, n, u, hf, h => by
    simp only [List.length_cons] at hf
    rw [passB_cons] at h
    intro x hx
    split at h
    · cases t with
      | nil => rw [List.tail_nil, passB_nil] at h; cases h
      | cons d t => exact List.mem_cons_of_mem _ (List.mem_cons_of_mem _ (passB_sub f t n u (by simp at hf; omega) h x hx))
    · split at h
      · exact List.mem_cons_of_mem _ (passB_sub f t (n + 1) u (by omega) h x hx)
      · split at h
        · split at h
          · cases h; exact List.mem_cons_of_mem _ hx
          · exact List.mem_cons_of_mem _ (passB_sub f t (n - 1) u (by omega) h x hx)
        · exact List.mem_cons_of_mem _ (passB_sub f t n u (by omega) h x hx)
theorem passK_sub : ∀ (f : Nat) (L : List UInt8) (n m : Nat) (u : List UInt8), L.length ≤ f → passK n m L = some u → ∀ c ∈ u, c ∈ L
  | _, [], n, m, u, _, h => by rw [passK_nil] at h; cases h
  | 0, c :: t, n, m, u, hf, _ => absurd hf (by simp)
  | f + 1, c :: t, n, m, u, hf, h => by
    simp only [List.length_cons] at hf
    rw [passK_cons] at h
    intro x hx
    split at h
    · cases t with
      | nil => rw [List.tail_nil, passK_nil] at h; cases h
      | cons d t => exact List.mem_cons_of_mem _ (List.mem_cons_of_mem _ (passK_sub f t n m u (by simp at hf; omega) h x hx))
    · split at h
      · exact List.mem_cons_of_mem _ (passK_sub f t n (m + 1) u (by omega) h x hx)
      · split at h
        · exact List.mem_cons_of_mem _ (passK_sub f t n (m - 1) u (by omega) h x hx)
        · split at h
          · exact List.mem_cons_of_mem _ (passK_sub f t _ m u (by omega) h x hx)
          · split at h
            · split at h
              · split at h
                · cases h; exact List.mem_cons_of_mem _ hx
                · exact List.mem_cons_of_mem _ (passK_sub f t (n - 1) 0 u (by omega) h x hx)
              · exact List.mem_cons_of_mem _ (passK_sub f t n m u (by omega) h x hx)
            · exact List.mem_cons_of_mem _ (passK_sub f t n m u (by omega) h x hx)
theorem passK_app (b : List UInt8) : ∀ (f : Nat) (L : List UInt8) (n m : Nat) (r : List UInt8), L.length ≤ f → passK n m L = some r → passK n m (L ++ b) = some (r ++ b)
  | _, [], n, m, r, _, h => by rw [passK_nil] at h; cases h
  | 0, c :: t, n, m, r, hf, _ => absurd hf (by simp)
  | f + 1, c :: t, n, m, r, hf, h => by
    simp only [List.length_cons] at hf
    rw [List.cons_append, passK_cons]
    rw [passK_cons] at h
    by_cases h1 : c = 92
    · rw [if_pos h1] at h ⊢
      cases t with
      | nil => rw [List.tail_nil, passK_nil] at h; cases h
      | cons d t => exact passK_app b f t n m r (by simp at hf; omega) h
    rw [if_neg h1] at h ⊢
    by_cases h2 : c = 123
    · rw [if_pos h2] at h ⊢
      exact passK_app b f t n (m + 1) r (by omega) h
    rw [if_neg h2] at h ⊢
    by_cases h3 : c = 125
    · rw [if_pos h3] at h ⊢
      exact passK_app b f t n (m - 1) r (by omega) h
    rw [if_neg h3] at h ⊢
    by_cases h4 : c = 91
    · rw [if_pos h4] at h ⊢
      exact passK_app b f t _ m r (by omega) h
    rw [if_neg h4] at h ⊢
    by_cases h5 : c = 93
    · rw [if_pos h5] at h ⊢
      by_cases h6 : m = 0
      · rw [if_pos h6] at h ⊢
        by_cases h7 : n = 0
        · rw [if_pos h7] at h ⊢
          cases h
          rfl
        · rw [if_neg h7] at h ⊢
          exact passK_app b f t (n - 1) 0 r (by omega) h
      · rw [if_neg h6] at h ⊢
        exact passK_app b f t n m r (by omega) h
    · rw [if_neg h5] at h ⊢
      exact passK_app b f t n m r (by omega) h
theorem dollar_sub {N : Nat} {l : List UInt8} {p : Pt} {u : List UInt8} (h : dollar N l = .ok (p, u)) : ∀ c ∈ u, c ∈ l := by
  match l, h with
  | [], h => cases h
  | [_], h => cases h
  | a :: c :: t, h =>
    rw [dollar] at h
    intro x hx
    split at h
    · cases h; simp [hx]
    · split at h
      · cases h; simp [hx]
      · split at h
        · cases h
        · cases h
          exact List.mem_cons_of_mem _ (List.mem_of_mem_drop hx)
theorem plain_sub (e : List UInt8) : ∀ (f : Nat) (L : List UInt8), ∀ c ∈ (plainL e f L).2, c ∈ L
  | 0, L, c, h => h
  | f + 1, L, c, h => by
    cases hs : stopP e L with
    | true => rw [plain_stop e (f + 1) L hs] at h; exact h
    | false =>
      rw [plain_more e f L hs] at h
      exact List.mem_of_mem_drop (plain_sub e f _ c h)
theorem part_sub {N : Nat} {e L : List UInt8} {p : Pt} {u : List UInt8} (h : partL N e L = .ok (p, u)) : ∀ c ∈ u, c ∈ L := by
  rw [partL] at h
  intro x hx
  split at h
  · cases hk : passK 0 0 L.tail with
    | none => rw [hk] at h; cases h
    | some v =>
      rw [hk] at h
      simp only [Except.ok.injEq, Prod.mk.injEq] at h
      rw [← h.2] at hx
      exact List.mem_of_mem_tail (passK_sub _ _ _ _ _ (Nat.le_refl _) hk x hx)
  · split at h
    · exact dollar_sub h x hx
    · simp only [Except.ok.injEq, Prod.mk.injEq] at h
      rw [← h.2] at hx
      exact plain_sub e _ _ x hx
theorem parts_sub (N : Nat) (e : List UInt8) : ∀ (f : Nat) (L : List UInt8) (ps : List Pt) (u : List UInt8), partsL N e f L = .ok (ps, u) → ∀ c ∈ u, c ∈ L
  | 0, L, ps, u, h => by cases h; exact fun _ h => h
  | f + 1, [], ps, u, h => by cases h; exact fun _ h => h
  | f + 1, c :: t, ps, u, h => by
    rw [partsL] at h
    split at h
    · cases h; exact fun _ h => h
    · cases hp : partL N e (c :: t) with
      | error x => rw [hp] at h; cases h
      | ok q =>
        rw [hp] at h
        simp only at h
        cases hq : partsL N e f q.2 with
        | error x => rw [hq] at h; cases h
        | ok r =>
          rw [hq] at h
          simp only [Except.ok.injEq, Prod.mk.injEq] at h
          intro x hx
          rw [← h.2] at hx
          exact part_sub (p := q.1) (u := q.2) hp x (parts_sub N e f q.2 r.1 r.2 hq x hx)
theorem word_sub {N : Nat} {L : List UInt8} {w : Wd} {u : List UInt8} (h : wordL N L = .ok (w, u)) : ∀ c ∈ u, c ∈ L := by
  rw [wordL] at h
  intro x hx
  split at h
  · cases hb : passB 0 L.tail with
    | none => rw [hb] at h; cases h
    | some v =>
      rw [hb] at h
      simp only at h
      obtain rfl := closed_ok h
      exact List.mem_of_mem_tail (passB_sub _ _ _ _ (Nat.le_refl _) hb x hx)
  · split at h
    · cases hp : partsL N [34] L.length L.tail with
      | error y => rw [hp] at h; cases h
      | ok q =>
        rw [hp] at h
        obtain ⟨ps, v⟩ := q
        cases v with
        | nil => cases h
        | cons c v =>
          simp only at h
          obtain rfl := closed_ok h
          exact List.mem_of_mem_tail (parts_sub _ _ _ _ _ _ hp x (List.mem_cons_of_mem _ hx))
    · cases hp : partsL N endS L.length L with
      | error y => rw [hp] at h; cases h
      | ok q =>
        rw [hp] at h
        simp only [Except.ok.injEq, Prod.mk.injEq] at h
        rw [← h.2] at hx
        exact parts_sub _ _ _ _ _ _ hp x hx
/-! ### places shifted -/
def shP (k : Nat) (p : Pt) : Pt := ⟨p.kind, p.pos + k, p.n, p.s⟩
def shW (k : Nat) (w : Wd) : Wd := ⟨w.pos + k, w.braced, w.parts.map (shP k)⟩
def shC (k : Nat) (c : Cm) : Cm := ⟨c.pos + k, c.words.map (shW k)⟩
theorem dollar_sh (k : Nat) {N : Nat} {l : List UInt8} {p : Pt} {u : List UInt8} (hl : l.length ≤ N) (h : dollar N l = .ok (p, u)) : dollar (N + k) l = .ok (shP k p, u) := by
  match l, h with
  | [], h => cases h
  | [_], h => cases h
  | a :: c :: t, h =>
    have e : N + k - (t.length + 2) = N - (t.length + 2) + k := by simp at hl; omega
    rw [dollar] at h ⊢
    split at h
    · rename_i h1
      rw [if_pos h1]
      cases h
      simp [shP, e]
    · rename_i h1
      rw [if_neg h1]
      split at h
      · rename_i h2
        rw [if_pos h2]
        cases h
        simp [shP, e]
      · rename_i h2
        rw [if_neg h2]
        split at h
        · cases h
        · rename_i h3
          rw [if_neg h3]
          cases h
          simp [shP, e]
theorem part_sh (k : Nat) {N : Nat} {e L : List UInt8} {p : Pt} {u : List UInt8} (hl : L.length ≤ N) (h : partL N e L = .ok (p, u)) : partL (N + k) e L = .ok (shP k p, u) := by
  have en : N + k - L.length = N - L.length + k := by omega
  rw [partL] at h ⊢
  split at h
  · rename_i h1
    rw [if_pos h1]
    cases hk : passK 0 0 L.tail with
    | none => rw [hk] at h; cases h
    | some v =>
      rw [hk] at h
      simp only [Except.ok.injEq, Prod.mk.injEq] at h
      obtain ⟨rfl, rfl⟩ := h
      simp [shP, en]
  · rename_i h1
    rw [if_neg h1]
    split at h
    · rename_i h2
      rw [if_pos h2]
      exact dollar_sh k hl h
    · rename_i h2
      rw [if_neg h2]
      simp only [Except.ok.injEq, Prod.mk.injEq] at h
      obtain ⟨rfl, rfl⟩ := h
      simp [shP, en]
theorem part_le {N : Nat} {e L : List UInt8} {p : Pt} {u : List UInt8} (h : partL N e L = .ok (p, u)) : u.length ≤ L.length := by
  rw [partL] at h
  split at h
  · cases hk : passK 0 0 L.tail with
    | none => rw [hk] at h; cases h
    | some v =>
      rw [hk] at h
      simp only [Except.ok.injEq, Prod.mk.injEq] at h
      have := passK_lt _ _ _ _ _ (Nat.le_refl _) hk
      rw [← h.2]
      rw [List.length_tail] at this
      omega
  · split at h
    · have := dollar_lt h
      omega
    · simp only [Except.ok.injEq, Prod.mk.injEq] at h
      have := plain_le e L.length L
      rw [← h.2]
      omega
theorem parts_sh (k N : Nat) (e : List UInt8) : ∀ (f : Nat) (L : List UInt8) (ps : List Pt) (u : List UInt8), L.length ≤ N → partsL N e f L = .ok (ps, u) → partsL (N + k) e f L = .ok (ps.map (shP k), u)
  | 0, L, ps, u, _, h => by cases h; rfl
  | f + 1, [], ps, u, _, h => by cases h; rfl
  | f + 1, c :: t, ps, u, hl, h => by
    rw [partsL] at h ⊢
    split at h
    · rename_i hc
      rw [if_pos hc]
      cases h
      rfl
    · rename_i hc
      rw [if_neg hc]
      cases hp : partL N e (c :: t) with
      | error x => rw [hp] at h; cases h
      | ok q =>
        rw [hp] at h
        simp only at h
        cases hq : partsL N e f q.2 with
        | error x => rw [hq] at h; cases h
        | ok r =>
          rw [hq] at h
          simp only [Except.ok.injEq, Prod.mk.injEq] at h
          have h1 := part_sh k (p := q.1) (u := q.2) hl hp
          have h2 := parts_sh k N e f q.2 r.1 r.2 (Nat.le_trans (part_le (p := q.1) (u := q.2) hp) hl) hq
          rw [h1]
          simp only
          rw [h2]
          obtain ⟨rfl, rfl⟩ := h
          rfl
theorem closed_sh (k N : Nat) (w : Wd) (u : List UInt8) (r : Wd × List UInt8) (h : closedL N w u = .ok r) (w' : Wd) : closedL (N + k) w' u = .ok (w', u) := by
  unfold closedL at h ⊢
  cases u with
  | nil => rfl
  | cons c t =>
    simp only at h ⊢
    split at h
    · rename_i hc
      rw [if_pos hc]
    · cases h
theorem closed_word {N : Nat} {w w' : Wd} {u u' : List UInt8} (h : closedL N w u = .ok (w', u')) : w' = w := by
  unfold closedL at h
  cases u with
  | nil => cases h; rfl
  | cons c t =>
    simp only at h
    split at h
    · cases h; rfl
    · cases h
theorem word_sh (k : Nat) {N : Nat} {L : List UInt8} {w : Wd} {u : List UInt8} (hl : L.length ≤ N) (h : wordL N L = .ok (w, u)) : wordL (N + k) L = .ok (shW k w, u) := by
  have en : N + k - L.length = N - L.length + k := by omega
  rw [wordL] at h ⊢
  split at h
  · rename_i h1
    rw [if_pos h1]
    cases hb : passB 0 L.tail with
    | none => rw [hb] at h; cases h
    | some v =>
      rw [hb] at h
      simp only at h
      obtain rfl := closed_ok h
      obtain rfl := closed_word h
      simp only
      rw [closed_sh k N _ _ _ h]
      simp [shW, shP, en]
      omega
  · rename_i h1
    rw [if_neg h1]
    split at h
    · rename_i h2
      rw [if_pos h2]
      cases hp : partsL N [34] L.length L.tail with
      | error y => rw [hp] at h; cases h
      | ok q =>
        rw [hp] at h
        obtain ⟨ps, v⟩ := q
        have hs := parts_sh k N [34] _ _ _ _ (by rw [List.length_tail]; omega) hp
        rw [hs]
        cases v with
        | nil => cases h
        | cons c v =>
          simp only at h ⊢
          obtain rfl := closed_ok h
          obtain rfl := closed_word h
          rw [closed_sh k N _ _ _ h]
          cases ps with
          | nil => simp [shW, shP, en]
          | cons p ps => simp [shW, en]
    · rename_i h2
      rw [if_neg h2]
      cases hp : partsL N endS L.length L with
      | error y => rw [hp] at h; cases h
      | ok q =>
        rw [hp] at h
        simp only [Except.ok.injEq, Prod.mk.injEq] at h
        obtain ⟨rfl, rfl⟩ := h
        have hs := parts_sh k N endS _ _ _ _ hl hp
        rw [hs]
        simp [shW, en]
theorem words_sh (k N : Nat) : ∀ (f : Nat) (L : List UInt8) (ws : List Wd) (u : List UInt8), L.length ≤ N → wordsL N f L = .ok (ws, u) → wordsL (N + k) f L = .ok (ws.map (shW k), u)
  | 0, L, ws, u, _, h => by cases h; rfl
  | f + 1, [], ws, u, _, h => by cases h; rfl
  | f + 1, c :: t, ws, u, hl, h => by
    rw [wordsL] at h ⊢
    split at h
    · rename_i hc
      rw [if_pos hc]
      cases h
      rfl
    · rename_i hc
      rw [if_neg hc]
      cases hp : wordL N (c :: t) with
      | error x => rw [hp] at h; cases h
      | ok q =>
        rw [hp] at h
        simp only at h
        cases hq : wordsL N f (q.2.dropWhile blk) with
        | error x => rw [hq] at h; cases h
        | ok r =>
          rw [hq] at h
          simp only [Except.ok.injEq, Prod.mk.injEq] at h
          have h1 := word_sh k (w := q.1) (u := q.2) hl hp
          have hle := word_le (w := q.1) (u := q.2) hp
          have hd : (q.2.dropWhile blk).length ≤ q.2.length := (List.dropWhile_sublist _).length_le
          have h2 := words_sh k N f (q.2.dropWhile blk) r.1 r.2 (by omega) hq
          rw [h1]
          simp only
          rw [h2]
          obtain ⟨rfl, rfl⟩ := h
          rfl
theorem command_sh (k : Nat) {N : Nat} {L : List UInt8} {m : Cm} {u : List UInt8} (hl : L.length ≤ N) (h : commandL N L = .ok (m, u)) : commandL (N + k) L = .ok (shC k m, u) := by
  have ho := over_len L
  unfold commandL at h ⊢
  cases hw : wordsL N (over L).length (over L) with
  | error x => rw [hw] at h; cases h
  | ok r =>
    rw [hw] at h
    simp only [Except.ok.injEq, Prod.mk.injEq] at h
    obtain ⟨rfl, rfl⟩ := h
    rw [words_sh k N _ _ r.1 r.2 (by omega) hw]
    simp [shC]
    omega
theorem scan_sh (k N : Nat) : ∀ (f : Nat) (L : List UInt8) (ms : List Cm), L.length ≤ N → scanW (commandL N) f L = .ok ms → scanW (commandL (N + k)) f L = .ok (ms.map (shC k))
  | 0, L, ms, _, h => by cases h; rfl
  | f + 1, [], ms, _, h => by cases h; rfl
  | f + 1, c :: t, ms, hl, h => by
    rw [scanW] at h ⊢
    cases hc : commandL N (c :: t) with
    | error x => rw [hc] at h; cases h
    | ok q =>
      rw [hc] at h
      simp only at h
      cases hr : scanW (commandL N) f q.2 with
      | error x => rw [hr] at h; cases h
      | ok ms' =>
        rw [hr] at h
        simp only [Except.ok.injEq] at h
        have hlt := command_lt (m := q.1) (u := q.2) hc
        rw [command_sh k (m := q.1) (u := q.2) hl hc]
        simp only
        rw [scan_sh k N f q.2 ms' (by omega) hr]
        simp only
        rw [← h]
        cases hw : q.1.words with
        | nil => simp [shC, hw]
        | cons w ws => simp [shC, hw]
end Go.Proofs.YtlihkblllakhmaaGreatDoor
/-! A source read with another one behind it, plainly. -/
namespace Go.Proofs.YtlihkblllakhmaaGreatDoor

/-- No backslash, no hash. -/
def meek (L : List UInt8) : Prop := ∀ c ∈ L, c ≠ 92 ∧ c ≠ 35
theorem meek.sub {L u : List UInt8} (h : meek L) (hs : ∀ c ∈ u, c ∈ L) : meek u := fun c hc => h c (hs c hc)
theorem meek.tail {c : UInt8} {t : List UInt8} (h : meek (c :: t)) : meek t := fun d hd => h d (List.mem_cons_of_mem _ hd)
section
variable (c0 : UInt8) (R' : List UInt8) (h0 : sepS.contains c0 = true)
include h0
theorem sep_dol : dolC c0 = false ∧ blk c0 = false ∧ c0 ≠ 35 ∧ endS.contains c0 = true ∧ cont8 c0 = false := by
  have : c0 = 10 ∨ c0 = 59 := by simpa [sepS] using h0
  rcases this with rfl | rfl <;> decide
theorem stop_app (e : List UInt8) (c : UInt8) (t : List UInt8) : stopP e (c :: (t ++ c0 :: R')) = stopP e (c :: t) := by
  cases t with
  | nil =>
    simp only [List.nil_append, stopP, dolB]
    rw [(sep_dol c0 h0).1]
    simp
  | cons d t => simp only [List.cons_append, stopP, dolB]
theorem plain_app (e : List UInt8) : ∀ (f f' : Nat) (L x u : List UInt8), L.length ≤ f → f ≤ f' → meek L → plainL e f L = (x, u) → (u ≠ [] ∨ e.contains c0 = true) → plainL e f' (L ++ c0 :: R') = (x, u ++ c0 :: R')
  | f, f', [], x, u, hf, hff, hm, h, hc => by
    rw [plain_stop e f [] rfl] at h
    cases h
    rcases hc with hc | hc
    · exact absurd rfl hc
    · exact plain_stop e f' _ (by simp only [List.nil_append, stopP]; rw [hc]; rfl)
  | 0, f', c :: t, x, u, hf, _, _, _, _ => absurd hf (by simp)
  | f + 1, f', c :: t, x, u, hf, hff, hm, h, hc => by
    obtain ⟨g, rfl⟩ : ∃ g, f' = g + 1 := ⟨f' - 1, by omega⟩
    cases hs : stopP e (c :: t) with
    | true =>
      rw [plain_stop e (f + 1) _ hs] at h
      cases h
      exact plain_stop e _ _ (by rw [List.cons_append, stop_app c0 R' h0, hs])
    | false =>
      have hb : ∀ l : List UInt8, pByte (c :: l) = (c, 1) := fun l => by simp [pByte, (hm c (by simp)).1]
      rw [plain_more e f _ hs, hb] at h
      injection h with h1 h2
      simp only [List.drop_succ_cons, List.drop_zero] at h1 h2
      have ih := plain_app e f g t (plainL e f t).1 u (by simpa using hf) (by omega) hm.tail (Prod.ext rfl h2) hc
      rw [List.cons_append, plain_more e g _ (by rw [stop_app c0 R' h0, hs]), hb]
      simp only [List.drop_succ_cons, List.drop_zero, ih, h1]
theorem nrun_app (c : UInt8) (t : List UInt8) : nrun (c :: (t ++ c0 :: R')) = nrun (c :: t) := by
  have ht : ∀ l : List UInt8, (l ++ c0 :: R').takeWhile cont8 = l.takeWhile cont8 := by
    intro l
    induction l with
    | nil => simp [(sep_dol c0 h0).2.2.2.2]
    | cons d l ih => simp only [List.cons_append, List.takeWhile_cons, ih]
  rw [nrun, nrun, ← List.cons_append, ht]
theorem nrun_le (l : List UInt8) : (nrun l).length ≤ l.length := by
  have := h0
  cases l with
  | nil => simp [nrun]
  | cons c t =>
    rw [nrun]
    split
    · exact (List.takeWhile_sublist _).length_le
    · simp
theorem dollar_app {N : Nat} {L : List UInt8} {p : Pt} {u : List UInt8} (h : dollar N L = .ok (p, u)) : dollar (N + (R'.length + 1)) (L ++ c0 :: R') = .ok (p, u ++ c0 :: R') := by
  match L, h with
  | [], h => cases h
  | [_], h => cases h
  | a :: c :: t, h =>
    have e : N + (R'.length + 1) - ((t ++ c0 :: R').length + 2) = N - (t.length + 2) := by simp; omega
    rw [List.cons_append, List.cons_append, dollar, nrun_app c0 R' h0, e]
    rw [dollar] at h
    split at h
    · rename_i h1
      rw [if_pos h1]
      cases h
      rfl
    · rename_i h1
      rw [if_neg h1]
      split at h
      · rename_i h2
        rw [if_pos h2]
        cases h
        rfl
      · rename_i h2
        rw [if_neg h2]
        split at h
        · cases h
        · rename_i h3
          rw [if_neg h3]
          cases h
          rw [← List.cons_append, List.drop_append_of_le_length (nrun_le c0 h0 _)]
theorem part_app {N : Nat} {e : List UInt8} {c : UInt8} {t : List UInt8} {p : Pt} {u : List UInt8} (hm : meek (c :: t)) (h : partL N e (c :: t) = .ok (p, u)) (hc : u ≠ [] ∨ e.contains c0 = true) : partL (N + (R'.length + 1)) e (c :: t ++ c0 :: R') = .ok (p, u ++ c0 :: R') := by
  have en : N + (R'.length + 1) - (c :: (t ++ c0 :: R')).length = N - (c :: t).length := by simp; omega
  rw [List.cons_append, partL, en]
  rw [partL] at h
  by_cases h1 : (c :: t).head? = some 91
  · rw [if_pos h1, List.tail_cons] at h
    rw [if_pos (show (c :: (t ++ c0 :: R')).head? = some 91 from h1), List.tail_cons]
    cases hk : passK 0 0 t with
    | none => rw [hk] at h; cases h
    | some v =>
      rw [hk] at h
      simp only [Except.ok.injEq, Prod.mk.injEq] at h
      obtain ⟨rfl, rfl⟩ := h
      rw [passK_app (c0 :: R') _ _ _ _ _ (Nat.le_refl _) hk]
      have hlt := passK_lt _ _ _ _ _ (Nat.le_refl _) hk
      simp only
      congr 3
      have e2 : (t ++ c0 :: R').length - (v ++ c0 :: R').length - 1 = t.length - v.length - 1 := by simp; omega
      rw [e2, List.take_append_of_le_length (by omega)]
  · rw [if_neg h1] at h
    rw [if_neg (show ¬ (c :: (t ++ c0 :: R')).head? = some 91 from h1)]
    have hd : dolB (c :: (t ++ c0 :: R')) = dolB (c :: t) := by
      cases t with
      | nil =>
        simp only [List.nil_append, dolB]
        rw [(sep_dol c0 h0).1]
        simp
      | cons d t => simp only [List.cons_append, dolB]
    rw [hd]
    split at h
    · rename_i h2
      rw [if_pos h2]
      have := dollar_app c0 R' h0 h
      rw [List.cons_append] at this
      exact this
    · rename_i h2
      rw [if_neg h2]
      simp only [Except.ok.injEq, Prod.mk.injEq] at h
      obtain ⟨rfl, rfl⟩ := h
      have := plain_app c0 R' h0 e (c :: t).length (c :: (t ++ c0 :: R')).length (c :: t) (plainL e (c :: t).length (c :: t)).1 (plainL e (c :: t).length (c :: t)).2 (Nat.le_refl _) (by simp) hm rfl hc
      rw [List.cons_append] at this
      rw [this]
theorem parts_app (N : Nat) (e : List UInt8) : ∀ (f f' : Nat) (L : List UInt8) (ps : List Pt) (u : List UInt8), L.length ≤ f → f ≤ f' → meek L → partsL N e f L = .ok (ps, u) → (u ≠ [] ∨ e.contains c0 = true) → partsL (N + (R'.length + 1)) e f' (L ++ c0 :: R') = .ok (ps, u ++ c0 :: R')
  | f, f', [], ps, u, hf, hff, hm, h, hc => by
    rw [parts_nil] at h
    cases h
    rcases hc with hc | hc
    · exact absurd rfl hc
    · exact parts_end _ _ _ _ (fun d t e' => by cases e'; exact hc)
  | 0, f', c :: t, ps, u, hf, _, _, _, _ => absurd hf (by simp)
  | f + 1, f', c :: t, ps, u, hf, hff, hm, h, hc => by
    obtain ⟨g, rfl⟩ : ∃ g, f' = g + 1 := ⟨f' - 1, by omega⟩
    rw [partsL] at h
    rw [List.cons_append, partsL]
    split at h
    · rename_i hcc
      rw [if_pos hcc]
      cases h
      rfl
    · rename_i hcc
      rw [if_neg hcc]
      cases hp : partL N e (c :: t) with
      | error x => rw [hp] at h; cases h
      | ok q =>
        rw [hp] at h
        simp only at h
        cases hq : partsL N e f q.2 with
        | error x => rw [hq] at h; cases h
        | ok r =>
          rw [hq] at h
          simp only [Except.ok.injEq, Prod.mk.injEq] at h
          obtain ⟨rfl, rfl⟩ := h
          have hc2 : q.2 ≠ [] ∨ e.contains c0 = true := by
            rcases hc with hc | hc
            · left
              intro e'
              rw [e', parts_nil] at hq
              cases hq
              exact hc rfl
            · exact .inr hc
          have h1 := part_app c0 R' h0 (p := q.1) (u := q.2) hm hp hc2
          rw [List.cons_append] at h1
          have hsz : q.2.length ≤ f := by
            have h2 : q.2.length ≤ (c :: t).length := part_le (p := q.1) (u := q.2) hp
            have h3 : q.2.length < (c :: t).length := by
              have hz := parts_lt (N := N) (f := 0) (e := e) (c := c) (t := t) (ps := [q.1]) (u := q.2) (by simpa using hcc) (by
                rw [partsL, if_neg hcc, hp]
                rfl)
              exact hz
            simp at h3 hf
            omega
          have h2 := parts_app N e f g q.2 r.1 r.2 hsz (by omega) (hm.sub (part_sub (p := q.1) (u := q.2) hp)) hq hc
          rw [h1]
          simp only
          rw [h2]
theorem closed_app (N : Nat) (w : Wd) (u : List UInt8) (r : Wd × List UInt8) (N' : Nat) (h : closedL N w u = .ok r) : closedL N' w (u ++ c0 :: R') = .ok (w, u ++ c0 :: R') := by
  unfold closedL at h ⊢
  cases u with
  | nil =>
    simp only [List.nil_append]
    rw [if_pos (sep_dol c0 h0).2.2.2.1]
  | cons c t =>
    simp only [List.cons_append] at h ⊢
    split at h
    · rename_i hc
      rw [if_pos hc]
    · cases h
theorem word_app {N : Nat} {c : UInt8} {t : List UInt8} {w : Wd} {u : List UInt8} (hm : meek (c :: t)) (h : wordL N (c :: t) = .ok (w, u)) : wordL (N + (R'.length + 1)) (c :: t ++ c0 :: R') = .ok (w, u ++ c0 :: R') := by
  have en : N + (R'.length + 1) - (c :: (t ++ c0 :: R')).length = N - (c :: t).length := by simp; omega
  rw [List.cons_append, wordL, en]
  rw [wordL] at h
  by_cases h1 : (c :: t).head? = some 123
  · rw [if_pos h1, List.tail_cons] at h
    rw [if_pos (show (c :: (t ++ c0 :: R')).head? = some 123 from h1), List.tail_cons]
    cases hb : passB 0 t with
    | none => rw [hb] at h; cases h
    | some v =>
      rw [hb] at h
      simp only at h
      obtain rfl := closed_ok h
      obtain rfl := closed_word h
      have hlt := passB_lt _ _ _ _ (Nat.le_refl _) hb
      have e2 : (t ++ c0 :: R').length - (u ++ c0 :: R').length - 1 = t.length - u.length - 1 := by simp; omega
      rw [passB_app (c0 :: R') _ _ _ _ (Nat.le_refl _) hb]
      simp only
      rw [e2, List.take_append_of_le_length (by omega)]
      exact closed_app c0 R' h0 _ _ _ _ _ h
  · rw [if_neg h1] at h
    rw [if_neg (show ¬ (c :: (t ++ c0 :: R')).head? = some 123 from h1)]
    by_cases h2 : (c :: t).head? = some 34
    · rw [if_pos h2, List.tail_cons] at h
      rw [if_pos (show (c :: (t ++ c0 :: R')).head? = some 34 from h2), List.tail_cons]
      cases hp : partsL N [34] (c :: t).length t with
      | error y => rw [hp] at h; cases h
      | ok q =>
        rw [hp] at h
        obtain ⟨ps, v⟩ := q
        cases v with
        | nil => cases h
        | cons d v =>
          have hs := parts_app c0 R' h0 N [34] _ (c :: (t ++ c0 :: R')).length t _ _ (by simp) (by simp) hm.tail hp (.inl (by simp))
          rw [hs]
          simp only [List.cons_append] at h ⊢
          obtain rfl := closed_ok h
          obtain rfl := closed_word h
          exact closed_app c0 R' h0 _ _ _ _ _ h
    · rw [if_neg h2] at h
      rw [if_neg (show ¬ (c :: (t ++ c0 :: R')).head? = some 34 from h2)]
      cases hp : partsL N endS (c :: t).length (c :: t) with
      | error y => rw [hp] at h; cases h
      | ok q =>
        rw [hp] at h
        simp only [Except.ok.injEq, Prod.mk.injEq] at h
        obtain ⟨rfl, rfl⟩ := h
        have hs := parts_app c0 R' h0 N endS _ (c :: (t ++ c0 :: R')).length (c :: t) _ _ (Nat.le_refl _) (by simp) hm hp (.inr (sep_dol c0 h0).2.2.2.1)
        rw [List.cons_append] at hs
        rw [hs]
theorem drop_app (u : List UInt8) : (u ++ c0 :: R').dropWhile blk = u.dropWhile blk ++ c0 :: R' := by
  induction u with
  | nil => simp [(sep_dol c0 h0).2.1]
  | cons c u ih =>
    simp only [List.cons_append, List.dropWhile_cons]
    split
    · exact ih
    · rfl
theorem words_app (N : Nat) : ∀ (f f' : Nat) (L : List UInt8) (ws : List Wd) (u : List UInt8), L.length ≤ f → f ≤ f' → NoBlk L → meek L → wordsL N f L = .ok (ws, u) → wordsL (N + (R'.length + 1)) f' (L ++ c0 :: R') = .ok (ws, u ++ c0 :: R')
  | f, f', [], ws, u, hf, hff, _, hm, h => by
    rw [words_nil] at h
    cases h
    match f' with
    | 0 => rfl
    | g + 1 => rw [List.nil_append, wordsL, if_pos h0]
  | 0, f', c :: t, ws, u, hf, _, _, _, _ => absurd hf (by simp)
  | f + 1, f', c :: t, ws, u, hf, hff, hn, hm, h => by
    obtain ⟨g, rfl⟩ : ∃ g, f' = g + 1 := ⟨f' - 1, by omega⟩
    rw [wordsL] at h
    rw [List.cons_append, wordsL]
    split at h
    · rename_i hcc
      rw [if_pos hcc]
      cases h
      rfl
    · rename_i hcc
      rw [if_neg hcc]
      cases hp : wordL N (c :: t) with
      | error x => rw [hp] at h; cases h
      | ok q =>
        rw [hp] at h
        simp only at h
        cases hq : wordsL N f (q.2.dropWhile blk) with
        | error x => rw [hq] at h; cases h
        | ok r =>
          rw [hq] at h
          simp only [Except.ok.injEq, Prod.mk.injEq] at h
          obtain ⟨rfl, rfl⟩ := h
          have h1 := word_app c0 R' h0 (w := q.1) (u := q.2) hm hp
          rw [List.cons_append] at h1
          have hlt := word_lt (w := q.1) (u := q.2) (ends_sep c (by simpa using hcc) (hn c t rfl)) hp
          have hd : (q.2.dropWhile blk).length ≤ q.2.length := (List.dropWhile_sublist _).length_le
          have hmu : meek (q.2.dropWhile blk) := (hm.sub (word_sub (w := q.1) (u := q.2) hp)).sub (fun x hx => (List.dropWhile_sublist _).subset hx)
          have h2 := words_app N f g (q.2.dropWhile blk) r.1 r.2 (by simp at hlt hf; omega) (by omega) (noBlk_drop _) hmu hq
          rw [h1]
          simp only
          rw [drop_app c0 R' h0, h2]
theorem over_meek (L : List UInt8) (hm : meek L) : over L = L.dropWhile blk ∧ over (L ++ c0 :: R') = over L ++ c0 :: R' := by
  have h1 : over L = L.dropWhile blk := by
    unfold over overC
    split
    · rename_i h
      exfalso
      cases hd : L.dropWhile blk with
      | nil => rw [hd] at h; cases h
      | cons a b =>
        rw [hd] at h
        simp at h
        exact (hm a ((List.dropWhile_sublist _).subset (by rw [hd]; simp))).2 h
    · rfl
  refine ⟨h1, ?_⟩
  rw [h1]
  unfold over overC
  rw [drop_app c0 R' h0]
  split
  · rename_i h
    exfalso
    cases hd : L.dropWhile blk with
    | nil =>
      rw [hd] at h
      simp at h
      exact (sep_dol c0 h0).2.2.1 h
    | cons a b =>
      rw [hd] at h
      simp at h
      exact (hm a ((List.dropWhile_sublist _).subset (by rw [hd]; simp))).2 h
  · rfl
end
end Go.Proofs.YtlihkblllakhmaaGreatDoor
namespace Go.Proofs.YtlihkblllakhmaaGreatDoor

theorem scan_fuel (N : Nat) : ∀ (f f' : Nat) (L : List UInt8), L.length ≤ f → L.length ≤ f' → scanW (commandL N) f L = scanW (commandL N) f' L
  | f, f', [], _, _ => by rw [scan_nil, scan_nil]
  | 0, f', c :: t, h, _ => absurd h (by simp)
  | f + 1, 0, c :: t, _, h => absurd h (by simp)
  | f + 1, f' + 1, c :: t, h, h' => by
    rw [scanW, scanW]
    cases hc : commandL N (c :: t) with
    | error x => rfl
    | ok q =>
      have hlt := command_lt (m := q.1) (u := q.2) hc
      simp only [List.length_cons] at hlt h h'
      simp only
      rw [scan_fuel N f f' q.2 (by omega) (by omega)]
section
variable (c0 : UInt8) (R' : List UInt8) (h0 : sepS.contains c0 = true)
include h0
theorem sep_command (N : Nat) : commandL N (c0 :: R') = .ok (⟨N - (R'.length + 1), []⟩, R') := by
  have ho : over (c0 :: R') = c0 :: R' := by
    have h := sep_dol c0 h0
    rw [over, overC, List.dropWhile_cons, h.2.1]
    simp [h.2.2.1]
  rw [commandL, ho, List.length_cons, wordsL, if_pos h0]
  rfl
theorem command_app {N : Nat} {L : List UInt8} {m : Cm} {u : List UInt8} (hm : meek L) (hne : L ≠ []) (h : commandL N L = .ok (m, u)) : commandL (N + (R'.length + 1)) (L ++ c0 :: R') = .ok (m, u ++ c0 :: R') ∨ (u = [] ∧ commandL (N + (R'.length + 1)) (L ++ c0 :: R') = .ok (m, R')) := by
  obtain ⟨o1, o2⟩ := over_meek c0 R' h0 L hm
  have hmo : meek (over L) := hm.sub (fun x hx => by rw [o1] at hx; exact (List.dropWhile_sublist _).subset hx)
  have := hne
  unfold commandL at h ⊢
  rw [o2]
  cases hw : wordsL N (over L).length (over L) with
  | error x => rw [hw] at h; cases h
  | ok r =>
    rw [hw] at h
    simp only [Except.ok.injEq, Prod.mk.injEq] at h
    obtain ⟨rfl, rfl⟩ := h
    have hs := words_app c0 R' h0 N _ (over L ++ c0 :: R').length (over L) r.1 r.2 (Nat.le_refl _) (by simp) (noBlk_over _) hmo hw
    rw [hs]
    have en : N + (R'.length + 1) - (over L ++ c0 :: R').length = N - (over L).length := by simp; omega
    simp only
    rw [en]
    cases hr : r.2 with
    | nil => right; exact ⟨rfl, rfl⟩
    | cons a b => left; rfl
theorem command_sub {N : Nat} {L : List UInt8} {m : Cm} {u : List UInt8} (hm : meek L) (h : commandL N L = .ok (m, u)) : meek u := by
  obtain ⟨o1, _⟩ := over_meek c0 [] h0 L hm
  have hmo : meek (over L) := hm.sub (fun x hx => by rw [o1] at hx; exact (List.dropWhile_sublist _).subset hx)
  unfold commandL at h
  cases hw : wordsL N (over L).length (over L) with
  | error x => rw [hw] at h; cases h
  | ok r =>
    rw [hw] at h
    simp only [Except.ok.injEq, Prod.mk.injEq] at h
    obtain ⟨rfl, rfl⟩ := h
    have key : ∀ (f : Nat) (L : List UInt8) (ws : List Wd) (u : List UInt8), wordsL N f L = .ok (ws, u) → ∀ c ∈ u, c ∈ L := by
      intro f
      induction f with
      | zero => intro L ws u h; cases h; exact fun _ h => h
      | succ f ih =>
        intro L ws u h
        match L, h with
        | [], h => cases h; exact fun _ h => h
        | c :: t, h =>
          rw [wordsL] at h
          split at h
          · cases h; exact fun _ h => h
          · cases hp : wordL N (c :: t) with
            | error x => rw [hp] at h; cases h
            | ok q =>
              rw [hp] at h
              simp only at h
              cases hq : wordsL N f (q.2.dropWhile blk) with
              | error x => rw [hq] at h; cases h
              | ok r =>
                rw [hq] at h
                simp only [Except.ok.injEq, Prod.mk.injEq] at h
                intro x hx
                rw [← h.2] at hx
                exact word_sub (w := q.1) (u := q.2) hp x ((List.dropWhile_sublist _).subset (ih _ _ _ hq x hx))
    exact hmo.sub (fun x hx => key _ _ r.1 r.2 hw x (List.mem_of_mem_tail hx))
theorem scan_app (N : Nat) (X : List Cm) (hX : ∀ f', R'.length ≤ f' → scanW (commandL (N + (R'.length + 1))) f' R' = .ok X) : ∀ (f f' : Nat) (L : List UInt8) (ms1 : List Cm), L.length ≤ f → (L ++ c0 :: R').length ≤ f' → meek L → scanW (commandL N) f L = .ok ms1 → scanW (commandL (N + (R'.length + 1))) f' (L ++ c0 :: R') = .ok (ms1 ++ X)
  | f, f', [], ms1, _, hf', _, h => by
    rw [scan_nil] at h
    cases h
    simp only [List.nil_append, List.length_cons] at hf' ⊢
    obtain ⟨g, rfl⟩ : ∃ g, f' = g + 1 := ⟨f' - 1, by omega⟩
    rw [scanW, sep_command c0 R' h0]
    simp only
    rw [hX g (by omega)]
    simp
  | 0, f', c :: t, ms1, hf, _, _, _ => absurd hf (by simp)
  | f + 1, f', c :: t, ms1, hf, hf', hm, h => by
    obtain ⟨g, rfl⟩ : ∃ g, f' = g + 1 := ⟨f' - 1, by simp at hf'; omega⟩
    rw [scanW] at h
    cases hc : commandL N (c :: t) with
    | error x => rw [hc] at h; cases h
    | ok q =>
      rw [hc] at h
      simp only at h
      cases hr : scanW (commandL N) f q.2 with
      | error x => rw [hr] at h; cases h
      | ok ms =>
        rw [hr] at h
        simp only [Except.ok.injEq] at h
        have hlt := command_lt (m := q.1) (u := q.2) hc
        simp only [List.length_cons] at hlt hf
        have hmu := command_sub c0 h0 (m := q.1) (u := q.2) hm hc
        have hca := command_app c0 R' h0 (m := q.1) (u := q.2) hm (by simp) hc
        simp only [List.cons_append] at hca ⊢
        rw [scanW]
        rcases hca with hca | ⟨hu, hca⟩
        · have ih := scan_app N X hX f g q.2 ms (by omega) (by simp at hf' ⊢; omega) hmu hr
          rw [hca]
          simp only
          rw [ih, ← h]
          cases q.1.words.isEmpty <;> rfl
        · rw [hca]
          simp only
          rw [hX g (by simp at hf'; omega), ← h]
          rw [hu, scan_nil] at hr
          cases hr
          cases q.1.words.isEmpty <;> rfl
end
/-- Two sources, one behind the other. -/
theorem scan_two (c0 : UInt8) (h0 : sepS.contains c0 = true) (s t : List UInt8) (ms1 bs : List Cm) (hm : meek s) (hs : scanL s = .ok ms1) (ht : scanL t = .ok bs) : scanL (s ++ c0 :: t) = .ok (ms1 ++ bs.map (shC (s.length + 1))) := by
  rw [scanL] at hs ht ⊢
  have hN : (s ++ c0 :: t).length = s.length + (t.length + 1) := by simp
  rw [hN]
  refine scan_app c0 t h0 s.length _ ?_ s.length _ s ms1 (Nat.le_refl _) (by rw [hN]; exact Nat.le_refl _) hm hs
  intro f' hf'
  rw [scan_fuel _ f' t.length t hf' (Nat.le_refl _), show s.length + (t.length + 1) = t.length + (s.length + 1) by omega]
  exact scan_sh (s.length + 1) t.length t.length t bs (Nat.le_refl _) ht
/-! ### how many, and how far -/
theorem dollar_pos {N : Nat} {l : List UInt8} {p : Pt} {u : List UInt8} (h : dollar N l = .ok (p, u)) : p.pos ≤ N := by
  match l, h with
  | [], h => cases h
  | [_], h => cases h
  | a :: c :: t, h =>
    rw [dollar] at h
    split at h
    · cases h; simp
    · split at h
      · cases h; simp
      · split at h
        · cases h
        · cases h; simp
theorem part_pos {N : Nat} {e L : List UInt8} {p : Pt} {u : List UInt8} (h : partL N e L = .ok (p, u)) : p.pos ≤ N := by
  rw [partL] at h
  split at h
  · cases hk : passK 0 0 L.tail with
    | none => rw [hk] at h; cases h
    | some v => rw [hk] at h; cases h; simp
  · split at h
    · exact dollar_pos h
    · cases h; simp
theorem parts_few (N : Nat) (e : List UInt8) : ∀ (f : Nat) (L : List UInt8) (ps : List Pt) (u : List UInt8), partsL N e f L = .ok (ps, u) → ps.length ≤ f ∧ ∀ p ∈ ps, p.pos ≤ N
  | 0, L, ps, u, h => by cases h; simp
  | f + 1, [], ps, u, h => by cases h; simp
  | f + 1, c :: t, ps, u, h => by
    rw [partsL] at h
    split at h
    · cases h; simp
    · cases hp : partL N e (c :: t) with
      | error x => rw [hp] at h; cases h
      | ok q =>
        rw [hp] at h
        simp only at h
        cases hq : partsL N e f q.2 with
        | error x => rw [hq] at h; cases h
        | ok r =>
          rw [hq] at h
          simp only [Except.ok.injEq, Prod.mk.injEq] at h
          obtain ⟨h1, h2⟩ := parts_few N e f q.2 r.1 r.2 hq
          rw [← h.1]
          refine ⟨by simp; omega, fun p hp' => ?_⟩
          rcases List.mem_cons.1 hp' with rfl | hp'
          · exact part_pos (u := q.2) hp
          · exact h2 p hp'
/-- A word's parts and places. -/
def FewW (N : Nat) (w : Wd) : Prop := w.pos ≤ N ∧ w.parts.length ≤ N + 1 ∧ ∀ p ∈ w.parts, p.pos ≤ N + 1
theorem word_few {N : Nat} {L : List UInt8} {w : Wd} {u : List UInt8} (hl : L.length ≤ N) (h : wordL N L = .ok (w, u)) : FewW N w := by
  rw [wordL] at h
  split at h
  · cases hb : passB 0 L.tail with
    | none => rw [hb] at h; cases h
    | some v =>
      rw [hb] at h
      simp only at h
      rw [closed_word h]
      exact ⟨Nat.sub_le _ _, by simp, fun p hp => by
        rw [List.mem_singleton] at hp
        subst hp
        exact Nat.add_le_add_right (Nat.sub_le _ _) 1⟩
  · split at h
    · cases hp : partsL N [34] L.length L.tail with
      | error y => rw [hp] at h; cases h
      | ok q =>
        rw [hp] at h
        obtain ⟨ps, v⟩ := q
        obtain ⟨h1, h2⟩ := parts_few _ _ _ _ _ _ hp
        cases v with
        | nil => cases h
        | cons c v =>
          simp only at h
          rw [closed_word h]
          cases ps with
          | nil => exact ⟨Nat.sub_le _ _, by simp, fun p hp => by
              simp at hp
              subst hp
              simp
              omega⟩
          | cons p ps => exact ⟨Nat.sub_le _ _, by simp at h1 ⊢; omega, fun p hp => Nat.le_succ_of_le (h2 p (by simpa using hp))⟩
    · cases hp : partsL N endS L.length L with
      | error y => rw [hp] at h; cases h
      | ok q =>
        rw [hp] at h
        simp only [Except.ok.injEq, Prod.mk.injEq] at h
        obtain ⟨h1, h2⟩ := parts_few _ _ _ _ q.1 q.2 hp
        rw [← h.1]
        exact ⟨Nat.sub_le _ _, by simp only; omega, fun p hp => Nat.le_succ_of_le (h2 p hp)⟩
theorem words_few (N : Nat) : ∀ (f : Nat) (L : List UInt8) (ws : List Wd) (u : List UInt8), L.length ≤ N → wordsL N f L = .ok (ws, u) → ws.length ≤ f ∧ ∀ w ∈ ws, FewW N w
  | 0, L, ws, u, _, h => by cases h; simp
  | f + 1, [], ws, u, _, h => by cases h; simp
  | f + 1, c :: t, ws, u, hl, h => by
    rw [wordsL] at h
    split at h
    · cases h; simp
    · cases hp : wordL N (c :: t) with
      | error x => rw [hp] at h; cases h
      | ok q =>
        rw [hp] at h
        simp only at h
        cases hq : wordsL N f (q.2.dropWhile blk) with
        | error x => rw [hq] at h; cases h
        | ok r =>
          rw [hq] at h
          simp only [Except.ok.injEq, Prod.mk.injEq] at h
          have hle := word_le (w := q.1) (u := q.2) hp
          have hd : (q.2.dropWhile blk).length ≤ q.2.length := (List.dropWhile_sublist _).length_le
          obtain ⟨h1, h2⟩ := words_few N f _ r.1 r.2 (by omega) hq
          rw [← h.1]
          refine ⟨by simp; omega, fun w hw => ?_⟩
          rcases List.mem_cons.1 hw with rfl | hw
          · exact word_few (u := q.2) hl hp
          · exact h2 w hw
def FewC (N : Nat) (m : Cm) : Prop := m.pos ≤ N ∧ m.words.length ≤ N ∧ ∀ w ∈ m.words, FewW N w
theorem scan_few (N : Nat) : ∀ (f : Nat) (L : List UInt8) (ms : List Cm), L.length ≤ N → scanW (commandL N) f L = .ok ms → ms.length ≤ f ∧ ∀ m ∈ ms, FewC N m
  | 0, L, ms, _, h => by cases h; simp
  | f + 1, [], ms, _, h => by cases h; simp
  | f + 1, c :: t, ms, hl, h => by
    rw [scanW] at h
    cases hc : commandL N (c :: t) with
    | error x => rw [hc] at h; cases h
    | ok q =>
      rw [hc] at h
      simp only at h
      cases hr : scanW (commandL N) f q.2 with
      | error x => rw [hr] at h; cases h
      | ok ms' =>
        rw [hr] at h
        simp only [Except.ok.injEq] at h
        have hlt := command_lt (m := q.1) (u := q.2) hc
        obtain ⟨h1, h2⟩ := scan_few N f q.2 ms' (by omega) hr
        have hq1 : FewC N q.1 := by
          have ho := over_len (c :: t)
          unfold commandL at hc
          cases hw : wordsL N (over (c :: t)).length (over (c :: t)) with
          | error x => rw [hw] at hc; cases hc
          | ok r =>
            rw [hw] at hc
            simp only [Except.ok.injEq] at hc
            obtain ⟨h3, h4⟩ := words_few N _ _ r.1 r.2 (by omega) hw
            rw [← hc]
            exact ⟨Nat.sub_le _ _, by simp only; omega, h4⟩
        rw [← h]
        split
        · exact ⟨by omega, h2⟩
        · refine ⟨by simp; omega, fun m hm => ?_⟩
          rcases List.mem_cons.1 hm with rfl | hm
          · exact hq1
          · exact h2 m hm
end Go.Proofs.YtlihkblllakhmaaGreatDoor
