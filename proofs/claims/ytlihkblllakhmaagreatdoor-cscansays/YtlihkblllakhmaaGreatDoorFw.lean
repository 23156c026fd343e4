/- How many commands, words and parts there are. -/
import Derived.Test.YtlihkblllakhmaaGreatDoorRd19
namespace Go.Proofs.YtlihkblllakhmaaGreatDoor
open Go.RowKit

theorem closed_word {N : Nat} {w w' : Wd} {u u' : List UInt8} (h : closedL N w u = .ok (w', u')) : w' = w := by
  unfold closedL at h
  cases u with
  | nil => cases h; rfl
  | cons c t =>
    simp only at h
    split at h
    · cases h; rfl
    · cases h
theorem dollar_pos {N : Nat} {l : List UInt8} {p : Pt} {u : List UInt8} (h : dollar N l = .ok (p, u)) : p.pos ≤ N := by
  match l, h with
  | [], h => cases h
  | [_], h => cases h
  | a :: c :: t, h =>
    rw [dollar] at h
    split at h
    · cases h; simp
    · split at h
      · cases h; simp
      · split at h
        · cases h
        · cases h; simp
theorem part_pos {N : Nat} {e L : List UInt8} {p : Pt} {u : List UInt8} (h : partL N e L = .ok (p, u)) : p.pos ≤ N := by
  rw [partL] at h
  split at h
  · cases hk : passK 0 0 L.tail with
    | none => rw [hk] at h; cases h
    | some v => rw [hk] at h; cases h; simp
  · split at h
    · exact dollar_pos h
    · cases h; simp
theorem parts_few (N : Nat) (e : List UInt8) : ∀ (f : Nat) (L : List UInt8) (ps : List Pt) (u : List UInt8), partsL N e f L = .ok (ps, u) → ps.length ≤ f ∧ ∀ p ∈ ps, p.pos ≤ N
  | 0, L, ps, u, h => by cases h; simp
  | f + 1, [], ps, u, h => by cases h; simp
  | f + 1, c :: t, ps, u, h => by
    rw [partsL] at h
    split at h
    · cases h; simp
    · cases hp : partL N e (c :: t) with
      | error x => rw [hp] at h; cases h
      | ok q =>
        rw [hp] at h
        simp only at h
        cases hq : partsL N e f q.2 with
        | error x => rw [hq] at h; cases h
        | ok r =>
          rw [hq] at h
          simp only [Except.ok.injEq, Prod.mk.injEq] at h
          obtain ⟨h1, h2⟩ := parts_few N e f q.2 r.1 r.2 hq
          rw [← h.1]
          refine ⟨by simp; omega, fun p hp' => ?_⟩
          rcases List.mem_cons.1 hp' with rfl | hp'
          · exact part_pos (u := q.2) hp
          · exact h2 p hp'
/-- A word's parts and places. -/
def FewW (N : Nat) (w : Wd) : Prop := w.pos ≤ N ∧ w.parts.length ≤ N + 1 ∧ ∀ p ∈ w.parts, p.pos ≤ N + 1
theorem word_few {N : Nat} {L : List UInt8} {w : Wd} {u : List UInt8} (hl : L.length ≤ N) (h : wordL N L = .ok (w, u)) : FewW N w := by
  rw [wordL] at h
  split at h
  · cases hb : passB 0 L.tail with
    | none => rw [hb] at h; cases h
    | some v =>
      rw [hb] at h
      simp only at h
      rw [closed_word h]
      exact ⟨Nat.sub_le _ _, by simp, fun p hp => by
        rw [List.mem_singleton] at hp
        subst hp
        exact Nat.add_le_add_right (Nat.sub_le _ _) 1⟩
  · split at h
    · cases hp : partsL N [34] L.length L.tail with
      | error y => rw [hp] at h; cases h
      | ok q =>
        rw [hp] at h
        obtain ⟨ps, v⟩ := q
        obtain ⟨h1, h2⟩ := parts_few _ _ _ _ _ _ hp
        cases v with
        | nil => cases h
        | cons c v =>
          simp only at h
          rw [closed_word h]
          cases ps with
          | nil => exact ⟨Nat.sub_le _ _, by simp, fun p hp => by
              simp at hp
              subst hp
              simp
              omega⟩
          | cons p ps => exact ⟨Nat.sub_le _ _, by simp at h1 ⊢; omega, fun p hp => Nat.le_succ_of_le (h2 p (by simpa using hp))⟩
    · cases hp : partsL N endS L.length L with
      | error y => rw [hp] at h; cases h
      | ok q =>
        rw [hp] at h
        simp only [Except.ok.injEq, Prod.mk.injEq] at h
        obtain ⟨h1, h2⟩ := parts_few _ _ _ _ q.1 q.2 hp
        rw [← h.1]
        exact ⟨Nat.sub_le _ _, by simp only; omega, fun p hp => Nat.le_succ_of_le (h2 p hp)⟩
theorem words_few (N : Nat) : ∀ (f : Nat) (L : List UInt8) (ws : List Wd) (u : List UInt8), L.length ≤ N → wordsL N f L = .ok (ws, u) → ws.length ≤ f ∧ ∀ w ∈ ws, FewW N w
  | 0, L, ws, u, _, h => by cases h; simp
  | f + 1, [], ws, u, _, h => by cases h; simp
  | f + 1, c :: t, ws, u, hl, h => by
    rw [wordsL] at h
    split at h
    · cases h; simp
    · cases hp : wordL N (c :: t) with
      | error x => rw [hp] at h; cases h
      | ok q =>
        rw [hp] at h
        simp only at h
        cases hq : wordsL N f (q.2.dropWhile blk) with
        | error x => rw [hq] at h; cases h
        | ok r =>
          rw [hq] at h
          simp only [Except.ok.injEq, Prod.mk.injEq] at h
          have hle := word_le (w := q.1) (u := q.2) hp
          have hd : (q.2.dropWhile blk).length ≤ q.2.length := (List.dropWhile_sublist _).length_le
          obtain ⟨h1, h2⟩ := words_few N f _ r.1 r.2 (by omega) hq
          rw [← h.1]
          refine ⟨by simp; omega, fun w hw => ?_⟩
          rcases List.mem_cons.1 hw with rfl | hw
          · exact word_few (u := q.2) hl hp
          · exact h2 w hw
def FewC (N : Nat) (m : Cm) : Prop := m.pos ≤ N ∧ m.words.length ≤ N ∧ ∀ w ∈ m.words, FewW N w
theorem scan_few (N : Nat) : ∀ (f : Nat) (L : List UInt8) (ms : List Cm), L.length ≤ N → scanW (commandL N) f L = .ok ms → ms.length ≤ f ∧ ∀ m ∈ ms, FewC N m
  | 0, L, ms, _, h => by cases h; simp
  | f + 1, [], ms, _, h => by cases h; simp
  | f + 1, c :: t, ms, hl, h => by
    rw [scanW] at h
    cases hc : commandL N (c :: t) with
    | error x => rw [hc] at h; cases h
    | ok q =>
      rw [hc] at h
      simp only at h
      cases hr : scanW (commandL N) f q.2 with
      | error x => rw [hr] at h; cases h
      | ok ms' =>
        rw [hr] at h
        simp only [Except.ok.injEq] at h
        have hlt := command_lt (m := q.1) (u := q.2) hc
        obtain ⟨h1, h2⟩ := scan_few N f q.2 ms' (by omega) hr
        have hq1 : FewC N q.1 := by
          have ho := over_len (c :: t)
          unfold commandL at hc
          cases hw : wordsL N (over (c :: t)).length (over (c :: t)) with
          | error x => rw [hw] at hc; cases hc
          | ok r =>
            rw [hw] at hc
            simp only [Except.ok.injEq] at hc
            obtain ⟨h3, h4⟩ := words_few N _ _ r.1 r.2 (by omega) hw
            rw [← hc]
            exact ⟨Nat.sub_le _ _, by simp only; omega, h4⟩
        rw [← h]
        split
        · exact ⟨by omega, h2⟩
        · refine ⟨by simp; omega, fun m hm => ?_⟩
          rcases List.mem_cons.1 hm with rfl | hm
          · exact hq1
          · exact h2 m hm
end Go.Proofs.YtlihkblllakhmaaGreatDoor
