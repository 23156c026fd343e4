/- Plain: what is printed of a word is read back as a word that is flat as it was. -/
import Derived.Test.YtnlbjgioleoihaaGreatDoorPureQ
namespace Go.Proofs.YtnlbjgioleoihaaGreatDoor

/-- A dollar's part as it is written; any part; a word's; a token. -/
def prDol (p : Pt) : List UInt8 :=
  if p.kind = 3 then (if p.s = [42] then [36, 42] else 36 :: 123 :: (p.s ++ [125]))
  else if p.kind = 4 then 36 :: 40 :: (p.s ++ [41])
  else if p.kind = 5 then [36, UInt8.ofNat (48 + p.n)]
  else if p.kind = 6 then [36, 35]
  else []
def prPt (p : Pt) : List UInt8 :=
  if p.kind = 1 then p.s
  else if p.kind = 2 then 39 :: (escS p.s ++ [39])
  else if p.quoted && !(prDol p).isEmpty then 34 :: (prDol p ++ [34]) else prDol p
def prW : List Pt → List UInt8
  | [] => []
  | p :: ps => prPt p ++ prW ps
theorem prW_app : ∀ a b : List Pt, prW (a ++ b) = prW a ++ prW b
  | [], b => rfl
  | p :: a, b => by rw [List.cons_append, prW, prW, prW_app a b, List.append_assoc]
/-- What may stand right behind living text. -/
def Nx (r : List UInt8) : Prop := r = [] ∨ ∃ d t, r = d :: t ∧ (d = 32 ∨ d = 39 ∨ d = 34 ∨ (d = 36 ∧ dolB (d :: t) = true))
theorem Nx.stop {r : List UInt8} (h : Nx r) : liv r = [] := by
  rcases h with rfl | ⟨d, t, rfl, rfl | rfl | rfl | ⟨_, h⟩⟩
  · rfl
  · rw [liv, if_pos (by rw [show tEnd 32 = true by decide]; rfl)]
  · rw [liv, if_pos (by rw [show tEnd 39 = true by decide]; rfl)]
  · rw [liv, if_pos (by rw [show tEnd 34 = true by decide]; rfl)]
  · rw [liv, if_pos (by rw [h]; simp)]
theorem Nx.no {r : List UInt8} (h : Nx r) (c : UInt8) : dolB (c :: r) = false := by
  rcases h with rfl | ⟨d, t, rfl, rfl | rfl | rfl | ⟨rfl, _⟩⟩
  · rfl
  all_goals
    rw [dolB]
    rw [Bool.and_eq_false_iff]
    exact .inr (by decide)
theorem liv_back : ∀ (l r : List UInt8), Nx r → liv (liv l ++ r) = liv l
  | [], r, h => h.stop
  | c :: t, r, h => by
    rw [liv]
    by_cases hc : (tEnd c || dolB (c :: t)) = true
    · rw [if_pos hc]; exact h.stop
    · rw [if_neg hc, List.cons_append, liv]
      have hc' : tEnd c = false ∧ dolB (c :: t) = false := by simpa using hc
      have hd : dolB (c :: (liv t ++ r)) = false := by
        cases hl : liv t with
        | nil => exact h.no c
        | cons d u =>
          cases t with
          | nil => cases hl
          | cons e t =>
            rw [liv] at hl
            split at hl
            · cases hl
            · obtain ⟨rfl, _⟩ := List.cons.inj hl
              exact hc'.2
      rw [if_neg (by rw [hc'.1, hd]; simp), liv_back t r h]
/-- What ends a run between double quotes, or within brackets. -/
def endB (k : Nat) : UInt8 := if k = 0 then 34 else 41
theorem pSing_split : ∀ (l u : List UInt8), pSing l = some u → ∃ a, l = a ++ 39 :: u ∧ (39 : UInt8) ∉ a
  | [], u, h => by cases h
  | c :: t, u, h => by
    rw [pSing] at h
    split at h
    · rename_i hc
      cases h
      exact ⟨[], by rw [hc]; rfl, by simp⟩
    · rename_i hc
      obtain ⟨a, h1, h2⟩ := pSing_split t u h
      exact ⟨c :: a, by rw [h1]; rfl, by simp [h2]; exact fun e => hc e.symm⟩
/-- What is passed over is passed over whatever stands behind it. -/
theorem pass_back : ∀ (f k : Nat) (l u : List UInt8), pass f k l = some u → ∃ s, l = s ++ endB k :: u ∧ ∀ (g : Nat) (v : List UInt8), (s ++ endB k :: v).length < g → pass g k (s ++ endB k :: v) = some v := by
  intro f
  induction f with
  | zero => intro k l u h; cases h
  | succ f ih =>
    intro k l u h
    cases l with
    | nil => cases k <;> cases h
    | cons c t =>
      have key : ∀ (k' : Nat) (w : List UInt8), endB k' = endB k → pass f k' w = some u → ∃ s, w = s ++ endB k :: u ∧ ∀ (g : Nat) (v : List UInt8), (s ++ endB k :: v).length < g → pass g k' (s ++ endB k :: v) = some v := fun k' w e hw => by
        obtain ⟨s, h1, h2⟩ := ih k' w u hw
        rw [e] at h1 h2
        exact ⟨s, h1, h2⟩
      cases k with
      | zero =>
        rw [pass] at h
        split at h
        · rename_i hc
          cases h
          refine ⟨[], by rw [hc]; rfl, fun g v hg => ?_⟩
          obtain ⟨g, rfl⟩ : ∃ g', g = g' + 1 := ⟨g - 1, by omega⟩
          rw [List.nil_append, show endB 0 = 34 from rfl, pass, if_pos rfl]
        · rename_i h34
          split at h
          · rename_i hc
            cases t with
            | nil => cases f <;> cases h
            | cons d t =>
              obtain ⟨s, h1, h2⟩ := key 0 t rfl h
              refine ⟨c :: d :: s, by rw [h1]; rfl, fun g v hg => ?_⟩
              simp only [List.cons_append, List.length_cons] at hg
              obtain ⟨g, rfl⟩ : ∃ g', g = g' + 1 := ⟨g - 1, by omega⟩
              rw [List.cons_append, List.cons_append, pass, if_neg h34, if_pos hc]
              exact h2 g v (by omega)
          · rename_i h92
            split at h
            · rename_i hc
              obtain ⟨hc, hd⟩ := hc
              cases t with
              | nil => cases hd
              | cons d t =>
                obtain rfl := Option.some.inj hd
                obtain ⟨w, hw1, hw2⟩ := Option.bind_eq_some_iff.1 h
                obtain ⟨s1, a1, a2⟩ := ih 1 t w hw1
                obtain ⟨s2, b1, b2⟩ := key 0 w rfl hw2
                refine ⟨c :: 40 :: (s1 ++ 41 :: s2), by rw [show t = _ from a1, b1]; simp [endB], fun g v hg => ?_⟩
                simp only [List.cons_append, List.length_cons, List.append_assoc, List.length_append] at hg
                obtain ⟨g, rfl⟩ : ∃ g', g = g' + 1 := ⟨g - 1, by omega⟩
                simp only [List.cons_append, List.append_assoc]
                rw [pass, if_neg h34, if_neg h92, if_pos ⟨hc, rfl⟩]
                have e1 := a2 g (s2 ++ endB 0 :: v) (by simp [endB]; omega)
                have e2 := b2 g v (by simp; omega)
                rw [show endB 1 = 41 from rfl] at e1
                rw [List.tail_cons, e1]
                exact e2
            · rename_i hn
              obtain ⟨s, h1, h2⟩ := key 0 t rfl h
              refine ⟨c :: s, by rw [h1]; rfl, fun g v hg => ?_⟩
              simp only [List.cons_append, List.length_cons] at hg
              obtain ⟨g, rfl⟩ : ∃ g', g = g' + 1 := ⟨g - 1, by omega⟩
              rw [List.cons_append, pass, if_neg h34, if_neg h92, if_neg]
              · exact h2 g v (by omega)
              · rintro ⟨e1, e2⟩
                refine hn ⟨e1, ?_⟩
                rw [h1]
                cases s with
                | nil => exact e2
                | cons d s => exact e2
      | succ k =>
        have e0 : endB (k + 1) = 41 := rfl
        rw [pass] at h
        split at h
        · rename_i hc
          cases t with
          | nil => cases f <;> cases h
          | cons d t =>
            obtain ⟨s, h1, h2⟩ := key (k + 1) t rfl h
            refine ⟨c :: d :: s, by rw [h1]; rfl, fun g v hg => ?_⟩
            simp only [List.cons_append, List.length_cons] at hg
            obtain ⟨g, rfl⟩ : ∃ g', g = g' + 1 := ⟨g - 1, by omega⟩
            rw [List.cons_append, List.cons_append, pass, if_pos hc]
            exact h2 g v (by omega)
        · rename_i h92
          split at h
          · rename_i hc
            obtain ⟨w, hw1, hw2⟩ := Option.bind_eq_some_iff.1 h
            obtain ⟨a, a1, a2⟩ := pSing_split t w hw1
            obtain ⟨s2, b1, b2⟩ := key (k + 1) w rfl hw2
            refine ⟨c :: (a ++ 39 :: s2), by rw [a1, b1]; simp, fun g v hg => ?_⟩
            simp only [List.cons_append, List.length_cons, List.append_assoc, List.length_append] at hg
            obtain ⟨g, rfl⟩ : ∃ g', g = g' + 1 := ⟨g - 1, by omega⟩
            simp only [List.cons_append, List.append_assoc]
            rw [pass, if_neg h92, if_pos hc, pSing_at a _ a2]
            exact b2 g v (by simp; omega)
          · rename_i h39
            split at h
            · rename_i hc
              obtain ⟨w, hw1, hw2⟩ := Option.bind_eq_some_iff.1 h
              obtain ⟨s1, a1, a2⟩ := ih 0 t w hw1
              obtain ⟨s2, b1, b2⟩ := key (k + 1) w rfl hw2
              refine ⟨c :: (s1 ++ 34 :: s2), by rw [a1, b1]; simp [endB], fun g v hg => ?_⟩
              simp only [List.cons_append, List.length_cons, List.append_assoc, List.length_append] at hg
              obtain ⟨g, rfl⟩ : ∃ g', g = g' + 1 := ⟨g - 1, by omega⟩
              simp only [List.cons_append, List.append_assoc]
              have e1 := a2 g (s2 ++ endB (k + 1) :: v) (by simp; omega)
              rw [show endB 0 = 34 from rfl] at e1
              rw [pass, if_neg h92, if_neg h39, if_pos hc, e1]
              exact b2 g v (by simp; omega)
            · rename_i h34
              split at h
              · rename_i hc
                obtain ⟨s, h1, h2⟩ := key (k + 2) t rfl h
                refine ⟨c :: s, by rw [h1]; rfl, fun g v hg => ?_⟩
                simp only [List.cons_append, List.length_cons] at hg
                obtain ⟨g, rfl⟩ : ∃ g', g = g' + 1 := ⟨g - 1, by omega⟩
                rw [List.cons_append, pass, if_neg h92, if_neg h39, if_neg h34, if_pos hc]
                exact h2 g v (by omega)
              · rename_i h40
                split at h
                · rename_i hc
                  split at h
                  · rename_i hk
                    cases h
                    refine ⟨[], by rw [hc]; rfl, fun g v hg => ?_⟩
                    obtain ⟨g, rfl⟩ : ∃ g', g = g' + 1 := ⟨g - 1, by omega⟩
                    rw [List.nil_append, e0, pass, if_neg (by decide), if_neg (by decide), if_neg (by decide), if_neg (by decide), if_pos rfl, if_pos hk]
                  · rename_i hk
                    obtain ⟨s, h1, h2⟩ := key k t (by unfold endB; rw [if_neg hk]; rfl) h
                    refine ⟨c :: s, by rw [h1]; rfl, fun g v hg => ?_⟩
                    simp only [List.cons_append, List.length_cons] at hg
                    obtain ⟨g, rfl⟩ : ∃ g', g = g' + 1 := ⟨g - 1, by omega⟩
                    rw [List.cons_append, pass, if_neg h92, if_neg h39, if_neg h34, if_neg h40, if_pos hc, if_neg hk]
                    exact h2 g v (by omega)
                · rename_i h41
                  obtain ⟨s, h1, h2⟩ := key (k + 1) t rfl h
                  refine ⟨c :: s, by rw [h1]; rfl, fun g v hg => ?_⟩
                  simp only [List.cons_append, List.length_cons] at hg
                  obtain ⟨g, rfl⟩ : ∃ g', g = g' + 1 := ⟨g - 1, by omega⟩
                  rw [List.cons_append, pass, if_neg h92, if_neg h39, if_neg h34, if_neg h40, if_neg h41]
                  exact h2 g v (by omega)
end Go.Proofs.YtnlbjgioleoihaaGreatDoor
