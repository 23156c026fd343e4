/- A tree that is read has just this text. Plain. -/
import Derived.Test.YtaildeglikhkaaaGreatDoorFwd
namespace Go.Proofs.YtaildeglikhkaaaGreatDoor

def TrFwd (s : ByteArray) (f : Nat) : Prop := ∀ (dep k : Nat) (X : List Nd) (j : Nat) (Z : List Nd), treeG s f dep k X = (true, j, Z) → Z.length ≤ 3000 →
  ∃ Y, Z = X ++ Y ∧ dep ≤ 120 ∧ Seg (121 - dep) Y ∧ (∀ x ∈ Y, Says x) ∧ s.data.toList.drop k = textL bgB (121 - dep) Y ++ s.data.toList.drop j
def KdFwd (s : ByteArray) (f : Nat) : Prop := ∀ (dep k : Nat) (X : List Nd) (c c' j : Nat) (Z : List Nd), kidsG s f dep k X c = (some c', j, Z) → Z.length ≤ 3000 →
  ∃ Ys : List (List Nd), Z = X ++ Ys.flatten ∧ c' = c + Ys.length ∧ (∀ Y ∈ Ys, Seg (121 - dep) Y ∧ ∀ x ∈ Y, Says x) ∧ s.data.toList.drop k = kidsT (121 - dep) Ys ++ 41 :: s.data.toList.drop j
theorem fwd_all (s : ByteArray) : ∀ f : Nat, TrFwd s f ∧ KdFwd s f
  | 0 => ⟨fun dep k X j Z h _ => (by rw [treeG] at h; cases h), fun dep k X c c' j Z h _ => (by rw [kidsG] at h; cases h)⟩
  | f + 1 => by
    obtain ⟨iT, iK⟩ := fwd_all s f
    refine ⟨fun dep k X j Z h hZ => ?_, fun dep k X c c' j Z h hZ => ?_⟩
    · rw [treeG] at h
      by_cases hd : 120 < dep
      · rw [if_pos hd] at h; cases h
      rw [if_neg hd] at h
      by_cases h40 : s.data.toList[k]? = some 40
      · rw [if_pos h40] at h
        cases hn : noR s (k + 1) with
        | mk o p =>
          rw [hn] at h
          cases o with
          | none => cases h
          | some x =>
            simp only at h
            obtain ⟨hx, hk0, hs0, e1⟩ := node_fwd s (k + 1) x p hn
            cases hk : kidsG s f (dep + 1) p (if X.length ≤ 3000 then X ++ [x] else X) 0 with
            | mk o q =>
              obtain ⟨q, V⟩ := q
              rw [hk] at h
              cases o with
              | none => cases h
              | some c =>
                simp only at h
                have hq : q = j := congrArg (fun t => t.2.1) h
                have hV : (if X.length ≤ 3000 then fixN V X.length c else V) = Z := congrArg (fun t => t.2.2) h
                have hVl : V.length ≤ 3000 := by
                  rw [← hV] at hZ
                  by_cases hX : X.length ≤ 3000
                  · rw [if_pos hX] at hZ
                    simpa [fixN] using hZ
                  · rw [if_neg hX] at hZ; exact hZ
                obtain ⟨Ys, hVe, hc, hYs, e2⟩ := iK _ _ _ _ _ _ _ hk hVl
                have hX : X.length ≤ 3000 := by
                  rcases Nat.lt_or_ge 3000 X.length with hX | hX
                  · rw [if_neg (by omega)] at hVe
                    rw [hVe, List.length_append] at hVl
                    omega
                  · exact hX
                rw [if_pos hX] at hV hVe
                obtain ⟨kind, n, kk, sz, t⟩ := x
                simp only at hk0 hs0
                subst hk0 hs0
                rw [Nat.zero_add] at hc
                rw [hVe, fix_new, hc] at hV
                have hde : 121 - dep = (121 - (dep + 1)) + 1 := by omega
                have hS : ∀ Y ∈ Ys, Seg (121 - (dep + 1)) Y := fun Y hY => (hYs Y hY).1
                refine ⟨newN kind n t Ys, hV.symm, by omega, ?_, ?_, ?_⟩
                · rw [hde]
                  exact Seg.mk _ kind n t Ys hS
                · intro y hy
                  unfold newN at hy
                  rcases List.mem_cons.1 hy with rfl | hy
                  · exact hx
                  · obtain ⟨Y, hY, hyY⟩ := List.mem_flatten.1 hy
                    exact (hYs Y hY).2 y hyY
                · rw [hde, textL_new bgB _ kind n t Ys hS, drop_at h40, e1, e2, hq]
                  simp [bgB, kidsT, tailB]
      · rw [if_neg h40] at h; cases h
    · rw [kidsG] at h
      by_cases h41 : s.data.toList[k]? = some 41
      · rw [if_pos h41] at h
        have h1 : c = c' := by simpa using congrArg (fun t => t.1) h
        have h2 : k + 1 = j := congrArg (fun t => t.2.1) h
        have h3 : X = Z := congrArg (fun t => t.2.2) h
        exact ⟨[], by simp [h3], by simp [h1], by simp, by rw [drop_at h41, h2]; simp [kidsT]⟩
      rw [if_neg h41] at h
      by_cases h32 : s.data.toList[k]? = some 32
      · rw [if_pos h32] at h
        cases ht : treeG s f dep (k + 1) X with
        | mk o q =>
          obtain ⟨q, V⟩ := q
          rw [ht] at h
          cases o with
          | false => cases h
          | true =>
            simp only at h
            obtain ⟨Ys, hVe, hc, hYs, e2⟩ := iK _ _ _ _ _ _ _ h hZ
            have hVl : V.length ≤ 3000 := by
              rw [hVe, List.length_append] at hZ
              omega
            obtain ⟨Y, hV, hd, hSeg, hSay, e1⟩ := iT _ _ _ _ _ ht hVl
            refine ⟨Y :: Ys, by rw [hVe, hV]; simp, by rw [hc, List.length_cons]; omega, ?_, ?_⟩
            · intro W hW
              rcases List.mem_cons.1 hW with rfl | hW
              · exact ⟨hSeg, hSay⟩
              · exact hYs W hW
            · rw [drop_at h32, e1, e2, kidsT_cons]
              simp
      · rw [if_neg h32] at h; cases h
/-- A whole text that is read as a tree is this tree's text. -/
theorem read_fwd (s : ByteArray) (l : List Nd) (h : readG s = (true, s.size, l)) (hl : l.length ≤ 3000) : Seg 120 l ∧ (∀ x ∈ l, Says x) ∧ s.data.toList = textL bgB 120 l := by
  unfold readG at h
  obtain ⟨Y, hY, _, hS, hx, e⟩ := (fwd_all s _).1 _ _ _ _ _ h hl
  rw [List.nil_append] at hY
  subst hY
  refine ⟨hS, hx, ?_⟩
  have hd : s.data.toList.drop s.size = [] := List.drop_of_length_le (by rw [Array.length_toList]; exact Nat.le_refl _)
  rw [hd, List.append_nil, List.drop_zero] at e
  exact e
end Go.Proofs.YtaildeglikhkaaaGreatDoor
