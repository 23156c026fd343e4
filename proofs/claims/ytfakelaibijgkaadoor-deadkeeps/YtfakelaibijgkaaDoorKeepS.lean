/- Two rows of programs that grow side by side. -/
import Derived.Test.YtfakelaibijgkaaDoorDe2
namespace Go.Proofs.YtfakelaibijgkaaDoor
open Go.RowKit

/-- Two rows: all so far, and those that are kept. -/
structure KS (M : Nat) (w : World) (cs : List (List Nd)) (i j : Nat) (v7 v8 : Value) (Ka Kk : List (Value × List Nd)) : Prop where
  sa : Ka.map Prod.snd = cs.take i
  sk : Kk.map Prod.snd = if j = cs.length then lastNop cs else (cs.take j).filter fun Y => kindOf Y != 20
  ra : w.ownsRow M 22 1 v7 Ka.length (Ka.map Prod.fst)
  rk : w.ownsRow M 22 1 v8 Kk.length (Kk.map Prod.fst)
  dis : ∀ b, v7.ownBlock = some b → v8.ownBlock ≠ some b
  ow : ∀ q ∈ Ka ++ Kk, NdOwn w M q.1 q.2
theorem KS.below {M : Nat} {w w' : World} {cs : List (List Nd)} {i j : Nat} {v7 v8 : Value} {Ka Kk : List (Value × List Nd)} (h : KS M w cs i j v7 v8 Ka Kk) (hb : Below w.heap.size w w') : KS M w' cs i j v7 v8 Ka Kk where
  sa := h.sa
  sk := h.sk
  ra := owns_turn h.ra (Turn.ofBelow (S := fun _ => False) hb) (fun _ _ h => h)
  rk := owns_turn h.rk (Turn.ofBelow (S := fun _ => False) hb) (fun _ _ h => h)
  dis := h.dis
  ow := fun q hq => (h.ow q hq).below hb
theorem KS.start (M : Nat) (w : World) (cs : List (List Nd)) : KS M w cs 0 0 (.slice none 0 0) (.slice none 0 0) [] [] where
  sa := by simp
  sk := by
    split
    · rw [List.eq_nil_of_length_eq_zero (show cs.length = 0 by omega)]; rfl
    · simp
  ra := World.ownsRow_nil _ _ _ _
  rk := World.ownsRow_nil _ _ _ _
  dis := fun b hb => by simp [Value.ownBlock] at hb
  ow := fun q hq => by cases hq
/-- One more of all. -/
theorem KS.all {M : Nat} {w w7 : World} {cs : List (List Nd)} {i : Nat} {v7 v8 v7' c : Value} {Ka Kk : List (Value × List Nd)} {X : List Nd} (h : KS M w cs i i v7 v8 Ka Kk) (hM : M ≤ w.heap.size) (o : Obj) (hx : NdOwn w M c X) (hX : cs[i]? = some X)
    (hown : w7.ownsRow M 22 1 v7' (Ka.length + 1) (Ka.map Prod.fst ++ [c])) (hg : (w.alloc o).grownBy w7 v7.ownBlock) (hb : v7'.ownBlock = v7.ownBlock ∨ v7'.ownBlock = some (w.alloc o).heap.size) :
    KS M w7 cs (i + 1) i v7' v8 (Ka ++ [(c, X)]) Kk ∧ NdOwn w7 M c X ∧ Below M w w7 := by
  have hn := below_new w o
  have hA := h.below hn
  have hxA := hx.below hn
  have hx7 := hxA.grownK hA.ra hg
  refine ⟨⟨?_, h.sk, by rw [List.length_append, List.map_append]; exact hown, owns_turn hA.rk (Turn.ofGrown hg) (fun b hb e => hA.dis b e hb), fun b hb' e => ?_, fun q hq => ?_⟩, hx7, (hn.mono hM).trans (grown_below hA.ra (by simp; omega) hg)⟩
  · rw [List.map_append, h.sa, List.take_add_one, hX]
    rfl
  · rcases hb with hb | hb
    · exact h.dis b (hb ▸ hb') e
    · rw [hb] at hb'
      have h1 := Option.some.inj hb'
      have h2 := (World.ownsRow.lt hA.rk b e).2
      omega
  · rw [List.append_assoc] at hq
    rcases List.mem_append.1 hq with hq | hq
    · exact (hA.ow q (List.mem_append_left _ hq)).grownK hA.ra hg
    · rcases List.mem_append.1 hq with hq | hq
      · rw [List.mem_singleton] at hq
        subst hq
        exact hx7
      · exact (hA.ow q (List.mem_append_right _ hq)).grownK hA.ra hg
/-- It is not kept. -/
theorem KS.skip {M : Nat} {w : World} {cs : List (List Nd)} {i : Nat} {v7 v8 : Value} {Ka Kk : List (Value × List Nd)} {X : List Nd} (h : KS M w cs (i + 1) i v7 v8 Ka Kk) (hX : cs[i]? = some X) (hk : kindOf X = 20) (hi : i + 1 ≠ cs.length) : KS M w cs (i + 1) (i + 1) v7 v8 Ka Kk where
  sa := h.sa
  sk := by
    have hl := (List.getElem?_eq_some_iff.1 hX).1
    rw [h.sk, if_neg hi, if_neg (by omega), List.take_add_one, hX, List.filter_append]
    simp [hk]
  ra := h.ra
  rk := h.rk
  dis := h.dis
  ow := h.ow
/-- It is kept. -/
theorem KS.more {M : Nat} {w w8 : World} {cs : List (List Nd)} {i : Nat} {v7 v8 v8' c : Value} {Ka Kk : List (Value × List Nd)} {X : List Nd} (h : KS M w cs (i + 1) i v7 v8 Ka Kk) (hM : M ≤ w.heap.size) (o : Obj) (hx : NdOwn w M c X) (hX : cs[i]? = some X) (hk : kindOf X ≠ 20 ∨ i + 1 = cs.length)
    (hown : w8.ownsRow M 22 1 v8' (Kk.length + 1) (Kk.map Prod.fst ++ [c])) (hg : (w.alloc o).grownBy w8 v8.ownBlock) (hb : v8'.ownBlock = v8.ownBlock ∨ v8'.ownBlock = some (w.alloc o).heap.size) :
    KS M w8 cs (i + 1) (i + 1) v7 v8' Ka (Kk ++ [(c, X)]) ∧ Below M w w8 := by
  have hn := below_new w o
  have hA := h.below hn
  have hl := (List.getElem?_eq_some_iff.1 hX).1
  refine ⟨⟨h.sa, ?_, owns_turn hA.ra (Turn.ofGrown hg) (fun b hb e => hA.dis b hb e), by rw [List.length_append, List.map_append]; exact hown, fun b hb' e => ?_, fun q hq => ?_⟩, (hn.mono hM).trans (grown_below hA.rk (by simp; omega) hg)⟩
  · have hsk := h.sk
    rw [if_neg (by omega)] at hsk
    by_cases hi : i + 1 = cs.length
    · rw [if_pos hi, List.map_append, hsk, lastNop_eq cs (by rintro rfl; simp at hl), List.dropLast_eq_take, show cs.length - 1 = i by omega, List.getLast_eq_getElem]
      have : cs[cs.length - 1]'(by omega) = X := by
        have h1 := hX
        rw [List.getElem?_eq_getElem hl] at h1
        have h2 := Option.some.inj h1
        simp only [show cs.length - 1 = i by omega]
        exact h2
      rw [this]
      rfl
    · rw [if_neg hi, List.map_append, hsk, List.take_add_one, hX, List.filter_append]
      have : kindOf X ≠ 20 := hk.resolve_right hi
      simp [this]
  · rcases hb with hb | hb
    · exact h.dis b hb' (hb ▸ e)
    · rw [hb] at e
      have h1 := Option.some.inj e
      have h2 := (World.ownsRow.lt hA.ra b hb').2
      omega
  · rw [← List.append_assoc] at hq
    rcases List.mem_append.1 hq with hq | hq
    · exact (hA.ow q hq).grownK hA.rk hg
    · rw [List.mem_singleton] at hq
      subst hq
      exact (hx.below hn).grownK hA.rk hg
end Go.Proofs.YtfakelaibijgkaaDoor
