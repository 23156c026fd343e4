/- Print's stack of ends beside its builder. -/
import Derived.Test.YtaildeglikhkaaaGreatDoorSays
import Derived.Test.YtaildeglikhkaaaGreatDoorBegin
import Derived.Test.YtaildeglikhkaaaGreatDoorIsWord
namespace Go.Proofs.YtaildeglikhkaaaGreatDoor
open Go.RowKit

theorem begin_bg (x : Nd) : beginL x = bgB x := by simp [beginL, bgB, tailB]
/-- A row of the call's own, cut to its first elements. -/
theorem owns_cut {W : World} {base e g cap m : Nat} {xs ys : List Value} (h : W.ownsRow base e 1 (.slice (some ⟨g, 0, none⟩) m cap) m (xs ++ ys)) : W.ownsRow base e 1 (.slice (some ⟨g, 0, none⟩) xs.length cap) xs.length xs := by
  obtain ⟨hl, h2⟩ := h
  refine ⟨by omega, .inr ?_⟩
  rcases h2 with ⟨h, _⟩ | ⟨g', cap', cur, hv, hb, hc, hm, hx, hs, ht⟩
  · cases h
  · cases hv
    simp only [List.length_append, Nat.mul_one] at hl
    refine ⟨g, cap, cur, rfl, hb, hc, by omega, hx, hs, ?_⟩
    rw [Nat.mul_one] at ht ⊢
    have := congrArg (List.take xs.length) ht
    rw [List.take_take, List.take_left, Nat.min_eq_left (by omega)] at this
    exact this
/-- The ends, the last one last, in a row of the call's own. -/
def Ends (W : World) (B : Nat) (v : Value) (E : List Int) : Prop := W.ownsRow B 3 1 v E.length (E.map (Value.int .i64 ·))
theorem Ends.nil (W : World) (B : Nat) : Ends W B (.slice none 0 0) [] := World.ownsRow_nil W B 3 1
theorem Ends.form {W : World} {B : Nat} {v : Value} {E : List Int} (h : Ends W B v E) : ∃ ad cap, v = .slice ad E.length cap := by
  rcases h.2 with ⟨rfl, hn⟩ | ⟨g, cap, cur, rfl, _⟩
  · exact ⟨none, 0, by rw [hn]⟩
  · exact ⟨_, cap, rfl⟩
theorem Ends.last {W : World} {B : Nat} {v : Value} {E : List Int} {e : Int} (h : Ends W B v (E ++ [e])) : ∃ g cap, v = .slice (some ⟨g, 0, none⟩) (E.length + 1) cap ∧ W.cell? ⟨g, E.length, none⟩ = some (.int .i64 e) ∧ E.length + 1 ≤ cap ∧ Ends W B (.slice (some ⟨g, 0, none⟩) E.length cap) E := by
  have hl : (E ++ [e]).length = E.length + 1 := by simp
  unfold Ends at h
  rw [hl] at h
  rcases h.2 with ⟨_, hn⟩ | ⟨g, cap, cur, rfl, hb, hc, hm, rest⟩
  · omega
  · refine ⟨g, cap, rfl, ?_, hm, ?_⟩
    · rw [World.ownsRow.cellAt h E.length (by omega)]
      simp
    · have := owns_cut (xs := E.map (Value.int .i64 ·)) (ys := [.int .i64 e]) (by rw [List.map_append] at h; exact h)
      rw [List.length_map] at this
      exact this
/-- The builder's writers leave the ends as they are. -/
theorem Ends.bk {W W' : World} {B b : Nat} {v : Value} {E : List Int} (h : Ends W B v E) (hB : ∃ cs, Cel W b 65 cs) (hk : Bk B b W W') : Ends W' B v E := by
  refine ⟨h.1, ?_⟩
  rcases h.2 with hn | ⟨g, cap, cur, rfl, hb, hc, rest⟩
  · exact .inl hn
  · refine .inr ⟨g, cap, cur, rfl, hb, ?_, rest⟩
    refine hk.2.2 g 3 cur hc (by decide) ?_
    rintro rfl
    obtain ⟨cs, hcs⟩ := hB
    have := (show W.heap[g]? = _ from hcs).symm.trans hc
    simp at this
/-- What lies above a place that nothing below the heap's size turns. -/
theorem Ends.below {W W' : World} {B : Nat} {v : Value} {E : List Int} (h : Ends W B v E) (hb : Below W.heap.size W W') : Ends W' B v E := by
  refine ⟨h.1, ?_⟩
  rcases h.2 with hn | ⟨g, cap, cur, rfl, hB, hc, rest⟩
  · exact .inl hn
  · exact .inr ⟨g, cap, cur, rfl, hB, (hb.block g (Array.getElem?_eq_some_iff.1 hc).1).trans hc, rest⟩
/-- The ends grow: the builder stays. -/
theorem Bld.grown {W W' : World} {B b : Nat} {l : List UInt8} {v : Value} {E : List Int} {tmp : Obj} (h : Bld W B b l) (hE : Ends W B v E) (hg : (W.alloc tmp).grownBy W' v.ownBlock) : Bld W' B b l := by
  obtain ⟨hB, p, r, hp, hc, hr⟩ := h
  refine ⟨hB, p, r, hp, (hc.alloc tmp).kept hg (hc.not_row (by decide) hE), ?_⟩
  refine (hr.alloc tmp).kept hg ?_
  rcases hr.2 with ⟨rfl, _⟩ | ⟨g, cap, cur, rfl, _, hgb, _⟩
  · exact .inl rfl
  · exact .inr (Cel.not_row (W := W) (b := g) (t := 5) (cs := cur) hgb (by decide) hE)
end Go.Proofs.YtaildeglikhkaaaGreatDoor
