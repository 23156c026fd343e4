/- Lists of nodes of one's own, a node hidden behind each. -/
import Derived.Test.YtfakelaibijgkaaDoorKidsOf
namespace Go.Proofs.YtfakelaibijgkaaDoor
open Go.RowKit

def hidN : Nd := ⟨-7, 0, 0, 0, []⟩
def OwnH (W : World) (B : Nat) (ov : Value) (X : List Nd) : Prop := ∃ g cap, ov = .slice (some ⟨g, 0, none⟩) X.length cap ∧ W.ownsRow B 26 5 (.slice (some ⟨g, 0, none⟩) (X.length + 1) cap) (X.length + 1) (ndCs (X ++ [hidN]))
theorem OwnH.at {W : World} {B : Nat} {ov : Value} {X : List Nd} (h : OwnH W B ov X) : NdAt W ov X := by
  obtain ⟨g, cap, rfl, ho⟩ := h
  have hn : NdAt W (.slice (some ⟨g, 0, none⟩) (X ++ [hidN]).length cap) (X ++ [hidN]) := NdAt.owned (B := B) (by rw [show (X ++ [hidN]).length = X.length + 1 by simp]; exact ho)
  rcases hn with ⟨h0, _⟩ | ⟨g', o', cap', hv, hc, hg, hcs⟩
  · simp at h0
  · rw [List.length_map] at hv hc
    cases hv
    rw [show (X ++ [hidN]).length = X.length + 1 by simp] at hc
    refine .inr ⟨g, 0, cap, by rw [List.length_map], by rw [List.length_map]; omega, hg, fun j cs hj i u hu => ?_⟩
    refine hcs j cs ?_ i u hu
    have hjl := (List.getElem?_eq_some_iff.1 hj).1
    rw [List.length_map] at hjl
    rw [List.getElem?_map] at hj ⊢
    rw [List.getElem?_append_left hjl]
    exact hj
theorem OwnH.hid {W : World} {B : Nat} {ov : Value} {X : List Nd} (h : OwnH W B ov X) : ∃ g cap, ov = .slice (some ⟨g, 0, none⟩) X.length cap ∧ X.length + 1 ≤ cap ∧ W.cell? ⟨g, X.length * 5, none⟩ = some (.int .i64 (-7)) := by
  obtain ⟨g, cap, rfl, ho⟩ := h
  have hn : NdAt W (.slice (some ⟨g, 0, none⟩) (X ++ [hidN]).length cap) (X ++ [hidN]) := NdAt.owned (B := B) (by rw [show (X ++ [hidN]).length = X.length + 1 by simp]; exact ho)
  obtain ⟨g', o', cap', hv, _, c0, _⟩ := hn.at (j := X.length) (x := hidN) (by simp)
  cases hv
  refine ⟨g, cap, rfl, ?_, by simpa [hidN] using c0⟩
  rcases ho.2 with ⟨hv, _⟩ | ⟨g', cap', cur, hv, _, _, h1, _⟩
  · cases hv
  · cases hv
    exact h1
theorem OwnH.below {W W' : World} {B : Nat} {ov : Value} {X : List Nd} (h : OwnH W B ov X) (hb : Below W.heap.size W W') : OwnH W' B ov X := by
  obtain ⟨g, cap, hv, ho⟩ := h
  exact ⟨g, cap, hv, owns_turn ho (Turn.ofBelow (S := fun _ => False) hb) (fun _ _ h => h)⟩
theorem OwnH.lower {W : World} {B B' : Nat} {ov : Value} {X : List Nd} (h : OwnH W B ov X) (hB : B' ≤ B) : OwnH W B' ov X := by
  obtain ⟨g, cap, hv, ho⟩ := h
  exact ⟨g, cap, hv, owns_lower ho hB⟩
def OwnK (W : World) (B : Nat) (v : Value) (K : List (Value × List Nd)) : Prop := W.ownsRow B 22 1 v K.length (K.map Prod.fst) ∧ ∀ p ∈ K, OwnH W B p.1 p.2
theorem OwnK.nil (W : World) (B : Nat) : OwnK W B (.slice none 0 0) [] := ⟨World.ownsRow_nil _ _ _ _, fun p hp => by simp at hp⟩
theorem OwnK.below {W W' : World} {B : Nat} {v : Value} {K : List (Value × List Nd)} (h : OwnK W B v K) (hb : Below W.heap.size W W') : OwnK W' B v K :=
  ⟨owns_turn h.1 (Turn.ofBelow (S := fun _ => False) hb) (fun _ _ h => h), fun p hp => (h.2 p hp).below hb⟩
theorem OwnK.at {W : World} {B : Nat} {v : Value} {K : List (Value × List Nd)} (h : OwnK W B v K) : KdAt W v K := by
  refine ⟨RowAt.owned (e := 22) (B := B) ?_ (fun cs hcs => ?_), fun p hp => (h.2 p hp).at⟩
  · rw [ones_flat, List.length_map]
    exact h.1
  · obtain ⟨p, _, rfl⟩ := List.mem_map.1 hcs
    rfl
theorem OwnK.snoc {W w2 w4 : World} {B B' : Nat} {v v' pv : Value} {K : List (Value × List Nd)} {X : List Nd} {o : Obj} (h : OwnK W B v K) (hb2 : Below W.heap.size W w2) (hB : B ≤ W.heap.size) (hB' : B ≤ B') (hp : OwnH w2 B' pv X)
    (hown : w4.ownsRow B 22 1 v' (K.length + 1) (K.map Prod.fst ++ [pv])) (hg : (w2.alloc o).grownBy w4 v.ownBlock) : OwnK w4 B v' (K ++ [(pv, X)]) ∧ Below B W w4 := by
  have h3 : OwnK (w2.alloc o) B v K := h.below (hb2.alloc hb2.size o)
  have hp3 : OwnH (w2.alloc o) B pv X := (hp.below (below_new w2 o)).lower hB'
  have hT := Turn.ofGrown hg
  have key : ∀ {u : Value} {Y : List Nd}, OwnH (w2.alloc o) B u Y → OwnH w4 B u Y := by
    rintro u Y ⟨g, cap, hv, ho⟩
    exact ⟨g, cap, hv, owns_turn ho hT (fun b hb e' => owns_apart2 h3.1 ho (by decide) b e' hb)⟩
  refine ⟨⟨by rw [List.map_append, List.length_append]; exact hown, fun p hq => ?_⟩, ?_⟩
  · rcases List.mem_append.1 hq with hq | hq
    · exact key (h3.2 p hq)
    · simp only [List.mem_singleton] at hq
      subst hq
      exact key hp3
  · exact ((hb2.alloc hb2.size o).mono hB).grown hg (Nat.le_trans hB (Nat.le_trans hb2.size (below_new w2 o).size)) (fun b hb => (h3.1.lt b hb).1)
theorem owns_some {W : World} {B e k n : Nat} {v : Value} {xs : List Value} (h : W.ownsRow B e k v n xs) (hn : 0 < n) : ∃ g cap, v = .slice (some ⟨g, 0, none⟩) n cap ∧ n ≤ cap ∧ B ≤ g := by
  rcases h.2 with ⟨_, h0⟩ | ⟨g, cap, cur, hv, hb, _, h1, _⟩
  · omega
  · exact ⟨g, cap, hv, h1, hb⟩
/-- A part of a list, nothing of it too. -/
theorem NdAt.part {W : World} {g o cap : Nat} {X : List Nd} (h : NdAt W (.slice (some ⟨g, o, none⟩) X.length cap) X) (hc : X.length ≤ cap) (p m : Nat) (h2 : p + m ≤ X.length) : NdAt W (.slice (if cap = p then some ⟨g, o, none⟩ else some ⟨g, o + p * 5, none⟩) m (cap - p)) ((X.drop p).take m) := by
  by_cases h0 : m = 0
  · subst h0
    refine .inl ⟨by simp, .inr ?_⟩
    split
    · exact ⟨_, _, rfl⟩
    · exact ⟨_, _, rfl⟩
  · rw [if_neg (by omega)]
    exact h.sub p m (by omega) h2
/-- A row of nodes in which may be written. -/
def PRow (W : World) (b n : Nat) : Prop := ∃ cur, Cel W b 26 cur ∧ n * 5 ≤ cur.size
theorem PRow.of {W : World} {B n g cap : Nat} {xs : List Value} (h : W.ownsRow B 26 5 (.slice (some ⟨g, 0, none⟩) n cap) n xs) : PRow W g n := by
  rcases h.2 with ⟨hv, _⟩ | ⟨g', cap', cur, hv, hb, hg, h1, h2, h3, h4⟩
  · cases hv
  · cases hv
    refine ⟨cur, hg, ?_⟩
    rw [h3]
    exact Nat.mul_le_mul_right 5 h1
theorem PRow.at {W : World} {b n : Nat} (h : PRow W b n) (j : Nat) (hj : j < n * 5) : ∃ u, W.cell? ⟨b, j, none⟩ = some u ∧ W.frozen? ⟨b, j, none⟩ = false := by
  obtain ⟨cur, hc, hs⟩ := h
  exact ⟨cur[j]'(by omega), (hc.cell j).trans (Array.getElem?_eq_getElem (by omega)), hc.frozen j⟩
theorem PRow.set {W : World} {b n : Nat} (h : PRow W b n) (j : Nat) (u : Value) : PRow (W.setCell ⟨b, j, none⟩ u) b n := by
  obtain ⟨cur, hc, hs⟩ := h
  exact ⟨_, hc.set (j := j) u, by rw [Array.size_setIfInBounds]; exact hs⟩
theorem PRow.below {W W' : World} {b n : Nat} (h : PRow W b n) (hb : Below W.heap.size W W') : PRow W' b n := by
  obtain ⟨cur, hc, hs⟩ := h
  exact ⟨cur, hc.below hb hc.lt, hs⟩
/-- What lies where in a node and its children. -/
theorem newN_part (kind n : Int) (s : Txt) (Ys : List (List Nd)) (i : Nat) (X : List Nd) (h : Ys[i]? = some X) : ((newN kind n s Ys).drop (1 + (Ys.take i).flatten.length)).take X.length = X := by
  have hlt := (List.getElem?_eq_some_iff.1 h).1
  have hx : Ys[i] = X := (List.getElem?_eq_some_iff.1 h).2
  have e : Ys.flatten = (Ys.take i).flatten ++ (X ++ (Ys.drop (i + 1)).flatten) := by
    conv => lhs; rw [← List.take_append_drop i Ys]
    rw [List.flatten_append, List.drop_eq_getElem_cons hlt, List.flatten_cons, hx]
  rw [newN, Nat.add_comm, List.drop_succ_cons, e, List.drop_left, List.take_left]
theorem newN_kids (kind n : Int) (s : Txt) (Ys : List (List Nd)) (d : Nat) (h : Seg d (newN kind n s Ys)) : newN kind n s (kidsL (newN kind n s Ys)) = newN kind n s Ys := by
  generalize hX : newN kind n s Ys = X at h
  cases h with
  | mk d k2 n2 s2 Zs hz =>
    rw [kidsL_seg d k2 n2 s2 Zs hz]
    have hh := congrArg (fun l => l[0]?) hX
    simp only [newN, List.getElem?_cons_zero, Option.some.injEq, Nd.mk.injEq] at hh
    obtain ⟨rfl, rfl, _, _, rfl⟩ := hh
    rfl
end Go.Proofs.YtfakelaibijgkaaDoor
