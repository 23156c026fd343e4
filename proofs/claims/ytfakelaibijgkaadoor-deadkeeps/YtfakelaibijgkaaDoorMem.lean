/- Nodes in memory. -/
import Derived.Test.YtfakelaibijgkaaDoorProg
import Derived.Test.YtfakelaibijgkaaDoorPlain
import Derived.WalkKit
import Derived.WalkSpells
import Derived.WalkLawsBesides
import Derived.Laws.ResultCell
import Derived.Laws.Rows
import Derived.Maps.AppendAt
import Derived.Maps.OwnSet
import Derived.Below
import Derived.RangeFuncRecord
import Derived.Carry
import Derived.OwnWalk
import Derived.Laws.AppendOwnNone
namespace Go.Proofs.YtfakelaibijgkaaDoor
open Go.RowKit

abbrev str (s : Txt) : Value := .string ⟨s.toArray⟩
theorem maxLen_big : 35184372088832 * 4 ≤ maxLen := by decide

/-! ### blocks -/
/-- Block b holds these cells, none frozen. -/
def Cel (W : World) (b : Nat) (t : TypeId) (cs : Array Value) : Prop := W.heap[b]? = some (.cells cs t (0, 0))
theorem Cel.lt {W : World} {b : Nat} {t : TypeId} {cs : Array Value} (h : Cel W b t cs) : b < W.heap.size := (Array.getElem?_eq_some_iff.1 h).1
theorem Cel.cell {W : World} {b : Nat} {t : TypeId} {cs : Array Value} (h : Cel W b t cs) (j : Nat) : W.cell? ⟨b, j, none⟩ = cs[j]? := by simp [World.cell?, show W.heap[b]? = _ from h]
theorem Cel.frozen {W : World} {b : Nat} {t : TypeId} {cs : Array Value} (h : Cel W b t cs) (j : Nat) : W.frozen? ⟨b, j, none⟩ = false := by simp [World.frozen?, show W.heap[b]? = _ from h]
theorem Cel.new (W : World) (t : TypeId) (cs : Array Value) : Cel (W.alloc (.cells cs t)) W.heap.size t cs := World.alloc_heap_new W _
theorem Cel.other {W : World} {b b' j : Nat} {t : TypeId} {cs : Array Value} (h : Cel W b t cs) (hne : b ≠ b') (v : Value) : Cel (W.setCell ⟨b', j, none⟩ v) b t cs := (Below.heap_setCell _ _ _ _ hne).trans h
theorem Cel.set {W : World} {b j : Nat} {t : TypeId} {cs : Array Value} (h : Cel W b t cs) (v : Value) : Cel (W.setCell ⟨b, j, none⟩ v) b t (cs.setIfInBounds j v) := by
  obtain ⟨hlt, hk⟩ := Array.getElem?_eq_some_iff.1 h
  show (W.heap.modify b _)[b]? = _
  rw [Array.getElem?_eq_getElem (by rw [Array.size_modify]; exact hlt), Array.getElem_modify_self, hk]
  rfl

/-- Only these blocks, and new ones, have turned. -/
structure Turn (S : Nat → Prop) (w w' : World) : Prop where
  os : w'.os = w.os
  tape : w'.tape = w.tape
  output : w'.output = w.output
  size : w.heap.size ≤ w'.heap.size
  block : ∀ k, k < w.heap.size → ¬ S k → w'.heap[k]? = w.heap[k]?
theorem Turn.refl (S : Nat → Prop) (w : World) : Turn S w w := ⟨rfl, rfl, rfl, Nat.le_refl _, fun _ _ _ => rfl⟩
theorem Turn.trans {S T : Nat → Prop} {a b c : World} (h : Turn S a b) (k : Turn T b c) (hT : ∀ i, T i → i < a.heap.size → S i) : Turn S a c :=
  ⟨k.os.trans h.os, k.tape.trans h.tape, k.output.trans h.output, Nat.le_trans h.size k.size, fun i hi hs => (k.block i (Nat.lt_of_lt_of_le hi h.size) (fun ht => hs (hT i ht hi))).trans (h.block i hi hs)⟩
theorem Turn.mono {S T : Nat → Prop} {w w' : World} (h : Turn S w w') (hT : ∀ i, S i → T i) : Turn T w w' := ⟨h.os, h.tape, h.output, h.size, fun i hi ht => h.block i hi (fun hs => ht (hT i hs))⟩
theorem Turn.below {S : Nat → Prop} {w w' : World} {B : Nat} (h : Turn S w w') (hS : ∀ i, S i → B ≤ i) (hB : B ≤ w.heap.size) : Below B w w' :=
  ⟨h.os, h.tape, h.output, h.size, fun i hi => h.block i (Nat.lt_of_lt_of_le hi hB) (fun hs => by have := hS i hs; omega)⟩
theorem Turn.ofBelow {S : Nat → Prop} {w w' : World} (h : Below w.heap.size w w') : Turn S w w' := ⟨h.os, h.tape, h.output, h.size, fun i hi _ => h.block i hi⟩
theorem Turn.ofGrown {w w' : World} {row : Option Nat} (h : w.grownBy w' row) : Turn (fun i => row = some i) w w' := ⟨h.os, h.tape, h.output, h.size, fun i hi hs => h.block i hi (fun e => hs e.symm)⟩
theorem Turn.alloc {S : Nat → Prop} {a w : World} (h : Turn S a w) (o : Obj) : Turn S a (w.alloc o) :=
  ⟨h.os, h.tape, h.output, Nat.le_trans h.size (by simp), fun i hi hs => (Below.heap_alloc w o i (Nat.lt_of_lt_of_le hi h.size)).trans (h.block i hi hs)⟩
theorem Turn.drew {S : Nat → Prop} {a w : World} (h : Turn S a w) : Turn S a w.drew := ⟨h.os, h.tape, h.output, h.size, h.block⟩
theorem Turn.setCell {S : Nat → Prop} {a w : World} (h : Turn S a w) {p : Addr} (hp : p.block < a.heap.size → S p.block) (u : Value) : Turn S a (w.setCell p u) :=
  ⟨h.os, h.tape, h.output, Nat.le_trans h.size (by simp [World.setCell]), fun i hi hs => (Below.heap_setCell w p u i (fun e => hs (by subst e; exact hp hi))).trans (h.block i hi hs)⟩
theorem Cel.turn {W W' : World} {S : Nat → Prop} {b : Nat} {t : TypeId} {cs : Array Value} (h : Cel W b t cs) (hT : Turn S W W') (hs : ¬ S b) : Cel W' b t cs := (hT.block b h.lt hs).trans h
theorem below_new (W : World) (o : Obj) : Below W.heap.size W (W.alloc o) := (Below.refl _ W).alloc (Nat.le_refl _) _
theorem Cel.below {W W' : World} {B b : Nat} {t : TypeId} {cs : Array Value} (h : Cel W b t cs) (hb : Below B W W') (hlt : b < B) : Cel W' b t cs := (hb.block b hlt).trans h
theorem owns_turn {B : Nat} {e : TypeId} {k n : Nat} {v : Value} {xs : List Value} {W W' : World} {S : Nat → Prop} (h : W.ownsRow B e k v n xs) (hT : Turn S W W') (hs : ∀ b, v.ownBlock = some b → ¬ S b) : W'.ownsRow B e k v n xs := by
  refine ⟨h.1, ?_⟩
  rcases h.2 with hn | ⟨g, cap, cur, rfl, hb, hgg, rest⟩
  · exact .inl hn
  · refine .inr ⟨g, cap, cur, rfl, hb, ?_, rest⟩
    rw [hT.block g (Array.getElem?_eq_some_iff.1 hgg).1 (hs g rfl)]
    exact hgg
theorem owns_slice {W : World} {base e size k : Nat} {v : Value} {xs : List Value} (h : W.ownsRow base e size v k xs) : ∃ ad cap, v = .slice ad k cap := by
  rcases h.2 with ⟨rfl, rfl⟩ | ⟨g, cap, cur, rfl, _⟩
  · exact ⟨none, 0, rfl⟩
  · exact ⟨_, cap, rfl⟩
theorem owns_lower {W : World} {B B' e k : Nat} {v : Value} {n : Nat} {xs : List Value} (h : W.ownsRow B e k v n xs) (hB : B' ≤ B) : W.ownsRow B' e k v n xs := by
  refine ⟨h.1, ?_⟩
  rcases h.2 with hn | ⟨g, cap, cur, rfl, hb, rest⟩
  · exact .inl hn
  · exact .inr ⟨g, cap, cur, rfl, Nat.le_trans hB hb, rest⟩
/-- A row of another type is another block. -/
theorem owns_apart {W : World} {b t : Nat} {cs : Array Value} (h : Cel W b t cs) {B e k n : Nat} {v : Value} {xs : List Value} (ho : W.ownsRow B e k v n xs) (hte : t ≠ e) : v.ownBlock ≠ some b := by
  rcases ho.2 with ⟨rfl, _⟩ | ⟨g, cap, cur, rfl, _, hgb, _⟩
  · simp [Value.ownBlock]
  · intro e'
    obtain rfl : g = b := by simpa [Value.ownBlock] using e'
    have := (show W.heap[g]? = _ from h).symm.trans hgb
    simp at this
    exact hte this.2
theorem owns_apart2 {W : World} {B e k n B' e' k' n' : Nat} {v v' : Value} {xs xs' : List Value} (h : W.ownsRow B e k v n xs) (h' : W.ownsRow B' e' k' v' n' xs') (hte : e ≠ e') : ∀ b, v.ownBlock = some b → v'.ownBlock ≠ some b := by
  intro b hb
  rcases h.2 with ⟨rfl, _⟩ | ⟨g, cap, cur, rfl, _, hgb, _⟩
  · simp [Value.ownBlock] at hb
  · obtain rfl : g = b := by simpa [Value.ownBlock] using hb
    exact owns_apart (show Cel W g e cur from hgb) h' hte

/-- Structs lie in a row. -/
def RowAt (W : World) (v : Value) (k : Nat) (css : List (List Value)) : Prop :=
  (css = [] ∧ (v = .slice none 0 0 ∨ ∃ ad cap, v = .slice (some ad) 0 cap)) ∨
  ∃ g o cap, v = .slice (some ⟨g, o, none⟩) css.length cap ∧ css.length ≤ cap ∧ g < W.heap.size ∧ ∀ j cs, css[j]? = some cs → ∀ i u, cs[i]? = some u → W.cell? ⟨g, o + j * k + i, none⟩ = some u
theorem RowAt.form {W : World} {v : Value} {k : Nat} {css : List (List Value)} (h : RowAt W v k css) : ∃ ad cap, v = .slice ad css.length cap := by
  rcases h with ⟨rfl, rfl | ⟨ad, cap, rfl⟩⟩ | ⟨g, o, cap, rfl, _⟩
  · exact ⟨none, 0, rfl⟩
  · exact ⟨_, cap, rfl⟩
  · exact ⟨_, cap, rfl⟩
theorem RowAt.below {W W' : World} {v : Value} {k : Nat} {css : List (List Value)} {B : Nat} (h : RowAt W v k css) (hb : Below B W W') (hB : W.heap.size ≤ B) : RowAt W' v k css := by
  rcases h with h | ⟨g, o, cap, h1, h2, h3, h4⟩
  · exact .inl h
  · exact .inr ⟨g, o, cap, h1, h2, Nat.lt_of_lt_of_le h3 hb.size, fun j cs hj i u hu => (hb.cell (p := ⟨g, o + j * k + i, none⟩) (by show g < B; omega)).trans (h4 j cs hj i u hu)⟩
theorem RowAt.turn {W W' : World} {v : Value} {k : Nat} {css : List (List Value)} {S : Nat → Prop} (h : RowAt W v k css) (hT : Turn S W W') (hs : ∀ b, v.ownBlock = some b → ¬ S b) : RowAt W' v k css := by
  rcases h with h | ⟨g, o, cap, rfl, h2, h3, h4⟩
  · exact .inl h
  · exact .inr ⟨g, o, cap, rfl, h2, Nat.lt_of_lt_of_le h3 hT.size, fun j cs hj i u hu => (World.cell?_of_block (w := W) (a := ⟨g, o + j * k + i, none⟩) (hT.block g h3 (hs g rfl))).trans (h4 j cs hj i u hu)⟩
theorem flat_at (k : Nat) : ∀ (css : List (List Value)), (∀ cs ∈ css, cs.length = k) → ∀ j cs, css[j]? = some cs → ∀ i u, cs[i]? = some u → (css.flatMap id)[j * k + i]? = some u
  | [], _, j, cs, h => by simp at h
  | c :: css, hk, 0, cs, h => by
    simp at h
    subst h
    intro i u hu
    rw [Nat.zero_mul, Nat.zero_add, List.flatMap_cons]
    show (c ++ _)[i]? = _
    rw [List.getElem?_append_left (List.getElem?_eq_some_iff.1 hu).1]
    exact hu
  | c :: css, hk, j + 1, cs, h => by
    intro i u hu
    have hc := hk c (by simp)
    have := flat_at k css (fun x hx => hk x (by simp [hx])) j cs (by simpa using h) i u hu
    rw [List.flatMap_cons, List.getElem?_append_right (by simp only [id, hc]; rw [Nat.succ_mul]; omega)]
    have e : (j + 1) * k + i - (id c).length = j * k + i := by simp only [id, hc]; rw [Nat.succ_mul]; omega
    rw [e]
    exact this
theorem RowAt.owned {W : World} {B e k : Nat} {v : Value} {css : List (List Value)} (h : W.ownsRow B e k v css.length (css.flatMap id)) (hk : ∀ cs ∈ css, cs.length = k) : RowAt W v k css := by
  rcases h.2 with ⟨hv, h0⟩ | ⟨g, cap, cur, hv, hb, hc, h1, _, h2, h3⟩
  · exact .inl ⟨List.eq_nil_of_length_eq_zero h0, .inl hv⟩
  · refine .inr ⟨g, 0, cap, hv, h1, (Array.getElem?_eq_some_iff.1 hc).1, fun j cs hj i u hu => ?_⟩
    have hf := flat_at k css hk j cs hj i u hu
    have hlt := (List.getElem?_eq_some_iff.1 hf).1
    rw [h.1] at hlt
    have e1 : W.cell? ⟨g, 0 + j * k + i, none⟩ = cur[j * k + i]? := by simp [World.cell?, hc]
    rw [e1, ← Array.getElem?_toList, ← List.getElem?_take_of_lt hlt, h3]
    exact hf

/-! ### nodes -/
abbrev ndC (x : Nd) : List Value := [.int .i64 x.kind, .int .i64 x.n, .int .i64 x.k, .int .i64 x.size, str x.s]
abbrev ndL (X : List Nd) : List (List Value) := X.map ndC
def ndCs (X : List Nd) : List Value := X.flatMap ndC
theorem ndL_flat (X : List Nd) : (ndL X).flatMap id = ndCs X := by simp [ndL, ndCs, List.flatMap_map]
theorem ndCs_append (X Y : List Nd) : ndCs (X ++ Y) = ndCs X ++ ndCs Y := by simp [ndCs]
theorem ndCs_length (X : List Nd) : (ndCs X).length = X.length * 5 := by
  induction X with
  | nil => rfl
  | cons x X ih => simp [ndCs] at ih ⊢; omega
theorem ndL_len (X : List Nd) : ∀ cs ∈ ndL X, cs.length = 5 := by
  intro cs hcs
  obtain ⟨p, _, rfl⟩ := List.mem_map.1 hcs
  rfl
/-- Nodes in memory, to be read. -/
def NdAt (W : World) (v : Value) (X : List Nd) : Prop := RowAt W v 5 (ndL X)
theorem NdAt.below {W W' : World} {v : Value} {X : List Nd} {B : Nat} (h : NdAt W v X) (hb : Below B W W') (hB : W.heap.size ≤ B) : NdAt W' v X := RowAt.below h hb hB
theorem NdAt.turn {W W' : World} {v : Value} {X : List Nd} {S : Nat → Prop} (h : NdAt W v X) (hT : Turn S W W') (hs : ∀ b, v.ownBlock = some b → ¬ S b) : NdAt W' v X := RowAt.turn h hT hs
theorem NdAt.form {W : World} {v : Value} {X : List Nd} (h : NdAt W v X) : ∃ ad cap, v = .slice ad X.length cap := by
  obtain ⟨ad, cap, hv⟩ := RowAt.form h
  exact ⟨ad, cap, by rw [hv]; simp⟩
theorem NdAt.owned {W : World} {B : Nat} {v : Value} {X : List Nd} (h : W.ownsRow B 26 5 v X.length (ndCs X)) : NdAt W v X :=
  RowAt.owned (e := 26) (B := B) (by rw [ndL_flat, List.length_map]; exact h) (ndL_len X)
theorem NdAt.nil (W : World) : NdAt W (.slice none 0 0) [] := .inl ⟨rfl, .inl rfl⟩
/-- The cells of one of them. -/
theorem NdAt.at {W : World} {v : Value} {X : List Nd} (h : NdAt W v X) {j : Nat} {x : Nd} (hj : X[j]? = some x) : ∃ g o cap, v = .slice (some ⟨g, o, none⟩) X.length cap ∧ g < W.heap.size ∧
    W.cell? ⟨g, o + j * 5, none⟩ = some (.int .i64 x.kind) ∧ W.cell? ⟨g, o + j * 5 + 1, none⟩ = some (.int .i64 x.n) ∧ W.cell? ⟨g, o + j * 5 + 2, none⟩ = some (.int .i64 x.k) ∧ W.cell? ⟨g, o + j * 5 + 3, none⟩ = some (.int .i64 x.size) ∧ W.cell? ⟨g, o + j * 5 + 4, none⟩ = some (str x.s) := by
  rcases h with ⟨h0, _⟩ | ⟨g, o, cap, h1, h2, h3, h4⟩
  · have : X = [] := by simpa using h0
    rw [this] at hj
    simp at hj
  · have hc := h4 j (ndC x) (by rw [List.getElem?_map, hj]; rfl)
    exact ⟨g, o, cap, by simpa using h1, h3, hc 0 _ rfl, hc 1 _ rfl, hc 2 _ rfl, hc 3 _ rfl, hc 4 _ rfl⟩
/-- Where it is not nil its cells lie in a row. -/
theorem NdAt.cells {W : World} {v : Value} {X : List Nd} (h : NdAt W v X) : (v = .slice none 0 0 ∧ X = []) ∨ ∃ ad cap, v = .slice (some ad) X.length cap ∧ ∀ j u, (ndCs X)[j]? = some u → W.cell? (ad.add j) = some u := by
  rcases h with ⟨h0, h1 | ⟨ad, cap, h1⟩⟩ | ⟨g, o, cap, h1, h2, h3, h4⟩
  · exact .inl ⟨h1, by simpa using h0⟩
  · have : X = [] := by simpa using h0
    subst this
    exact .inr ⟨ad, cap, h1, fun j u hu => by simp [ndCs] at hu⟩
  · refine .inr ⟨⟨g, o, none⟩, cap, by simpa using h1, fun j u hu => ?_⟩
    have hj := (List.getElem?_eq_some_iff.1 hu).1
    rw [ndCs_length] at hj
    have hq : j / 5 < X.length := by omega
    have hx : X[j / 5]? = some (X[j / 5]) := List.getElem?_eq_getElem hq
    have hm := flat_at 5 (ndL X) (ndL_len X) (j / 5) (ndC X[j / 5]) (by rw [List.getElem?_map, hx]; rfl) (j % 5) ((ndC X[j / 5])[j % 5]'(by show _ < 5; omega)) (List.getElem?_eq_getElem (by show _ < 5; omega))
    rw [ndL_flat, show j / 5 * 5 + j % 5 = j by omega, hu] at hm
    have hc := h4 (j / 5) (ndC X[j / 5]) (by rw [List.getElem?_map, hx]; rfl) (j % 5) _ (List.getElem?_eq_getElem (by show _ < 5; omega))
    rw [Addr.add_lit, show o + j = o + j / 5 * 5 + j % 5 by omega, hc, hm]
theorem ndC_one (X : List Nd) : ∀ u ∈ ndCs X, u.oneCell' = true := by
  intro u hu
  obtain ⟨x, _, hx⟩ := List.mem_flatMap.1 hu
  simp [ndC] at hx
  rcases hx with rfl | rfl | rfl | rfl | rfl <;> rfl
/-- Lists of nodes in memory. -/
def KdAt (W : World) (v : Value) (K : List (Value × List Nd)) : Prop := RowAt W v 1 (K.map fun p => [p.1]) ∧ ∀ p ∈ K, NdAt W p.1 p.2
theorem KdAt.below {W W' : World} {v : Value} {K : List (Value × List Nd)} {B : Nat} (h : KdAt W v K) (hb : Below B W W') (hB : W.heap.size ≤ B) : KdAt W' v K := ⟨RowAt.below h.1 hb hB, fun p hp => (h.2 p hp).below hb hB⟩
theorem KdAt.form {W : World} {v : Value} {K : List (Value × List Nd)} (h : KdAt W v K) : ∃ ad cap, v = .slice ad K.length cap := by
  obtain ⟨ad, cap, hv⟩ := RowAt.form h.1
  exact ⟨ad, cap, by rw [hv]; simp⟩
theorem KdAt.nil (W : World) : KdAt W (.slice none 0 0) [] := ⟨.inl ⟨rfl, .inl rfl⟩, fun p hp => by simp at hp⟩
theorem KdAt.at {W : World} {v : Value} {K : List (Value × List Nd)} (h : KdAt W v K) {j : Nat} {p : Value × List Nd} (hj : K[j]? = some p) : ∃ g o cap, v = .slice (some ⟨g, o, none⟩) K.length cap ∧ g < W.heap.size ∧ W.cell? ⟨g, o + j, none⟩ = some p.1 ∧ NdAt W p.1 p.2 := by
  rcases h.1 with ⟨h0, _⟩ | ⟨g, o, cap, h1, h2, h3, h4⟩
  · have : K = [] := by simpa using h0
    rw [this] at hj
    simp at hj
  · have hc := h4 j [p.1] (by rw [List.getElem?_map, hj]; rfl) 0 p.1 rfl
    rw [Nat.mul_one, Nat.add_zero] at hc
    exact ⟨g, o, cap, by simpa using h1, h3, hc, h.2 p (List.mem_of_getElem? hj)⟩
theorem grown_own {w w1 w' : World} {B e k n : Nat} {v : Value} {xs : List Value} (hB : B ≤ w1.heap.size) (hb : Below B w w1) (ho : w1.ownsRow B e k v n xs) (hg : w1.grownBy w' v.ownBlock) : Below B w w' :=
  hb.grown hg hB fun q ej => (ho.lt q ej).1
theorem cells_new (w : World) (cs : List Value) (t : TypeId) : ∀ j u, cs[j]? = some u → (w.alloc (.cells cs.toArray t)).cell? ((⟨w.heap.size, 0, none⟩ : Addr).add j) = some u := by
  intro j u hj
  rw [Addr.add_lit, Nat.zero_add, (Cel.new w t cs.toArray).cell j]
  simpa using hj
theorem info28 : (Tryd.prog.info? 26).map (fun i => (i.zero, i.size, i.bytes)) = some (some (.agg #[.int .i64 0, .int .i64 0, .int .i64 0, .int .i64 0, .string ⟨#[]⟩]), 5, 48) := by kernel_rfl
def kidL (K : List (Value × List Nd)) : List Nd := (K.map Prod.snd).flatten
theorem kidL_snoc (K : List (Value × List Nd)) (k : Nat) (p : Value × List Nd) (h : K[k]? = some p) : kidL (K.take (k + 1)) = kidL (K.take k) ++ p.2 := by
  unfold kidL
  rw [List.take_add_one, h]
  simp
theorem kidL_le (K : List (Value × List Nd)) (k : Nat) : (kidL (K.take k)).length ≤ (kidL K).length := by
  have h : kidL K = kidL (K.take k) ++ kidL (K.drop k) := by
    unfold kidL
    rw [← List.flatten_append, ← List.map_append, List.take_append_drop]
  rw [h, List.length_append]
  omega
end Go.Proofs.YtfakelaibijgkaaDoor
