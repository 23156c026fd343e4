/- What a store is told. -/
import Derived.Test.YtfafhjglcaikoaaGreatDoorH3
import Derived.Test.YtfafhjglcaikoaaGreatDoorH2
import Derived.Test.YtfafhjglcaikoaaGreatDoorH1
import Derived.Test.YtfafhjglcaikoaaGreatDoorH5
import Derived.Test.YtfafhjglcaikoaaGreatDoorProg
import Derived.WalkKit
import Derived.WalkSpells
import Derived.WalkLawsBesides
import Derived.Laws.ResultCell
import Derived.Laws.Rows
import Derived.Maps.AppendAt
import Derived.Maps.OwnSet
import Derived.Maps.Ext
import Derived.Below
import Derived.Carry
import Derived.OwnWalk
import Derived.RangeFuncRecord
import Derived.Laws.AppendOwnNone
import Derived.Lib.BufferMore
import Derived.Sort.KeysCollected
/-! Texts and nodes in memory. -/
namespace Go.Proofs.YtfafhjglcaikoaaGreatDoor
open Go.RowKit

structure Nd where
  kind : Int
  n : Int
  k : Int
  size : Int
  s : Txt
/-! ### blocks -/
/-- Structs lie in a row. -/
def RowAtS (W : World) (v : Value) (k : Nat) (css : List (List Value)) : Prop :=
  (css = [] ∧ (v = .slice none 0 0 ∨ ∃ ad cap, v = .slice (some ad) 0 cap)) ∨
  ∃ g o cap, v = .slice (some ⟨g, o, none⟩) css.length cap ∧ css.length ≤ cap ∧ g < W.heap.size ∧ ∀ j cs, css[j]? = some cs → ∀ i u, cs[i]? = some u → W.cell? ⟨g, o + j * k + i, none⟩ = some u
theorem RowAtS.form {W : World} {v : Value} {k : Nat} {css : List (List Value)} (h : RowAtS W v k css) : ∃ ad cap, v = .slice ad css.length cap := by
  rcases h with ⟨rfl, rfl | ⟨ad, cap, rfl⟩⟩ | ⟨g, o, cap, rfl, _⟩
  · exact ⟨none, 0, rfl⟩
  · exact ⟨_, cap, rfl⟩
  · exact ⟨_, cap, rfl⟩
theorem RowAtS.below {W W' : World} {v : Value} {k : Nat} {css : List (List Value)} {B : Nat} (h : RowAtS W v k css) (hb : Below B W W') (hB : W.heap.size ≤ B) : RowAtS W' v k css := by
  rcases h with h | ⟨g, o, cap, h1, h2, h3, h4⟩
  · exact .inl h
  · exact .inr ⟨g, o, cap, h1, h2, Nat.lt_of_lt_of_le h3 hb.size, fun j cs hj i u hu => (hb.cell (p := ⟨g, o + j * k + i, none⟩) (by show g < B; omega)).trans (h4 j cs hj i u hu)⟩
theorem RowAtS.turn {W W' : World} {v : Value} {k : Nat} {css : List (List Value)} {S : Nat → Prop} (h : RowAtS W v k css) (hT : Turn S W W') (hs : ∀ b, v.ownBlock = some b → ¬ S b) : RowAtS W' v k css := by
  rcases h with h | ⟨g, o, cap, rfl, h2, h3, h4⟩
  · exact .inl h
  · exact .inr ⟨g, o, cap, rfl, h2, Nat.lt_of_lt_of_le h3 hT.size, fun j cs hj i u hu => (World.cell?_of_block (w := W) (a := ⟨g, o + j * k + i, none⟩) (hT.block g h3 (hs g rfl))).trans (h4 j cs hj i u hu)⟩
theorem RowAtS.owned {W : World} {B e k : Nat} {v : Value} {css : List (List Value)} (h : W.ownsRow B e k v css.length (css.flatMap id)) (hk : ∀ cs ∈ css, cs.length = k) : RowAtS W v k css := by
  rcases h.2 with ⟨hv, h0⟩ | ⟨g, cap, cur, hv, hb, hc, h1, _, h2, h3⟩
  · exact .inl ⟨List.eq_nil_of_length_eq_zero h0, .inl hv⟩
  · refine .inr ⟨g, 0, cap, hv, h1, (Array.getElem?_eq_some_iff.1 hc).1, fun j cs hj i u hu => ?_⟩
    have hf := flat_at k css hk j cs hj i u hu
    have hlt := (List.getElem?_eq_some_iff.1 hf).1
    rw [h.1] at hlt
    have e1 : W.cell? ⟨g, 0 + j * k + i, none⟩ = cur[j * k + i]? := by simp [World.cell?, hc]
    rw [e1, ← Array.getElem?_toList, ← List.getElem?_take_of_lt hlt, h3]
    exact hf

/-! ### nodes -/
abbrev ndC (x : Nd) : List Value := [.int .i64 x.kind, .int .i64 x.n, .int .i64 x.k, .int .i64 x.size, str x.s]
abbrev ndL (X : List Nd) : List (List Value) := X.map ndC
def ndCs (X : List Nd) : List Value := X.flatMap ndC
theorem ndL_flat (X : List Nd) : (ndL X).flatMap id = ndCs X := by simp [ndL, ndCs, List.flatMap_map]
theorem ndCs_append (X Y : List Nd) : ndCs (X ++ Y) = ndCs X ++ ndCs Y := by simp [ndCs]
theorem ndCs_length (X : List Nd) : (ndCs X).length = X.length * 5 := by
  induction X with
  | nil => rfl
  | cons x X ih => simp [ndCs] at ih ⊢; omega
theorem ndL_len (X : List Nd) : ∀ cs ∈ ndL X, cs.length = 5 := by
  intro cs hcs
  obtain ⟨p, _, rfl⟩ := List.mem_map.1 hcs
  rfl
/-- Nodes in memory, to be read. -/
def NdAt (W : World) (v : Value) (X : List Nd) : Prop := RowAtS W v 5 (ndL X)
theorem NdAt.below {W W' : World} {v : Value} {X : List Nd} {B : Nat} (h : NdAt W v X) (hb : Below B W W') (hB : W.heap.size ≤ B) : NdAt W' v X := RowAtS.below h hb hB
theorem NdAt.turn {W W' : World} {v : Value} {X : List Nd} {S : Nat → Prop} (h : NdAt W v X) (hT : Turn S W W') (hs : ∀ b, v.ownBlock = some b → ¬ S b) : NdAt W' v X := RowAtS.turn h hT hs
theorem NdAt.form {W : World} {v : Value} {X : List Nd} (h : NdAt W v X) : ∃ ad cap, v = .slice ad X.length cap := by
  obtain ⟨ad, cap, hv⟩ := RowAtS.form h
  exact ⟨ad, cap, by rw [hv]; simp⟩
theorem NdAt.owned {W : World} {B : Nat} {v : Value} {X : List Nd} (h : W.ownsRow B 40 5 v X.length (ndCs X)) : NdAt W v X :=
  RowAtS.owned (e := 40) (B := B) (by rw [ndL_flat, List.length_map]; exact h) (ndL_len X)
theorem NdAt.nil (W : World) : NdAt W (.slice none 0 0) [] := .inl ⟨rfl, .inl rfl⟩
/-- The cells of one of them. -/
theorem NdAt.at {W : World} {v : Value} {X : List Nd} (h : NdAt W v X) {j : Nat} {x : Nd} (hj : X[j]? = some x) : ∃ g o cap, v = .slice (some ⟨g, o, none⟩) X.length cap ∧ g < W.heap.size ∧
    W.cell? ⟨g, o + j * 5, none⟩ = some (.int .i64 x.kind) ∧ W.cell? ⟨g, o + j * 5 + 1, none⟩ = some (.int .i64 x.n) ∧ W.cell? ⟨g, o + j * 5 + 2, none⟩ = some (.int .i64 x.k) ∧ W.cell? ⟨g, o + j * 5 + 3, none⟩ = some (.int .i64 x.size) ∧ W.cell? ⟨g, o + j * 5 + 4, none⟩ = some (str x.s) := by
  rcases h with ⟨h0, _⟩ | ⟨g, o, cap, h1, h2, h3, h4⟩
  · have : X = [] := by simpa using h0
    rw [this] at hj
    simp at hj
  · have hc := h4 j (ndC x) (by rw [List.getElem?_map, hj]; rfl)
    exact ⟨g, o, cap, by simpa using h1, h3, hc 0 _ rfl, hc 1 _ rfl, hc 2 _ rfl, hc 3 _ rfl, hc 4 _ rfl⟩
/-- Where it is not nil its cells lie in a row. -/
theorem NdAt.cells {W : World} {v : Value} {X : List Nd} (h : NdAt W v X) : (v = .slice none 0 0 ∧ X = []) ∨ ∃ ad cap, v = .slice (some ad) X.length cap ∧ ∀ j u, (ndCs X)[j]? = some u → W.cell? (ad.add j) = some u := by
  rcases h with ⟨h0, h1 | ⟨ad, cap, h1⟩⟩ | ⟨g, o, cap, h1, h2, h3, h4⟩
  · exact .inl ⟨h1, by simpa using h0⟩
  · have : X = [] := by simpa using h0
    subst this
    exact .inr ⟨ad, cap, h1, fun j u hu => by simp [ndCs] at hu⟩
  · refine .inr ⟨⟨g, o, none⟩, cap, by simpa using h1, fun j u hu => ?_⟩
    have hj := (List.getElem?_eq_some_iff.1 hu).1
    rw [ndCs_length] at hj
    have hq : j / 5 < X.length := by omega
    have hx : X[j / 5]? = some (X[j / 5]) := List.getElem?_eq_getElem hq
    have hm := flat_at 5 (ndL X) (ndL_len X) (j / 5) (ndC X[j / 5]) (by rw [List.getElem?_map, hx]; rfl) (j % 5) ((ndC X[j / 5])[j % 5]'(by show _ < 5; omega)) (List.getElem?_eq_getElem (by show _ < 5; omega))
    rw [ndL_flat, show j / 5 * 5 + j % 5 = j by omega, hu] at hm
    have hc := h4 (j / 5) (ndC X[j / 5]) (by rw [List.getElem?_map, hx]; rfl) (j % 5) _ (List.getElem?_eq_getElem (by show _ < 5; omega))
    rw [Addr.add_lit, show o + j = o + j / 5 * 5 + j % 5 by omega, hc, hm]
theorem ndC_one (X : List Nd) : ∀ u ∈ ndCs X, u.oneCell' = true := by
  intro u hu
  obtain ⟨x, _, hx⟩ := List.mem_flatMap.1 hu
  simp [ndC] at hx
  rcases hx with rfl | rfl | rfl | rfl | rfl <;> rfl
theorem info58 : (Tryz.prog.info? 40).map (fun i => (i.zero, i.size, i.bytes)) = some (some (.agg #[.int .i64 0, .int .i64 0, .int .i64 0, .int .i64 0, .string ⟨#[]⟩]), 5, 48) := by kernel_rfl
/-! ### texts -/
theorem NdAt.turn' {W W' : World} {v : Value} {X : List Nd} (h : NdAt W v X) (hb : Below W.heap.size W W') : NdAt W' v X := h.below hb (Nat.le_refl _)
def NdOwn (W : World) (B : Nat) (v : Value) (X : List Nd) : Prop := W.ownsRow B 40 5 v X.length (ndCs X)
theorem NdOwn.at {W : World} {B : Nat} {v : Value} {X : List Nd} (h : NdOwn W B v X) : NdAt W v X := NdAt.owned h
theorem NdOwn.below {W W' : World} {B : Nat} {v : Value} {X : List Nd} (h : NdOwn W B v X) (hb : Below W.heap.size W W') : NdOwn W' B v X := owns_turn h (Turn.ofBelow (S := fun _ => False) hb) (fun _ _ h => h)
theorem info9 : (Tryz.prog.info? 9).map (fun i => (i.zero, i.size, i.bytes)) = some (some (.string ⟨#[]⟩), 1, 16) := by kernel_rfl
theorem txV_append (U I : List Txt) : txV (U ++ I) = txV U ++ txV I := by simp only [txV, List.map_append]
theorem Tx.cells {W : World} {ad : Addr} {n cap : Nat} {I : List Txt} (h : Tx W (.slice (some ad) n cap) I) : ∀ j u, (txV I)[j]? = some u → W.cell? (ad.add j) = some u := by
  intro j u hu
  unfold txV at hu
  rw [List.getElem?_map] at hu
  cases hp : I[j]? with
  | none => rw [hp] at hu; simp at hu
  | some p =>
    rw [hp] at hu
    cases hu
    obtain ⟨g, o, cap', h1, _, _, h3⟩ := h.inRow (fun e => by rw [e] at hp; simp at hp)
    cases h1
    rw [Addr.add_lit]
    exact h3 j p hp
theorem Tx.turn {W W' : World} {S : Nat → Prop} {v : Value} {ps : List Txt} (h : Tx W v ps) (hT : Turn S W W') (hs : ∀ b, v.ownBlock = some b → ¬ S b) : Tx W' v ps := by
  rcases h with h | ⟨ad, cap, rfl, h2, h3⟩
  · exact .inl h
  · refine .inr ⟨ad, cap, rfl, h2, fun hne => ?_⟩
    obtain ⟨g, o, rfl, h4, h5⟩ := h3 hne
    exact ⟨g, o, rfl, Nat.lt_of_lt_of_le h4 hT.size, fun k p hp => (World.cell?_of_block (w := W) (a := ⟨g, o + k, none⟩) (hT.block g h4 (hs g rfl))).trans (h5 k p hp)⟩
end Go.Proofs.YtfafhjglcaikoaaGreatDoor
/-! Maps as rising lists; a store in memory. -/
namespace Go.Proofs.YtfafhjglcaikoaaGreatDoor
open Go.RowKit

section plain
variable {α β : Type}
def insM (x : Txt × α) : List (Txt × α) → List (Txt × α)
  | [] => [x]
  | y :: r => if bytesBefore x.1 y.1 then x :: y :: r else y :: insM x r
def delM (F : List (Txt × α)) (k : Txt) : List (Txt × α) := F.filter fun p => !(p.1 == k)
def putM (F : List (Txt × α)) (k : Txt) (d : α) : List (Txt × α) := insM (k, d) (delM F k)
def hasM (F : List (Txt × α)) (k : Txt) : Bool := F.any fun p => p.1 == k
def getM (F : List (Txt × α)) (k : Txt) (z : α) : α := match F.find? (fun p => p.1 == k) with | some p => p.2 | none => z
/-- What is there, without where it lies. -/
def cont (F : List (Txt × Value × α)) : List (Txt × α) := F.map fun p => (p.1, p.2.2)
theorem mem_insM (x y : Txt × α) : ∀ F, y ∈ insM x F ↔ y = x ∨ y ∈ F
  | [] => by simp [insM]
  | z :: r => by
    unfold insM
    split
    · simp
    · simp only [List.mem_cons, mem_insM x y r]
      constructor
      · rintro (h | h | h)
        · exact .inr (.inl h)
        · exact .inl h
        · exact .inr (.inr h)
      · rintro (h | h | h)
        · exact .inr (.inl h)
        · exact .inl h
        · exact .inr (.inr h)
theorem length_insM (x : Txt × α) : ∀ F, (insM x F).length = F.length + 1
  | [] => rfl
  | z :: r => by
    unfold insM
    split
    · rfl
    · simp only [List.length_cons, length_insM x r]
theorem length_delM (F : List (Txt × α)) (k : Txt) : (delM F k).length ≤ F.length := List.length_filter_le _ _
theorem length_putM (F : List (Txt × α)) (k : Txt) (d : α) : (putM F k d).length ≤ F.length + 1 := by
  unfold putM
  rw [length_insM]
  have := length_delM F k
  omega
theorem mem_delM {F : List (Txt × α)} {k : Txt} {p : Txt × α} (h : p ∈ delM F k) : p ∈ F := (List.mem_filter.1 h).1
theorem mem_putM {F : List (Txt × α)} {k : Txt} {d : α} {p : Txt × α} (h : p ∈ putM F k d) : p = (k, d) ∨ p ∈ F := by
  rcases (mem_insM _ _ _).1 h with h | h
  · exact .inl h
  · exact .inr (mem_delM h)
theorem getM_mem {F : List (Txt × α)} {k : Txt} {z : α} (h : hasM F k = true) : (k, getM F k z) ∈ F := by
  unfold hasM at h
  unfold getM
  cases e : F.find? (fun p => p.1 == k) with
  | none =>
    rw [List.find?_eq_none] at e
    obtain ⟨p, hp, hk⟩ := List.any_eq_true.1 h
    exact absurd hk (e p hp)
  | some p =>
    have h1 := List.mem_of_find?_eq_some e
    have h2 := List.find?_some e
    have : p.1 = k := by simpa using h2
    subst this
    exact h1
theorem getM_none {F : List (Txt × α)} {k : Txt} {z : α} (h : hasM F k = false) : getM F k z = z := by
  unfold hasM at h
  unfold getM
  rw [List.find?_eq_none.2 (by simpa using h)]
theorem map_insM (f : α → β) (x : Txt × α) : ∀ F, (insM x F).map (fun p => (p.1, f p.2)) = insM (x.1, f x.2) (F.map fun p => (p.1, f p.2))
  | [] => rfl
  | z :: r => by
    unfold insM
    simp only [List.map_cons]
    split
    · rfl
    · simp only [List.map_cons, map_insM f x r]
theorem map_delM (f : α → β) (F : List (Txt × α)) (k : Txt) : (delM F k).map (fun p => (p.1, f p.2)) = delM (F.map fun p => (p.1, f p.2)) k := by
  unfold delM
  rw [List.filter_map]
  rfl
theorem map_putM (f : α → β) (F : List (Txt × α)) (k : Txt) (d : α) : (putM F k d).map (fun p => (p.1, f p.2)) = putM (F.map fun p => (p.1, f p.2)) k (f d) := by
  unfold putM
  rw [map_insM, map_delM]
theorem map_hasM (f : α → β) (F : List (Txt × α)) (k : Txt) : hasM (F.map fun p => (p.1, f p.2)) k = hasM F k := by
  unfold hasM
  rw [List.any_map]
  rfl
theorem map_getM (f : α → β) (F : List (Txt × α)) (k : Txt) (z : α) : getM (F.map fun p => (p.1, f p.2)) k (f z) = f (getM F k z) := by
  unfold getM
  rw [List.find?_map]
  have : ((fun p : Txt × β => p.1 == k) ∘ fun p : Txt × α => (p.1, f p.2)) = fun p => p.1 == k := rfl
  rw [this]
  cases F.find? (fun p => p.1 == k) <;> rfl
theorem cont_put (F : List (Txt × Value × α)) (k : Txt) (d : Value × α) : cont (putM F k d) = putM (cont F) k d.2 := map_putM Prod.snd F k d
theorem cont_has (F : List (Txt × Value × α)) (k : Txt) : hasM (cont F) k = hasM F k := map_hasM Prod.snd F k
theorem cont_get (F : List (Txt × Value × α)) (k : Txt) (v : Value) (z : α) : getM (cont F) k z = (getM F k (v, z)).2 := map_getM Prod.snd F k (v, z)
theorem cont_length (F : List (Txt × Value × α)) : (cont F).length = F.length := by simp [cont]

/-! ### as a datum -/
/-- How an element reads: as itself. -/
def hE : Value → Option (DataW Value × List MemPlace) := fun v => some (.held v, [])
def dM (F : List (Txt × Value × α)) : DataW Value := .map (F.map fun p => (Lit.string p.1, .held p.2.1))
theorem dM_insert (x : Txt × Value × α) : ∀ F : List (Txt × Value × α), DataW.insert (Lit.string x.1, DataW.held x.2.1) (F.map fun p => (Lit.string p.1, DataW.held p.2.1)) = (insM x F).map fun p => (Lit.string p.1, DataW.held p.2.1)
  | [] => rfl
  | y :: r => by
    have e1 : DataW.insert (Lit.string x.1, DataW.held x.2.1) ((y :: r).map fun p => (Lit.string p.1, DataW.held p.2.1)) = if (Lit.string x.1).before (Lit.string y.1) then (Lit.string x.1, DataW.held x.2.1) :: (Lit.string y.1, DataW.held y.2.1) :: r.map (fun p => (Lit.string p.1, DataW.held p.2.1)) else (Lit.string y.1, DataW.held y.2.1) :: DataW.insert (Lit.string x.1, DataW.held x.2.1) (r.map fun p => (Lit.string p.1, DataW.held p.2.1)) := rfl
    have e2 : insM x (y :: r) = if bytesBefore x.1 y.1 then x :: y :: r else y :: insM x r := rfl
    rw [e1, e2]
    by_cases h : bytesBefore x.1 y.1 = true
    · rw [if_pos h, if_pos (show (Lit.string x.1).before (Lit.string y.1) = true from h)]; rfl
    · rw [if_neg h, if_neg (show ¬ (Lit.string x.1).before (Lit.string y.1) = true from h), dM_insert x r]; rfl
theorem dM_filter (F : List (Txt × Value × α)) (k : Txt) : (F.map fun p => (Lit.string p.1, (DataW.held p.2.1 : DataW Value))).filter (fun p => !p.1.sameKey (.string k)) = (delM F k).map fun p => (Lit.string p.1, DataW.held p.2.1) := by
  unfold delM
  rw [List.filter_map]; rfl
theorem dM_put (F : List (Txt × Value × α)) (k : Txt) (d : Value × α) : (dM F).put (.string k) (.held d.1) = dM (putM F k d) := by
  unfold dM DataW.put putM
  simp only [dM_filter]
  rw [dM_insert (k, d)]
theorem dM_find (F : List (Txt × Value × α)) (k : Txt) : (F.map fun p => (Lit.string p.1, (DataW.held p.2.1 : DataW Value))).find? (fun p => p.1.sameKey (.string k)) = (F.find? fun p => p.1 == k).map fun p => (Lit.string p.1, DataW.held p.2.1) := by
  rw [List.find?_map]; rfl
theorem dM_at (F : List (Txt × Value × α)) (k : Txt) (d : Value × α) : (dM F).atKey (.string k) (.held d.1) = .held (getM F k d).1 := by
  unfold dM DataW.atKey getM
  simp only [dM_find]
  cases F.find? fun p => p.1 == k <;> rfl
theorem dM_has (F : List (Txt × Value × α)) (k : Txt) : Maps.has (dM F) (.string k) = hasM F k := by
  unfold dM hasM
  rw [Maps.has_eq, List.any_map]; rfl
theorem dM_keys (F : List (Txt × Value × α)) : strKeys (dM F) = F.map Prod.fst := by
  unfold dM strKeys
  simp only [List.map_map]; rfl
theorem dM_size (F : List (Txt × Value × α)) : Maps.size (dM F) = F.length := by simp [dM, Maps.size]
theorem hE_inv {v u : Value} {ps : List MemPlace} (h : hE v = some (.held u, ps)) : v = u := by
  unfold hE at h
  simp only [Option.some.injEq, Prod.mk.injEq, DataW.held.injEq] at h
  exact h.1
end plain

variable {α : Type} {W W' : World} {K K' S : Nat → Prop}
theorem map_turnS {b n : Nat} {D : DataW Value} (h : W.ownsMap Tryz.prog 9 hE b n D) (hT : Turn S W W') (hs : ¬ S b) : W'.ownsMap Tryz.prog 9 hE b n D := by
  have hlt := h.lt
  obtain ⟨es, clock, hb, r⟩ := h
  exact ⟨es, clock, (hT.block b hlt hs).trans hb, r⟩
theorem map_tightS {b n : Nat} {F : List (Txt × Value × α)} (h : W.ownsMap Tryz.prog 9 hE b n (dM F)) : W.ownsMap Tryz.prog 9 hE b F.length (dM F) := by
  obtain ⟨es, clock, hb, r, hn, hD⟩ := h
  refine ⟨es, clock, hb, r, ?_, hD⟩
  rw [← dM_size F, hD]
  simp [Maps.size, length_sorted]
/-- A block that is a map is no row. -/
theorem map_apartS {b n B e k m : Nat} {D : DataW Value} {v : Value} {xs : List Value} (h : W.ownsMap Tryz.prog 9 hE b n D) (ho : W.ownsRow B e k v m xs) : v.ownBlock ≠ some b := by
  obtain ⟨es, clock, hb, _⟩ := h
  rcases ho.2 with ⟨rfl, _⟩ | ⟨g, cap, cur, rfl, _, hgb, _⟩
  · simp [Value.ownBlock]
  · intro e'
    obtain rfl : g = b := by simpa [Value.ownBlock] using e'
    rw [hb] at hgb
    cases hgb
theorem map_apart_celS {b n b' t : Nat} {D : DataW Value} {cs : Array Value} (h : W.ownsMap Tryz.prog 9 hE b n D) (hc : Cel W b' t cs) : b' ≠ b := by
  obtain ⟨es, clock, hb, _⟩ := h
  rintro rfl
  have := (show W.heap[b']? = _ from hc).symm.trans hb
  cases this
theorem map_rising {b n : Nat} {F : List (Txt × Value × α)} (h : W.ownsMap Tryz.prog 9 hE b n (dM F)) : F.Pairwise fun p q => bytesBefore p.1 q.1 = true := by
  obtain ⟨es, he, hp, _⟩ := h.canon key9
  unfold dM at he
  cases he
  rw [List.pairwise_map] at hp
  exact hp

abbrev Vrs := List (Txt × Value × List Txt)
abbrev Fns := List (Txt × Value × List Nd)
abbrev sP (b : Nat) : Value := .pointer (some ⟨b, 0, none⟩)
abbrev fP (b : Nat) : Value := .pointer (some ⟨b, 1, none⟩)
/-- Nodes of one's own, in these blocks. -/
def On (W : World) (K : Nat → Prop) (v : Value) (l : List Nd) : Prop := W.ownsRow 0 40 5 v l.length (ndCs l) ∧ ∀ b, v.ownBlock = some b → K b
theorem On.at {v : Value} {l : List Nd} (h : On W K v l) : NdAt W v l := NdAt.owned h.1
theorem On.turn {v : Value} {l : List Nd} (h : On W K v l) (hT : Turn S W W') (hs : ∀ b, v.ownBlock = some b → ¬ S b) : On W' K v l := ⟨owns_turn h.1 hT hs, h.2⟩
def big : Nat := 140737488355328

/-- A store: its blocks, its variables, its functions. -/
structure Sto (W : World) (K : Nat → Prop) (sb vb fb : Nat) (V : Vrs) (G : Fns) : Prop where
  sc : Cel W sb 144 #[.map (some vb), .map (some fb)]
  vm : W.ownsMap Tryz.prog 9 hE vb V.length (dM V)
  fm : W.ownsMap Tryz.prog 9 hE fb G.length (dM G)
  vt : ∀ p ∈ V, Ot W K p.2.1 p.2.2
  ft : ∀ p ∈ G, On W K p.2.1 p.2.2
  vl : ∀ p ∈ V, p.2.2.length * 16 ≤ big
  fl : ∀ p ∈ G, p.2.2.length < 4294967296
  Ks : K sb
  Kv : K vb
  Kf : K fb
  ne : vb ≠ fb
  lt : ∀ i, K i → i < W.heap.size
variable {sb vb fb : Nat} {V : Vrs} {G : Fns}
theorem Sto.turn (h : Sto W K sb vb fb V G) (hT : Turn S W W') (hs : ∀ i, K i → ¬ S i) : Sto W' K sb vb fb V G := {
  sc := h.sc.turn hT (hs _ h.Ks)
  vm := map_turnS h.vm hT (hs _ h.Kv)
  fm := map_turnS h.fm hT (hs _ h.Kf)
  vt := fun p hp => (h.vt p hp).turn hT fun b hb => hs b ((h.vt p hp).2 b hb)
  ft := fun p hp => (h.ft p hp).turn hT fun b hb => hs b ((h.ft p hp).2 b hb)
  vl := h.vl
  fl := h.fl
  Ks := h.Ks
  Kv := h.Kv
  Kf := h.Kf
  ne := h.ne
  lt := fun i hi => Nat.lt_of_lt_of_le (h.lt i hi) hT.size }
theorem Sto.below (h : Sto W K sb vb fb V G) (hb : Below W.heap.size W W') : Sto W' K sb vb fb V G := h.turn (S := fun _ => False) (Turn.ofBelow hb) (fun _ _ h => h)
/-- Behind a step: the maps may have turned, and new blocks may be the store's. -/
def StpS (vb fb : Nat) (W : World) (K : Nat → Prop) (W' : World) (K' : Nat → Prop) : Prop := Turn (fun i => i = vb ∨ i = fb) W W' ∧ ∀ i, K' i → K i ∨ W.heap.size ≤ i
theorem StpS.below {B : Nat} (h : StpS vb fb W K W' K') (hv : B ≤ vb) (hf : B ≤ fb) (hB : B ≤ W.heap.size) : Below B W W' := h.1.below (fun i hi => by rcases hi with rfl | rfl <;> assumption) hB
/-- The variables' map turns, and nothing else. -/
theorem Sto.vput (h : Sto W K sb vb fb V G) {k : Txt} {v : Value} {l : List Txt} {n : Nat} (hl : l.length * 16 ≤ big) (ho : W.ownsRow 0 9 1 v l.length (txV l)) (hm : W'.ownsMap Tryz.prog 9 hE vb n ((dM V).put (.string k) (.held v))) (hg : W.grownBy W' (some vb)) :
    Sto W' (fun i => K i ∨ v.ownBlock = some i) sb vb fb (putM V k (v, l)) G ∧ Turn (fun i => i = vb ∨ i = fb) W W' := by
  have hT := Turn.ofGrown hg
  have hd := dM_put V k (v, l)
  rw [hd] at hm
  have key : ∀ {e k n : Nat} {v : Value} {xs : List Value}, W.ownsRow 0 e k v n xs → W'.ownsRow 0 e k v n xs := fun ho => owns_turn ho hT (fun b hb e => map_apartS h.vm ho (hb.trans e.symm))
  refine ⟨⟨h.sc.turn hT (fun e => map_apart_celS h.vm h.sc (Option.some.inj e).symm), map_tightS hm, map_turnS h.fm hT (fun e => h.ne (Option.some.inj e)), ?_, ?_, ?_, h.fl, .inl h.Ks, .inl h.Kv, .inl h.Kf, h.ne, ?_⟩, hT.mono (fun i e => .inl (Option.some.inj e).symm)⟩
  · intro p hp
    rcases mem_putM hp with rfl | hp
    · exact ⟨key ho, fun b hb => .inr hb⟩
    · exact ⟨key (h.vt p hp).1, fun b hb => .inl ((h.vt p hp).2 b hb)⟩
  · exact fun p hp => ⟨key (h.ft p hp).1, fun b hb => .inl ((h.ft p hp).2 b hb)⟩
  · intro p hp
    rcases mem_putM hp with rfl | hp
    · exact hl
    · exact h.vl p hp
  · rintro i (hi | hi)
    · exact Nat.lt_of_lt_of_le (h.lt i hi) hT.size
    · exact Nat.lt_of_lt_of_le (ho.lt i hi).2 hT.size
theorem Sto.fput (h : Sto W K sb vb fb V G) {k : Txt} {v : Value} {l : List Nd} {n : Nat} (hl : l.length < 4294967296) (ho : W.ownsRow 0 40 5 v l.length (ndCs l)) (hm : W'.ownsMap Tryz.prog 9 hE fb n ((dM G).put (.string k) (.held v))) (hg : W.grownBy W' (some fb)) :
    Sto W' (fun i => K i ∨ v.ownBlock = some i) sb vb fb V (putM G k (v, l)) ∧ Turn (fun i => i = vb ∨ i = fb) W W' := by
  have hT := Turn.ofGrown hg
  have hd := dM_put G k (v, l)
  rw [hd] at hm
  have key : ∀ {e k n : Nat} {v : Value} {xs : List Value}, W.ownsRow 0 e k v n xs → W'.ownsRow 0 e k v n xs := fun ho => owns_turn ho hT (fun b hb e => map_apartS h.fm ho (hb.trans e.symm))
  refine ⟨⟨h.sc.turn hT (fun e => map_apart_celS h.fm h.sc (Option.some.inj e).symm), map_turnS h.vm hT (fun e => h.ne (Option.some.inj e).symm), map_tightS hm, ?_, ?_, h.vl, ?_, .inl h.Ks, .inl h.Kv, .inl h.Kf, h.ne, ?_⟩, hT.mono (fun i e => .inr (Option.some.inj e).symm)⟩
  · exact fun p hp => ⟨key (h.vt p hp).1, fun b hb => .inl ((h.vt p hp).2 b hb)⟩
  · intro p hp
    rcases mem_putM hp with rfl | hp
    · exact ⟨key ho, fun b hb => .inr hb⟩
    · exact ⟨key (h.ft p hp).1, fun b hb => .inl ((h.ft p hp).2 b hb)⟩
  · intro p hp
    rcases mem_putM hp with rfl | hp
    · exact hl
    · exact h.fl p hp
  · rintro i (hi | hi)
    · exact Nat.lt_of_lt_of_le (h.lt i hi) hT.size
    · exact Nat.lt_of_lt_of_le (ho.lt i hi).2 hT.size
end Go.Proofs.YtfafhjglcaikoaaGreatDoor
/-! Lists anew; what a store tells. -/
namespace Go.Proofs.YtfafhjglcaikoaaGreatDoor
open Go.RowKit
attribute [local go_sem] Oper.semAt_some

theorem owns_none (W : World) (t k : Nat) : (W.alloc (.cells #[] t)).ownsRow W.heap.size t k (.slice (some ⟨W.heap.size, 0, none⟩) 0 0) 0 [] :=
  ⟨by simp, .inr ⟨W.heap.size, 0, #[], rfl, Nat.le_refl _, World.alloc_heap_new W _, Nat.le_refl _, by simp, by simp, by simp⟩⟩
set_option maxRecDepth 100000 in
set_option maxHeartbeats 1000000 in
theorem cloneN_any (v : Value) (X : List Nd) (W : World) (h : NdAt W v X) (hl : X.length < 4294967296) :
    Calls Tryz.prog 35 #[v] W fun e w' => ∃ v', e = .returned v' ∧ NdOwn w' W.heap.size v' X ∧ Below W.heap.size W w' := by
  obtain ⟨i0, hi0, hz0, hz1, hz2⟩ := info_parts info58
  have hb1 := below_new W (.cells #[] 40)
  rcases h.cells with ⟨rfl, rfl⟩ | ⟨adp, capp, rfl, hcs⟩
  · have hq : ∀ w, (binOp .eql 22 (.slice none 0 0) (.slice none 0 0)).run Tryz.prog w = .ok (.bool true) w := fun w => Lib.run_eql_slice_nil_nil w 0 0 Tryz.underlying22
    go_enter Tryz.func35, Tryz.ntmps35
    go_wp2_with fail
    go_ret
    exact ⟨_, rfl, World.ownsRow_nil _ _ _ _, Below.refl _ _⟩
  · have HC : Hid (∀ j u, (ndCs X)[j]? = some u → (W.alloc (.cells #[] 40)).cell? (adp.add j) = some u) := by
      rcases (h.below hb1 (Nat.le_refl _)).cells with ⟨hn, _⟩ | ⟨ad2, cap2, hv, hc2⟩
      · cases hn
      · cases hv
        exact hc2
    have ho := owns_none W 40 5
    have hq : ∀ w, (binOp .eql 22 (.slice (some adp) X.length capp) (.slice none 0 0)).run Tryz.prog w = .ok (.bool false) w := fun w => Lib.run_eql_slice_some_nil w _ _ _ Tryz.underlying22
    clear h hcs
    go_enter Tryz.func35, Tryz.ntmps35
    go_wp2_with (at_builtin; refine wpList_append_own_at _ rfl _ _ 22 rfl W.heap.size 40 i0 _ 5 48 Tryz.underlying22 hi0 hz0 hz1 hz2 rfl (by decide) _ _ _ rfl ho adp X.length capp (ndCs X) rfl (ndCs_length X) HC.out (ndC_one X) (by have := maxLen_big; omega) (by omega) hb1.size ?_; intro v2 w2 hown2 hgrow2 _ _)
    go_ret
    refine ⟨_, rfl, ?_, grown_own hb1.size hb1 ho hgrow2⟩
    unfold NdOwn
    simpa using hown2
set_option maxRecDepth 100000 in
set_option maxHeartbeats 1000000 in
theorem cloneT_any (v : Value) (l : List Txt) (W : World) (h : Tx W v l) (hl : l.length * 16 ≤ big) :
    Calls Tryz.prog 100 #[v] W fun e w' => ∃ v', e = .returned v' ∧ w'.ownsRow W.heap.size 9 1 v' l.length (txV l) ∧ Below W.heap.size W w' := by
  obtain ⟨i0, hi0, hz0, hz1, hz2⟩ := info_parts info9
  have hb1 := below_new W (.cells #[] 9)
  unfold big at hl
  have HT : Hid (∀ W', Below W.heap.size W W' → Tx W' v l) := fun W' hb => h.below hb (Nat.le_refl _)
  rcases h with ⟨rfl, rfl⟩ | ⟨adp, capp, rfl, _, _⟩
  · have hq : ∀ w, (binOp .eql 23 (.slice none 0 0) (.slice none 0 0)).run Tryz.prog w = .ok (.bool true) w := fun w => Lib.run_eql_slice_nil_nil w 0 0 Tryz.underlying23
    go_enter Tryz.func100, Tryz.ntmps100
    go_wp2_with fail
    go_ret
    exact ⟨_, rfl, World.ownsRow_nil _ _ _ _, Below.refl _ _⟩
  · have HC : Hid (∀ j u, (txV l)[j]? = some u → (W.alloc (.cells #[] 9)).cell? (adp.add j) = some u) := (HT.out _ hb1).cells
    have ho := owns_none W 9 1
    have hq : ∀ w, (binOp .eql 23 (.slice (some adp) l.length capp) (.slice none 0 0)).run Tryz.prog w = .ok (.bool false) w := fun w => Lib.run_eql_slice_some_nil w _ _ _ Tryz.underlying23
    go_enter Tryz.func100, Tryz.ntmps100
    go_wp2_with (at_builtin; refine wpList_append_own_at _ rfl _ _ 23 rfl W.heap.size 9 i0 _ 1 16 Tryz.underlying23 hi0 hz0 hz1 hz2 rfl (by decide) _ _ _ rfl ho adp l.length capp (txV l) rfl (by rw [txV_length, Nat.mul_one]) HC.out (txV_one l) (by have := maxLen_big; omega) (by omega) hb1.size ?_; intro v2 w2 hown2 hgrow2 _ _)
    go_ret
    refine ⟨_, rfl, ?_, grown_own hb1.size hb1 ho hgrow2⟩
    simpa using hown2

variable {W : World} {K : Nat → Prop} {sb vb fb : Nat} {V : Vrs} {G : Fns}
abbrev nilT : Value × List Txt := (.slice none 0 0, [])
abbrev nilN : Value × List Nd := (.slice none 0 0, [])
theorem lookV (h : W.ownsMap Tryz.prog 9 hE vb V.length (dM V)) (k : Txt) (hk : k.length ≤ maxLen) (b : Bool) :
    (Instr.lookup 137 (.map (some vb)) (str k) b).run Tryz.prog W = .ok (if b then .tuple #[(getM V k nilT).1, .bool (hasM V k)] else (getM V k nilT).1) W := by
  cases b
  · obtain ⟨v, ps, h1, h2⟩ := h.lookup key9 Tryz.underlying137 (Tryz.zeroValue23 W) (zd := .held nilT.1) (zp := []) rfl (keyOf9 k hk)
    rw [dM_at] at h2
    rw [h1, hE_inv h2]
    rfl
  · obtain ⟨v, ps, h1, h2⟩ := h.look_ok key9 Tryz.underlying137 (Tryz.zeroValue23 W) (zd := .held nilT.1) (zp := []) rfl (keyOf9 k hk)
    rw [dM_at] at h2
    rw [dM_has] at h1
    rw [h1, hE_inv h2]
    rfl
theorem lookF (h : W.ownsMap Tryz.prog 9 hE fb G.length (dM G)) (k : Txt) (hk : k.length ≤ maxLen) (b : Bool) :
    (Instr.lookup 140 (.map (some fb)) (str k) b).run Tryz.prog W = .ok (if b then .tuple #[(getM G k nilN).1, .bool (hasM G k)] else (getM G k nilN).1) W := by
  cases b
  · obtain ⟨v, ps, h1, h2⟩ := h.lookup key9 Tryz.underlying140 (Tryz.zeroValue22 W) (zd := .held nilN.1) (zp := []) rfl (keyOf9 k hk)
    rw [dM_at] at h2
    rw [h1, hE_inv h2]
    rfl
  · obtain ⟨v, ps, h1, h2⟩ := h.look_ok key9 Tryz.underlying140 (Tryz.zeroValue22 W) (zd := .held nilN.1) (zp := []) rfl (keyOf9 k hk)
    rw [dM_at] at h2
    rw [dM_has] at h1
    rw [h1, hE_inv h2]
    rfl
theorem Sto.gotV (h : Sto W K sb vb fb V G) (k : Txt) : Tx W (getM V k nilT).1 (getM V k nilT).2 ∧ (getM V k nilT).2.length * 16 ≤ big := by
  cases e : hasM V k with
  | false =>
    rw [getM_none e]
    exact ⟨Tx.nil W, by simp only [List.length_nil, Nat.zero_mul, Nat.zero_le]⟩
  | true =>
    have hm := getM_mem (z := nilT) e
    have h2 := h.vl _ hm
    exact ⟨(h.vt _ hm).tx, h2⟩
theorem Sto.gotF (h : Sto W K sb vb fb V G) (k : Txt) : NdAt W (getM G k nilN).1 (getM G k nilN).2 ∧ (getM G k nilN).2.length < 4294967296 := by
  cases e : hasM G k with
  | false =>
    rw [getM_none e]
    exact ⟨NdAt.nil W, by simp only [List.length_nil, Nat.zero_lt_succ]⟩
  | true =>
    have hm := getM_mem (z := nilN) e
    have h2 := h.fl _ hm
    exact ⟨(h.ft _ hm).at, h2⟩
set_option maxHeartbeats 1000000 in
theorem get_any (h : Sto W K sb vb fb V G) (k : Txt) (hk : k.length ≤ maxLen) :
    Calls Tryz.prog 147 #[sP sb, str k] W fun e w' => ∃ v', e = .returned (.tuple #[v', .bool (hasM V k)]) ∧ w'.ownsRow W.heap.size 9 1 v' (getM V k nilT).2.length (txV (getM V k nilT).2) ∧ Below W.heap.size W w' := by
  have c0 := h.sc.cell 0
  have hlk := lookV h.vm k hk true
  simp only [if_true] at hlk
  obtain ⟨h1, h2⟩ := h.gotV k
  have HC : Hid (∀ W' v', W' = W → v' = (getM V k nilT).1 → Calls Tryz.prog 100 #[v'] W' fun e w' => ∃ v', e = .returned v' ∧ w'.ownsRow W.heap.size 9 1 v' (getM V k nilT).2.length (txV (getM V k nilT).2) ∧ Below W.heap.size W w') := by
    rintro W' v' rfl rfl
    exact cloneT_any _ _ _ h1 h2
  clear h h1 h2
  go_enter Tryz.func147, Tryz.ntmps147
  go_wp2_with fail
  refine (HC.out _ _ rfl rfl).mono ?_
  rintro e w1 ⟨v', rfl, ho, hb⟩
  go_wp2_with fail
  go_ret2
  exact ⟨v', rfl, ho, hb⟩
set_option maxHeartbeats 1000000 in
theorem fun_any (h : Sto W K sb vb fb V G) (k : Txt) (hk : k.length ≤ maxLen) :
    Calls Tryz.prog 109 #[fP sb, str k] W fun e w' => ∃ v', e = .returned (.tuple #[v', .bool (hasM G k)]) ∧ NdOwn w' W.heap.size v' (getM G k nilN).2 ∧ Below W.heap.size W w' := by
  have c0 := h.sc.cell 1
  have hlk := lookF h.fm k hk true
  simp only [if_true] at hlk
  obtain ⟨h1, h2⟩ := h.gotF k
  have HC : Hid (∀ W' v', W' = W → v' = (getM G k nilN).1 → Calls Tryz.prog 35 #[v'] W' fun e w' => ∃ v', e = .returned v' ∧ NdOwn w' W.heap.size v' (getM G k nilN).2 ∧ Below W.heap.size W w') := by
    rintro W' v' rfl rfl
    exact cloneN_any _ _ _ h1 h2
  clear h h1 h2
  go_enter Tryz.func109, Tryz.ntmps109
  go_wp2_with fail
  refine (HC.out _ _ rfl rfl).mono ?_
  rintro e w1 ⟨v', rfl, ho, hb⟩
  go_wp2_with fail
  go_ret2
  exact ⟨v', rfl, ho, hb⟩
end Go.Proofs.YtfafhjglcaikoaaGreatDoor
namespace Go.Proofs.YtfafhjglcaikoaaGreatDoor
open Go.RowKit

/-- A map is written, at its operation, in whatever walk. -/
theorem step_mapUpdate {o : Oper} {a : Act} {w : World} {K : Act → World → Prop} {Q : Exit → Act → World → Prop} (m x v : Operand) (t : TypeId) (hop : o.op = Op.mapUpdate t m x v) {e : TypeId}
    (ht : Tryz.prog.underlying t = some (.map 9 e)) (b n : Nat) (D : DataW Value) (hm : a.eval m = .map (some b)) (hown : w.ownsMap Tryz.prog 9 hE b n D) (hn : n < maxLen) (key val : Value) (kl : Lit) (hx : a.eval x = key) (hv : a.eval v = val) (hkey : keyOf Tryz.prog 9 key = some kl)
    (hK : ∀ w', w'.ownsMap Tryz.prog 9 hE b (n + 1) (D.put kl (.held val)) → w.grownBy w' (some b) → K (a.put o.dst undef) w') : Oper.wp Tryz.prog o a w K Q := by
  obtain ⟨w', hrun, r1, r2⟩ := hown.update key9 ht hn hkey (val := val) (d := .held val) (ps := []) rfl
  unfold Oper.wp
  simp [execOp, hop, hm, hx, hv, hrun, Result.andThen]
  exact hK w' r1 r2
variable {W : World} {K : Nat → Prop} {sb vb fb : Nat} {V : Vrs} {G : Fns}
theorem tx_b {W W' : World} {v : Value} {l : List Txt} (h : Tx W v l) (hb : Below W.heap.size W W') : Tx W' v l := h.below hb (Nat.le_refl _)
theorem nd_b {W W' : World} {v : Value} {l : List Nd} (h : NdAt W v l) (hb : Below W.heap.size W W') : NdAt W' v l := h.below hb (Nat.le_refl _)
theorem set_fin {w2 w3 : World} {v2 : Value} {l : List Txt} {k : Txt} {n : Nat} (hl : l.length * 16 ≤ big) (h2 : Sto w2 K sb vb fb V G) (hb2 : Below W.heap.size W w2) (ho : w2.ownsRow W.heap.size 9 1 v2 l.length (txV l))
    (hm : w3.ownsMap Tryz.prog 9 hE vb n ((dM V).put (.string k) (.held v2))) (hg : w2.grownBy w3 (some vb)) : ∃ v' K', Sto w3 K' sb vb fb (putM V k (v', l)) G ∧ StpS vb fb W K w3 K' := by
  obtain ⟨h3, hT⟩ := h2.vput hl (owns_lower ho (Nat.zero_le _)) hm hg
  exact ⟨v2, _, h3, (Turn.ofBelow hb2).trans hT (fun _ hi _ => hi), fun i hi => hi.elim .inl (fun e => .inr (ho.lt i e).1)⟩
set_option maxRecDepth 100000 in
set_option maxHeartbeats 1000000 in
theorem set_any (h : Sto W K sb vb fb V G) (k : Txt) (hk : k.length ≤ maxLen) (v : Value) (l : List Txt) (ht : Tx W v l) (hl : l.length * 16 ≤ big) (hV : V.length < 4294967296) :
    Calls Tryz.prog 106 #[sP sb, str k, v] W fun e w' => e = .returned (.tuple #[]) ∧ ∃ v' K', Sto w' K' sb vb fb (putM V k (v', l)) G ∧ StpS vb fb W K w' K' := by
  have HH : Hid (∀ W', Below W.heap.size W W' → Sto W' K sb vb fb V G) := fun W' hb => h.below hb
  have HT : Hid (Tx W v l) := ht
  have HL : Hid (l.length * 16 ≤ big) := hl
  have c0 : W.cell? ⟨sb, 0, none⟩ = some (.map (some vb)) := h.sc.cell 0
  obtain ⟨ad, cap, rfl⟩ := ht.form
  clear h ht hl
  go_enter Tryz.func106, Tryz.ntmps106
  refine wp_region_any (by kernel_rfl) ?_
  try (change wpAny _ _ _ _ _ _ _ (World.drew _))
  refine wpAny_take (i := 0) (v := sP sb) rfl (by kernel_rfl) (by kernel_rfl) (by kernel_rfl) (fun _ _ _ h => h) (Or.inl ⟨by rfl, by intro wz; go_simp⟩) ?_
  try simp only [Act.put, List.getElem_toArray, List.getElem_cons_zero, List.setIfInBounds_toArray, List.set_cons_zero, List.set_cons_succ]
  refine wpAny_take (i := 1) (v := sP sb) rfl (by kernel_rfl) (by kernel_rfl) (by kernel_rfl) (fun _ _ _ h => h) (Or.inl ⟨by rfl, by intro wz; go_simp⟩) ?_
  try simp only [Act.put, List.getElem_toArray, List.getElem_cons_succ, List.getElem_cons_zero, List.setIfInBounds_toArray, List.set_cons_zero, List.set_cons_succ]
  refine wpAny_take (i := 2) (v := sP sb) rfl (by kernel_rfl) (by kernel_rfl) (by kernel_rfl) (fun _ _ _ h => h) (Or.inl ⟨by rfl, by intro wz; go_simp⟩) ?_
  try simp only [Act.put, List.getElem_toArray, List.getElem_cons_succ, List.getElem_cons_zero, List.setIfInBounds_toArray, List.set_cons_zero, List.set_cons_succ]
  refine wpAny_take (i := 4) (v := str k) rfl (by kernel_rfl) (by kernel_rfl) (by kernel_rfl) (fun _ _ _ h => h) (Or.inl ⟨by rfl, by intro wz; go_simp⟩) ?_
  try simp only [Act.put, List.getElem_toArray, List.getElem_cons_succ, List.getElem_cons_zero, List.setIfInBounds_toArray, List.set_cons_zero, List.set_cons_succ]
  refine wpAny_take (i := 5) (v := .slice ad l.length cap) rfl (by kernel_rfl) (by kernel_rfl) (by kernel_rfl) (fun _ _ _ h => h) (Or.inl ⟨by rfl, by intro wz; go_simp⟩) ?_
  try simp only [Act.put, List.getElem_toArray, List.getElem_cons_succ, List.getElem_cons_zero, List.setIfInBounds_toArray, List.set_cons_zero, List.set_cons_succ]
  have hbd : Below W.heap.size W W.drew := (Below.refl _ W).drew
  refine wpAny_ready (rs := [3, 6]) (by kernel_rfl) (by simp) ?_
  refine AllReady.cons rfl (fun K hK => ?_) ?_
  · go_simp
    refine hK _ _ ?_
    clear hK K
    try simp only [Act.put, List.getElem_toArray, List.getElem_cons_succ, List.getElem_cons_zero, List.setIfInBounds_toArray, List.set_cons_zero, List.set_cons_succ]
    refine wpAny_ready (rs := [6]) (by kernel_rfl) (by simp) ?_
    refine AllReady.cons rfl (fun K hK => ?_) ?_
    · go_simp
      refine (cloneT_any _ l W.drew (tx_b HT.out hbd) HL.out).mono ?_
      rintro r w2 ⟨v2, rfl, ho2, hb2'⟩
      refine hK _ _ ?_
      clear hK K
      try simp only [Act.put, List.getElem_toArray, List.getElem_cons_succ, List.getElem_cons_zero, List.setIfInBounds_toArray, List.set_cons_zero, List.set_cons_succ]
      have hb2 : Below W.heap.size W w2 := hbd.trans hb2'
      refine wpAny_ready (rs := [7]) (by kernel_rfl) (by simp) ?_
      refine AllReady.cons rfl (fun K hK => ?_) ?_
      · refine step_mapUpdate _ _ _ 137 rfl Tryz.underlying137 vb V.length (dM V) rfl (HH.out _ hb2).vm (by have := maxLen_big; omega) (str k) v2 (.string k) rfl rfl (keyOf9 k hk) ?_
        intro w3 hm hg
        refine hK _ _ ?_
        clear hK K
        try simp only [Act.put]
        refine wpAny_done (by kernel_rfl) ?_ _
        go_wp2_with fail
        go_end0
        exact ⟨rfl, set_fin HL.out (HH.out _ hb2) hb2 ho2 hm hg⟩
      exact AllReady.nil
    exact AllReady.nil
  refine AllReady.cons rfl (fun K hK => ?_) ?_
  · go_simp
    refine (cloneT_any _ l W.drew (tx_b HT.out hbd) HL.out).mono ?_
    rintro r w2 ⟨v2, rfl, ho2, hb2'⟩
    refine hK _ _ ?_
    clear hK K
    try simp only [Act.put, List.getElem_toArray, List.getElem_cons_succ, List.getElem_cons_zero, List.setIfInBounds_toArray, List.set_cons_zero, List.set_cons_succ]
    have hb2 : Below W.heap.size W w2 := hbd.trans hb2'
    have c2 : w2.cell? ⟨sb, 0, none⟩ = some (.map (some vb)) := (HH.out _ hb2).sc.cell 0
    refine wpAny_ready (rs := [3]) (by kernel_rfl) (by simp) ?_
    refine AllReady.cons rfl (fun K hK => ?_) ?_
    · go_simp
      refine hK _ _ ?_
      clear hK K
      try simp only [Act.put, List.getElem_toArray, List.getElem_cons_succ, List.getElem_cons_zero, List.setIfInBounds_toArray, List.set_cons_zero, List.set_cons_succ]
      refine wpAny_ready (rs := [7]) (by kernel_rfl) (by simp) ?_
      refine AllReady.cons rfl (fun K hK => ?_) ?_
      · refine step_mapUpdate _ _ _ 137 rfl Tryz.underlying137 vb V.length (dM V) rfl (HH.out _ hb2).vm (by have := maxLen_big; omega) (str k) v2 (.string k) rfl rfl (keyOf9 k hk) ?_
        intro w3 hm hg
        refine hK _ _ ?_
        clear hK K
        try simp only [Act.put]
        refine wpAny_done (by kernel_rfl) ?_ _
        go_wp2_with fail
        go_end0
        exact ⟨rfl, set_fin HL.out (HH.out _ hb2) hb2 ho2 hm hg⟩
      exact AllReady.nil
    exact AllReady.nil
  exact AllReady.nil
theorem setFun_fin {w2 w3 : World} {v2 : Value} {l : List Nd} {k : Txt} {n : Nat} (hl : l.length < 4294967296) (h2 : Sto w2 K sb vb fb V G) (hb2 : Below W.heap.size W w2) (ho : NdOwn w2 W.heap.size v2 l)
    (hm : w3.ownsMap Tryz.prog 9 hE fb n ((dM G).put (.string k) (.held v2))) (hg : w2.grownBy w3 (some fb)) : ∃ v' K', Sto w3 K' sb vb fb V (putM G k (v', l)) ∧ StpS vb fb W K w3 K' := by
  obtain ⟨h3, hT⟩ := h2.fput hl (owns_lower ho (Nat.zero_le _)) hm hg
  exact ⟨v2, _, h3, (Turn.ofBelow hb2).trans hT (fun _ hi _ => hi), fun i hi => hi.elim .inl (fun e => .inr (ho.lt i e).1)⟩
set_option maxRecDepth 100000 in
set_option maxHeartbeats 1000000 in
theorem setFun_any (h : Sto W K sb vb fb V G) (k : Txt) (hk : k.length ≤ maxLen) (v : Value) (l : List Nd) (ht : NdAt W v l) (hl : l.length < 4294967296) (hV : G.length < 4294967296) :
    Calls Tryz.prog 74 #[fP sb, str k, v] W fun e w' => e = .returned (.tuple #[]) ∧ ∃ v' K', Sto w' K' sb vb fb V (putM G k (v', l)) ∧ StpS vb fb W K w' K' := by
  have HH : Hid (∀ W', Below W.heap.size W W' → Sto W' K sb vb fb V G) := fun W' hb => h.below hb
  have HT : Hid (NdAt W v l) := ht
  have HL : Hid (l.length < 4294967296) := hl
  have c0 : W.cell? ⟨sb, 1, none⟩ = some (.map (some fb)) := h.sc.cell 1
  obtain ⟨ad, cap, rfl⟩ := ht.form
  clear h ht hl
  go_enter Tryz.func74, Tryz.ntmps74
  refine wp_region_any (by kernel_rfl) ?_
  try (change wpAny _ _ _ _ _ _ _ (World.drew _))
  refine wpAny_take (i := 0) (v := fP sb) rfl (by kernel_rfl) (by kernel_rfl) (by kernel_rfl) (fun _ _ _ h => h) (Or.inl ⟨by rfl, by intro wz; go_simp⟩) ?_
  try simp only [Act.put, List.getElem_toArray, List.getElem_cons_zero, List.setIfInBounds_toArray, List.set_cons_zero, List.set_cons_succ]
  refine wpAny_take (i := 1) (v := fP sb) rfl (by kernel_rfl) (by kernel_rfl) (by kernel_rfl) (fun _ _ _ h => h) (Or.inl ⟨by rfl, by intro wz; go_simp⟩) ?_
  try simp only [Act.put, List.getElem_toArray, List.getElem_cons_succ, List.getElem_cons_zero, List.setIfInBounds_toArray, List.set_cons_zero, List.set_cons_succ]
  refine wpAny_take (i := 2) (v := fP sb) rfl (by kernel_rfl) (by kernel_rfl) (by kernel_rfl) (fun _ _ _ h => h) (Or.inl ⟨by rfl, by intro wz; go_simp⟩) ?_
  try simp only [Act.put, List.getElem_toArray, List.getElem_cons_succ, List.getElem_cons_zero, List.setIfInBounds_toArray, List.set_cons_zero, List.set_cons_succ]
  refine wpAny_take (i := 4) (v := str k) rfl (by kernel_rfl) (by kernel_rfl) (by kernel_rfl) (fun _ _ _ h => h) (Or.inl ⟨by rfl, by intro wz; go_simp⟩) ?_
  try simp only [Act.put, List.getElem_toArray, List.getElem_cons_succ, List.getElem_cons_zero, List.setIfInBounds_toArray, List.set_cons_zero, List.set_cons_succ]
  refine wpAny_take (i := 5) (v := .slice ad l.length cap) rfl (by kernel_rfl) (by kernel_rfl) (by kernel_rfl) (fun _ _ _ h => h) (Or.inl ⟨by rfl, by intro wz; go_simp⟩) ?_
  try simp only [Act.put, List.getElem_toArray, List.getElem_cons_succ, List.getElem_cons_zero, List.setIfInBounds_toArray, List.set_cons_zero, List.set_cons_succ]
  have hbd : Below W.heap.size W W.drew := (Below.refl _ W).drew
  refine wpAny_ready (rs := [3, 6]) (by kernel_rfl) (by simp) ?_
  refine AllReady.cons rfl (fun K hK => ?_) ?_
  · go_simp
    refine hK _ _ ?_
    clear hK K
    try simp only [Act.put, List.getElem_toArray, List.getElem_cons_succ, List.getElem_cons_zero, List.setIfInBounds_toArray, List.set_cons_zero, List.set_cons_succ]
    refine wpAny_ready (rs := [6]) (by kernel_rfl) (by simp) ?_
    refine AllReady.cons rfl (fun K hK => ?_) ?_
    · go_simp
      refine (cloneN_any _ l W.drew (nd_b HT.out hbd) HL.out).mono ?_
      rintro r w2 ⟨v2, rfl, ho2, hb2'⟩
      refine hK _ _ ?_
      clear hK K
      try simp only [Act.put, List.getElem_toArray, List.getElem_cons_succ, List.getElem_cons_zero, List.setIfInBounds_toArray, List.set_cons_zero, List.set_cons_succ]
      have hb2 : Below W.heap.size W w2 := hbd.trans hb2'
      refine wpAny_ready (rs := [7]) (by kernel_rfl) (by simp) ?_
      refine AllReady.cons rfl (fun K hK => ?_) ?_
      · refine step_mapUpdate _ _ _ 140 rfl Tryz.underlying140 fb G.length (dM G) rfl (HH.out _ hb2).fm (by have := maxLen_big; omega) (str k) v2 (.string k) rfl rfl (keyOf9 k hk) ?_
        intro w3 hm hg
        refine hK _ _ ?_
        clear hK K
        try simp only [Act.put]
        refine wpAny_done (by kernel_rfl) ?_ _
        go_wp2_with fail
        go_end0
        exact ⟨rfl, setFun_fin HL.out (HH.out _ hb2) hb2 ho2 hm hg⟩
      exact AllReady.nil
    exact AllReady.nil
  refine AllReady.cons rfl (fun K hK => ?_) ?_
  · go_simp
    refine (cloneN_any _ l W.drew (nd_b HT.out hbd) HL.out).mono ?_
    rintro r w2 ⟨v2, rfl, ho2, hb2'⟩
    refine hK _ _ ?_
    clear hK K
    try simp only [Act.put, List.getElem_toArray, List.getElem_cons_succ, List.getElem_cons_zero, List.setIfInBounds_toArray, List.set_cons_zero, List.set_cons_succ]
    have hb2 : Below W.heap.size W w2 := hbd.trans hb2'
    have c2 : w2.cell? ⟨sb, 1, none⟩ = some (.map (some fb)) := (HH.out _ hb2).sc.cell 1
    refine wpAny_ready (rs := [3]) (by kernel_rfl) (by simp) ?_
    refine AllReady.cons rfl (fun K hK => ?_) ?_
    · go_simp
      refine hK _ _ ?_
      clear hK K
      try simp only [Act.put, List.getElem_toArray, List.getElem_cons_succ, List.getElem_cons_zero, List.setIfInBounds_toArray, List.set_cons_zero, List.set_cons_succ]
      refine wpAny_ready (rs := [7]) (by kernel_rfl) (by simp) ?_
      refine AllReady.cons rfl (fun K hK => ?_) ?_
      · refine step_mapUpdate _ _ _ 140 rfl Tryz.underlying140 fb G.length (dM G) rfl (HH.out _ hb2).fm (by have := maxLen_big; omega) (str k) v2 (.string k) rfl rfl (keyOf9 k hk) ?_
        intro w3 hm hg
        refine hK _ _ ?_
        clear hK K
        try simp only [Act.put]
        refine wpAny_done (by kernel_rfl) ?_ _
        go_wp2_with fail
        go_end0
        exact ⟨rfl, setFun_fin HL.out (HH.out _ hb2) hb2 ho2 hm hg⟩
      exact AllReady.nil
    exact AllReady.nil
  exact AllReady.nil
end Go.Proofs.YtfafhjglcaikoaaGreatDoor
