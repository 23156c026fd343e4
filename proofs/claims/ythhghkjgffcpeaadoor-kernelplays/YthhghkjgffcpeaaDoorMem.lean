/- Files, rows and events, as plain data and in memory. -/
import Derived.Test.YthhghkjgffcpeaaDoorProg
import Derived.WalkKit
import Derived.WalkSpells
import Derived.WalkLawsBesides
import Derived.Laws.ResultCell
import Derived.Laws.Rows
import Derived.Maps.AppendAt
import Derived.Maps.OwnSet
import Derived.Maps.Ext
import Derived.Sort.KeysCollected
import Derived.Below
import Derived.RangeFuncRecord
import Derived.Carry
import Derived.OwnWalk
namespace Go.Proofs.YthhghkjgffcpeaaDoor
open Go.RowKit

abbrev Txt := List UInt8
abbrev Fls := List (Txt × Txt)
abbrev str (s : Txt) : Value := .string ⟨s.toArray⟩
structure Ev where
  kind : Int
  n : Int
  a : Txt
  b : Txt
  l : List Txt
structure Rw where
  name : Txt
  args : List Txt
  any : Bool
  reads : Bool
  copy : Bool
  out : Txt
  status : Int
abbrev evC (e : Ev) (v : Value) : List Value := [.int .i64 e.kind, .int .i64 e.n, str e.a, str e.b, v]
abbrev rwC (r : Rw) (v : Value) : List Value := [str r.name, v, .bool r.any, .bool r.reads, .bool r.copy, str r.out, .int .i64 r.status]
def evCs (X : List (Ev × Value)) : List Value := X.flatMap fun p => evC p.1 p.2
def rwCs (Y : List (Rw × Value)) : List Value := Y.flatMap fun p => rwC p.1 p.2
def txV (ps : List Txt) : List Value := ps.map fun p => .string ⟨p.toArray⟩
theorem evCs_snoc (X : List (Ev × Value)) (e : Ev) (v : Value) : evCs (X ++ [(e, v)]) = evCs X ++ evC e v := by simp [evCs]
theorem rwCs_snoc (X : List (Rw × Value)) (e : Rw) (v : Value) : rwCs (X ++ [(e, v)]) = rwCs X ++ rwC e v := by simp [rwCs]
theorem maxLen_big : 35184372088832 * 4 ≤ maxLen := by decide

/-! ### blocks -/
/-- Block b holds these cells, none frozen. -/
def Cel (W : World) (b : Nat) (t : TypeId) (cs : Array Value) : Prop := W.heap[b]? = some (.cells cs t (0, 0))
theorem Cel.lt {W : World} {b : Nat} {t : TypeId} {cs : Array Value} (h : Cel W b t cs) : b < W.heap.size := (Array.getElem?_eq_some_iff.1 h).1
theorem Cel.cell {W : World} {b : Nat} {t : TypeId} {cs : Array Value} (h : Cel W b t cs) (j : Nat) : W.cell? ⟨b, j, none⟩ = cs[j]? := by simp [World.cell?, show W.heap[b]? = _ from h]
theorem Cel.frozen {W : World} {b : Nat} {t : TypeId} {cs : Array Value} (h : Cel W b t cs) (j : Nat) : W.frozen? ⟨b, j, none⟩ = false := by simp [World.frozen?, show W.heap[b]? = _ from h]
theorem Cel.new (W : World) (t : TypeId) (cs : Array Value) : Cel (W.alloc (.cells cs t)) W.heap.size t cs := World.alloc_heap_new W _
theorem Cel.other {W : World} {b b' j : Nat} {t : TypeId} {cs : Array Value} (h : Cel W b t cs) (hne : b ≠ b') (v : Value) : Cel (W.setCell ⟨b', j, none⟩ v) b t cs := (Below.heap_setCell _ _ _ _ hne).trans h
theorem Cel.set {W : World} {b j : Nat} {t : TypeId} {cs : Array Value} (h : Cel W b t cs) (v : Value) : Cel (W.setCell ⟨b, j, none⟩ v) b t (cs.setIfInBounds j v) := by
  obtain ⟨hlt, hk⟩ := Array.getElem?_eq_some_iff.1 h
  show (W.heap.modify b _)[b]? = _
  rw [Array.getElem?_eq_getElem (by rw [Array.size_modify]; exact hlt), Array.getElem_modify_self, hk]
  rfl

/-- Only these blocks, and new ones, have turned. -/
structure Turn (S : Nat → Prop) (w w' : World) : Prop where
  os : w'.os = w.os
  tape : w'.tape = w.tape
  output : w'.output = w.output
  size : w.heap.size ≤ w'.heap.size
  block : ∀ k, k < w.heap.size → ¬ S k → w'.heap[k]? = w.heap[k]?
theorem Turn.refl (S : Nat → Prop) (w : World) : Turn S w w := ⟨rfl, rfl, rfl, Nat.le_refl _, fun _ _ _ => rfl⟩
theorem Turn.trans {S T : Nat → Prop} {a b c : World} (h : Turn S a b) (k : Turn T b c) (hT : ∀ i, T i → i < a.heap.size → S i) : Turn S a c :=
  ⟨k.os.trans h.os, k.tape.trans h.tape, k.output.trans h.output, Nat.le_trans h.size k.size, fun i hi hs => (k.block i (Nat.lt_of_lt_of_le hi h.size) (fun ht => hs (hT i ht hi))).trans (h.block i hi hs)⟩
theorem Turn.mono {S T : Nat → Prop} {w w' : World} (h : Turn S w w') (hT : ∀ i, S i → T i) : Turn T w w' := ⟨h.os, h.tape, h.output, h.size, fun i hi ht => h.block i hi (fun hs => ht (hT i hs))⟩
theorem Turn.below {S : Nat → Prop} {w w' : World} {B : Nat} (h : Turn S w w') (hS : ∀ i, S i → B ≤ i) (hB : B ≤ w.heap.size) : Below B w w' :=
  ⟨h.os, h.tape, h.output, h.size, fun i hi => h.block i (Nat.lt_of_lt_of_le hi hB) (fun hs => by have := hS i hs; omega)⟩
theorem Turn.ofBelow {S : Nat → Prop} {w w' : World} (h : Below w.heap.size w w') : Turn S w w' := ⟨h.os, h.tape, h.output, h.size, fun i hi _ => h.block i hi⟩
theorem Turn.ofGrown {w w' : World} {row : Option Nat} (h : w.grownBy w' row) : Turn (fun i => row = some i) w w' := ⟨h.os, h.tape, h.output, h.size, fun i hi hs => h.block i hi (fun e => hs e.symm)⟩
theorem Turn.alloc {S : Nat → Prop} {a w : World} (h : Turn S a w) (o : Obj) : Turn S a (w.alloc o) :=
  ⟨h.os, h.tape, h.output, Nat.le_trans h.size (by simp), fun i hi hs => (Below.heap_alloc w o i (Nat.lt_of_lt_of_le hi h.size)).trans (h.block i hi hs)⟩
theorem Turn.drew {S : Nat → Prop} {a w : World} (h : Turn S a w) : Turn S a w.drew := ⟨h.os, h.tape, h.output, h.size, h.block⟩
theorem Turn.setCell {S : Nat → Prop} {a w : World} (h : Turn S a w) {p : Addr} (hp : p.block < a.heap.size → S p.block) (u : Value) : Turn S a (w.setCell p u) :=
  ⟨h.os, h.tape, h.output, Nat.le_trans h.size (by simp [World.setCell]), fun i hi hs => (Below.heap_setCell w p u i (fun e => hs (by subst e; exact hp hi))).trans (h.block i hi hs)⟩
theorem Cel.turn {W W' : World} {S : Nat → Prop} {b : Nat} {t : TypeId} {cs : Array Value} (h : Cel W b t cs) (hT : Turn S W W') (hs : ¬ S b) : Cel W' b t cs := (hT.block b h.lt hs).trans h
theorem below_new (W : World) (o : Obj) : Below W.heap.size W (W.alloc o) := (Below.refl _ W).alloc (Nat.le_refl _) _
theorem Cel.below {W W' : World} {B b : Nat} {t : TypeId} {cs : Array Value} (h : Cel W b t cs) (hb : Below B W W') (hlt : b < B) : Cel W' b t cs := (hb.block b hlt).trans h
theorem owns_turn {B : Nat} {e : TypeId} {k n : Nat} {v : Value} {xs : List Value} {W W' : World} {S : Nat → Prop} (h : W.ownsRow B e k v n xs) (hT : Turn S W W') (hs : ∀ b, v.ownBlock = some b → ¬ S b) : W'.ownsRow B e k v n xs := by
  refine ⟨h.1, ?_⟩
  rcases h.2 with hn | ⟨g, cap, cur, rfl, hb, hgg, rest⟩
  · exact .inl hn
  · refine .inr ⟨g, cap, cur, rfl, hb, ?_, rest⟩
    rw [hT.block g (Array.getElem?_eq_some_iff.1 hgg).1 (hs g rfl)]
    exact hgg
theorem owns_slice {W : World} {base e size k : Nat} {v : Value} {xs : List Value} (h : W.ownsRow base e size v k xs) : ∃ ad cap, v = .slice ad k cap := by
  rcases h.2 with ⟨rfl, rfl⟩ | ⟨g, cap, cur, rfl, _⟩
  · exact ⟨none, 0, rfl⟩
  · exact ⟨_, cap, rfl⟩
theorem owns_lower {W : World} {B B' e k : Nat} {v : Value} {n : Nat} {xs : List Value} (h : W.ownsRow B e k v n xs) (hB : B' ≤ B) : W.ownsRow B' e k v n xs := by
  refine ⟨h.1, ?_⟩
  rcases h.2 with hn | ⟨g, cap, cur, rfl, hb, rest⟩
  · exact .inl hn
  · exact .inr ⟨g, cap, cur, rfl, Nat.le_trans hB hb, rest⟩
/-- A row of another type is another block. -/
theorem owns_apart {W : World} {b t : Nat} {cs : Array Value} (h : Cel W b t cs) {B e k n : Nat} {v : Value} {xs : List Value} (ho : W.ownsRow B e k v n xs) (hte : t ≠ e) : v.ownBlock ≠ some b := by
  rcases ho.2 with ⟨rfl, _⟩ | ⟨g, cap, cur, rfl, _, hgb, _⟩
  · simp [Value.ownBlock]
  · intro e'
    obtain rfl : g = b := by simpa [Value.ownBlock] using e'
    have := (show W.heap[g]? = _ from h).symm.trans hgb
    simp at this
    exact hte this.2
theorem owns_apart2 {W : World} {B e k n B' e' k' n' : Nat} {v v' : Value} {xs xs' : List Value} (h : W.ownsRow B e k v n xs) (h' : W.ownsRow B' e' k' v' n' xs') (hte : e ≠ e') : ∀ b, v.ownBlock = some b → v'.ownBlock ≠ some b := by
  intro b hb
  rcases h.2 with ⟨rfl, _⟩ | ⟨g, cap, cur, rfl, _, hgb, _⟩
  · simp [Value.ownBlock] at hb
  · obtain rfl : g = b := by simpa [Value.ownBlock] using hb
    exact owns_apart (show Cel W g e cur from hgb) h' hte

/-! ### texts -/
/-- The value is a slice of these texts. -/
def Tx (W : World) (v : Value) (ps : List Txt) : Prop :=
  (v = .slice none 0 0 ∧ ps = []) ∨
  ∃ (ad : Addr) (cap : Nat), v = .slice (some ad) ps.length cap ∧ ps.length ≤ cap ∧
    (ps ≠ [] → ∃ g o, ad = ⟨g, o, none⟩ ∧ g < W.heap.size ∧ ∀ k p, ps[k]? = some p → W.cell? ⟨g, o + k, none⟩ = some (.string ⟨p.toArray⟩))
theorem Tx.below {W W' : World} {v : Value} {ps : List Txt} {B : Nat} (h : Tx W v ps) (hb : Below B W W') (hB : W.heap.size ≤ B) : Tx W' v ps := by
  rcases h with h | ⟨ad, cap, h1, h2, h3⟩
  · exact .inl h
  · refine .inr ⟨ad, cap, h1, h2, fun hne => ?_⟩
    obtain ⟨g, o, rfl, h4, h5⟩ := h3 hne
    exact ⟨g, o, rfl, Nat.lt_of_lt_of_le h4 hb.size, fun k p hp => (hb.cell (p := ⟨g, o + k, none⟩) (by show g < B; omega)).trans (h5 k p hp)⟩
theorem Tx.owned {W : World} {B : Nat} {v : Value} {ps : List Txt} (h : W.ownsRow B 9 1 v ps.length (txV ps)) : Tx W v ps := by
  rcases h.2 with ⟨hv, h0⟩ | ⟨g, cap, cur, hv, hb, hc, h1, _, h2, h3⟩
  · exact .inl ⟨hv, List.eq_nil_of_length_eq_zero h0⟩
  · refine .inr ⟨⟨g, 0, none⟩, cap, hv, h1, fun _ => ⟨g, 0, rfl, (Array.getElem?_eq_some_iff.1 hc).1, fun k p hp => ?_⟩⟩
    have hk := (List.getElem?_eq_some_iff.1 hp).1
    have e1 : W.cell? ⟨g, 0 + k, none⟩ = cur[k]? := by simp [World.cell?, hc]
    rw [e1, ← Array.getElem?_toList, ← List.getElem?_take_of_lt (show k < ps.length * 1 by omega), h3, txV, List.getElem?_map, hp]
    rfl
theorem Tx.form {W : World} {v : Value} {ps : List Txt} (h : Tx W v ps) : ∃ ad cap, v = .slice ad ps.length cap := by
  rcases h with ⟨rfl, rfl⟩ | ⟨ad, cap, rfl, _⟩
  · exact ⟨none, 0, rfl⟩
  · exact ⟨_, cap, rfl⟩
/-- Where it has items they lie in a row. -/
theorem Tx.inRow {W : World} {v : Value} {ps : List Txt} (h : Tx W v ps) (hne : ps ≠ []) : ∃ g o cap, v = .slice (some ⟨g, o, none⟩) ps.length cap ∧ ps.length ≤ cap ∧ g < W.heap.size ∧ ∀ k p, ps[k]? = some p → W.cell? ⟨g, o + k, none⟩ = some (.string ⟨p.toArray⟩) := by
  rcases h with ⟨_, h⟩ | ⟨ad, cap, h1, h2, h3⟩
  · exact absurd h hne
  · obtain ⟨g, o, rfl, h4, h5⟩ := h3 hne
    exact ⟨g, o, cap, h1, h2, h4, h5⟩
theorem Tx.nil (W : World) : Tx W (.slice none 0 0) [] := .inl ⟨rfl, rfl⟩
/-- A list of one's own, in these blocks. -/
def Ot (W : World) (K : Nat → Prop) (v : Value) (l : List Txt) : Prop := W.ownsRow 0 9 1 v l.length (txV l) ∧ ∀ b, v.ownBlock = some b → K b
theorem Ot.tx {W : World} {K : Nat → Prop} {v : Value} {l : List Txt} (h : Ot W K v l) : Tx W v l := Tx.owned h.1
theorem Ot.turn {W W' : World} {K S : Nat → Prop} {v : Value} {l : List Txt} (h : Ot W K v l) (hT : Turn S W W') (hs : ∀ b, v.ownBlock = some b → ¬ S b) : Ot W' K v l := ⟨owns_turn h.1 hT hs, h.2⟩
theorem Ot.mono {W : World} {K K' : Nat → Prop} {v : Value} {l : List Txt} (h : Ot W K v l) (hk : ∀ i, K i → K' i) : Ot W K' v l := ⟨h.1, fun b hb => hk b (h.2 b hb)⟩

/-! ### files -/
def insF (x : Txt × Txt) : Fls → Fls
  | [] => [x]
  | y :: r => if bytesBefore x.1 y.1 then x :: y :: r else y :: insF x r
def putF (F : Fls) (k d : Txt) : Fls := insF (k, d) (F.filter fun p => !(p.1 == k))
def hasF (F : Fls) (k : Txt) : Bool := F.any fun p => p.1 == k
def datF (F : Fls) (k : Txt) : Txt := match F.find? (fun p => p.1 == k) with | some p => p.2 | none => []
def namF (F : Fls) (k : Txt) : Txt := match F.find? (fun p => p.1 == k) with | some p => p.1 | none => []
def fD (p : Txt × Txt) : DataW Unit := .agg [.lit (.string p.1), .lit (.string p.2)]
def dF (F : Fls) : DataW Unit := .map (F.map fun p => (Lit.string p.1, fD p))
/-- How a file reads. -/
def flE : Value → Option (DataW Unit × List MemPlace)
  | .agg ⟨[.string a, .string b]⟩ => some (.agg [.lit (.string a.data.toList), .lit (.string b.data.toList)], [])
  | _ => none
theorem flE_mk (a b : Txt) : flE (.agg #[str a, str b]) = some (fD (a, b), []) := by simp [flE, fD]
theorem flE_inv {v : Value} {a b : Txt} {ps : List MemPlace} (h : flE v = some (fD (a, b), ps)) : v = .agg #[str a, str b] := by
  unfold flE at h
  split at h
  · simp only [fD, Option.some.injEq, Prod.mk.injEq, DataW.agg.injEq, List.cons.injEq, DataW.lit.injEq, Lit.string.injEq, and_true] at h
    obtain ⟨⟨rfl, rfl⟩, _⟩ := h
    rfl
  · cases h
theorem dF_insert (x : Txt × Txt) : ∀ F : Fls, DataW.insert (Lit.string x.1, fD x) (F.map fun p => (Lit.string p.1, fD p)) = (insF x F).map fun p => (Lit.string p.1, fD p)
  | [] => rfl
  | y :: r => by
    have e1 : DataW.insert (Lit.string x.1, fD x) ((y :: r).map fun p => (Lit.string p.1, fD p)) = if (Lit.string x.1).before (Lit.string y.1) then (Lit.string x.1, fD x) :: (Lit.string y.1, fD y) :: r.map (fun p => (Lit.string p.1, fD p)) else (Lit.string y.1, fD y) :: DataW.insert (Lit.string x.1, fD x) (r.map fun p => (Lit.string p.1, fD p)) := rfl
    have e2 : insF x (y :: r) = if bytesBefore x.1 y.1 then x :: y :: r else y :: insF x r := rfl
    rw [e1, e2]
    by_cases h : bytesBefore x.1 y.1 = true
    · rw [if_pos h, if_pos (show (Lit.string x.1).before (Lit.string y.1) = true from h)]; rfl
    · rw [if_neg h, if_neg (show ¬ (Lit.string x.1).before (Lit.string y.1) = true from h), dF_insert x r]; rfl
theorem dF_put (F : Fls) (k d : Txt) : (dF F).put (.string k) (fD (k, d)) = dF (putF F k d) := by
  have e : (F.map fun p => (Lit.string p.1, fD p)).filter (fun p => !p.1.sameKey (.string k)) = (F.filter fun p => !(p.1 == k)).map fun p => (Lit.string p.1, fD p) := by
    rw [List.filter_map]; rfl
  unfold dF DataW.put putF
  simp only [e]
  rw [dF_insert (k, d)]
theorem dF_find (F : Fls) (k : Txt) : (F.map fun p => (Lit.string p.1, fD p)).find? (fun p => p.1.sameKey (.string k)) = (F.find? fun p => p.1 == k).map fun p => (Lit.string p.1, fD p) := by
  rw [List.find?_map]; rfl
theorem dF_at (F : Fls) (k : Txt) : (dF F).atKey (.string k) (fD ([], [])) = fD (namF F k, datF F k) := by
  unfold dF DataW.atKey namF datF
  simp only [dF_find]
  cases F.find? fun p => p.1 == k <;> rfl
theorem dF_has (F : Fls) (k : Txt) : Maps.has (dF F) (.string k) = hasF F k := by
  unfold dF hasF
  rw [Maps.has_eq, List.any_map]; rfl
theorem dF_keys (F : Fls) : strKeys (dF F) = F.map Prod.fst := by
  unfold dF strKeys
  simp only [List.map_map]; rfl
end Go.Proofs.YthhghkjgffcpeaaDoor
