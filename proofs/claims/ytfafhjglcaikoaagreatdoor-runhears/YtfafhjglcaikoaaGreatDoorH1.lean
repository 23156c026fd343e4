/-
  DERIVED: THE SHELF's CONTRACTS AT THIS DUMP, IN PLAIN WORDS (tools/lay-plain.mjs out of 'YtfafhjglcaikoaaGreatDoorKShelf.lean', which tools/lay-shelf.mjs wrote): THE SAME DECLARATIONS UNDER THE SAME NAMES: 'import', 'namespace', 'open', 'def', 'theorem' AND NOTHING ELSE: no command of the shelf's: FOR A HAND-IN. Each laying: the table of numbers ('.._ren') and one theorem, a field a fact of the dump's own or the kernel's comparison; each contract: ONE APPLICATION.
-/
import Derived.Test.YtfafhjglcaikoaaGreatDoorProg
import Derived.WalkKit
import Derived.WalkSpells
import Derived.WalkLawsBesides
import Derived.Laws.ResultCell
import Derived.Laws.Rows
import Derived.Maps.AppendAt
import Derived.Maps.OwnSet
import Derived.Maps.Ext
import Derived.Sort.KeysCollected
import Derived.Below
import Derived.RangeFuncRecord
import Derived.Carry
import Derived.OwnWalk
import Derived.Shelf.Slices.Clone
import Derived.Shelf.Slices.Equal
import Derived.Shelf.Slices.Empties2
import Derived.Ground.Names2Prog
/-! Files, rows and events, as plain data and in memory. -/
namespace Go.Proofs.YtfafhjglcaikoaaGreatDoor
open Go.RowKit

abbrev Txt := List UInt8
abbrev Fls := List (Txt × Txt)
abbrev str (s : Txt) : Value := .string ⟨s.toArray⟩
structure Ev where
  kind : Int
  n : Int
  a : Txt
  b : Txt
  l : List Txt
structure Rw where
  name : Txt
  args : List Txt
  any : Bool
  reads : Bool
  copy : Bool
  out : Txt
  status : Int
abbrev evC (e : Ev) (v : Value) : List Value := [.int .i64 e.kind, .int .i64 e.n, str e.a, str e.b, v]
abbrev rwC (r : Rw) (v : Value) : List Value := [str r.name, v, .bool r.any, .bool r.reads, .bool r.copy, str r.out, .int .i64 r.status]
def evCs (X : List (Ev × Value)) : List Value := X.flatMap fun p => evC p.1 p.2
def rwCs (Y : List (Rw × Value)) : List Value := Y.flatMap fun p => rwC p.1 p.2
def txV (ps : List Txt) : List Value := ps.map fun p => .string ⟨p.toArray⟩
theorem evCs_snoc (X : List (Ev × Value)) (e : Ev) (v : Value) : evCs (X ++ [(e, v)]) = evCs X ++ evC e v := by simp [evCs]
theorem rwCs_snoc (X : List (Rw × Value)) (e : Rw) (v : Value) : rwCs (X ++ [(e, v)]) = rwCs X ++ rwC e v := by simp [rwCs]
theorem maxLen_big : 35184372088832 * 4 ≤ maxLen := by decide

/-! ### blocks -/
/-- Block b holds these cells, none frozen. -/
def Cel (W : World) (b : Nat) (t : TypeId) (cs : Array Value) : Prop := W.heap[b]? = some (.cells cs t (0, 0))
theorem Cel.lt {W : World} {b : Nat} {t : TypeId} {cs : Array Value} (h : Cel W b t cs) : b < W.heap.size := (Array.getElem?_eq_some_iff.1 h).1
theorem Cel.cell {W : World} {b : Nat} {t : TypeId} {cs : Array Value} (h : Cel W b t cs) (j : Nat) : W.cell? ⟨b, j, none⟩ = cs[j]? := by simp [World.cell?, show W.heap[b]? = _ from h]
theorem Cel.frozen {W : World} {b : Nat} {t : TypeId} {cs : Array Value} (h : Cel W b t cs) (j : Nat) : W.frozen? ⟨b, j, none⟩ = false := by simp [World.frozen?, show W.heap[b]? = _ from h]
theorem Cel.new (W : World) (t : TypeId) (cs : Array Value) : Cel (W.alloc (.cells cs t)) W.heap.size t cs := World.alloc_heap_new W _
theorem Cel.other {W : World} {b b' j : Nat} {t : TypeId} {cs : Array Value} (h : Cel W b t cs) (hne : b ≠ b') (v : Value) : Cel (W.setCell ⟨b', j, none⟩ v) b t cs := (Below.heap_setCell _ _ _ _ hne).trans h
theorem Cel.set {W : World} {b j : Nat} {t : TypeId} {cs : Array Value} (h : Cel W b t cs) (v : Value) : Cel (W.setCell ⟨b, j, none⟩ v) b t (cs.setIfInBounds j v) := by
  obtain ⟨hlt, hk⟩ := Array.getElem?_eq_some_iff.1 h
  show (W.heap.modify b _)[b]? = _
  rw [Array.getElem?_eq_getElem (by rw [Array.size_modify]; exact hlt), Array.getElem_modify_self, hk]
  rfl

/-- Only these blocks, and new ones, have turned. -/
structure Turn (S : Nat → Prop) (w w' : World) : Prop where
  os : w'.os = w.os
  tape : w'.tape = w.tape
  output : w'.output = w.output
  size : w.heap.size ≤ w'.heap.size
  block : ∀ k, k < w.heap.size → ¬ S k → w'.heap[k]? = w.heap[k]?
theorem Turn.refl (S : Nat → Prop) (w : World) : Turn S w w := ⟨rfl, rfl, rfl, Nat.le_refl _, fun _ _ _ => rfl⟩
theorem Turn.trans {S T : Nat → Prop} {a b c : World} (h : Turn S a b) (k : Turn T b c) (hT : ∀ i, T i → i < a.heap.size → S i) : Turn S a c :=
  ⟨k.os.trans h.os, k.tape.trans h.tape, k.output.trans h.output, Nat.le_trans h.size k.size, fun i hi hs => (k.block i (Nat.lt_of_lt_of_le hi h.size) (fun ht => hs (hT i ht hi))).trans (h.block i hi hs)⟩
theorem Turn.mono {S T : Nat → Prop} {w w' : World} (h : Turn S w w') (hT : ∀ i, S i → T i) : Turn T w w' := ⟨h.os, h.tape, h.output, h.size, fun i hi ht => h.block i hi (fun hs => ht (hT i hs))⟩
theorem Turn.below {S : Nat → Prop} {w w' : World} {B : Nat} (h : Turn S w w') (hS : ∀ i, S i → B ≤ i) (hB : B ≤ w.heap.size) : Below B w w' :=
  ⟨h.os, h.tape, h.output, h.size, fun i hi => h.block i (Nat.lt_of_lt_of_le hi hB) (fun hs => by have := hS i hs; omega)⟩
theorem Turn.ofBelow {S : Nat → Prop} {w w' : World} (h : Below w.heap.size w w') : Turn S w w' := ⟨h.os, h.tape, h.output, h.size, fun i hi _ => h.block i hi⟩
theorem Turn.ofGrown {w w' : World} {row : Option Nat} (h : w.grownBy w' row) : Turn (fun i => row = some i) w w' := ⟨h.os, h.tape, h.output, h.size, fun i hi hs => h.block i hi (fun e => hs e.symm)⟩
theorem Turn.alloc {S : Nat → Prop} {a w : World} (h : Turn S a w) (o : Obj) : Turn S a (w.alloc o) :=
  ⟨h.os, h.tape, h.output, Nat.le_trans h.size (by simp), fun i hi hs => (Below.heap_alloc w o i (Nat.lt_of_lt_of_le hi h.size)).trans (h.block i hi hs)⟩
theorem Turn.drew {S : Nat → Prop} {a w : World} (h : Turn S a w) : Turn S a w.drew := ⟨h.os, h.tape, h.output, h.size, h.block⟩
theorem Turn.setCell {S : Nat → Prop} {a w : World} (h : Turn S a w) {p : Addr} (hp : p.block < a.heap.size → S p.block) (u : Value) : Turn S a (w.setCell p u) :=
  ⟨h.os, h.tape, h.output, Nat.le_trans h.size (by simp [World.setCell]), fun i hi hs => (Below.heap_setCell w p u i (fun e => hs (by subst e; exact hp hi))).trans (h.block i hi hs)⟩
theorem Cel.turn {W W' : World} {S : Nat → Prop} {b : Nat} {t : TypeId} {cs : Array Value} (h : Cel W b t cs) (hT : Turn S W W') (hs : ¬ S b) : Cel W' b t cs := (hT.block b h.lt hs).trans h
theorem below_new (W : World) (o : Obj) : Below W.heap.size W (W.alloc o) := (Below.refl _ W).alloc (Nat.le_refl _) _
theorem Cel.below {W W' : World} {B b : Nat} {t : TypeId} {cs : Array Value} (h : Cel W b t cs) (hb : Below B W W') (hlt : b < B) : Cel W' b t cs := (hb.block b hlt).trans h
theorem owns_turn {B : Nat} {e : TypeId} {k n : Nat} {v : Value} {xs : List Value} {W W' : World} {S : Nat → Prop} (h : W.ownsRow B e k v n xs) (hT : Turn S W W') (hs : ∀ b, v.ownBlock = some b → ¬ S b) : W'.ownsRow B e k v n xs := by
  refine ⟨h.1, ?_⟩
  rcases h.2 with hn | ⟨g, cap, cur, rfl, hb, hgg, rest⟩
  · exact .inl hn
  · refine .inr ⟨g, cap, cur, rfl, hb, ?_, rest⟩
    rw [hT.block g (Array.getElem?_eq_some_iff.1 hgg).1 (hs g rfl)]
    exact hgg
theorem owns_slice {W : World} {base e size k : Nat} {v : Value} {xs : List Value} (h : W.ownsRow base e size v k xs) : ∃ ad cap, v = .slice ad k cap := by
  rcases h.2 with ⟨rfl, rfl⟩ | ⟨g, cap, cur, rfl, _⟩
  · exact ⟨none, 0, rfl⟩
  · exact ⟨_, cap, rfl⟩
theorem owns_lower {W : World} {B B' e k : Nat} {v : Value} {n : Nat} {xs : List Value} (h : W.ownsRow B e k v n xs) (hB : B' ≤ B) : W.ownsRow B' e k v n xs := by
  refine ⟨h.1, ?_⟩
  rcases h.2 with hn | ⟨g, cap, cur, rfl, hb, rest⟩
  · exact .inl hn
  · exact .inr ⟨g, cap, cur, rfl, Nat.le_trans hB hb, rest⟩
/-- A row of another type is another block. -/
theorem owns_apart {W : World} {b t : Nat} {cs : Array Value} (h : Cel W b t cs) {B e k n : Nat} {v : Value} {xs : List Value} (ho : W.ownsRow B e k v n xs) (hte : t ≠ e) : v.ownBlock ≠ some b := by
  rcases ho.2 with ⟨rfl, _⟩ | ⟨g, cap, cur, rfl, _, hgb, _⟩
  · simp [Value.ownBlock]
  · intro e'
    obtain rfl : g = b := by simpa [Value.ownBlock] using e'
    have := (show W.heap[g]? = _ from h).symm.trans hgb
    simp at this
    exact hte this.2
theorem owns_apart2 {W : World} {B e k n B' e' k' n' : Nat} {v v' : Value} {xs xs' : List Value} (h : W.ownsRow B e k v n xs) (h' : W.ownsRow B' e' k' v' n' xs') (hte : e ≠ e') : ∀ b, v.ownBlock = some b → v'.ownBlock ≠ some b := by
  intro b hb
  rcases h.2 with ⟨rfl, _⟩ | ⟨g, cap, cur, rfl, _, hgb, _⟩
  · simp [Value.ownBlock] at hb
  · obtain rfl : g = b := by simpa [Value.ownBlock] using hb
    exact owns_apart (show Cel W g e cur from hgb) h' hte

/-! ### texts -/
/-- The value is a slice of these texts. -/
def Tx (W : World) (v : Value) (ps : List Txt) : Prop :=
  (v = .slice none 0 0 ∧ ps = []) ∨
  ∃ (ad : Addr) (cap : Nat), v = .slice (some ad) ps.length cap ∧ ps.length ≤ cap ∧
    (ps ≠ [] → ∃ g o, ad = ⟨g, o, none⟩ ∧ g < W.heap.size ∧ ∀ k p, ps[k]? = some p → W.cell? ⟨g, o + k, none⟩ = some (.string ⟨p.toArray⟩))
theorem Tx.below {W W' : World} {v : Value} {ps : List Txt} {B : Nat} (h : Tx W v ps) (hb : Below B W W') (hB : W.heap.size ≤ B) : Tx W' v ps := by
  rcases h with h | ⟨ad, cap, h1, h2, h3⟩
  · exact .inl h
  · refine .inr ⟨ad, cap, h1, h2, fun hne => ?_⟩
    obtain ⟨g, o, rfl, h4, h5⟩ := h3 hne
    exact ⟨g, o, rfl, Nat.lt_of_lt_of_le h4 hb.size, fun k p hp => (hb.cell (p := ⟨g, o + k, none⟩) (by show g < B; omega)).trans (h5 k p hp)⟩
theorem Tx.owned {W : World} {B : Nat} {v : Value} {ps : List Txt} (h : W.ownsRow B 9 1 v ps.length (txV ps)) : Tx W v ps := by
  rcases h.2 with ⟨hv, h0⟩ | ⟨g, cap, cur, hv, hb, hc, h1, _, h2, h3⟩
  · exact .inl ⟨hv, List.eq_nil_of_length_eq_zero h0⟩
  · refine .inr ⟨⟨g, 0, none⟩, cap, hv, h1, fun _ => ⟨g, 0, rfl, (Array.getElem?_eq_some_iff.1 hc).1, fun k p hp => ?_⟩⟩
    have hk := (List.getElem?_eq_some_iff.1 hp).1
    have e1 : W.cell? ⟨g, 0 + k, none⟩ = cur[k]? := by simp [World.cell?, hc]
    rw [e1, ← Array.getElem?_toList, ← List.getElem?_take_of_lt (show k < ps.length * 1 by omega), h3, txV, List.getElem?_map, hp]
    rfl
theorem Tx.form {W : World} {v : Value} {ps : List Txt} (h : Tx W v ps) : ∃ ad cap, v = .slice ad ps.length cap := by
  rcases h with ⟨rfl, rfl⟩ | ⟨ad, cap, rfl, _⟩
  · exact ⟨none, 0, rfl⟩
  · exact ⟨_, cap, rfl⟩
/-- Where it has items they lie in a row. -/
theorem Tx.inRow {W : World} {v : Value} {ps : List Txt} (h : Tx W v ps) (hne : ps ≠ []) : ∃ g o cap, v = .slice (some ⟨g, o, none⟩) ps.length cap ∧ ps.length ≤ cap ∧ g < W.heap.size ∧ ∀ k p, ps[k]? = some p → W.cell? ⟨g, o + k, none⟩ = some (.string ⟨p.toArray⟩) := by
  rcases h with ⟨_, h⟩ | ⟨ad, cap, h1, h2, h3⟩
  · exact absurd h hne
  · obtain ⟨g, o, rfl, h4, h5⟩ := h3 hne
    exact ⟨g, o, cap, h1, h2, h4, h5⟩
theorem Tx.nil (W : World) : Tx W (.slice none 0 0) [] := .inl ⟨rfl, rfl⟩
/-- A list of one's own, in these blocks. -/
def Ot (W : World) (K : Nat → Prop) (v : Value) (l : List Txt) : Prop := W.ownsRow 0 9 1 v l.length (txV l) ∧ ∀ b, v.ownBlock = some b → K b
theorem Ot.tx {W : World} {K : Nat → Prop} {v : Value} {l : List Txt} (h : Ot W K v l) : Tx W v l := Tx.owned h.1
theorem Ot.turn {W W' : World} {K S : Nat → Prop} {v : Value} {l : List Txt} (h : Ot W K v l) (hT : Turn S W W') (hs : ∀ b, v.ownBlock = some b → ¬ S b) : Ot W' K v l := ⟨owns_turn h.1 hT hs, h.2⟩
theorem Ot.mono {W : World} {K K' : Nat → Prop} {v : Value} {l : List Txt} (h : Ot W K v l) (hk : ∀ i, K i → K' i) : Ot W K' v l := ⟨h.1, fun b hb => hk b (h.2 b hb)⟩

/-! ### files -/
def insF (x : Txt × Txt) : Fls → Fls
  | [] => [x]
  | y :: r => if bytesBefore x.1 y.1 then x :: y :: r else y :: insF x r
def putF (F : Fls) (k d : Txt) : Fls := insF (k, d) (F.filter fun p => !(p.1 == k))
def hasF (F : Fls) (k : Txt) : Bool := F.any fun p => p.1 == k
def datF (F : Fls) (k : Txt) : Txt := match F.find? (fun p => p.1 == k) with | some p => p.2 | none => []
def namF (F : Fls) (k : Txt) : Txt := match F.find? (fun p => p.1 == k) with | some p => p.1 | none => []
def fD (p : Txt × Txt) : DataW Unit := .agg [.lit (.string p.1), .lit (.string p.2)]
def dF (F : Fls) : DataW Unit := .map (F.map fun p => (Lit.string p.1, fD p))
/-- How a file reads. -/
def flE : Value → Option (DataW Unit × List MemPlace)
  | .agg ⟨[.string a, .string b]⟩ => some (.agg [.lit (.string a.data.toList), .lit (.string b.data.toList)], [])
  | _ => none
theorem flE_mk (a b : Txt) : flE (.agg #[str a, str b]) = some (fD (a, b), []) := by simp [flE, fD]
theorem flE_inv {v : Value} {a b : Txt} {ps : List MemPlace} (h : flE v = some (fD (a, b), ps)) : v = .agg #[str a, str b] := by
  unfold flE at h
  split at h
  · simp only [fD, Option.some.injEq, Prod.mk.injEq, DataW.agg.injEq, List.cons.injEq, DataW.lit.injEq, Lit.string.injEq, and_true] at h
    obtain ⟨⟨rfl, rfl⟩, _⟩ := h
    rfl
  · cases h
theorem dF_insert (x : Txt × Txt) : ∀ F : Fls, DataW.insert (Lit.string x.1, fD x) (F.map fun p => (Lit.string p.1, fD p)) = (insF x F).map fun p => (Lit.string p.1, fD p)
  | [] => rfl
  | y :: r => by
    have e1 : DataW.insert (Lit.string x.1, fD x) ((y :: r).map fun p => (Lit.string p.1, fD p)) = if (Lit.string x.1).before (Lit.string y.1) then (Lit.string x.1, fD x) :: (Lit.string y.1, fD y) :: r.map (fun p => (Lit.string p.1, fD p)) else (Lit.string y.1, fD y) :: DataW.insert (Lit.string x.1, fD x) (r.map fun p => (Lit.string p.1, fD p)) := rfl
    have e2 : insF x (y :: r) = if bytesBefore x.1 y.1 then x :: y :: r else y :: insF x r := rfl
    rw [e1, e2]
    by_cases h : bytesBefore x.1 y.1 = true
    · rw [if_pos h, if_pos (show (Lit.string x.1).before (Lit.string y.1) = true from h)]; rfl
    · rw [if_neg h, if_neg (show ¬ (Lit.string x.1).before (Lit.string y.1) = true from h), dF_insert x r]; rfl
theorem dF_put (F : Fls) (k d : Txt) : (dF F).put (.string k) (fD (k, d)) = dF (putF F k d) := by
  have e : (F.map fun p => (Lit.string p.1, fD p)).filter (fun p => !p.1.sameKey (.string k)) = (F.filter fun p => !(p.1 == k)).map fun p => (Lit.string p.1, fD p) := by
    rw [List.filter_map]; rfl
  unfold dF DataW.put putF
  simp only [e]
  rw [dF_insert (k, d)]
theorem dF_find (F : Fls) (k : Txt) : (F.map fun p => (Lit.string p.1, fD p)).find? (fun p => p.1.sameKey (.string k)) = (F.find? fun p => p.1 == k).map fun p => (Lit.string p.1, fD p) := by
  rw [List.find?_map]; rfl
theorem dF_at (F : Fls) (k : Txt) : (dF F).atKey (.string k) (fD ([], [])) = fD (namF F k, datF F k) := by
  unfold dF DataW.atKey namF datF
  simp only [dF_find]
  cases F.find? fun p => p.1 == k <;> rfl
theorem dF_has (F : Fls) (k : Txt) : Maps.has (dF F) (.string k) = hasF F k := by
  unfold dF hasF
  rw [Maps.has_eq, List.any_map]; rfl
theorem dF_keys (F : Fls) : strKeys (dF F) = F.map Prod.fst := by
  unfold dF strKeys
  simp only [List.map_map]; rfl
end Go.Proofs.YtfafhjglcaikoaaGreatDoor
/-! A kernel in memory, and what leaves it as it is. -/
namespace Go.Proofs.YtfafhjglcaikoaaGreatDoor
open Go.RowKit

theorem key9 : Maps.Keyed Tryz.prog 9 := Maps.string_keyed Tryz.underlying9
theorem keyOf9 (k : Txt) (h : k.length ≤ maxLen) : keyOf Tryz.prog 9 (str k) = some (.string k) := by
  simp [keyOf, mapKey, Tryz.underlying9]
  show k.toArray.size ≤ maxLen
  simpa using h

/-- A kernel: its blocks, its files, its rows, its events. -/
structure Kern (W : World) (K : Nat → Prop) (kb mb : Nat) (ev rv : Value) (F : Fls) (Y : List (Rw × Value)) (X : List (Ev × Value)) : Prop where
  kc : Cel W kb 159 #[ev, .map (some mb), rv]
  fm : W.ownsMap Tryz.prog 9 flE mb F.length (dF F)
  er : W.ownsRow 0 65 5 ev X.length (evCs X)
  rr : W.ownsRow 0 80 7 rv Y.length (rwCs Y)
  xt : ∀ p ∈ X, Ot W K p.2 p.1.l
  yt : ∀ p ∈ Y, Ot W K p.2 p.1.args
  Kk : K kb
  Km : K mb
  Ke : ∀ b, ev.ownBlock = some b → K b
  Kr : ∀ b, rv.ownBlock = some b → K b
  lt : ∀ i, K i → i < W.heap.size

variable {W W' : World} {K K' S : Nat → Prop} {kb mb : Nat} {ev rv : Value} {F : Fls} {Y : List (Rw × Value)} {X : List (Ev × Value)}

theorem map_turn {b n : Nat} {D : DataW Unit} (h : W.ownsMap Tryz.prog 9 flE b n D) (hT : Turn S W W') (hs : ¬ S b) : W'.ownsMap Tryz.prog 9 flE b n D := by
  have hlt := h.lt
  obtain ⟨es, clock, hb, r⟩ := h
  exact ⟨es, clock, (hT.block b hlt hs).trans hb, r⟩
theorem map_tight {b n : Nat} (h : W.ownsMap Tryz.prog 9 flE b n (dF F)) : W.ownsMap Tryz.prog 9 flE b F.length (dF F) := by
  obtain ⟨es, clock, hb, r, hn, hD⟩ := h
  refine ⟨es, clock, hb, r, ?_, hD⟩
  have e1 : Maps.size (dF F) = F.length := by simp [dF, Maps.size]
  rw [← e1, hD]
  simp [Maps.size, length_sorted]

theorem Kern.turn (h : Kern W K kb mb ev rv F Y X) (hT : Turn S W W') (hs : ∀ i, K i → ¬ S i) : Kern W' K kb mb ev rv F Y X := {
  kc := h.kc.turn hT (hs _ h.Kk)
  fm := map_turn h.fm hT (hs _ h.Km)
  er := owns_turn h.er hT fun b hb => hs b (h.Ke b hb)
  rr := owns_turn h.rr hT fun b hb => hs b (h.Kr b hb)
  xt := fun p hp => (h.xt p hp).turn hT fun b hb => hs b ((h.xt p hp).2 b hb)
  yt := fun p hp => (h.yt p hp).turn hT fun b hb => hs b ((h.yt p hp).2 b hb)
  Kk := h.Kk
  Km := h.Km
  Ke := h.Ke
  Kr := h.Kr
  lt := fun i hi => Nat.lt_of_lt_of_le (h.lt i hi) hT.size }
theorem Kern.below (h : Kern W K kb mb ev rv F Y X) (hb : Below W.heap.size W W') : Kern W' K kb mb ev rv F Y X :=
  h.turn (S := fun _ => False) (Turn.ofBelow hb) (fun _ _ h => h)
/-- A block that is a map is no row. -/
theorem map_apart {b n B e k m : Nat} {D : DataW Unit} {v : Value} {xs : List Value} (h : W.ownsMap Tryz.prog 9 flE b n D) (ho : W.ownsRow B e k v m xs) : v.ownBlock ≠ some b := by
  obtain ⟨es, clock, hb, _⟩ := h
  rcases ho.2 with ⟨rfl, _⟩ | ⟨g, cap, cur, rfl, _, hgb, _⟩
  · simp [Value.ownBlock]
  · intro e'
    obtain rfl : g = b := by simpa [Value.ownBlock] using e'
    rw [hb] at hgb
    cases hgb
theorem map_apart_cel {b n b' t : Nat} {D : DataW Unit} {cs : Array Value} (h : W.ownsMap Tryz.prog 9 flE b n D) (hc : Cel W b' t cs) : b' ≠ b := by
  obtain ⟨es, clock, hb, _⟩ := h
  rintro rfl
  have := (show W.heap[b']? = _ from hc).symm.trans hb
  cases this

/-- Behind a step: which blocks have turned, and which are the kernel's then. -/
def Stp (W : World) (K : Nat → Prop) (W' : World) (K' : Nat → Prop) : Prop := Turn K W W' ∧ ∀ i, K' i → K i ∨ W.heap.size ≤ i
theorem Stp.refl (W : World) (K : Nat → Prop) : Stp W K W K := ⟨Turn.refl K W, fun _ h => .inl h⟩
theorem Stp.trans {W1 W2 : World} {K1 K2 : Nat → Prop} (h : Stp W K W1 K1) (k : Stp W1 K1 W2 K2) : Stp W K W2 K2 :=
  ⟨h.1.trans k.1 (fun i hi hlt => (h.2 i hi).elim id (fun h2 => absurd hlt (by omega))), fun i hi => (k.2 i hi).elim (fun h1 => h.2 i h1) (fun h1 => .inr (Nat.le_trans h.1.size h1))⟩
theorem Stp.below {B : Nat} (h : Stp W K W' K') (hK : ∀ i, K i → B ≤ i) (hB : B ≤ W.heap.size) : Below B W W' ∧ ∀ i, K' i → B ≤ i :=
  ⟨h.1.below hK hB, fun i hi => (h.2 i hi).elim (hK i) (Nat.le_trans hB)⟩
theorem Stp.ofBelow (h : Below W.heap.size W W') : Stp W K W' K := ⟨Turn.ofBelow h, fun _ h => .inl h⟩

/-- The map is written. -/
theorem Kern.put (h : Kern W K kb mb ev rv F Y X) {k d : Txt} {n : Nat} (hm : W'.ownsMap Tryz.prog 9 flE mb n ((dF F).put (.string k) (fD (k, d)))) (hg : W.grownBy W' (some mb)) :
    Kern W' K kb mb ev rv (putF F k d) Y X ∧ Stp W K W' K := by
  have hT := Turn.ofGrown hg
  rw [dF_put] at hm
  refine ⟨⟨h.kc.turn hT (fun e => map_apart_cel h.fm h.kc (Option.some.inj e).symm), map_tight hm, owns_turn h.er hT (fun b hb e => map_apart h.fm h.er (hb.trans e.symm)), owns_turn h.rr hT (fun b hb e => map_apart h.fm h.rr (hb.trans e.symm)), ?_, ?_, h.Kk, h.Km, h.Ke, h.Kr, fun i hi => Nat.lt_of_lt_of_le (h.lt i hi) hT.size⟩, hT.mono (fun i e => by cases e; exact h.Km), fun _ h => .inl h⟩
  · exact fun p hp => (h.xt p hp).turn hT (fun b hb e => map_apart h.fm (h.xt p hp).1 (hb.trans e.symm))
  · exact fun p hp => (h.yt p hp).turn hT (fun b hb e => map_apart h.fm (h.yt p hp).1 (hb.trans e.symm))

/-- An event is added behind: the row in W1 (appended), then the cell set. -/
theorem Kern.noted (h : Kern W K kb mb ev rv F Y X) {W1 : World} {e : Ev} {lv ev' : Value} {Kl : Nat → Prop} (hl : Ot W Kl lv e.l)
    (ho : W1.ownsRow 0 65 5 ev' (X.length + 1) (evCs X ++ evC e lv)) (hg : W.grownBy W1 ev.ownBlock) (hat : ev'.ownBlock = ev.ownBlock ∨ ∃ b, ev'.ownBlock = some b ∧ W.heap.size ≤ b) :
    ∃ K', Kern (W1.setCell ⟨kb, 0, none⟩ ev') K' kb mb ev' rv F Y (X ++ [(e, lv)]) ∧ Turn K W (W1.setCell ⟨kb, 0, none⟩ ev') ∧ ∀ i, K' i → K i ∨ (∃ b, lv.ownBlock = some b ∧ i = b) ∨ W.heap.size ≤ i := by
  have hT := Turn.ofGrown hg
  have hkc1 : Cel W1 kb 159 #[ev, .map (some mb), rv] := h.kc.turn hT (fun e => owns_apart h.kc h.er (by decide) e)
  have hsz : W.heap.size ≤ W1.heap.size := hT.size
  have hT2 : Turn (fun i => i = kb) W1 (W1.setCell ⟨kb, 0, none⟩ ev') := (Turn.refl (fun i => i = kb) W1).setCell (p := ⟨kb, 0, none⟩) (fun _ => rfl) ev'
  have hs2 : (W1.setCell ⟨kb, 0, none⟩ ev').heap.size = W1.heap.size := by simp [World.setCell]
  have rowk : ∀ {e k n : Nat} {v : Value} {xs : List Value}, W1.ownsRow 0 e k v n xs → 159 ≠ e → ∀ b, v.ownBlock = some b → ¬ b = kb := fun ho hne b hb e' => owns_apart hkc1 ho hne (by rw [hb, e'])
  have row2 : ∀ {e k n : Nat} {v : Value} {xs : List Value}, W.ownsRow 0 e k v n xs → 159 ≠ e → 65 ≠ e → (W1.setCell ⟨kb, 0, none⟩ ev').ownsRow 0 e k v n xs := fun ho h1 h2 => by
    have o1 := owns_turn ho hT (fun b hb e' => owns_apart2 h.er ho h2 b e' hb)
    exact owns_turn o1 hT2 (rowk o1 h1)
  refine ⟨fun i => K i ∨ (lv.ownBlock = some i) ∨ (ev'.ownBlock = some i), ⟨?_, ?_, ?_, row2 h.rr (by decide) (by decide), ?_, ?_, .inl h.Kk, .inl h.Km, fun b hb => .inr (.inr hb), fun b hb => .inl (h.Kr b hb), ?_⟩, ?_, ?_⟩
  · exact hkc1.set ev'
  · refine map_turn (map_turn h.fm hT (fun e' => map_apart h.fm h.er e')) hT2 (fun e' => ?_)
    exact map_apart_cel h.fm h.kc e'.symm
  · refine owns_turn ?_ hT2 (rowk ho (by decide))
    rw [evCs_snoc, List.length_append]
    exact ho
  · intro p hp
    rcases List.mem_append.1 hp with hp | hp
    · exact ⟨row2 (h.xt p hp).1 (by decide) (by decide), fun b hb => .inl ((h.xt p hp).2 b hb)⟩
    · simp only [List.mem_singleton] at hp
      subst hp
      exact ⟨row2 hl.1 (by decide) (by decide), fun b hb => .inr (.inl hb)⟩
  · exact fun p hp => ⟨row2 (h.yt p hp).1 (by decide) (by decide), fun b hb => .inl ((h.yt p hp).2 b hb)⟩
  · intro i hi
    rw [hs2]
    rcases hi with hi | hi | hi
    · exact Nat.lt_of_lt_of_le (h.lt i hi) hsz
    · exact Nat.lt_of_lt_of_le (hl.1.lt i hi).2 hsz
    · exact (ho.lt i hi).2
  · refine (hT.mono (fun i e' => h.Ke i e')).trans hT2 (fun i e' _ => by subst e'; exact h.Kk)
  · intro i hi
    rcases hi with hi | hi | hi
    · exact .inl hi
    · exact .inr (.inl ⟨i, hi, rfl⟩)
    · rcases hat with e' | ⟨b, e', hb⟩
      · exact .inl (h.Ke i (by rw [← e']; exact hi))
      · rw [hi] at e'
        cases e'
        exact .inr (.inr hb)
end Go.Proofs.YtfafhjglcaikoaaGreatDoor
/-! The kernel's small functions. -/
namespace Go.Proofs.YtfafhjglcaikoaaGreatDoor
open Go.RowKit

abbrev kP (kb : Nat) : Value := .pointer (some ⟨kb, 0, none⟩)

set_option maxHeartbeats 1000000 in
theorem keep_any {W : World} {K : Nat → Prop} {kb mb : Nat} {ev rv : Value} {F : Fls} {Y : List (Rw × Value)} {X : List (Ev × Value)} (k d : Txt) (hk : k.length < 4294967296) (h : Kern W K kb mb ev rv F Y X) (hF : F.length < 4294967296) :
    Calls Tryz.prog 99 #[kP kb, str k, str d] W fun e w' => e = .returned (.tuple #[]) ∧ Kern w' K kb mb ev rv (putF F k d) Y X ∧ Stp W K w' K := by
  have c1 := h.kc.cell 1
  have hm := h.fm
  have HH : Hid _ := h
  clear h
  have hkey := keyOf9 k (by have := maxLen_big; omega)
  have hval := flE_mk k d
  go_enter Tryz.func99, Tryz.ntmps99
  go_wp2_with (at_mapUpdate; refine wpList_mapUpdate_own _ rfl _ _ _ 157 rfl 9 68 key9 Tryz.underlying157 flE mb F.length (dF F) rfl hm (by have := maxLen_big; omega) _ _ (.string k) rfl rfl hkey (fD (k, d)) [] hval ?_; intro w1 hown1 hgrow1)
  go_end0
  exact ⟨rfl, Kern.put HH.out hown1 hgrow1⟩

def markB (k : Int) : Bool := k == 4 || k == 5 || k == 6
set_option maxHeartbeats 1000000 in
theorem isMark_any (k : Int) (W : World) : Calls Tryz.prog 168 #[.int .i64 k] W fun e w' => e = .returned (.bool (markB k)) ∧ w' = W := by
  by_cases h4 : k = 4
  · subst h4
    go_enter Tryz.func168, Tryz.ntmps168
    go_wp2
    go_ret
    exact ⟨rfl, rfl⟩
  · by_cases h5 : k = 5
    · subst h5
      go_enter Tryz.func168, Tryz.ntmps168
      go_wp2
      go_ret
      exact ⟨rfl, rfl⟩
    · have e4 : (k == 4) = false := by simpa using h4
      have e5 : (k == 5) = false := by simpa using h5
      go_enter Tryz.func168, Tryz.ntmps168
      go_wp2
      go_ret
      refine ⟨?_, rfl⟩
      unfold markB
      rw [e4, e5]
      rfl
end Go.Proofs.YtfafhjglcaikoaaGreatDoor
namespace Go.Proofs
open Go.Shelf
def Tryz.lays193_ren : Go.Shelf.Ren := ⟨fun | 193 => 240 | n => n, fun | 31 => 23 | 9 => 9 | 4 => 4 | 3 => 3 | 0 => 0 | n => n, fun | n => n⟩
theorem Tryz.lays193 : Go.Proofs.Lays.n193 Tryz.prog Tryz.lays193_ren := {
  mixed := by kernel_rfl
  f193 := Tryz.func240.trans (congrArg some (by kernel_rfl))
  t0 := Tryz.underlying0
  a0 := Tryz.isAgg0
  z0 := Tryz.sizeOf0
  v0 := Tryz.zeroValue0
  t3 := Tryz.underlying3
  a3 := Tryz.isAgg3
  z3 := Tryz.sizeOf3
  v3 := Tryz.zeroValue3
  t4 := Tryz.underlying4
  a4 := Tryz.isAgg4
  z4 := Tryz.sizeOf4
  v4 := Tryz.zeroValue4
  t9 := Tryz.underlying9
  a9 := Tryz.isAgg9
  z9 := Tryz.sizeOf9
  v9 := Tryz.zeroValue9
  t31 := Tryz.underlying23
  a31 := Tryz.isAgg23
  z31 := Tryz.sizeOf23
  v31 := Tryz.zeroValue23 }
open Go.RowKit Go.Lib in
/-- slices.Equal at []string: "Equal reports whether two slices are equal: the same length and all elements equal. If the lengths are different, Equal returns false. Otherwise, the elements are compared in increasing index order, and the comparison stops at the first unequal pair. Empty and nil slices are considered equal.": IT RETURNS WHETHER THE TWO LISTS OF ELEMENTS ARE ONE; the world is as it was but for the count of draws (the test 's1[i] != s2[i]' has two reads, whose order the model draws, once a round). 'xs', 'ys': what the cells behind the two addresses hold (the spare capacity too, if you have it); 'xs.take n', 'ys.take m': the elements. THE TWO SLICES MAY OVERLAP. (LAID: no walk: one application.) -/
theorem Tryz.slices_Equal_string (b1 o1 n c b2 o2 m d : Nat) (xs ys : List ByteArray) (w : World) (hx : n ≤ xs.length) (hy : m ≤ ys.length) (hbig : n ≤ 9223372036854775807) (hbig2 : m ≤ 9223372036854775807) (hc1 : ∀ j, j < xs.length → w.cell? ⟨b1, o1 + j, none⟩ = some (.string (xs.getD j ByteArray.empty))) (hc2 : ∀ j, j < ys.length → w.cell? ⟨b2, o2 + j, none⟩ = some (.string (ys.getD j ByteArray.empty))) :
    Calls Tryz.prog 240 #[.slice (some ⟨b1, o1, none⟩) n c, .slice (some ⟨b2, o2, none⟩) m d] w fun e w' => e = .returned (.bool (decide (xs.take n = ys.take m))) ∧ ∃ q, w' = w.drewN q := Any.slices_Equal_string Tryz.lays193 b1 o1 n c b2 o2 m d xs ys w hx hy hbig hbig2 hc1 hc2
open Go.RowKit Go.Lib in
/-- The same where the first is of length 0 (a nil one too): no cell is asked for. (LAID: no walk: one application.) -/
theorem Tryz.slices_Equal_string_empty (a1 a2 : Option Addr) (c m d : Nat) (w : World) (hbig2 : m ≤ 9223372036854775807) :
    Calls Tryz.prog 240 #[.slice a1 0 c, .slice a2 m d] w fun e w' => e = .returned (.bool (decide (m = 0))) ∧ w' = w := Any.slices_Equal_string_empty Tryz.lays193 a1 a2 c m d w hbig2
def Tryz.laysNm216_ren : Go.Shelf.Ren := ⟨fun | 16 => 100 | n => n, fun | 24 => 23 | 9 => 9 | 4 => 4 | n => n, fun | n => n⟩
theorem Tryz.laysNm216 : Go.Proofs.Lays2.n16 Tryz.prog Tryz.laysNm216_ren := {
  mixed := by kernel_rfl
  f16 := Tryz.func100.trans (congrArg some (by kernel_rfl))
  t4 := Tryz.underlying4
  a4 := Tryz.isAgg4
  z4 := Tryz.sizeOf4
  v4 := Tryz.zeroValue4
  t9 := Tryz.underlying9
  a9 := Tryz.isAgg9
  z9 := Tryz.sizeOf9
  v9 := Tryz.zeroValue9
  t24 := Tryz.underlying23
  a24 := Tryz.isAgg23
  z24 := Tryz.sizeOf23
  v24 := Tryz.zeroValue23
  i9 := by kernel_rfl }
open Go.RowKit Go.Lib in
/-- slices.Clone at []string: "Clone returns a copy of the slice. The elements are copied using assignment, so this is a shallow clone. The result may have additional unused capacity. The result preserves the nilness of s.": OF A SLICE THAT IS NOT nil IT RETURNS A SLICE THAT IS NOT nil, OF THE SAME ELEMENTS, IN MEMORY OF THE CALL's OWN: in the how-to's words (6f): 'w'.ownsRow B e 1 v' n cells': v' begins at the head of a row among the blocks from B on (B: the heap's size at the call), not frozen, whose first cells are the elements · 'Below B w w'': below B all is as it was. The capacity is whatever the run-time gives. 'zs': what the cells behind the slice's address hold; 'zs.take n': its elements. (LAID: no walk: one application.) -/
theorem Tryz.slices_Clone_string (b off n c : Nat) (zs : List ByteArray) (w : World) (hz : n ≤ zs.length) (hbig : n * 16 ≤ 140737488355328) (hc : ∀ j, j < zs.length → w.cell? ⟨b, off + j, none⟩ = some (.string (zs.getD j ByteArray.empty))) :
    Calls Tryz.prog 100 #[.slice (some ⟨b, off, none⟩) n c] w fun e w' => ∃ v', e = .returned v' ∧ w'.ownsRow w.heap.size 9 1 v' n ((zs.take n).map (Value.string)) ∧ v' ≠ .slice none 0 0 ∧ Below w.heap.size w w' := Any.slices_Clone_string Tryz.laysNm216 b off n c zs w hz hbig hc
open Go.RowKit Go.Lib in
/-- The same at nil: nil comes back; the world is as it was. (LAID: no walk: one application.) -/
theorem Tryz.slices_Clone_string_nil (n c : Nat) (w : World) :
    Calls Tryz.prog 100 #[.slice none n c] w fun e w' => e = .returned (.slice none 0 0) ∧ w' = w := Any.slices_Clone_string_nil Tryz.laysNm216 n c w
open Go.RowKit Go.Lib in
/-- The same at a slice of length 0 that is not nil, WHATEVER ITS ADDRESS (no cell is asked for): a slice that is not nil and owns nothing comes back. (LAID: no walk: one application.) -/
theorem Tryz.slices_Clone_string_zero (a : Addr) (c : Nat) (w : World) :
    Calls Tryz.prog 100 #[.slice (some a) 0 c] w fun e w' => ∃ v', e = .returned v' ∧ w'.ownsRow w.heap.size 9 1 v' 0 [] ∧ v' ≠ .slice none 0 0 ∧ Below w.heap.size w w' := Any.slices_Clone_string_zero Tryz.laysNm216 a c w
open Go.RowKit Go.Lib in
theorem Tryz.slices_Equal_string_lens (a1 a2 : Option Addr) (n c m d : Nat) (w : World) (hnm : n ≠ m) :
    Calls Tryz.prog 240 #[.slice a1 n c, .slice a2 m d] w fun e w' => e = .returned (.bool false) ∧ w' = w := Any.slices_Equal_string_lens Tryz.lays193 a1 a2 n c m d w hnm
end Go.Proofs
