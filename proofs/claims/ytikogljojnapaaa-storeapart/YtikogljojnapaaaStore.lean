/- Maps as rising lists; a store in memory. -/
import Derived.Test.YtikogljojnapaaaMem
import Derived.Sort.KeysCollected
namespace Go.Proofs.Ytikogljojnapaaa
open Go.RowKit

section plain
variable {α β : Type}
def insM (x : Txt × α) : List (Txt × α) → List (Txt × α)
  | [] => [x]
  | y :: r => if bytesBefore x.1 y.1 then x :: y :: r else y :: insM x r
def delM (F : List (Txt × α)) (k : Txt) : List (Txt × α) := F.filter fun p => !(p.1 == k)
def putM (F : List (Txt × α)) (k : Txt) (d : α) : List (Txt × α) := insM (k, d) (delM F k)
def hasM (F : List (Txt × α)) (k : Txt) : Bool := F.any fun p => p.1 == k
def getM (F : List (Txt × α)) (k : Txt) (z : α) : α := match F.find? (fun p => p.1 == k) with | some p => p.2 | none => z
/-- What is there, without where it lies. -/
def cont (F : List (Txt × Value × α)) : List (Txt × α) := F.map fun p => (p.1, p.2.2)
theorem mem_insM (x y : Txt × α) : ∀ F, y ∈ insM x F ↔ y = x ∨ y ∈ F
  | [] => by simp [insM]
  | z :: r => by
    unfold insM
    split
    · simp
    · simp only [List.mem_cons, mem_insM x y r]
      constructor
      · rintro (h | h | h)
        · exact .inr (.inl h)
        · exact .inl h
        · exact .inr (.inr h)
      · rintro (h | h | h)
        · exact .inr (.inl h)
        · exact .inl h
        · exact .inr (.inr h)
theorem length_insM (x : Txt × α) : ∀ F, (insM x F).length = F.length + 1
  | [] => rfl
  | z :: r => by
    unfold insM
    split
    · rfl
    · simp only [List.length_cons, length_insM x r]
theorem length_delM (F : List (Txt × α)) (k : Txt) : (delM F k).length ≤ F.length := List.length_filter_le _ _
theorem length_putM (F : List (Txt × α)) (k : Txt) (d : α) : (putM F k d).length ≤ F.length + 1 := by
  unfold putM
  rw [length_insM]
  have := length_delM F k
  omega
theorem mem_delM {F : List (Txt × α)} {k : Txt} {p : Txt × α} (h : p ∈ delM F k) : p ∈ F := (List.mem_filter.1 h).1
theorem mem_putM {F : List (Txt × α)} {k : Txt} {d : α} {p : Txt × α} (h : p ∈ putM F k d) : p = (k, d) ∨ p ∈ F := by
  rcases (mem_insM _ _ _).1 h with h | h
  · exact .inl h
  · exact .inr (mem_delM h)
theorem getM_mem {F : List (Txt × α)} {k : Txt} {z : α} (h : hasM F k = true) : (k, getM F k z) ∈ F := by
  unfold hasM at h
  unfold getM
  cases e : F.find? (fun p => p.1 == k) with
  | none =>
    rw [List.find?_eq_none] at e
    obtain ⟨p, hp, hk⟩ := List.any_eq_true.1 h
    exact absurd hk (e p hp)
  | some p =>
    have h1 := List.mem_of_find?_eq_some e
    have h2 := List.find?_some e
    have : p.1 = k := by simpa using h2
    subst this
    exact h1
theorem getM_none {F : List (Txt × α)} {k : Txt} {z : α} (h : hasM F k = false) : getM F k z = z := by
  unfold hasM at h
  unfold getM
  rw [List.find?_eq_none.2 (by simpa using h)]
theorem map_insM (f : α → β) (x : Txt × α) : ∀ F, (insM x F).map (fun p => (p.1, f p.2)) = insM (x.1, f x.2) (F.map fun p => (p.1, f p.2))
  | [] => rfl
  | z :: r => by
    unfold insM
    simp only [List.map_cons]
    split
    · rfl
    · simp only [List.map_cons, map_insM f x r]
theorem map_delM (f : α → β) (F : List (Txt × α)) (k : Txt) : (delM F k).map (fun p => (p.1, f p.2)) = delM (F.map fun p => (p.1, f p.2)) k := by
  unfold delM
  rw [List.filter_map]
  rfl
theorem map_putM (f : α → β) (F : List (Txt × α)) (k : Txt) (d : α) : (putM F k d).map (fun p => (p.1, f p.2)) = putM (F.map fun p => (p.1, f p.2)) k (f d) := by
  unfold putM
  rw [map_insM, map_delM]
theorem map_hasM (f : α → β) (F : List (Txt × α)) (k : Txt) : hasM (F.map fun p => (p.1, f p.2)) k = hasM F k := by
  unfold hasM
  rw [List.any_map]
  rfl
theorem map_getM (f : α → β) (F : List (Txt × α)) (k : Txt) (z : α) : getM (F.map fun p => (p.1, f p.2)) k (f z) = f (getM F k z) := by
  unfold getM
  rw [List.find?_map]
  have : ((fun p : Txt × β => p.1 == k) ∘ fun p : Txt × α => (p.1, f p.2)) = fun p => p.1 == k := rfl
  rw [this]
  cases F.find? (fun p => p.1 == k) <;> rfl
theorem cont_put (F : List (Txt × Value × α)) (k : Txt) (d : Value × α) : cont (putM F k d) = putM (cont F) k d.2 := map_putM Prod.snd F k d
theorem cont_del (F : List (Txt × Value × α)) (k : Txt) : cont (delM F k) = delM (cont F) k := map_delM Prod.snd F k
theorem cont_has (F : List (Txt × Value × α)) (k : Txt) : hasM (cont F) k = hasM F k := map_hasM Prod.snd F k
theorem cont_get (F : List (Txt × Value × α)) (k : Txt) (v : Value) (z : α) : getM (cont F) k z = (getM F k (v, z)).2 := map_getM Prod.snd F k (v, z)
theorem cont_length (F : List (Txt × Value × α)) : (cont F).length = F.length := by simp [cont]

/-! ### as a datum -/
/-- How an element reads: as itself. -/
def hE : Value → Option (DataW Value × List MemPlace) := fun v => some (.held v, [])
def dM (F : List (Txt × Value × α)) : DataW Value := .map (F.map fun p => (Lit.string p.1, .held p.2.1))
theorem dM_insert (x : Txt × Value × α) : ∀ F : List (Txt × Value × α), DataW.insert (Lit.string x.1, DataW.held x.2.1) (F.map fun p => (Lit.string p.1, DataW.held p.2.1)) = (insM x F).map fun p => (Lit.string p.1, DataW.held p.2.1)
  | [] => rfl
  | y :: r => by
    have e1 : DataW.insert (Lit.string x.1, DataW.held x.2.1) ((y :: r).map fun p => (Lit.string p.1, DataW.held p.2.1)) = if (Lit.string x.1).before (Lit.string y.1) then (Lit.string x.1, DataW.held x.2.1) :: (Lit.string y.1, DataW.held y.2.1) :: r.map (fun p => (Lit.string p.1, DataW.held p.2.1)) else (Lit.string y.1, DataW.held y.2.1) :: DataW.insert (Lit.string x.1, DataW.held x.2.1) (r.map fun p => (Lit.string p.1, DataW.held p.2.1)) := rfl
    have e2 : insM x (y :: r) = if bytesBefore x.1 y.1 then x :: y :: r else y :: insM x r := rfl
    rw [e1, e2]
    by_cases h : bytesBefore x.1 y.1 = true
    · rw [if_pos h, if_pos (show (Lit.string x.1).before (Lit.string y.1) = true from h)]; rfl
    · rw [if_neg h, if_neg (show ¬ (Lit.string x.1).before (Lit.string y.1) = true from h), dM_insert x r]; rfl
theorem dM_filter (F : List (Txt × Value × α)) (k : Txt) : (F.map fun p => (Lit.string p.1, (DataW.held p.2.1 : DataW Value))).filter (fun p => !p.1.sameKey (.string k)) = (delM F k).map fun p => (Lit.string p.1, DataW.held p.2.1) := by
  unfold delM
  rw [List.filter_map]; rfl
theorem dM_put (F : List (Txt × Value × α)) (k : Txt) (d : Value × α) : (dM F).put (.string k) (.held d.1) = dM (putM F k d) := by
  unfold dM DataW.put putM
  simp only [dM_filter]
  rw [dM_insert (k, d)]
theorem dM_find (F : List (Txt × Value × α)) (k : Txt) : (F.map fun p => (Lit.string p.1, (DataW.held p.2.1 : DataW Value))).find? (fun p => p.1.sameKey (.string k)) = (F.find? fun p => p.1 == k).map fun p => (Lit.string p.1, DataW.held p.2.1) := by
  rw [List.find?_map]; rfl
theorem dM_at (F : List (Txt × Value × α)) (k : Txt) (d : Value × α) : (dM F).atKey (.string k) (.held d.1) = .held (getM F k d).1 := by
  unfold dM DataW.atKey getM
  simp only [dM_find]
  cases F.find? fun p => p.1 == k <;> rfl
theorem dM_has (F : List (Txt × Value × α)) (k : Txt) : Maps.has (dM F) (.string k) = hasM F k := by
  unfold dM hasM
  rw [Maps.has_eq, List.any_map]; rfl
theorem dM_keys (F : List (Txt × Value × α)) : strKeys (dM F) = F.map Prod.fst := by
  unfold dM strKeys
  simp only [List.map_map]; rfl
theorem dM_del (F : List (Txt × Value × α)) (k : Txt) : (dM F).del (.string k) = dM (delM F k) := by
  unfold dM DataW.del
  simp only [dM_filter]
theorem dM_size (F : List (Txt × Value × α)) : Maps.size (dM F) = F.length := by simp [dM, Maps.size]
theorem hE_inv {v u : Value} {ps : List MemPlace} (h : hE v = some (.held u, ps)) : v = u := by
  unfold hE at h
  simp only [Option.some.injEq, Prod.mk.injEq, DataW.held.injEq] at h
  exact h.1
end plain

theorem key9 : Maps.Keyed Try.prog 9 := Maps.string_keyed Try.underlying9
theorem keyOf9 (k : Txt) (h : k.length ≤ maxLen) : keyOf Try.prog 9 (str k) = some (.string k) := by
  simp [keyOf, mapKey, Try.underlying9]
  show k.toArray.size ≤ maxLen
  simpa using h
variable {α : Type} {W W' : World} {K K' S : Nat → Prop}
theorem map_turn {b n : Nat} {D : DataW Value} (h : W.ownsMap Try.prog 9 hE b n D) (hT : Turn S W W') (hs : ¬ S b) : W'.ownsMap Try.prog 9 hE b n D := by
  have hlt := h.lt
  obtain ⟨es, clock, hb, r⟩ := h
  exact ⟨es, clock, (hT.block b hlt hs).trans hb, r⟩
theorem map_tight {b n : Nat} {F : List (Txt × Value × α)} (h : W.ownsMap Try.prog 9 hE b n (dM F)) : W.ownsMap Try.prog 9 hE b F.length (dM F) := by
  obtain ⟨es, clock, hb, r, hn, hD⟩ := h
  refine ⟨es, clock, hb, r, ?_, hD⟩
  rw [← dM_size F, hD]
  simp [Maps.size, length_sorted]
/-- A block that is a map is no row. -/
theorem map_apart {b n B e k m : Nat} {D : DataW Value} {v : Value} {xs : List Value} (h : W.ownsMap Try.prog 9 hE b n D) (ho : W.ownsRow B e k v m xs) : v.ownBlock ≠ some b := by
  obtain ⟨es, clock, hb, _⟩ := h
  rcases ho.2 with ⟨rfl, _⟩ | ⟨g, cap, cur, rfl, _, hgb, _⟩
  · simp [Value.ownBlock]
  · intro e'
    obtain rfl : g = b := by simpa [Value.ownBlock] using e'
    rw [hb] at hgb
    cases hgb
theorem map_apart_cel {b n b' t : Nat} {D : DataW Value} {cs : Array Value} (h : W.ownsMap Try.prog 9 hE b n D) (hc : Cel W b' t cs) : b' ≠ b := by
  obtain ⟨es, clock, hb, _⟩ := h
  rintro rfl
  have := (show W.heap[b']? = _ from hc).symm.trans hb
  cases this
theorem map_rising {b n : Nat} {F : List (Txt × Value × α)} (h : W.ownsMap Try.prog 9 hE b n (dM F)) : F.Pairwise fun p q => bytesBefore p.1 q.1 = true := by
  obtain ⟨es, he, hp, _⟩ := h.canon key9
  unfold dM at he
  cases he
  rw [List.pairwise_map] at hp
  exact hp

abbrev Vrs := List (Txt × Value × List Txt)
abbrev Fns := List (Txt × Value × List Nd)
abbrev sP (b : Nat) : Value := .pointer (some ⟨b, 0, none⟩)
abbrev fP (b : Nat) : Value := .pointer (some ⟨b, 1, none⟩)
/-- Nodes of one's own, in these blocks. -/
def On (W : World) (K : Nat → Prop) (v : Value) (l : List Nd) : Prop := W.ownsRow 0 58 5 v l.length (ndCs l) ∧ ∀ b, v.ownBlock = some b → K b
theorem On.at {v : Value} {l : List Nd} (h : On W K v l) : NdAt W v l := NdAt.owned h.1
theorem On.turn {v : Value} {l : List Nd} (h : On W K v l) (hT : Turn S W W') (hs : ∀ b, v.ownBlock = some b → ¬ S b) : On W' K v l := ⟨owns_turn h.1 hT hs, h.2⟩
theorem On.mono {v : Value} {l : List Nd} (h : On W K v l) (hk : ∀ i, K i → K' i) : On W K' v l := ⟨h.1, fun b hb => hk b (h.2 b hb)⟩
def big : Nat := 140737488355328

/-- A store: its blocks, its variables, its functions. -/
structure Sto (W : World) (K : Nat → Prop) (sb vb fb : Nat) (V : Vrs) (G : Fns) : Prop where
  sc : Cel W sb 51 #[.map (some vb), .map (some fb)]
  vm : W.ownsMap Try.prog 9 hE vb V.length (dM V)
  fm : W.ownsMap Try.prog 9 hE fb G.length (dM G)
  vt : ∀ p ∈ V, Ot W K p.2.1 p.2.2
  ft : ∀ p ∈ G, On W K p.2.1 p.2.2
  vl : ∀ p ∈ V, p.2.2.length * 16 ≤ big
  fl : ∀ p ∈ G, p.2.2.length < 4294967296
  Ks : K sb
  Kv : K vb
  Kf : K fb
  ne : vb ≠ fb
  lt : ∀ i, K i → i < W.heap.size
variable {sb vb fb : Nat} {V : Vrs} {G : Fns}
theorem Sto.turn (h : Sto W K sb vb fb V G) (hT : Turn S W W') (hs : ∀ i, K i → ¬ S i) : Sto W' K sb vb fb V G := {
  sc := h.sc.turn hT (hs _ h.Ks)
  vm := map_turn h.vm hT (hs _ h.Kv)
  fm := map_turn h.fm hT (hs _ h.Kf)
  vt := fun p hp => (h.vt p hp).turn hT fun b hb => hs b ((h.vt p hp).2 b hb)
  ft := fun p hp => (h.ft p hp).turn hT fun b hb => hs b ((h.ft p hp).2 b hb)
  vl := h.vl
  fl := h.fl
  Ks := h.Ks
  Kv := h.Kv
  Kf := h.Kf
  ne := h.ne
  lt := fun i hi => Nat.lt_of_lt_of_le (h.lt i hi) hT.size }
theorem Sto.below (h : Sto W K sb vb fb V G) (hb : Below W.heap.size W W') : Sto W' K sb vb fb V G := h.turn (S := fun _ => False) (Turn.ofBelow hb) (fun _ _ h => h)
/-- Behind a step: the maps may have turned, and new blocks may be the store's. -/
def Stp (vb fb : Nat) (W : World) (K : Nat → Prop) (W' : World) (K' : Nat → Prop) : Prop := Turn (fun i => i = vb ∨ i = fb) W W' ∧ ∀ i, K' i → K i ∨ W.heap.size ≤ i
theorem Stp.refl (W : World) (K : Nat → Prop) : Stp vb fb W K W K := ⟨Turn.refl _ W, fun _ h => .inl h⟩
theorem Stp.trans {W1 W2 : World} {K1 K2 : Nat → Prop} (h : Stp vb fb W K W1 K1) (k : Stp vb fb W1 K1 W2 K2) : Stp vb fb W K W2 K2 :=
  ⟨h.1.trans k.1 (fun _ hi _ => hi), fun i hi => (k.2 i hi).elim (fun h1 => h.2 i h1) (fun h1 => .inr (Nat.le_trans h.1.size h1))⟩
theorem Stp.ofBelow (h : Below W.heap.size W W') : Stp vb fb W K W' K := ⟨Turn.ofBelow h, fun _ h => .inl h⟩
theorem Stp.below {B : Nat} (h : Stp vb fb W K W' K') (hv : B ≤ vb) (hf : B ≤ fb) (hB : B ≤ W.heap.size) : Below B W W' := h.1.below (fun i hi => by rcases hi with rfl | rfl <;> assumption) hB
/-- The variables' map turns, and nothing else. -/
theorem Sto.vput (h : Sto W K sb vb fb V G) {k : Txt} {v : Value} {l : List Txt} {n : Nat} (hl : l.length * 16 ≤ big) (ho : W.ownsRow 0 9 1 v l.length (txV l)) (hm : W'.ownsMap Try.prog 9 hE vb n ((dM V).put (.string k) (.held v))) (hg : W.grownBy W' (some vb)) :
    Sto W' (fun i => K i ∨ v.ownBlock = some i) sb vb fb (putM V k (v, l)) G ∧ Turn (fun i => i = vb ∨ i = fb) W W' := by
  have hT := Turn.ofGrown hg
  have hd := dM_put V k (v, l)
  rw [hd] at hm
  have key : ∀ {e k n : Nat} {v : Value} {xs : List Value}, W.ownsRow 0 e k v n xs → W'.ownsRow 0 e k v n xs := fun ho => owns_turn ho hT (fun b hb e => map_apart h.vm ho (hb.trans e.symm))
  refine ⟨⟨h.sc.turn hT (fun e => map_apart_cel h.vm h.sc (Option.some.inj e).symm), map_tight hm, map_turn h.fm hT (fun e => h.ne (Option.some.inj e)), ?_, ?_, ?_, h.fl, .inl h.Ks, .inl h.Kv, .inl h.Kf, h.ne, ?_⟩, hT.mono (fun i e => .inl (Option.some.inj e).symm)⟩
  · intro p hp
    rcases mem_putM hp with rfl | hp
    · exact ⟨key ho, fun b hb => .inr hb⟩
    · exact ⟨key (h.vt p hp).1, fun b hb => .inl ((h.vt p hp).2 b hb)⟩
  · exact fun p hp => ⟨key (h.ft p hp).1, fun b hb => .inl ((h.ft p hp).2 b hb)⟩
  · intro p hp
    rcases mem_putM hp with rfl | hp
    · exact hl
    · exact h.vl p hp
  · rintro i (hi | hi)
    · exact Nat.lt_of_lt_of_le (h.lt i hi) hT.size
    · exact Nat.lt_of_lt_of_le (ho.lt i hi).2 hT.size
theorem Sto.vdel (h : Sto W K sb vb fb V G) {k : Txt} {n : Nat} (hm : W'.ownsMap Try.prog 9 hE vb n ((dM V).del (.string k))) (hg : W.grownBy W' (some vb)) :
    Sto W' K sb vb fb (delM V k) G ∧ Turn (fun i => i = vb ∨ i = fb) W W' := by
  have hT := Turn.ofGrown hg
  rw [dM_del] at hm
  have key : ∀ {e k n : Nat} {v : Value} {xs : List Value}, W.ownsRow 0 e k v n xs → W'.ownsRow 0 e k v n xs := fun ho => owns_turn ho hT (fun b hb e => map_apart h.vm ho (hb.trans e.symm))
  refine ⟨⟨h.sc.turn hT (fun e => map_apart_cel h.vm h.sc (Option.some.inj e).symm), map_tight hm, map_turn h.fm hT (fun e => h.ne (Option.some.inj e)), ?_, ?_, ?_, h.fl, h.Ks, h.Kv, h.Kf, h.ne, ?_⟩, hT.mono (fun i e => .inl (Option.some.inj e).symm)⟩
  · exact fun p hp => ⟨key (h.vt p (mem_delM hp)).1, (h.vt p (mem_delM hp)).2⟩
  · exact fun p hp => ⟨key (h.ft p hp).1, (h.ft p hp).2⟩
  · exact fun p hp => h.vl p (mem_delM hp)
  · exact fun i hi => Nat.lt_of_lt_of_le (h.lt i hi) hT.size
theorem Sto.fput (h : Sto W K sb vb fb V G) {k : Txt} {v : Value} {l : List Nd} {n : Nat} (hl : l.length < 4294967296) (ho : W.ownsRow 0 58 5 v l.length (ndCs l)) (hm : W'.ownsMap Try.prog 9 hE fb n ((dM G).put (.string k) (.held v))) (hg : W.grownBy W' (some fb)) :
    Sto W' (fun i => K i ∨ v.ownBlock = some i) sb vb fb V (putM G k (v, l)) ∧ Turn (fun i => i = vb ∨ i = fb) W W' := by
  have hT := Turn.ofGrown hg
  have hd := dM_put G k (v, l)
  rw [hd] at hm
  have key : ∀ {e k n : Nat} {v : Value} {xs : List Value}, W.ownsRow 0 e k v n xs → W'.ownsRow 0 e k v n xs := fun ho => owns_turn ho hT (fun b hb e => map_apart h.fm ho (hb.trans e.symm))
  refine ⟨⟨h.sc.turn hT (fun e => map_apart_cel h.fm h.sc (Option.some.inj e).symm), map_turn h.vm hT (fun e => h.ne (Option.some.inj e).symm), map_tight hm, ?_, ?_, h.vl, ?_, .inl h.Ks, .inl h.Kv, .inl h.Kf, h.ne, ?_⟩, hT.mono (fun i e => .inr (Option.some.inj e).symm)⟩
  · exact fun p hp => ⟨key (h.vt p hp).1, fun b hb => .inl ((h.vt p hp).2 b hb)⟩
  · intro p hp
    rcases mem_putM hp with rfl | hp
    · exact ⟨key ho, fun b hb => .inr hb⟩
    · exact ⟨key (h.ft p hp).1, fun b hb => .inl ((h.ft p hp).2 b hb)⟩
  · intro p hp
    rcases mem_putM hp with rfl | hp
    · exact hl
    · exact h.fl p hp
  · rintro i (hi | hi)
    · exact Nat.lt_of_lt_of_le (h.lt i hi) hT.size
    · exact Nat.lt_of_lt_of_le (ho.lt i hi).2 hT.size
end Go.Proofs.Ytikogljojnapaaa
