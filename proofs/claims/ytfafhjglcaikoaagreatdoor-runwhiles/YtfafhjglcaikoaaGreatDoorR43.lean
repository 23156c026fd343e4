/- Programs that are made step by step: each call behind the row that it takes. -/
import Derived.Test.YtfafhjglcaikoaaGreatDoorG40
namespace Go.Proofs.YtfafhjglcaikoaaGreatDoor
open Go.RowKit
attribute [local go_sem] Oper.semAt_some

variable {W W' : World} {ea : Nat → Addr}
/-- A node comes back: a program of so many nodes. -/
def Made (w : World) (L : Nat) (X : List Nd) (e : Ending) (w' : World) : Prop := ∃ p c, e = .returned (.slice p L c) ∧ Hid (NdAt w' (.slice p L c) X) ∧ Hid (Below w.heap.size w w')
theorem Made.of {w w1 w' : World} {L : Nat} {X : List Nd} {e : Ending} {v : Value} (h1 : e = .returned v) (h2 : NdAt w' v X) (h3 : Below w1.heap.size w1 w') (hb : Below w.heap.size w w1) (hL : X.length = L) : Made w L X e w' := by
  obtain ⟨p, c, hv⟩ := h2.form
  rw [hL] at hv
  subst hv
  exact ⟨p, c, h1, h2, hb.trans (h3.mono hb.size)⟩
theorem lit_new (w : World) (a : Txt) : Calls Tryz.prog 15 #[.string ⟨a.toArray⟩] w (Made w 1 (lN9 a)) := by
  refine (lit_any ⟨a.toArray⟩ w).mono ?_
  rintro e w' ⟨v', h1, h2, h3⟩
  exact Made.of h1 h2.at h3 (Below.refl _ _) rfl
theorem call1_new (w : World) (a : Txt) : Calls Tryz.prog 22 #[.slice (some ⟨w.heap.size, 0, none⟩) 1 1] (w.alloc (.cells #[.string ⟨a.toArray⟩] 9)) (Made w 2 (callN [a])) := by
  refine (callT_any _ [a] _ (tx_one9 w a) (by simp)).mono ?_
  rintro e w' ⟨v', h1, h2, h3⟩
  exact Made.of h1 h2 h3 (below_new _ _) rfl
theorem call2_new (w : World) (a b : Txt) : Calls Tryz.prog 22 #[.slice (some ⟨w.heap.size, 0, none⟩) 2 2] (w.alloc (.cells #[.string ⟨a.toArray⟩, .string ⟨b.toArray⟩] 9)) (Made w 3 (callN [a, b])) := by
  refine (callT_any _ [a, b] _ (tx_two w a b) (by simp)).mono ?_
  rintro e w' ⟨v', h1, h2, h3⟩
  exact Made.of h1 h2 h3 (below_new _ _) rfl
theorem leaf_new (w : World) (kind n : Int) (s : Txt) : Calls Tryz.prog 16 #[.int .i64 kind, .int .i64 n, .string ⟨s.toArray⟩, .slice none 0 0] w (Made w 1 (newN kind n s [])) := by
  refine (leafN_any kind n s w).mono ?_
  rintro e w' ⟨v', h1, h2, h3⟩
  exact Made.of h1 h2 h3 (Below.refl _ _) rfl
theorem node1_new (kind n : Int) (s : Txt) {w : World} {v : Value} {X : List Nd} {L : Nat} (h : NdAt w v X) (hL : X.length + 1 = L) (hb : L < 100000) : Calls Tryz.prog 16 #[.int .i64 kind, .int .i64 n, .string ⟨s.toArray⟩, .slice (some ⟨w.heap.size, 0, none⟩) 1 1] (w.alloc (.cells #[v] 22)) (Made w L (newN kind n s [X])) := by
  refine (newL_any kind n s _ [X] _ (kdl_one h) (by simp) (by simp; omega)).mono ?_
  rintro e w' ⟨v', h1, h2, h3⟩
  exact Made.of h1 h2 h3 (below_new _ _) (by simp [newN]; omega)
theorem node2_new (kind n : Int) (s : Txt) {w : World} {v u : Value} {X Y : List Nd} {L : Nat} (h : NdAt w v X) (g : NdAt w u Y) (hL : X.length + Y.length + 1 = L) (hb : L < 100000) : Calls Tryz.prog 16 #[.int .i64 kind, .int .i64 n, .string ⟨s.toArray⟩, .slice (some ⟨w.heap.size, 0, none⟩) 2 2] (w.alloc (.cells #[v, u] 22)) (Made w L (newN kind n s [X, Y])) := by
  refine (newL_any kind n s _ [X, Y] _ (kdl_two h g) (by simp) (by simp; omega)).mono ?_
  rintro e w' ⟨v', h1, h2, h3⟩
  exact Made.of h1 h2 h3 (below_new _ _) (by simp [newN]; omega)
theorem kdl_three {v u t : Value} {X Y Z : List Nd} (h : NdAt W v X) (g : NdAt W u Y) (f : NdAt W t Z) : KdL (W.alloc (.cells #[v, u, t] 22)) (.slice (some ⟨W.heap.size, 0, none⟩) 3 3) [X, Y, Z] :=
  ⟨[(v, X), (u, Y), (t, Z)], rfl, KdAt.of_cells rfl (Cel.new W 22 #[v, u, t]) (fun p hp => by
    rcases List.mem_cons.1 hp with rfl | hp
    · exact h.more _
    · rcases List.mem_cons.1 hp with rfl | hp
      · exact g.more _
      · rw [List.mem_singleton] at hp
        subst hp
        exact f.more _) (Nat.le_refl _)⟩
theorem node3_new (kind n : Int) (s : Txt) {w : World} {v u t : Value} {X Y Z : List Nd} {L : Nat} (h : NdAt w v X) (g : NdAt w u Y) (f : NdAt w t Z) (hL : X.length + Y.length + Z.length + 1 = L) (hb : L < 100000) : Calls Tryz.prog 16 #[.int .i64 kind, .int .i64 n, .string ⟨s.toArray⟩, .slice (some ⟨w.heap.size, 0, none⟩) 3 3] (w.alloc (.cells #[v, u, t] 22)) (Made w L (newN kind n s [X, Y, Z])) := by
  refine (newL_any kind n s _ [X, Y, Z] _ (kdl_three h g f) (by simp) (by simp; omega)).mono ?_
  rintro e w' ⟨v', h1, h2, h3⟩
  exact Made.of h1 h2 h3 (below_new _ _) (by simp [newN]; omega)
theorem seqL_any (v : Value) (L : List (List Nd)) (w : World) (h : KdL w v L) (h1 : 1 ≤ L.length) (hL : L.length < 4294967296) (hT : L.flatten.length < 4294967296) :
    Calls Tryz.prog 17 #[v] w fun e w' => ∃ v', e = .returned v' ∧ NdAt w' v' (seqP L) ∧ Below w.heap.size w w' := by
  obtain ⟨K, rfl, hk⟩ := h
  exact seqN_any v K w hk (by simpa using h1) (by simpa using hL) hT
theorem seq2_new {w : World} {v u : Value} {X Y : List Nd} {L : Nat} (h : NdAt w v X) (g : NdAt w u Y) (hL : X.length + Y.length + 1 = L) (hb : L < 100000) : Calls Tryz.prog 17 #[.slice (some ⟨w.heap.size, 0, none⟩) 2 2] (w.alloc (.cells #[v, u] 22)) (Made w L (newN 23 0 [] [X, Y])) := by
  refine (seqL_any _ [X, Y] _ (kdl_two h g) (by simp) (by simp) (by simp; omega)).mono ?_
  rintro e w' ⟨v', h1, h2, h3⟩
  exact Made.of h1 h2 h3 (below_new _ _) (by simp [newN]; omega)
theorem NdMade.on {w w' : World} {v : Value} {X : List Nd} (h : Hid (NdAt w v X)) (hb : Hid (Below w.heap.size w w')) : Hid (NdAt w' v X) := h.out.below hb.out (Nat.le_refl _)
theorem Bel.on {w w' : World} (h : Hid (Below W.heap.size W w)) (hb : Hid (Below w.heap.size w w')) : Hid (Below W.heap.size W w') := h.out.trans (hb.out.mono h.out.size)
/-- Region k of a function, wherever it stands. -/
def cRg (k : Nat) : Code → Option Code
  | .region i o b => if i = k then some (.region i o b) else none
  | .seq a b => match cRg k a with
    | some c => some c
    | none => cRg k b
  | .cond _ a b => match cRg k a with
    | some c => some c
    | none => cRg k b
  | .block _ a => cRg k a
  | .loop a => cRg k a
  | .scope a => cRg k a
  | _ => none
abbrev optD (d : Nat) (inp : Txt) : Array Value := #[.nilFunc, .int .i64 1500, .int .i64 (d : Nat), .slice none 0 0, .slice none 0 0, str inp]
/-- A result in a block of its own. -/
theorem box_new {B : Nat} {st : Int} {x : Xr} {s : Sh} {ta : Option Addr} {tn tc : Nat} {va : Option Addr} {vn vc : Nat} {fa : Option Addr} {fn fc : Nat} (h : Res ea B W (.agg #[.int .i64 st, xrV ea x, .slice ta tn tc, .slice va vn vc, .slice fa fn fc, .int .i64 (s.st : Nat)]) st x s) (hB : B ≤ W.heap.size) :
    Box ea B (W.alloc (.cells #[.int .i64 st, xrV ea x, .slice ta tn tc, .slice va vn vc, .slice fa fn fc, .int .i64 (s.st : Nat)] 54)) W.heap.size st x s :=
  ⟨hB, ta, tn, tc, va, vn, vc, fa, fn, fc, Cel.new W 54 _, h.below (below_new _ _)⟩
theorem cell_on {w w' : World} (h : Below w.heap.size w w') {a : Addr} {v : Value} (hc : w.cell? a = some v) : w'.cell? a = some v := (h.cell (World.block_lt_of_cell? w a hc)).trans hc
end Go.Proofs.YtfafhjglcaikoaaGreatDoor
