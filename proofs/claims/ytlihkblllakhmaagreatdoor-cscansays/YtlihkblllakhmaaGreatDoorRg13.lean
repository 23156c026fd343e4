/- The document's scanner: its commands so far; Scan over plain lists, a step at a time. -/
import Derived.Test.YtlihkblllakhmaaGreatDoorRg12
import Derived.Test.YtlihkblllakhmaaGreatDoorSc2
namespace Go.Proofs.YtlihkblllakhmaaGreatDoor
open Go.RowKit
attribute [local go_sem] Oper.semAt_some

theorem QtOwn.past {W W' : World} {B : Nat} {v : Value} {X : List Pt} {S : Nat → Prop} (h : QtOwn W B v X) (hT : Turn S W W') (hS : ∀ i, S i → i < B ∨ W.heap.size ≤ i) : QtOwn W' B v X := by
  refine owns_turn h hT fun g hg hs => ?_
  have := World.ownsRow.lt h g hg
  have := hS g hs
  omega
theorem QdOwn.past {W W' : World} {B : Nat} {v : Value} {K : List (Value × Wd)} {S : Nat → Prop} (h : QdOwn W B v K) (hT : Turn S W W') (hS : ∀ i, S i → i < B ∨ W.heap.size ≤ i) : QdOwn W' B v K := by
  refine ⟨owns_turn h.row hT fun g hg hs => ?_, fun q hq => (h.parts q hq).past hT hS⟩
  have := World.ownsRow.lt h.row g hg
  have := hS g hs
  omega
theorem QmOwn.past {W W' : World} {B : Nat} {v : Value} {K : List Mc} {S : Nat → Prop} (h : QmOwn W B v K) (hT : Turn S W W') (hS : ∀ i, S i → i < B ∨ W.heap.size ≤ i) : QmOwn W' B v K := by
  refine ⟨owns_turn h.row hT fun g hg hs => ?_, fun q hq => (h.words q hq).past hT hS⟩
  have := World.ownsRow.lt h.row g hg
  have := hS g hs
  omega
/-- Scan, with as much fuel as there are bytes. -/
def docA (N : Nat) (out : List Cm) (c : Cm) (l : List UInt8) : Except Er (List Cm) := docS N l.length out c l
theorem docA_nil (N : Nat) (out : List Cm) (c : Cm) : docA N out c [] = .ok (if c.words.isEmpty then out else out ++ [c]) := rfl
theorem docA_blk {N : Nat} {out : List Cm} {c : Cm} {b : UInt8} {t : List UInt8} (h : blk b = true) : docA N out c (b :: t) = docA N out c t := by
  unfold docA
  rw [List.length_cons, docS, if_pos h]
theorem docA_sep {N : Nat} {out : List Cm} {c : Cm} {b : UInt8} {t : List UInt8} (h1 : blk b = false) (h : sepS.contains b = true) : docA N out c (b :: t) = docA N (if c.words.isEmpty then out else out ++ [c]) ⟨0, []⟩ t := by
  unfold docA
  rw [List.length_cons, docS, if_neg (by rw [h1]; simp), if_pos h]
theorem docA_hash {N : Nat} {out : List Cm} {c : Cm} {t : List UInt8} (h : c.words.isEmpty = true) : docA N out c (35 :: t) = docA N out c (t.dropWhile notNl) := by
  unfold docA
  rw [List.length_cons, docS, if_neg (by decide), if_neg (by decide), if_pos ⟨rfl, h⟩, drop_hash]
  exact docS_fuel N _ _ _ _ _ (List.dropWhile_suffix _).length_le (Nat.le_refl _)
theorem docA_word {N : Nat} {out : List Cm} {c : Cm} {b : UInt8} {t : List UInt8} (h1 : blk b = false) (h2 : sepS.contains b = false) (h3 : ¬ (b = 35 ∧ c.words.isEmpty = true)) : docA N out c (b :: t) = (match wordL N (b :: t) with
    | .error x => .error x
    | .ok (w, u) => docA N out ⟨if c.words.isEmpty then w.pos else c.pos, c.words ++ [w]⟩ u) := by
  unfold docA
  rw [List.length_cons, docS, if_neg (by rw [h1]; simp), if_neg (by rw [h2]; simp), if_neg h3]
  cases hw : wordL N (b :: t) with
  | error x => rfl
  | ok r =>
    obtain ⟨w, u⟩ := r
    have := (q_word_lt (end_of (by rw [h1]; simp) (by rw [h2]; simp)) hw).1
    exact docS_fuel N _ _ _ _ _ (by omega) (Nat.le_refl _)
theorem docA_scan (l : List UInt8) : docA l.length [] ⟨0, []⟩ l = scanL l := doc_all l l.length (Nat.le_refl _)
end Go.Proofs.YtlihkblllakhmaaGreatDoor
