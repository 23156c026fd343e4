/- Slices of texts, and what a command of the shell's own answers. -/
import Derived.Test.YtiddlineklfhfaaDoorText
import Derived.Test.YtiddlineklfhfaaDoorMatch
import Derived.Test.YtiddlineklfhfaaDoorShelf
import Derived.Test.YtiddlineklfhfaaDoorShelf2
import Derived.Test.YtiddlineklfhfaaDoorShelf3
import Derived.Lib.AppendIntMem
import Derived.Lib.ItoaLen
import Derived.Lib.IndexLaws
import Derived.BigQuiet
import Derived.Deep.QuietTactic
namespace Go.Proofs.YtiddlineklfhfaaDoor
open Go.RowKit Go.Shelf
attribute [local go_sem] Oper.semAt_some

abbrev str (s : List UInt8) : Value := .string ⟨s.toArray⟩
theorem str_eq (s : ByteArray) : Value.string s = str s.data.toList := by cases s; simp [str]
/-- The value is a slice of these texts; a nil one has neither items nor room. -/
def Tx (W : World) (v : Value) (ps : List (List UInt8)) : Prop :=
  (v = .slice none 0 0 ∧ ps = []) ∨
  ∃ (ad : Addr) (cap : Nat), v = .slice (some ad) ps.length cap ∧ ps.length ≤ cap ∧
    (ps ≠ [] → ∃ g o, ad = ⟨g, o, none⟩ ∧ g < W.heap.size ∧ ∀ k p, ps[k]? = some p → W.cell? ⟨g, o + k, none⟩ = some (.string ⟨p.toArray⟩))
theorem Tx.below {W W' : World} {v : Value} {ps : List (List UInt8)} {B : Nat} (h : Tx W v ps) (hb : Below B W W') (hB : W.heap.size ≤ B) : Tx W' v ps := by
  rcases h with h | ⟨ad, cap, h1, h2, h3⟩
  · exact .inl h
  · refine .inr ⟨ad, cap, h1, h2, fun hne => ?_⟩
    obtain ⟨g, o, rfl, h4, h5⟩ := h3 hne
    exact ⟨g, o, rfl, Nat.lt_of_lt_of_le h4 hb.size, fun k p hp => (hb.cell (p := ⟨g, o + k, none⟩) (by show g < B; omega)).trans (h5 k p hp)⟩
theorem Tx.form {W : World} {v : Value} {ps : List (List UInt8)} (h : Tx W v ps) : ∃ ad cap, v = .slice ad ps.length cap := by
  rcases h with ⟨rfl, rfl⟩ | ⟨ad, cap, rfl, _⟩
  · exact ⟨none, 0, rfl⟩
  · exact ⟨_, cap, rfl⟩
theorem Tx.inRow {W : World} {v : Value} {ps : List (List UInt8)} (h : Tx W v ps) (hne : ps ≠ []) : ∃ g o cap, v = .slice (some ⟨g, o, none⟩) ps.length cap ∧ ps.length ≤ cap ∧ g < W.heap.size ∧ ∀ k p, ps[k]? = some p → W.cell? ⟨g, o + k, none⟩ = some (.string ⟨p.toArray⟩) := by
  rcases h with ⟨rfl, rfl⟩ | ⟨ad, cap, rfl, h1, h2⟩
  · exact absurd rfl hne
  · obtain ⟨g, o, rfl, h3, h4⟩ := h2 hne
    exact ⟨g, o, cap, rfl, h1, h3, h4⟩
theorem Tx.one {W : World} {v : Value} {a : List UInt8} (h : Tx W v [a]) : ∃ g o cap, v = .slice (some ⟨g, o, none⟩) 1 cap ∧ 1 ≤ cap ∧ g < W.heap.size ∧ W.cell? ⟨g, o, none⟩ = some (str a) := by
  obtain ⟨g, o, cap, h1, h2, h3, h4⟩ := h.inRow (by simp)
  exact ⟨g, o, cap, h1, h2, h3, h4 0 a rfl⟩
theorem Tx.two {W : World} {v : Value} {a b : List UInt8} (h : Tx W v [a, b]) : ∃ g o cap, v = .slice (some ⟨g, o, none⟩) 2 cap ∧ 2 ≤ cap ∧ g < W.heap.size ∧ W.cell? ⟨g, o, none⟩ = some (str a) ∧ W.cell? ⟨g, o + 1, none⟩ = some (str b) := by
  obtain ⟨g, o, cap, h1, h2, h3, h4⟩ := h.inRow (by simp)
  exact ⟨g, o, cap, h1, h2, h3, h4 0 a rfl, h4 1 b rfl⟩
theorem Tx.built {W : World} {ps : List (List UInt8)} (t : TypeId) : Tx (W.alloc (.cells (ps.map str).toArray t)) (.slice (some ⟨W.heap.size, 0, none⟩) ps.length ps.length) ps := by
  refine .inr ⟨_, _, rfl, Nat.le_refl _, fun _ => ⟨_, 0, rfl, by simp, fun k p hp => ?_⟩⟩
  rw [(Cel.new W t (ps.map str).toArray).cell]
  simp [hp]

/-! ### the plain answers -/
def lineL (l : List UInt8) : List UInt8 := l.takeWhile (· != 10)
def restL (l : List UInt8) : List UInt8 := (l.dropWhile (· != 10)).drop 1
theorem line_none : ∀ l : List UInt8, Lib.indexByte l 10 = -1 → lineL l = l ∧ restL l = []
  | [], _ => ⟨rfl, rfl⟩
  | b :: l, h => by
    unfold Lib.indexByte at h
    by_cases hb : (b == 10) = true
    · simp [hb] at h
    · have hb' : (b == 10) = false := by simpa using hb
      by_cases hi : Lib.indexByte l 10 = -1
      · obtain ⟨h1, h2⟩ := line_none l hi
        have hn : (b != 10) = true := by simp [bne, hb']
        exact ⟨by unfold lineL at h1 ⊢; rw [List.takeWhile_cons, if_pos hn, h1], by unfold restL at h2 ⊢; rw [List.dropWhile_cons, if_pos hn, h2]⟩
      · exfalso
        have hi' : (Lib.indexByte l 10 == -1) = false := by simpa using hi
        have := Lib.indexByte_ge l 10
        simp [hb', hi'] at h
        omega
theorem line_some : ∀ (l : List UInt8) (k : Nat), Lib.indexByte l 10 = k → lineL l = l.take k ∧ restL l = l.drop (k + 1) ∧ k < l.length
  | [], k, h => by unfold Lib.indexByte at h; omega
  | b :: l, k, h => by
    unfold Lib.indexByte at h
    by_cases hb : (b == 10) = true
    · simp [hb] at h
      have hk : k = 0 := by omega
      subst hk
      have hn : ¬ ((b != 10) = true) := by simp [bne, hb]
      exact ⟨by unfold lineL; rw [List.takeWhile_cons, if_neg hn]; rfl, by unfold restL; rw [List.dropWhile_cons, if_neg hn], by simp⟩
    · have hb' : (b == 10) = false := by simpa using hb
      have hn : (b != 10) = true := by simp [bne, hb']
      by_cases hi : (Lib.indexByte l 10 == -1) = true
      · simp [hb', hi] at h
      · have hi' : (Lib.indexByte l 10 == -1) = false := by simpa using hi
        have hge := Lib.indexByte_ge l 10
        simp [hb', hi'] at h
        have hne : Lib.indexByte l 10 ≠ -1 := by simpa using hi
        obtain ⟨j, hj⟩ : ∃ j : Nat, Lib.indexByte l 10 = j := ⟨(Lib.indexByte l 10).toNat, by omega⟩
        obtain ⟨h1, h2, h3⟩ := line_some l j hj
        have hk : k = j + 1 := by omega
        subst hk
        exact ⟨by unfold lineL at h1 ⊢; rw [List.takeWhile_cons, if_pos hn, h1]; rfl, by unfold restL at h2 ⊢; rw [List.dropWhile_cons, if_pos hn, h2]; rfl, by simp; omega⟩
/-- What a command answers. -/
structure Oc where
  out : List UInt8
  rest : List UInt8
  status : Int
  name : List UInt8
  value : List UInt8
  fin : Bool
abbrev ocC (o : Oc) : List Value := [str o.out, str o.rest, .int .i64 o.status, str o.name, str o.value, .bool o.fin]
abbrev ocV (o : Oc) : Value := .agg #[str o.out, str o.rest, .int .i64 o.status, str o.name, str o.value, .bool o.fin]
def stB (b : Bool) : Int := if b then 0 else 1
def numsR : List (List UInt8) → Int × Int × Bool
  | [a, b] => (((T.parseV a).getD 0 : Nat), ((T.parseV b).getD 0 : Nat), (T.parseV a).isSome && (T.parseV b).isSome)
  | _ => (0, 0, false)
def sumL (a b : Int) : List UInt8 := Lib.itoa ((a + b) % 1000000000) ++ [10]
def addR (args : List (List UInt8)) : List UInt8 × Int := if (numsR args).2.2 then (sumL (numsR args).1 (numsR args).2.1, 0) else ([], 1)
def lessR (args : List (List UInt8)) : Bool := (numsR args).2.2 && decide ((numsR args).1 < (numsR args).2.1)
def eqR : List (List UInt8) → Bool
  | [a, b] => a == b
  | _ => false
def likeR : List (List UInt8) → Bool
  | [a, b] => mt (pcs (letts b)) a
  | _ => false
def endR : List (List UInt8) → Int
  | [] => 0
  | a :: _ => match T.parseV a with
    | some n => if n ≤ 255 then n else 0
    | none => 0
def readR (inp : List UInt8) : List (List UInt8) → Oc
  | [a] => if T.nameB a && !inp.isEmpty then ⟨[], restL inp, 0, a, lineL inp, false⟩ else ⟨[], inp, 1, [], [], false⟩
  | _ => ⟨[], inp, 1, [], [], false⟩
end Go.Proofs.YtiddlineklfhfaaDoor
