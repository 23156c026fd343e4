/- Print of any list of nodes. -/
import Derived.Test.YtaildeglikhkaaaGreatDoorBnd
namespace Go.Proofs.YtaildeglikhkaaaGreatDoor
open Go.RowKit

/-- What Print answers. -/
def printL (X : List Nd) : List UInt8 := if fineB (checkL X) || isWordL X then printG beginL X 0 [] else []
theorem fineB_iff (r : Rs) : fineB r = true ↔ r = .fine := by cases r <;> simp [fineB]
theorem print_any (v : Value) (X : List Nd) (W : World) (ea : Nat → Addr) (hE : Ers W ea) (hK : KnAt W) (hP : ∀ w', Below W.heap.size W w' → Pow w') (hN : NdAt W v X) (hl : X.length < 2147483648) (hok : ∀ x ∈ X, NdOk x ∧ x.s.length < 8796093022208) (hs : sumS X ≤ 8796093022208) :
    Calls Tryz.prog 15 #[v] W fun e w' => e = .returned (str (printL X)) ∧ Below W.heap.size W w' := by
  unfold printL
  cases hf : fineB (checkL X) with
  | true =>
    have hf' := (fineB_iff _).1 hf
    obtain ⟨g1, _, g3⟩ := seg_of_fine X hf'
    have g4 := says_fine X hf'
    have g5 := seg_sizes g1
    have g6 := print_len X hf'
    rw [Bool.true_or, if_pos rfl]
    exact print_fine v X W ea hE hK hP hN g3 (fun x hx => ⟨(hok x hx).1, (hok x hx).2, (g4 x hx).2.1, (g4 x hx).2.2.1, by have := g5 x hx; omega, by have := g5 x hx; omega⟩) (by omega) hf'
  | false =>
    have hf' : checkL X ≠ .fine := fun e => by rw [e] at hf; cases hf
    rw [Bool.false_or]
    cases hd : isWordL X with
    | true =>
      have hd' := (fineB_iff _).1 hd
      obtain ⟨g1, g3, g4⟩ := word_seg X hd'
      have g5 := seg_sizes g1
      have g6 := print_len_word X hd'
      rw [if_pos rfl]
      exact print_word v X W ea hE hK hP hN (by omega) (fun x hx => ⟨(hok x hx).1, (hok x hx).2, (g4 x hx).2.1, (g4 x hx).2.2.1, by have := g5 x hx; omega, by have := g5 x hx; omega⟩) (by omega) hf' hd
    | false =>
      rw [if_neg (by decide)]
      exact print_no v X W ea hE hN hl (fun x hx => (hok x hx).1) hf' hd
/-- What Print writes of a program that may be is read as this program. -/
theorem printL_read (l : List Nd) (h : checkL l = .fine) : readG ⟨(printL l).toArray⟩ = (true, (printL l).length, l) := by
  have hf := (fineB_iff _).2 h
  have e : printL l = printG bgB l 0 [] := by
    unfold printL
    rw [hf, Bool.true_or, if_pos rfl, show beginL = bgB from funext begin_bg]
  have := round_trip l h ⟨(printL l).toArray⟩ (by rw [e])
  rw [this]
  simp [ByteArray.size]
/-- What is read as a program that may be is written as it was. -/
theorem read_printL (s : ByteArray) (l : List Nd) (h : readG s = (true, s.size, l)) (hc : checkL l = .fine) : printL l = s.data.toList := by
  have hf := (fineB_iff _).2 hc
  unfold printL
  rw [hf, Bool.true_or, if_pos rfl, show beginL = bgB from funext begin_bg]
  exact round_back s l h (seg_of_fine l hc).2.2
end Go.Proofs.YtaildeglikhkaaaGreatDoor
