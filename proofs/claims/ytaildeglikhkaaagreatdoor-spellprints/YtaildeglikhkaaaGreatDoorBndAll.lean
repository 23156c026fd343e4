/- Print of any list of nodes. -/
import Derived.Test.YtaildeglikhkaaaGreatDoorRPrint
import Derived.Test.YtaildeglikhkaaaGreatDoorOpenAll
/-! How long a program's text is, how great its nodes' sizes. Plain. -/
namespace Go.Proofs.YtaildeglikhkaaaGreatDoor
open Go.Lib (itoa)

theorem seg_sizes {d : Nat} {Y : List Nd} (h : Seg d Y) : ∀ x ∈ Y, 1 ≤ x.size ∧ x.size ≤ Y.length := by
  induction h with
  | mk d kind n s Ys hs ih =>
    intro x hx
    have hlen : (newN kind n s Ys).length = Ys.flatten.length + 1 := by simp [newN]
    rw [hlen]
    unfold newN at hx
    rcases List.mem_cons.1 hx with rfl | hx
    · exact ⟨by simp only; omega, by simp only; omega⟩
    · obtain ⟨Y, hY, hxY⟩ := List.mem_flatten.1 hx
      have h1 := ih Y hY x hxY
      have h2 := (List.sublist_flatten_of_mem hY).length_le
      exact ⟨h1.1, by omega⟩
theorem bg_len (x : Nd) (hx : Says x) : (bgB x).length ≤ 19 + 3 * x.s.length := by
  have h1 := kindN_length x.kind
  have h2 := quoteL_length x.s
  have h3 : (itoa x.n).length ≤ 9 := by
    unfold itoa
    rw [if_neg (by have := hx.2.1; omega)]
    exact dec_len _ 9 (by omega) (by have := hx.2.2.1; omega)
  unfold bgB tailB
  simp only [List.length_cons, List.length_append]
  have h4 : (if x.n = 0 then ([] : List UInt8) else [32] ++ itoa x.n).length ≤ 10 := by
    split
    · simp
    · simp only [List.length_append, List.length_cons, List.length_nil]; omega
  have h5 : (if strK x.kind then [32] ++ quoteL x.s else ([] : List UInt8)).length ≤ 3 + 3 * x.s.length := by
    split
    · simp only [List.length_append, List.length_cons, List.length_nil]; omega
    · simp
  omega
theorem sumS_append (A B : List Nd) : sumS (A ++ B) = sumS A + sumS B := by
  induction A with
  | nil => simp [sumS]
  | cons x A ih => simp only [List.cons_append, sumS, ih]; omega
theorem kids_len (d : Nat) : ∀ Ys : List (List Nd), (∀ Y ∈ Ys, (textL bgB d Y).length + 1 ≤ 21 * Y.length + 3 * sumS Y) → (kidsT d Ys).length ≤ 21 * Ys.flatten.length + 3 * sumS Ys.flatten
  | [], _ => by simp [kidsT]
  | Y :: Ys, h => by
    have h1 := h Y (by simp)
    have h2 := kids_len d Ys (fun Z hZ => h Z (by simp [hZ]))
    rw [kidsT_cons, List.flatten_cons, sumS_append]
    simp only [List.length_cons, List.length_append]
    omega
theorem text_len {d : Nat} {Y : List Nd} (h : Seg d Y) : (∀ x ∈ Y, Says x) → (textL bgB d Y).length + 1 ≤ 21 * Y.length + 3 * sumS Y := by
  induction h with
  | mk d kind n s Ys hs ih =>
    intro hx
    rw [textL_new bgB d kind n s Ys hs]
    have h0 := bg_len ⟨kind, n, Ys.length, Ys.flatten.length + 1, s⟩ (hx _ (by simp [newN]))
    have h1 := kids_len d Ys (fun Y hY => ih Y hY (fun x hxY => hx x (by
      simp only [newN, List.mem_cons]
      exact .inr (List.mem_flatten.2 ⟨Y, hY, hxY⟩))))
    have e : newN kind n s Ys = ⟨kind, n, Ys.length, Ys.flatten.length + 1, s⟩ :: Ys.flatten := rfl
    show (bgB _ ++ kidsT d Ys ++ [41]).length + 1 ≤ _
    rw [e, sumS]
    simp only [List.length_append, List.length_cons, List.length_nil] at h0 ⊢
    omega
/-- The text of a program that may be. -/
theorem print_len (l : List Nd) (h : checkL l = .fine) : (printG beginL l 0 []).length + 1 ≤ 21 * l.length + 3 * sumS l := by
  rw [show beginL = bgB from funext begin_bg, print_seg bgB 30 l (seg_of_fine l h).1]
  exact text_len (seg_of_fine l h).1 (says_fine l h)
theorem print_len_word (X : List Nd) (h : checkL (newN 22 0 [120] [X]) = .fine) : (printG beginL X 0 []).length + 1 ≤ 21 * X.length + 3 * sumS X := by
  obtain ⟨h1, _, h3⟩ := word_seg X h
  rw [show beginL = bgB from funext begin_bg, print_seg bgB 29 X h1]
  exact text_len h1 h3
end Go.Proofs.YtaildeglikhkaaaGreatDoor
namespace Go.Proofs.YtaildeglikhkaaaGreatDoor
open Go.RowKit

/-- What Print answers. -/
def printL (X : List Nd) : List UInt8 := if fineB (checkL X) || isWordL X then printG beginL X 0 [] else []
theorem fineB_iff (r : Rs) : fineB r = true ↔ r = .fine := by cases r <;> simp [fineB]
theorem print_any (v : Value) (X : List Nd) (W : World) (ea : Nat → Addr) (hE : Ers W ea) (hK : KnAt W) (hP : ∀ w', Below W.heap.size W w' → Pow w') (hN : NdAt W v X) (hl : X.length < 2147483648) (hok : ∀ x ∈ X, NdOk x ∧ x.s.length < 8796093022208) (hs : sumS X ≤ 8796093022208) :
    Calls Tryz.prog 15 #[v] W fun e w' => e = .returned (str (printL X)) ∧ Below W.heap.size W w' := by
  unfold printL
  cases hf : fineB (checkL X) with
  | true =>
    have hf' := (fineB_iff _).1 hf
    obtain ⟨g1, _, g3⟩ := seg_of_fine X hf'
    have g4 := says_fine X hf'
    have g5 := seg_sizes g1
    have g6 := print_len X hf'
    rw [Bool.true_or, if_pos rfl]
    exact print_fine v X W ea hE hK hP hN g3 (fun x hx => ⟨(hok x hx).1, (hok x hx).2, (g4 x hx).2.1, (g4 x hx).2.2.1, by have := g5 x hx; omega, by have := g5 x hx; omega⟩) (by omega) hf'
  | false =>
    have hf' : checkL X ≠ .fine := fun e => by rw [e] at hf; cases hf
    rw [Bool.false_or]
    cases hd : isWordL X with
    | true =>
      have hd' := (fineB_iff _).1 hd
      obtain ⟨g1, g3, g4⟩ := word_seg X hd'
      have g5 := seg_sizes g1
      have g6 := print_len_word X hd'
      rw [if_pos rfl]
      exact print_word v X W ea hE hK hP hN (by omega) (fun x hx => ⟨(hok x hx).1, (hok x hx).2, (g4 x hx).2.1, (g4 x hx).2.2.1, by have := g5 x hx; omega, by have := g5 x hx; omega⟩) (by omega) hf' hd
    | false =>
      rw [if_neg (by decide)]
      exact print_no v X W ea hE hN hl (fun x hx => (hok x hx).1) hf' hd
/-- What Print writes of a program that may be is read as this program. -/
theorem printL_read (l : List Nd) (h : checkL l = .fine) : readG ⟨(printL l).toArray⟩ = (true, (printL l).length, l) := by
  have hf := (fineB_iff _).2 h
  have e : printL l = printG bgB l 0 [] := by
    unfold printL
    rw [hf, Bool.true_or, if_pos rfl, show beginL = bgB from funext begin_bg]
  have := round_trip l h ⟨(printL l).toArray⟩ (by rw [e])
  rw [this]
  simp [ByteArray.size]
/-- What is read as a program that may be is written as it was. -/
theorem read_printL (s : ByteArray) (l : List Nd) (h : readG s = (true, s.size, l)) (hc : checkL l = .fine) : printL l = s.data.toList := by
  have hf := (fineB_iff _).2 hc
  unfold printL
  rw [hf, Bool.true_or, if_pos rfl, show beginL = bgB from funext begin_bg]
  exact round_back s l h (seg_of_fine l hc).2.2
end Go.Proofs.YtaildeglikhkaaaGreatDoor
