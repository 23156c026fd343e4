/- How long a program's text is, how great its nodes' sizes. Plain. -/
import Derived.Test.YtaildeglikhkaaaGreatDoorRPrint
import Derived.Test.YtaildeglikhkaaaGreatDoorLight
namespace Go.Proofs.YtaildeglikhkaaaGreatDoor
open Go.Lib (itoa)

theorem seg_sizes {d : Nat} {Y : List Nd} (h : Seg d Y) : ∀ x ∈ Y, 1 ≤ x.size ∧ x.size ≤ Y.length := by
  induction h with
  | mk d kind n s Ys hs ih =>
    intro x hx
    have hlen : (newN kind n s Ys).length = Ys.flatten.length + 1 := by simp [newN]
    rw [hlen]
    unfold newN at hx
    rcases List.mem_cons.1 hx with rfl | hx
    · exact ⟨by simp only; omega, by simp only; omega⟩
    · obtain ⟨Y, hY, hxY⟩ := List.mem_flatten.1 hx
      have h1 := ih Y hY x hxY
      have h2 := (List.sublist_flatten_of_mem hY).length_le
      exact ⟨h1.1, by omega⟩
theorem bg_len (x : Nd) (hx : Says x) : (bgB x).length ≤ 19 + 3 * x.s.length := by
  have h1 := kindN_length x.kind
  have h2 := quoteL_length x.s
  have h3 : (itoa x.n).length ≤ 9 := by
    unfold itoa
    rw [if_neg (by have := hx.2.1; omega)]
    exact dec_len _ 9 (by omega) (by have := hx.2.2.1; omega)
  unfold bgB tailB
  simp only [List.length_cons, List.length_append]
  have h4 : (if x.n = 0 then ([] : List UInt8) else [32] ++ itoa x.n).length ≤ 10 := by
    split
    · simp
    · simp only [List.length_append, List.length_cons, List.length_nil]; omega
  have h5 : (if strK x.kind then [32] ++ quoteL x.s else ([] : List UInt8)).length ≤ 3 + 3 * x.s.length := by
    split
    · simp only [List.length_append, List.length_cons, List.length_nil]; omega
    · simp
  omega
theorem sumS_append (A B : List Nd) : sumS (A ++ B) = sumS A + sumS B := by
  induction A with
  | nil => simp [sumS]
  | cons x A ih => simp only [List.cons_append, sumS, ih]; omega
theorem kids_len (d : Nat) : ∀ Ys : List (List Nd), (∀ Y ∈ Ys, (textL bgB d Y).length + 1 ≤ 21 * Y.length + 3 * sumS Y) → (kidsT d Ys).length ≤ 21 * Ys.flatten.length + 3 * sumS Ys.flatten
  | [], _ => by simp [kidsT]
  | Y :: Ys, h => by
    have h1 := h Y (by simp)
    have h2 := kids_len d Ys (fun Z hZ => h Z (by simp [hZ]))
    rw [kidsT_cons, List.flatten_cons, sumS_append]
    simp only [List.length_cons, List.length_append]
    omega
theorem text_len {d : Nat} {Y : List Nd} (h : Seg d Y) : (∀ x ∈ Y, Says x) → (textL bgB d Y).length + 1 ≤ 21 * Y.length + 3 * sumS Y := by
  induction h with
  | mk d kind n s Ys hs ih =>
    intro hx
    rw [textL_new bgB d kind n s Ys hs]
    have h0 := bg_len ⟨kind, n, Ys.length, Ys.flatten.length + 1, s⟩ (hx _ (by simp [newN]))
    have h1 := kids_len d Ys (fun Y hY => ih Y hY (fun x hxY => hx x (by
      simp only [newN, List.mem_cons]
      exact .inr (List.mem_flatten.2 ⟨Y, hY, hxY⟩))))
    have e : newN kind n s Ys = ⟨kind, n, Ys.length, Ys.flatten.length + 1, s⟩ :: Ys.flatten := rfl
    show (bgB _ ++ kidsT d Ys ++ [41]).length + 1 ≤ _
    rw [e, sumS]
    simp only [List.length_append, List.length_cons, List.length_nil] at h0 ⊢
    omega
/-- The text of a program that may be. -/
theorem print_len (l : List Nd) (h : checkL l = .fine) : (printG beginL l 0 []).length + 1 ≤ 21 * l.length + 3 * sumS l := by
  rw [show beginL = bgB from funext begin_bg, print_seg bgB 30 l (seg_of_fine l h).1]
  exact text_len (seg_of_fine l h).1 (says_fine l h)
theorem print_len_word (X : List Nd) (h : checkL (newN 22 0 [120] [X]) = .fine) : (printG beginL X 0 []).length + 1 ≤ 21 * X.length + 3 * sumS X := by
  obtain ⟨h1, _, h3⟩ := word_seg X h
  rw [show beginL = bgB from funext begin_bg, print_seg bgB 29 X h1]
  exact text_len h1 h3
end Go.Proofs.YtaildeglikhkaaaGreatDoor
