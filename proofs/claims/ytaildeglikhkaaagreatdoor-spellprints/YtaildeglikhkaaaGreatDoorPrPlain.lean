/- What Print writes: plain. The text of a node up to its children is a parameter. -/
import Derived.Test.YtaildeglikhkaaaGreatDoorTree
namespace Go.Proofs.YtaildeglikhkaaaGreatDoor

/-- The ends that lie at a place are closed: what is written, what stays (the last end first). -/
def closeG (p : Int) : List Int → List UInt8 × List Int
  | [] => ([], [])
  | e :: E => if e = p then (41 :: (closeG p E).1, (closeG p E).2) else ([], e :: E)
/-- Print's loop: what is still written. -/
def printG (bg : Nd → List UInt8) : List Nd → Nat → List Int → List UInt8
  | [], _, _ => []
  | x :: X, i, E => (if 0 < i then [32] else []) ++ bg x ++ (closeG ((i : Int) + 1) (((i : Int) + x.size) :: E)).1 ++ printG bg X (i + 1) (closeG ((i : Int) + 1) (((i : Int) + x.size) :: E)).2
/-- A tree's text. -/
def textL (bg : Nd → List UInt8) : Nat → List Nd → List UInt8
  | 0, _ => []
  | _ + 1, [] => []
  | d + 1, x :: X => bg x ++ ((kidsL (x :: X)).flatMap fun Y => 32 :: textL bg d Y) ++ [41]
theorem textL_new (bg : Nd → List UInt8) (d : Nat) (kind n : Int) (s : Txt) (Ys : List (List Nd)) (h : ∀ Y ∈ Ys, Seg d Y) :
    textL bg (d + 1) (newN kind n s Ys) = bg ⟨kind, n, Ys.length, Ys.flatten.length + 1, s⟩ ++ (Ys.flatMap fun Y => 32 :: textL bg d Y) ++ [41] := by
  have hk := kidsL_seg d kind n s Ys h
  unfold newN at hk ⊢
  rw [textL, hk]
theorem closeG_same (p : Int) (E : List Int) : closeG p (p :: E) = (41 :: (closeG p E).1, (closeG p E).2) := by
  rw [closeG, if_pos rfl]
theorem closeG_other (p e : Int) (E : List Int) (h : e ≠ p) : closeG p (e :: E) = ([], e :: E) := by
  rw [closeG, if_neg h]
/-- How Print goes over a tree that begins at a place. -/
def PrSeg (bg : Nd → List UInt8) (d : Nat) (Y : List Nd) : Prop := ∀ (i : Nat) (E : List Int) (R : List Nd), printG bg (Y ++ R) i E =
  (if 0 < i then [32] else []) ++ textL bg d Y ++ (closeG ((i : Int) + Y.length) E).1 ++ printG bg R (i + Y.length) (closeG ((i : Int) + Y.length) E).2
theorem pr_kids (bg : Nd → List UInt8) (d : Nat) (E : List Int) (R : List Nd) : ∀ (Ys : List (List Nd)) (at_ : Nat) (fin : Int), (∀ Y ∈ Ys, PrSeg bg d Y ∧ 1 ≤ Y.length) → Ys ≠ [] → 0 < at_ → fin = (at_ : Int) + Ys.flatten.length →
    printG bg (Ys.flatten ++ R) at_ (fin :: E) = (Ys.flatMap fun Y => 32 :: textL bg d Y) ++ [41] ++ (closeG fin E).1 ++ printG bg R (at_ + Ys.flatten.length) (closeG fin E).2
  | [], _, _, _, h, _, _ => absurd rfl h
  | [Y], at_, fin, hs, _, h0, hf => by
    have hp := (hs Y (by simp)).1 at_ (fin :: E) R
    have hf' : (at_ : Int) + Y.length = fin := by rw [hf]; simp
    rw [hf', closeG_same, if_pos h0] at hp
    simp only [List.flatten_cons, List.flatten_nil, List.append_nil, List.flatMap_cons, List.flatMap_nil]
    rw [hp]
    simp
  | Y :: Z :: Ys, at_, fin, hs, _, h0, hf => by
    have hz := (hs Z (by simp)).2
    have hp := (hs Y (by simp)).1 at_ (fin :: E) ((Z :: Ys).flatten ++ R)
    have hne : fin ≠ (at_ : Int) + Y.length := by
      rw [hf]
      simp only [List.flatten_cons, List.length_append]
      omega
    have hr := pr_kids bg d E R (Z :: Ys) (at_ + Y.length) fin (fun W hW => hs W (by simp [hW])) (by simp) (by omega) (by rw [hf]; simp only [List.flatten_cons, List.length_append]; omega)
    rw [closeG_other _ _ _ hne, if_pos h0] at hp
    rw [List.flatten_cons, List.append_assoc, hp, hr, List.flatMap_cons, List.length_append, ← Nat.add_assoc]
    simp
theorem pr_seg (bg : Nd → List UInt8) {d : Nat} {Y : List Nd} (h : Seg d Y) : PrSeg bg d Y := by
  induction h with
  | mk d kind n s Ys hs ih =>
    intro i E R
    rw [textL_new bg d kind n s Ys hs]
    have hlen : (newN kind n s Ys).length = Ys.flatten.length + 1 := by simp [newN]
    have hc : newN kind n s Ys ++ R = ⟨kind, n, Ys.length, Ys.flatten.length + 1, s⟩ :: (Ys.flatten ++ R) := rfl
    rw [hlen, hc, printG]
    simp only
    by_cases hY : Ys = []
    · subst hY
      simp only [List.flatten_nil, List.length_nil, List.nil_append, List.flatMap_nil, List.append_nil, Nat.zero_add, Int.natCast_zero, Int.zero_add, Int.natCast_one]
      rw [closeG_same]
      simp
    · have hk := pr_kids bg d E R Ys (i + 1) ((i : Int) + (Ys.flatten.length + 1)) (fun Y hY => ⟨ih Y hY, (hs Y hY).head.choose_spec.2.2⟩) hY (by omega) (by omega)
      have hpos : 1 ≤ Ys.flatten.length := by
        cases Ys with
        | nil => exact absurd rfl hY
        | cons Z Zs =>
          have := (hs Z (by simp)).head.choose_spec.2.2
          simp only [List.flatten_cons, List.length_append]
          omega
      rw [closeG_other _ _ _ (by omega), hk]
      have e1 : i + 1 + Ys.flatten.length = i + (Ys.flatten.length + 1) := by omega
      have e2 : ((Ys.flatten.length + 1 : Nat) : Int) = (Ys.flatten.length : Int) + 1 := by omega
      rw [e1, e2]
      simp
/-- Print's loop over a whole tree writes its text. -/
theorem print_seg (bg : Nd → List UInt8) (d : Nat) (l : List Nd) (h : Seg d l) : printG bg l 0 [] = textL bg d l := by
  have := pr_seg bg h 0 [] []
  simpa [closeG, printG] using this
end Go.Proofs.YtaildeglikhkaaaGreatDoor
