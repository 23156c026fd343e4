/- What does nothing is taken out: over plain lists. -/
import Derived.Test.YtfakelaibijgkaaDoorFitsOf
namespace Go.Proofs.YtfakelaibijgkaaDoor
open Go.RowKit

def kindOf (Y : List Nd) : Int := match Y with
  | [] => 0
  | x :: _ => x.kind
/-- Is a node of kind 12 in it? -/
def hasSub (Y : List Nd) : Bool := Y.any fun x => x.kind == 12
def nopL : List Nd := newN 20 0 [] []
def openK (Ys : List (List Nd)) : List (List Nd) := Ys.flatMap fun Y => if kindOf Y = 23 then kidsL Y else [Y]
def lastNop : List (List Nd) → List (List Nd)
  | [] => []
  | [Y] => [Y]
  | Y :: Z :: r => if kindOf Y = 20 then lastNop (Z :: r) else Y :: lastNop (Z :: r)
def seqC (Ms : List (List Nd)) : List Nd := match Ms with
  | [] => nopL
  | [M] => M
  | M :: N :: r => newN 23 0 [] (M :: N :: r)
def seqD (Ys : List (List Nd)) : List Nd := seqC (lastNop (openK Ys))
def notD (n : Int) (s : Txt) (Ys : List (List Nd)) : List Nd := match Ys with
  | Y :: _ => if kindOf Y = 27 then (match kidsL Y with
      | B :: _ => if kindOf B = 27 then B else newN 27 n s [Y]
      | [] => []) else newN 27 n s [Y]
  | [] => []
def wordD (kind n : Int) (s : Txt) (Ys : List (List Nd)) : List Nd := match Ys with
  | [] => []
  | [W] => if hasSub W then newN kind n s [W] else nopL
  | W :: C :: r => if hasSub W then newN kind n s (W :: C :: r) else if kindOf C = 20 then nopL else if kind = 34 ∧ kindOf C = 34 then (match kidsL C with
      | V :: _ => if hasSub V then newN kind n s (W :: C :: r) else C
      | [] => []) else newN kind n s (W :: C :: r)
/-- An If, And or Or. -/
def choD : Nat → Int → Int → Txt → List (List Nd) → List Nd
  | 0, _, _, _, _ => []
  | _ + 1, _, _, _, [] => []
  | f + 1, kind, n, s, F :: r =>
    if kind = 26 ∧ kindOf F = 20 then F
    else if kindOf F = 20 then (match r with
      | G :: _ => G
      | [] => [])
    else if kind = 24 ∧ kindOf F = 27 then (match kidsL F, r with
      | B :: _, [G, H] => choD f 24 n s [B, H, G]
      | _, _ => [])
    else newN kind n s (F :: r)
def putD (kind n : Int) (s : Txt) (Ys : List (List Nd)) : List Nd :=
  if kind = 23 then seqD Ys
  else if kind = 24 ∨ kind = 25 ∨ kind = 26 then choD 31 kind n s Ys
  else if kind = 27 then notD n s Ys
  else if kind = 34 ∨ kind = 35 ∨ kind = 30 then wordD kind n s Ys
  else newN kind n s Ys
def passD : Nat → List Nd → List Nd
  | 0, _ => []
  | _ + 1, [] => []
  | d + 1, x :: X => putD x.kind x.n x.s ((kidsL (x :: X)).map (passD d))
def passL (X : List Nd) : List Nd := match checkL X with
  | .fine => passD 30 X
  | _ => X
theorem kindOf_new (kind n : Int) (s : Txt) (Ys : List (List Nd)) : kindOf (newN kind n s Ys) = kind := rfl

/-! ### what fits, fits deeper; its children -/
theorem Fits.up {d : Nat} {word : Bool} {Y : List Nd} (h : Fits d word Y) : Fits (d + 1) word Y := by
  induction h with
  | mk d word kind n s Ys h1 h2 h3 h4 h ih => exact Fits.mk _ _ _ _ _ Ys h1 h2 h3 h4 ih
theorem Fits.seg {d : Nat} {word : Bool} {Y : List Nd} (h : Fits d word Y) : Seg d Y := by
  induction h with
  | mk d word kind n s Ys h1 h2 h3 h4 h ih => exact Seg.mk _ _ _ _ Ys (fun Y hY => by
      obtain ⟨j, hj⟩ := List.mem_iff_getElem?.1 hY
      exact ih j Y hj)
/-- A tree that fits, taken apart. -/
theorem Fits.out {d : Nat} {word : Bool} {Y : List Nd} (h : Fits d word Y) : ∃ (e : Nat) (n : Int) (s : Txt) (Ys : List (List Nd)), d = e + 1 ∧ Y = newN (kindOf Y) n s Ys ∧ kidsL Y = Ys ∧ isOneB (kindOf Y) word = true ∧ numB (kindOf Y) n = true ∧ strB (kindOf Y) n s = true ∧ cntB (kindOf Y) Ys.length = true ∧ ∀ (j : Nat) (Z : List Nd), Ys[j]? = some Z → Fits e (wordAtB (kindOf Y) Ys.length j) Z := by
  cases h with
  | mk d word kind n s Ys h1 h2 h3 h4 h => exact ⟨d, n, s, Ys, rfl, rfl, kidsL_seg d kind n s Ys (fun Y hY => by
      obtain ⟨j, hj⟩ := List.mem_iff_getElem?.1 hY
      exact (h j Y hj).seg), h1, h2, h3, h4, h⟩
theorem fits_nop (d : Nat) : Fits (d + 1) false nopL := Fits.mk d false 20 0 [] [] (by decide) (by decide) (by decide) (by decide) (fun j Y h => by cases h)
theorem seq_word (K j : Int) : wordAtB 23 K j = false := by unfold wordAtB wordK; simp
theorem if_word (K j : Int) : wordAtB 24 K j = false := by unfold wordAtB wordK; simp
theorem and_word (K j : Int) : wordAtB 25 K j = false := by unfold wordAtB wordK; simp
theorem or_word (K j : Int) : wordAtB 26 K j = false := by unfold wordAtB wordK; simp
theorem not_word (K j : Int) : wordAtB 27 K j = false := by unfold wordAtB wordK; simp
theorem openK_fits {d : Nat} {Ys : List (List Nd)} (h : ∀ Y ∈ Ys, Fits d false Y) : ∀ Z ∈ openK Ys, Fits d false Z := by
  intro Z hZ
  unfold openK at hZ
  rw [List.mem_flatMap] at hZ
  obtain ⟨Y, hY, hZ⟩ := hZ
  split at hZ
  · rename_i hk
    obtain ⟨e, n, s, Zs, rfl, _, hq, _, _, _, _, hs⟩ := (h Y hY).out
    rw [hq] at hZ
    obtain ⟨j, hj⟩ := List.mem_iff_getElem?.1 hZ
    have := hs j Z hj
    rw [hk, seq_word] at this
    exact this.up
  · rw [List.mem_singleton] at hZ
    subst hZ
    exact h Z hY
theorem lastNop_sub : ∀ (Ys : List (List Nd)), ∀ Z ∈ lastNop Ys, Z ∈ Ys
  | [], _, h => h
  | [Y], _, h => h
  | Y :: Z :: r, X, h => by
    rw [lastNop] at h
    split at h
    · exact List.mem_cons_of_mem _ (lastNop_sub (Z :: r) X h)
    · rcases List.mem_cons.1 h with rfl | h
      · exact List.mem_cons_self
      · exact List.mem_cons_of_mem _ (lastNop_sub (Z :: r) X h)
theorem seqC_fits {d : Nat} {Ms : List (List Nd)} (h : ∀ Y ∈ Ms, Fits d false Y) (h0 : Ms ≠ []) : Fits (d + 1) false (seqC Ms) := by
  match Ms, h0 with
  | [M], _ => exact (h M (by simp)).up
  | M :: N :: r, _ =>
    refine Fits.mk d false 23 0 [] _ (by decide) (by decide) (by decide) ?_ (fun j Y hY => by rw [seq_word]; exact h Y (List.mem_of_getElem? hY))
    unfold cntB
    simp
    omega
theorem lastNop_ne : ∀ (Ys : List (List Nd)), Ys ≠ [] → lastNop Ys ≠ []
  | [], h => absurd rfl h
  | [Y], _ => by simp [lastNop]
  | Y :: Z :: r, _ => by
    rw [lastNop]
    split
    · exact lastNop_ne (Z :: r) (by simp)
    · simp
theorem openK_ne {d : Nat} {Ys : List (List Nd)} (h : ∀ Y ∈ Ys, Fits d false Y) (h0 : Ys ≠ []) : openK Ys ≠ [] := by
  match Ys, h0 with
  | Y :: r, _ =>
    unfold openK
    rw [List.flatMap_cons]
    split
    · rename_i hk
      obtain ⟨e, n, s, Zs, rfl, _, hq, _, _, _, hc, _⟩ := (h Y (by simp)).out
      rw [hq]
      rw [hk] at hc
      cases Zs with
      | nil => simp [cntB] at hc
      | cons a b => simp
    · simp
theorem seqD_fits {d : Nat} {Ys : List (List Nd)} (h : ∀ Y ∈ Ys, Fits d false Y) (h0 : Ys ≠ []) : Fits (d + 1) false (seqD Ys) :=
  seqC_fits (fun Y hY => openK_fits h Y (lastNop_sub _ Y hY)) (lastNop_ne _ (openK_ne h h0))
end Go.Proofs.YtfakelaibijgkaaDoor
