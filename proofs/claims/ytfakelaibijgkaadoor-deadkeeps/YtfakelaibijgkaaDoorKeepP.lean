/- Commands that are kept: over plain lists. -/
import Derived.Test.YtfakelaibijgkaaDoorPassQ
namespace Go.Proofs.YtfakelaibijgkaaDoor
open Go.RowKit

def callL (s : Txt) : List Nd := newN 21 0 [] [[litN s]]
/-- The command of a kind, of five. -/
def keepC (r : Int) (s : Txt) : List Nd :=
  if r = 0 then nopL else if r = 1 then newN 33 2 [] [[litN s], nopL] else if r = 2 then newN 32 0 [] [callL s, nopL] else if r = 3 then newN 31 0 [102] [callL s] else callL s
theorem lit_new (s : Txt) : [litN s] = newN 1 0 s [] := rfl
theorem fits_lit (d : Nat) (s : Txt) (h : s.length ≤ 2000) : Fits (d + 1) true [litN s] :=
  Fits.mk d true 1 0 s [] (by decide) (by decide) (by simp [strB, h]) (by decide) (fun j Y h => by cases h)
theorem fits_call (d : Nat) (s : Txt) (h : s.length ≤ 2000) : Fits (d + 2) false (callL s) :=
  Fits.mk (d + 1) false 21 0 [] [[litN s]] (by decide) (by decide) (by decide) (by simp [cntB]) (fun j Y hj => by
    match j, hj with
    | 0, hj => obtain rfl := Option.some.inj hj; exact fits_lit d s h
    | _ + 1, hj => cases hj)
theorem fits_keep (d : Nat) (r : Int) (s : Txt) (h : s.length ≤ 2000) : Fits (d + 3) false (keepC r s) := by
  unfold keepC
  split
  · exact fits_nop (d + 2)
  split
  · exact Fits.mk (d + 2) false 33 2 [] _ (by decide) (by decide) (by decide) (by simp [cntB]) (fun j Y hj => by
      match j, hj with
      | 0, hj => obtain rfl := Option.some.inj hj; exact fits_lit (d + 1) s h
      | 1, hj => obtain rfl := Option.some.inj hj; exact fits_nop (d + 1)
      | _ + 2, hj => cases hj)
  split
  · exact Fits.mk (d + 2) false 32 0 [] _ (by decide) (by decide) (by decide) (by simp [cntB]) (fun j Y hj => by
      match j, hj with
      | 0, hj => obtain rfl := Option.some.inj hj; exact fits_call d s h
      | 1, hj => obtain rfl := Option.some.inj hj; exact fits_nop (d + 1)
      | _ + 2, hj => cases hj)
  split
  · exact Fits.mk (d + 2) false 31 0 [102] _ (by decide) (by decide) (by decide) (by simp [cntB]) (fun j Y hj => by
      match j, hj with
      | 0, hj => obtain rfl := Option.some.inj hj; exact fits_call d s h
      | _ + 1, hj => cases hj)
  · exact (fits_call d s h).up
theorem pass_nop (d : Nat) : passD (d + 1) nopL = nopL := by
  have h : kidsL (newN 20 0 [] []) = [] := kidsL_seg 0 20 0 [] [] (fun Y h => by cases h)
  unfold nopL
  rw [passD_new h]
  rfl
theorem pass_lit (d : Nat) (s : Txt) : passD (d + 1) [litN s] = [litN s] := by
  have h : kidsL (newN 1 0 s []) = [] := kidsL_seg 0 1 0 s [] (fun Y h => by cases h)
  rw [lit_new, passD_new h]
  rfl
theorem segs_of {d : Nat} {Ys : List (List Nd)} (h : ∀ Y ∈ Ys, ∃ w, Fits d w Y) : ∀ Y ∈ Ys, Seg d Y := fun Y hY => by
  obtain ⟨w, hf⟩ := h Y hY
  exact hf.seg
theorem pass_call (d : Nat) (s : Txt) (h : s.length ≤ 2000) : passD (d + 2) (callL s) = callL s := by
  have hk : kidsL (newN 21 0 [] [[litN s]]) = [[litN s]] := kidsL_seg (d + 1) 21 0 [] _ (segs_of (fun Y hY => by
    rw [List.mem_singleton] at hY
    subst hY
    exact ⟨true, fits_lit d s h⟩))
  unfold callL
  rw [passD_new hk, List.map_cons, List.map_nil, pass_lit]
  rfl
theorem pass_keep (d : Nat) (r : Int) (s : Txt) (h : s.length ≤ 2000) : passD (d + 3) (keepC r s) = keepC r s := by
  unfold keepC
  split
  · exact pass_nop (d + 2)
  split
  · have hk : kidsL (newN 33 2 [] [[litN s], nopL]) = [[litN s], nopL] := kidsL_seg (d + 2) 33 2 [] _ (segs_of (fun Y hY => by
      simp only [List.mem_cons, List.not_mem_nil, or_false] at hY
      rcases hY with rfl | rfl
      · exact ⟨true, fits_lit (d + 1) s h⟩
      · exact ⟨false, fits_nop (d + 1)⟩))
    rw [passD_new hk, List.map_cons, List.map_cons, List.map_nil, pass_lit, pass_nop]
    rfl
  split
  · have hk : kidsL (newN 32 0 [] [callL s, nopL]) = [callL s, nopL] := kidsL_seg (d + 2) 32 0 [] _ (segs_of (fun Y hY => by
      simp only [List.mem_cons, List.not_mem_nil, or_false] at hY
      rcases hY with rfl | rfl
      · exact ⟨false, fits_call d s h⟩
      · exact ⟨false, fits_nop (d + 1)⟩))
    rw [passD_new hk, List.map_cons, List.map_cons, List.map_nil, pass_call d s h, pass_nop]
    rfl
  split
  · have hk : kidsL (newN 31 0 [102] [callL s]) = [callL s] := kidsL_seg (d + 2) 31 0 [102] _ (segs_of (fun Y hY => by
      rw [List.mem_singleton] at hY
      subst hY
      exact ⟨false, fits_call d s h⟩))
    rw [passD_new hk, List.map_cons, List.map_nil, pass_call d s h]
    rfl
  · exact pass_call (d + 1) s h
theorem keep_kind (r : Int) (s : Txt) : kindOf (keepC r s) ≠ 23 ∧ (kindOf (keepC r s) = 20 ↔ r = 0) := by
  unfold keepC
  split
  · rename_i h; simp [nopL, kindOf_new, h]
  · rename_i h0
    refine ⟨?_, ⟨fun e => ?_, fun e => absurd e h0⟩⟩
    · repeat' split
      all_goals simp [kindOf_new, callL]
    · exfalso
      revert e
      repeat' split
      all_goals simp [kindOf_new, callL]
theorem keep_len (r : Int) (s : Txt) : 1 ≤ (keepC r s).length ∧ (keepC r s).length ≤ 4 := by
  unfold keepC
  repeat' split
  all_goals simp [nopL, callL, newN]
theorem flat_keep : ∀ (cs : List (List Nd)), (∀ C ∈ cs, C.length ≤ 4) → cs.flatten.length ≤ 4 * cs.length
  | [], _ => by simp
  | C :: r, h => by
    have h1 := h C (by simp)
    have h2 := flat_keep r (fun Z hZ => h Z (by simp [hZ]))
    rw [List.flatten_cons, List.length_append, List.length_cons]
    omega
theorem openK_none : ∀ (cs : List (List Nd)), (∀ C ∈ cs, kindOf C ≠ 23) → openK cs = cs
  | [], _ => rfl
  | C :: r, h => by
    have ih := openK_none r (fun Z hZ => h Z (by simp [hZ]))
    unfold openK at ih ⊢
    rw [List.flatMap_cons, ih, if_neg (h C (by simp))]
    rfl
/-- Commands of these kinds, at most thirty, one behind the other: passed, they are those that are kept. -/
theorem pass_keeps (cs : List (List Nd)) (hn : cs.length ≤ 30) (h : ∀ C ∈ cs, ∃ r s, C = keepC r s ∧ s.length ≤ 2000) : passL (seqC cs) = seqC (lastNop cs) ∧ (seqC cs).length ≤ 3000 ∧ ∀ x ∈ seqC cs, x.s.length ≤ 2000 ∧ x.k ≤ 3000 := by
  have hl : ∀ C ∈ cs, C.length ≤ 4 := fun C hC => by
    obtain ⟨r, s, rfl, _⟩ := h C hC
    exact (keep_len r s).2
  have hfl := flat_keep cs hl
  have hsl := seqC_len cs
  have hf : ∀ C ∈ cs, Fits 29 false C := fun C hC => by
    obtain ⟨r, s, rfl, hs⟩ := h C hC
    exact fits_keep 26 r s hs
  have hp : ∀ C ∈ cs, passD 29 C = C := fun C hC => by
    obtain ⟨r, s, rfl, hs⟩ := h C hC
    exact pass_keep 26 r s hs
  have hF : Fits 30 false (seqC cs) := by
    cases hc : cs with
    | nil => exact fits_nop 29
    | cons a b => rw [← hc]; exact seqC_fits hf (by rw [hc]; simp)
  have hck : checkL (seqC cs) = .fine := fits_fine _ hF (by omega)
  refine ⟨?_, by omega, fun x hx => ?_⟩
  · unfold passL
    rw [hck]
    match cs, h, hf, hp with
    | [], _, _, _ => exact pass_nop 29
    | [C], h, _, _ =>
      obtain ⟨r, s, rfl, hs⟩ := h C (by simp)
      exact pass_keep 27 r s hs
    | C :: D :: r, h, hf, hp =>
      have hk : kidsL (newN 23 0 [] (C :: D :: r)) = C :: D :: r := kidsL_seg 29 23 0 [] _ (fun Y hY => (hf Y hY).seg)
      show passD (29 + 1) (newN 23 0 [] (C :: D :: r)) = _
      rw [passD_new hk, List.map_congr_left hp, List.map_id']
      show seqD (C :: D :: r) = _
      unfold seqD
      rw [openK_none _ (fun Z hZ => by
        obtain ⟨r, s, rfl, _⟩ := h Z hZ
        exact (keep_kind r s).1)]
  · have hb := hF.bound x hx
    refine ⟨?_, by omega⟩
    have hxs : ∀ C ∈ cs, ∀ x ∈ C, x.s.length ≤ 2000 := fun C hC x hx => by
      obtain ⟨r, s, rfl, hs⟩ := h C hC
      unfold keepC at hx
      revert hx
      repeat' split
      all_goals
        simp only [nopL, callL, newN, litN, List.flatten_cons, List.flatten_nil, List.append_nil, List.mem_cons, List.not_mem_nil, or_false, List.cons_append, List.nil_append]
        rintro hx
        rcases hx with rfl | hx <;> first
          | (simp; done)
          | (rcases hx with rfl | rfl <;> simp <;> omega)
          | (rcases hx with rfl | rfl | rfl <;> simp <;> omega)
          | (subst hx; simp; omega)
    match cs, hxs with
    | [], _ => simp [seqC, nopL, newN] at hx; subst hx; simp
    | [C], hxs => exact hxs C (by simp) x hx
    | C :: D :: r, hxs =>
      rcases List.mem_cons.1 hx with rfl | hx
      · simp
      · obtain ⟨Y, hY, hxY⟩ := List.mem_flatten.1 hx
        exact hxs Y hY x hxY
end Go.Proofs.YtfakelaibijgkaaDoor
