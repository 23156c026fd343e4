/- Trees of nodes: their children, how deep they go, taken apart and put together. -/
import Derived.Test.YtfakelaibijgkaaDoorSeg
namespace Go.Proofs.YtfakelaibijgkaaDoor
open Go.RowKit

/-- Where lists begin that lie one behind the other. -/
def starts : Nat → List (List Nd) → List Nat
  | _, [] => []
  | p, Y :: Ys => p :: starts (p + Y.length) Ys
theorem plG_starts (l : List Nd) (d : Nat) (K fin : Int) : ∀ (Ys : List (List Nd)) (f k at_ : Nat) (R : List Nd), (∀ Y ∈ Ys, Seg d Y) → K = ((k + Ys.length : Nat) : Int) → fin = ((at_ + Ys.flatten.length : Nat) : Int) → l.drop at_ = Ys.flatten ++ R → Ys.length < f → plG l K fin f k at_ = starts at_ Ys
  | [], f, k, at_, R, _, hK, _, _, hf => plG_stop l K fin f k at_ (Or.inl (by rw [hK]; simp))
  | Y :: Ys, 0, k, at_, R, _, _, _, _, hf => by simp at hf
  | Y :: Ys, f + 1, k, at_, R, hs, hK, hfin, hl, hf => by
    obtain ⟨y, hy, hsz, h1⟩ := (hs Y (by simp)).head
    have hget : l[at_]? = some y := by
      have : (l.drop at_)[0]? = some y := by
        rw [hl, List.flatten_cons, List.append_assoc, List.getElem?_append_left (by omega)]
        exact hy
      simpa [List.getElem?_drop] using this
    rw [List.flatten_cons, List.length_append] at hfin
    rw [List.length_cons] at hK hf
    rw [plG_more l K fin f k at_ y (by omega) (by omega) hget (by omega), starts, hsz, Int.toNat_natCast]
    rw [plG_starts l d K fin Ys f (k + 1) (at_ + Y.length) R (fun Z hZ => hs Z (by simp [hZ])) (by omega) (by omega) ?_ (by omega)]
    rw [← List.drop_drop, hl, List.flatten_cons, List.append_assoc, List.drop_left]
/-- The children of a tree, wherever it stands. -/
theorem kidPl_seg (l : List Nd) (d i : Nat) (kind n : Int) (s : Txt) (Ys : List (List Nd)) (R : List Nd) (h : ∀ Y ∈ Ys, Seg d Y) (hl : l.drop i = newN kind n s Ys ++ R) : kidPl l i = starts (i + 1) Ys := by
  have hlen := congrArg List.length hl
  simp only [List.length_drop, newN, List.length_append, List.length_cons] at hlen
  have hget : l[i]? = some ⟨kind, n, Ys.length, Ys.flatten.length + 1, s⟩ := by
    have : (l.drop i)[0]? = some ⟨kind, n, Ys.length, Ys.flatten.length + 1, s⟩ := by rw [hl]; rfl
    simpa [List.getElem?_drop] using this
  rw [kidPl_eq l i _ hget]
  have hge : Ys.length ≤ Ys.flatten.length := by
    clear hl hlen hget
    induction Ys with
    | nil => simp
    | cons Y Ys ih =>
      have := ih (fun Z hZ => h Z (by simp [hZ]))
      obtain ⟨y, _, _, h1⟩ := (h Y (by simp)).head
      rw [List.flatten_cons, List.length_append, List.length_cons]
      omega
  refine plG_starts l d _ _ Ys (l.length + 1) 0 (i + 1) R h (by simp) ?_ ?_ (by omega)
  · unfold finOf
    simp only
    omega
  · rw [← List.drop_drop, hl]
    rfl
/-! ### how deep -/
theorem setAll_other (v : Int) (j : Nat) : ∀ (ps : List Nat) (D : List Int), j ∉ ps → (setAll v ps D)[j]? = D[j]?
  | [], _, _ => rfl
  | p :: ps, D, h => by
    rw [setAll, setAll_other v j ps _ (fun e => h (by simp [e])), List.getElem?_set_ne (fun e => h (by simp [e]))]
theorem setAll_same (v : Int) (j : Nat) : ∀ (ps : List Nat) (D : List Int), j ∈ ps → j < D.length → (setAll v ps D)[j]? = some v
  | [], _, h, _ => by simp at h
  | p :: ps, D, h, hl => by
    rw [setAll]
    by_cases hm : j ∈ ps
    · exact setAll_same v j ps _ hm (by rw [List.length_set]; exact hl)
    · rw [setAll_other v j ps _ hm]
      have : j = p := by
        rcases List.mem_cons.1 h with e | e
        · exact e
        · exact absurd e hm
      subst this
      exact List.getElem?_set_self hl
theorem starts_ge : ∀ (Ys : List (List Nd)) (p q : Nat), q ∈ starts p Ys → p ≤ q
  | [], _, _, h => by simp [starts] at h
  | Y :: Ys, p, q, h => by
    rcases List.mem_cons.1 h with rfl | h
    · exact Nat.le_refl _
    · have := starts_ge Ys _ q h
      omega
theorem starts_lt (d : Nat) : ∀ (Ys : List (List Nd)) (p q : Nat), (∀ Y ∈ Ys, Seg d Y) → q ∈ starts p Ys → q < p + Ys.flatten.length
  | [], _, _, _, h => by simp [starts] at h
  | Y :: Ys, p, q, hs, h => by
    obtain ⟨y, _, _, h1⟩ := (hs Y (by simp)).head
    rw [List.flatten_cons, List.length_append]
    rcases List.mem_cons.1 h with rfl | h
    · omega
    · have := starts_lt d Ys _ q (fun Z hZ => hs Z (by simp [hZ])) h
      omega
/-- What going through a tree at a place leaves behind. -/
def DepSeg (l : List Nd) (d : Nat) (Y : List Nd) : Prop := ∀ (i f : Nat) (e : Int) (D : List Int) (R : List Nd), l.drop i = Y ++ R → D.length = l.length → D[i]? = some e → 1 ≤ e → i + f = l.length →
  ∃ D', depG l f i D = depG l (f - Y.length) (i + Y.length) D' ∧ D'.length = l.length ∧ (∀ j, j < i ∨ i + Y.length ≤ j → D'[j]? = D[j]?) ∧ (∀ j c, i ≤ j → j < i + Y.length → D'[j]? = some c → c ≤ e + d - 1)
theorem dep_kids (l : List Nd) (d : Nat) (e : Int) (he : 1 ≤ e) : ∀ (Ys : List (List Nd)) (at_ f : Nat) (D : List Int) (R : List Nd), (∀ Y ∈ Ys, DepSeg l d Y ∧ Seg d Y) → l.drop at_ = Ys.flatten ++ R → D.length = l.length → (∀ q ∈ starts at_ Ys, D[q]? = some e) → at_ + f = l.length →
    ∃ D', depG l f at_ D = depG l (f - Ys.flatten.length) (at_ + Ys.flatten.length) D' ∧ D'.length = l.length ∧ (∀ j, j < at_ ∨ at_ + Ys.flatten.length ≤ j → D'[j]? = D[j]?) ∧ (∀ j c, at_ ≤ j → j < at_ + Ys.flatten.length → D'[j]? = some c → c ≤ e + d - 1)
  | [], at_, f, D, R, _, _, hD, _, hf => ⟨D, by simp, hD, fun _ _ => rfl, fun j c h1 h2 => by simp at h2; omega⟩
  | Y :: Ys, at_, f, D, R, hs, hl, hD, hst, hf => by
    obtain ⟨y, _, _, h1⟩ := (hs Y (by simp)).2.head
    have hlen := congrArg List.length hl
    simp only [List.length_drop, List.flatten_cons, List.length_append] at hlen
    obtain ⟨D1, a1, a2, a3, a4⟩ := (hs Y (by simp)).1 at_ f e D (Ys.flatten ++ R) (by rw [hl, List.flatten_cons, List.append_assoc]) hD (hst at_ (by simp [starts])) he hf
    obtain ⟨D2, b1, b2, b3, b4⟩ := dep_kids l d e he Ys (at_ + Y.length) (f - Y.length) D1 R (fun Z hZ => hs Z (by simp [hZ])) (by rw [← List.drop_drop, hl, List.flatten_cons, List.append_assoc, List.drop_left]) a2 (fun q hq => by
      have := starts_ge Ys _ q hq
      rw [a3 q (by omega)]
      exact hst q (by simp [starts, hq])) (by omega)
    refine ⟨D2, ?_, b2, fun j hj => ?_, fun j c hj1 hj2 hc => ?_⟩
    · rw [a1, b1, List.flatten_cons, List.length_append]
      congr 1 <;> omega
    · rw [List.flatten_cons, List.length_append] at hj
      rw [b3 j (by omega), a3 j (by omega)]
    · rw [List.flatten_cons, List.length_append] at hj2
      by_cases hj : j < at_ + Y.length
      · rw [b3 j (by omega)] at hc
        exact a4 j c hj1 hj hc
      · exact b4 j c (by omega) (by omega) hc
theorem dep_seg (l : List Nd) {d : Nat} {Y : List Nd} (h : Seg d Y) : DepSeg l d Y := by
  induction h with
  | mk d kind n s Ys hs ih =>
    intro i f e D R hl hD hi he hf
    have hlen := congrArg List.length hl
    have hnl : (newN kind n s Ys).length = Ys.flatten.length + 1 := by simp [newN]
    rw [List.length_drop, List.length_append, hnl] at hlen
    obtain ⟨f', rfl⟩ : ∃ f', f = f' + 1 := ⟨f - 1, by omega⟩
    have hk := kidPl_seg l d i kind n s Ys R hs hl
    have hstep : depG l (f' + 1) i D = depG l f' (i + 1) (setAll (e + 1) (starts (i + 1) Ys) D) := by
      rw [depG, hi]
      simp only
      rw [if_neg (by omega), hk]
    have hl1 : l.drop (i + 1) = Ys.flatten ++ R := by rw [← List.drop_drop, hl]; rfl
    obtain ⟨D1, b1, b2, b3, b4⟩ := dep_kids l d (e + 1) (by omega) Ys (i + 1) f' (setAll (e + 1) (starts (i + 1) Ys) D) R (fun Y hY => ⟨ih Y hY, hs Y hY⟩) hl1 (by rw [setAll_len]; exact hD) (fun q hq => setAll_same _ q _ _ hq (by
      have := starts_lt d Ys _ q hs hq
      omega)) (by omega)
    refine ⟨D1, ?_, b2, fun j hj => ?_, fun j c hj1 hj2 hc => ?_⟩
    · rw [hstep, b1, hnl]
      congr 1 <;> omega
    · rw [hnl] at hj
      rw [b3 j (by omega), setAll_other]
      intro hm
      have := starts_ge Ys _ j hm
      have := starts_lt d Ys _ j hs hm
      omega
    · rw [hnl] at hj2
      by_cases hj : j = i
      · subst hj
        rw [b3 j (by omega), setAll_other _ _ _ _ (fun hm => by have := starts_ge Ys _ j hm; omega), hi] at hc
        cases hc
        omega
      · have := b4 j c (by omega) (by omega) hc
        omega
theorem maxL_le (b : Int) : ∀ (l : List Int) (m : Int), m ≤ b → (∀ x ∈ l, x ≤ b) → maxL m l ≤ b
  | [], m, h, _ => h
  | x :: l, m, h, hx => maxL_le b l _ (Int.max_le.2 ⟨h, hx x (by simp)⟩) (fun y hy => hx y (by simp [hy]))
theorem maxOf_le (b : Int) (l : List Int) (hb : 0 ≤ b) (h : ∀ x ∈ l, x ≤ b) : maxOf l ≤ b := by
  cases l with
  | nil => exact hb
  | cons x l => exact maxL_le b l x (h x (by simp)) (fun y hy => h y (by simp [hy]))
theorem depG_ok (X : List Nd) : ∀ (f i : Nat) (D : List Int), DepOk D → D.length = X.length → DepOk (depG X f i D) ∧ (depG X f i D).length = X.length
  | 0, _, _, h, hl => ⟨h, hl⟩
  | f + 1, i, D, h, hl => by
    unfold depG
    split
    · exact ⟨h, hl⟩
    · rename_i d hd
      split
      · exact depG_ok X f (i + 1) D h hl
      · have := h i d hd
        refine depG_ok X f (i + 1) _ (DepOk.all (by omega) _ _ h (fun p hp => ?_)) (by rw [setAll_len]; exact hl)
        have := kidPl_bounds X i p hp
        omega
/-- A tree of d storeys at most is as deep at most, and has as many nodes. -/
theorem depth_seg (l : List Nd) (d : Nat) (h : Seg d l) : depthL l ≤ d ∧ depthL l ≤ l.length := by
  obtain ⟨y, _, _, h1⟩ := h.head
  unfold depthL
  rw [if_neg (by omega)]
  obtain ⟨D', e1, e2, e3, e4⟩ := dep_seg l h 0 l.length 1 (dep0 l.length) [] (by simp) (dep0_len _ (by omega)) rfl (by decide) (by omega)
  rw [Nat.sub_self, depG] at e1
  refine ⟨?_, maxOf_le _ _ (by omega) (fun x hx => ?_)⟩
  · rw [e1]
    refine maxOf_le _ _ (by omega) (fun x hx => ?_)
    obtain ⟨j, hj, rfl⟩ := List.getElem_of_mem hx
    have := e4 j _ (by omega) (by omega) (List.getElem?_eq_getElem hj)
    omega
  · have hok := depG_ok l l.length 0 (dep0 l.length) (dep0_ok _) (dep0_len _ (by omega))
    obtain ⟨j, hj, rfl⟩ := List.getElem_of_mem hx
    have := hok.1 j _ (List.getElem?_eq_getElem hj)
    omega
/-! ### taken apart, put together -/
def segAt (X : List Nd) (p : Nat) : List Nd := match X[p]? with
  | none => []
  | some y => (X.drop p).take y.size.toNat
def kidsL (X : List Nd) : List (List Nd) := (kidPl X 0).map (segAt X)
def againL : Nat → List Nd → List Nd
  | 0, _ => []
  | _ + 1, [] => []
  | d + 1, x :: X => newN x.kind x.n x.s ((kidsL (x :: X)).map (againL d))
theorem segs_starts (l : List Nd) (d : Nat) : ∀ (Ys : List (List Nd)) (at_ : Nat) (R : List Nd), (∀ Y ∈ Ys, Seg d Y) → l.drop at_ = Ys.flatten ++ R → (starts at_ Ys).map (segAt l) = Ys
  | [], _, _, _, _ => rfl
  | Y :: Ys, at_, R, hs, hl => by
    obtain ⟨y, hy, hsz, h1⟩ := (hs Y (by simp)).head
    have hget : l[at_]? = some y := by
      have : (l.drop at_)[0]? = some y := by
        rw [hl, List.flatten_cons, List.append_assoc, List.getElem?_append_left (by omega)]
        exact hy
      simpa [List.getElem?_drop] using this
    rw [starts, List.map_cons, segs_starts l d Ys (at_ + Y.length) R (fun Z hZ => hs Z (by simp [hZ])) (by rw [← List.drop_drop, hl, List.flatten_cons, List.append_assoc, List.drop_left])]
    congr 1
    unfold segAt
    rw [hget]
    simp only
    rw [hsz, Int.toNat_natCast, hl, List.flatten_cons, List.append_assoc, List.take_left]
theorem kidsL_seg (d : Nat) (kind n : Int) (s : Txt) (Ys : List (List Nd)) (h : ∀ Y ∈ Ys, Seg d Y) : kidsL (newN kind n s Ys) = Ys := by
  unfold kidsL
  rw [kidPl_seg (newN kind n s Ys) d 0 kind n s Ys [] h (by simp)]
  exact segs_starts _ d Ys (0 + 1) [] h (by simp [newN])
theorem again_seg {d : Nat} {X : List Nd} (h : Seg d X) : againL d X = X := by
  induction h with
  | mk d kind n s Ys hs ih =>
    have hk := kidsL_seg d kind n s Ys hs
    unfold newN at hk ⊢
    rw [againL, hk]
    have : Ys.map (againL d) = Ys := by
      conv => rhs; rw [← List.map_id Ys]
      exact List.map_congr_left (fun Y hY => ih Y hY)
    rw [this]
    rfl
theorem again_fine (l : List Nd) (h : checkL l = .fine) : againL 30 l = l ∧ depthL l ≤ 30 ∧ depthL l ≤ l.length := by
  have hs := (seg_of_fine l h).1
  exact ⟨again_seg hs, (depth_seg l 30 hs).1, (depth_seg l 30 hs).2⟩
end Go.Proofs.YtfakelaibijgkaaDoor
