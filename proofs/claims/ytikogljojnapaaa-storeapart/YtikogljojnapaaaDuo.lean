/- Both stores, side by side; do they say the same. -/
import Derived.Test.YtikogljojnapaaaRFun
import Derived.Test.YtikogljojnapaaaSameV
namespace Go.Proofs.Ytikogljojnapaaa
open Go.RowKit

/-- Little enough. -/
structure Fit (F : Vps) (H : Fps) (n : Nat) : Prop where
  fl : F.length ≤ n
  hl : H.length ≤ n
  fs : ∀ p ∈ F, p.1.length ≤ maxLen ∧ p.2.length ≤ 20
  hs : ∀ p ∈ H, p.1.length ≤ maxLen ∧ p.2.length ≤ 20
/-- Both stores: the one says what the other does. -/
def Duo (W : World) (K : Nat → Prop) (sb vb fb xb : Nat) (F : Vps) (H : Fps) : Prop :=
  ∃ V G vv av fv P A Q, Sto W K sb vb fb V G ∧ Rs W K xb vv av fv P A Q ∧ cont V = F ∧ cont G = H ∧ cont P = noStar F ∧ A = getM F star [] ∧ cont Q = H ∧ hasM F star = true
theorem noStar_del {α : Type} (F : List (Txt × α)) : noStar F = delM F star := rfl
theorem noStar_get {α : Type} (F : List (Txt × α)) (k : Txt) (z : α) (h : ¬ k = star) : getM (noStar F) k z = getM F k z := by
  unfold getM
  rw [noStar_del, find_delM_other F star k (by simpa using h)]
theorem noStar_has {α : Type} (F : List (Txt × α)) (k : Txt) (h : ¬ k = star) : hasM (noStar F) k = hasM F k := by
  rw [hasM_find, hasM_find, noStar_del, find_delM_other F star k (by simpa using h)]
variable {W W' : World} {K K' S : Nat → Prop} {sb vb fb xb : Nat} {vv av fv : Value} {V P : Vrs} {A : List Txt} {G Q : Fns} {F : Vps} {H : Fps}
theorem rget_eq (hP : cont P = noStar F) (hA : A = getM F star []) (hs : hasM F star = true) (k : Txt) : rgetL P A k = getM F k [] ∧ rgetB P k = hasM F k := by
  unfold rgetL rgetB
  by_cases h : k = star
  · subst h
    rw [if_pos rfl, if_pos rfl, hA, hs]
    exact ⟨rfl, rfl⟩
  · rw [if_neg h, if_neg h, ← cont_has, hP, noStar_has F k h]
    refine ⟨?_, rfl⟩
    have := cont_get P k (.slice none 0 0) []
    rw [hP, noStar_get F k [] h] at this
    exact this.symm
theorem Rs.va (h : Rs W K xb vv av fv P A Q) : VaAt W vv P := by
  refine ⟨RowAt.owned (e := 34) (B := 0) ?_ (fun cs hcs => ?_), fun p hp => (h.vt p hp).tx⟩
  · rw [List.length_map, prCs_flat]
    exact h.vr
  · obtain ⟨p, _, rfl⟩ := List.mem_map.1 hcs
    rfl
theorem getM_small {F : Vps} (h : ∀ p ∈ F, p.1.length ≤ maxLen ∧ p.2.length ≤ 20) (k : Txt) : (getM F k []).length ≤ 20 := by
  cases e : hasM F k with
  | false => rw [getM_none e]; simp
  | true => exact (h _ (getM_mem (z := []) e)).2
theorem getM_smallF {H : Fps} (h : ∀ p ∈ H, p.1.length ≤ maxLen ∧ p.2.length ≤ 20) (k : Txt) : (getM H k []).length ≤ 20 := by
  cases e : hasM H k with
  | false => rw [getM_none e]; simp
  | true => exact (h _ (getM_mem (z := []) e)).2
theorem cont_mem {α : Type} {X : List (Txt × Value × α)} {p : Txt × Value × α} (hp : p ∈ X) : (p.1, p.2.2) ∈ cont X := List.mem_map.2 ⟨p, hp, rfl⟩
def Told2 (xb : Nat) (a b : Value) (W : World) : Prop := W.cell? ⟨xb, 0, none⟩ = some a ∧ W.cell? ⟨xb, 1, none⟩ = some b
def Told4 (xb gf a gq b : Nat) (v : Value) (x y : Txt) (W : World) : Prop := W.cell? ⟨xb, 2, none⟩ = some v ∧ W.cell? ⟨gf, a, none⟩ = some (str x) ∧ W.cell? ⟨gq, b, none⟩ = some (str y)
set_option maxRecDepth 100000 in
set_option maxHeartbeats 8000000 in
theorem same_any (h : Duo W K sb vb fb xb F H) (hf : Fit F H 1000) (k : Txt) (hk : k.length ≤ maxLen) :
    Calls Try.prog 10 #[sP sb, xP xb, str k] W fun e w' => e = .returned (.bool true) ∧ Below W.heap.size W w' := by
  obtain ⟨V, G, vv, av, fv, P, A, Q, hS, hR, hV, hG, hP, hA, hQ, hst⟩ := h
  have HSB : Hid (∀ W', Below W.heap.size W W' → Sto W' K sb vb fb V G) := fun W' hb => hS.below hb
  have HRB : Hid (∀ W', Below W.heap.size W W' → Rs W' K xb vv av fv P A Q) := fun W' hb => hR.below hb
  have hVl : V.length = F.length := by rw [← hV, cont_length]
  have hGl : G.length = H.length := by rw [← hG, cont_length]
  have hPl : P.length ≤ F.length := by rw [← cont_length, hP]; exact length_delM _ _
  have hQl : Q.length = H.length := by rw [← hQ, cont_length]
  have HVL : Hid (V.length < 4294967296) := by unfold Hid; have := hf.fl; omega
  have HGL : Hid (G.length < 4294967296) := by unfold Hid; have := hf.hl; omega
  have HPL : Hid (P.length < 4294967296 ∧ Q.length < 4294967296) := by unfold Hid; have := hf.fl; have := hf.hl; omega
  have HVN : Hid (∀ p ∈ V, p.1.length ≤ maxLen) := fun p hp => (hf.fs _ (by rw [← hV]; exact cont_mem hp)).1
  have HCV : Hid (noStar (cont V) = noStar F) := by unfold Hid; rw [hV]
  have HCP : Hid (cont P = noStar F) := hP
  have HYL : Hid (∀ Y : Vrs, cont Y = cont P → Y.length < 4294967296 ∧ ∀ p ∈ Y, p.2.2.length < 4294967296) := fun Y hY => by
    refine ⟨by rw [← cont_length, hY, cont_length]; exact HPL.out.1, fun p hp => ?_⟩
    have h1 := cont_mem hp
    rw [hY, hP] at h1
    have h2 : p.2.2.length ≤ 20 := (hf.fs _ (mem_delM h1)).2
    omega
  have HVA : Hid (∀ W', Below W.heap.size W W' → VaAt W' vv P) := fun W' hb => (hR.below hb).va
  have HST : Hid (∀ W', Below W.heap.size W W' → Told2 xb vv av W') := fun W' hb => ⟨(hR.below hb).xc.cell 0, (hR.below hb).xc.cell 1⟩
  obtain ⟨r1, r2⟩ := rget_eq hP hA hst k
  have HBT : Hid (∀ W', Below W.heap.size W W' → Tx W' (rgetV P av k) (getM F k [])) := fun W' hb => by rw [← r1]; exact (hR.below hb).got k
  have HLT : Hid (∀ W', Below W.heap.size W W' → Tx W' av (getM F star [])) := fun W' hb => by rw [← hA]; exact (hR.below hb).ar.tx
  have HAS : Hid ((getM V star nilT).2 = getM F star []) := by unfold Hid; rw [← hV, cont_get V star (.slice none 0 0) []]
  have HQT : Hid (∀ W', Below W.heap.size W W' → NdAt W' (getM Q k nilN).1 (getM H k [])) := fun W' hb => by
    have := (hR.below hb).gotF k
    rw [← cont_get Q k (.slice none 0 0) [], hQ] at this
    exact this
  have HG1 : Hid (Calls Try.prog 14 #[sP sb, str k] W fun e w' => ∃ v', e = .returned (.tuple #[v', .bool (hasM F k)]) ∧ w'.ownsRow W.heap.size 9 1 v' (getM F k []).length (txV (getM F k [])) ∧ Below W.heap.size W w') := by
    have := get_any hS k hk
    rw [← cont_has, ← cont_get V k (.slice none 0 0) [], hV] at this
    exact this
  have HG2 : Hid (∀ W', Below W.heap.size W W' → Calls Try.prog 27 #[xP xb, str k] W' fun e w' => e = .returned (.tuple #[rgetV P av k, .bool (hasM F k)]) ∧ w' = W') := fun W' hb => by
    have := rget_any (hR.below hb) k HPL.out.1
    rw [r2] at this
    exact this
  have HG3 : Hid (∀ W', Below W.heap.size W W' → Calls Try.prog 16 #[fP sb, str k] W' fun e w' => ∃ v', e = .returned (.tuple #[v', .bool (hasM H k)]) ∧ NdOwn w' W'.heap.size v' (getM H k []) ∧ Below W'.heap.size W' w') := fun W' hb => by
    have := fun_any (hS.below hb) k hk
    rw [← cont_has, ← cont_get G k (.slice none 0 0) [], hG] at this
    exact this
  have HG4 : Hid (∀ W', Below W.heap.size W W' → Calls Try.prog 28 #[xP xb, str k] W' fun e w' => e = .returned (.tuple #[(getM Q k nilN).1, .bool (hasM H k)]) ∧ w' = W') := fun W' hb => by
    have := rfun_any (hR.below hb) k HPL.out.2
    rw [← cont_has Q, hQ] at this
    exact this
  have HG5 : Hid (∀ W', Below W.heap.size W W' → Calls Try.prog 15 #[fP sb] W' fun e w' => ∃ v', e = .returned v' ∧ w'.ownsRow W'.heap.size 9 1 v' (H.map Prod.fst).length (txV (H.map Prod.fst)) ∧ Below W'.heap.size W' w') := fun W' hb => by
    have := funs_any (hS.below hb) HGL.out
    rw [← cont_names, hG] at this
    exact this
  have HQR : Hid (∀ W', Below W.heap.size W W' → W'.cell? ⟨xb, 2, none⟩ = some fv ∧ ∀ (i : Nat) (q : Txt × List Nd), H[i]? = some q → ∃ g cap, fv = .slice (some ⟨g, 0, none⟩) H.length cap ∧ W'.cell? ⟨g, i * 2, none⟩ = some (str q.1)) := fun W' hb => by
    refine ⟨(hR.below hb).xc.cell 2, fun i q hq => ?_⟩
    rw [← hQ] at hq
    unfold cont at hq
    rw [List.getElem?_map] at hq
    cases e : Q[i]? with
    | none => rw [e] at hq; simp at hq
    | some p =>
      rw [e] at hq
      cases hq
      obtain ⟨g, cap, hv, d0, _⟩ := (hR.below hb).fun_row e
      rw [hQl] at hv
      exact ⟨g, cap, hv, d0⟩
  obtain ⟨adq0, capq0, hfv⟩ : ∃ ad cap, fv = .slice ad H.length cap := by
    obtain ⟨ad, cap, hv⟩ := owns_slice hR.fr
    exact ⟨ad, cap, by rw [hv, hQl]⟩
  have hla := getM_small hf.fs k
  have hlA := getM_small hf.fs star
  have hlp := getM_smallF hf.hs k
  have hHl := hf.hl
  clear hS hR hV hG hP hA hQ hst hVl hGl hPl hQl hf r1 r2
  generalize getM F k [] = La at *
  generalize getM F star [] = LA at *
  generalize getM H k [] = Lp at *
  generalize hasM F k = ba at *
  generalize hasM H k = bf at *
  generalize rgetV P av k = rv at *
  generalize (getM Q k nilN).1 = rq at *
  go_enter Try.func10, Try.ntmps10
  go_wp2_with fail
  refine Calls.mono HG1.out ?_
  rintro e w1 ⟨va, rfl, hoa, hb1⟩
  have HAT : Hid (∀ W', Below w1.heap.size w1 W' → Tx W' va La) := fun W' hb => (Tx.owned hoa).below hb (Nat.le_refl _)
  clear hoa
  go_wp2_with fail
  refine Calls.mono (HG2.out _ hb1) ?_
  rintro e w2 ⟨rfl, hw2⟩
  obtain rfl := hw2.symm
  go_wp2_with fail
  refine Calls.mono (HG3.out _ hb1) ?_
  rintro e w3 ⟨vp, rfl, hop, hb3⟩
  have hB3 : Below W.heap.size W w3 := hb1.trans (hb3.mono hb1.size)
  have HPT : Hid (∀ W', Below w3.heap.size w3 W' → NdAt W' vp Lp) := fun W' hb => hop.at.below hb (Nat.le_refl _)
  clear hop
  go_wp2_with fail
  refine Calls.mono (HG4.out _ hB3) ?_
  rintro e w4 ⟨rfl, hw4⟩
  obtain rfl := hw4.symm
  go_upto_region 5 with fail
  have up : ∀ {X : World}, Below w3.heap.size w3 X → Below W.heap.size W X := fun hb => hB3.trans (hb.mono hB3.size)
  have HUP : Hid (∀ X, Below w3.heap.size w3 X → Below W.heap.size W X) := fun X hb => up hb
  have HAT : Hid (∀ W', Below w3.heap.size w3 W' → Tx W' va La) := fun W' hb => HAT.out _ (hb3.trans (hb.mono hb3.size))
  have HBT : Hid (∀ W', Below w3.heap.size w3 W' → Tx W' rv La) := fun W' hb => HBT.out _ (up hb)
  have HQT : Hid (∀ W', Below w3.heap.size w3 W' → NdAt W' rq Lp) := fun W' hb => HQT.out _ (up hb)
  have HSB : Hid (∀ W', Below w3.heap.size w3 W' → Sto W' K sb vb fb V G) := fun W' hb => HSB.out _ (up hb)
  have HST : Hid (∀ W', Below w3.heap.size w3 W' → Told2 xb vv av W') := fun W' hb => HST.out _ (up hb)
  have HLT : Hid (∀ W', Below w3.heap.size w3 W' → Tx W' av LA) := fun W' hb => HLT.out _ (up hb)
  have HVA : Hid (∀ W', Below w3.heap.size w3 W' → VaAt W' vv P) := fun W' hb => HVA.out _ (up hb)
  clear up hB3 hb3
  have hb5 : Below w3.heap.size w3 (World.drew w3) := (Below.refl _ w3).drew
  refine wp_region_held (S := Told2 xb vv av) (by kernel_rfl) ?_
  change wpAnyH _ _ _ _ _ _ _ _ (World.drew _)
  have hS0 := HST.out _ hb5
  refine wpAnyH_take (i := 0) (v := .bool ba) rfl (by kernel_rfl) (by kernel_rfl) (by kernel_rfl) (fun _ _ _ h => h) (Yields.yieldsIf (Or.inl ⟨by rfl, by intro wz; go_simp⟩)) hS0 ?_
  try simp only [Act.put, List.getElem_toArray, List.getElem_cons_zero, List.setIfInBounds_toArray, List.set_cons_zero, List.set_cons_succ]
  refine wpAnyH_take (i := 1) (v := .bool ba) rfl (by kernel_rfl) (by kernel_rfl) (by kernel_rfl) (fun _ _ _ h => h) (Yields.yieldsIf (Or.inl ⟨by rfl, by intro wz; go_simp⟩)) hS0 ?_
  try simp only [Act.put, List.getElem_toArray, List.getElem_cons_succ, List.getElem_cons_zero, List.setIfInBounds_toArray, List.set_cons_zero, List.set_cons_succ]
  refine wpAnyH_take (i := 2) (v := .bool false) rfl (by kernel_rfl) (by kernel_rfl) (by kernel_rfl) (fun _ _ _ h => h) (Yields.yieldsIf (Or.inl ⟨by rfl, by intro wz; go_simp⟩)) hS0 ?_
  try simp only [Act.put, List.getElem_toArray, List.getElem_cons_succ, List.getElem_cons_zero, List.setIfInBounds_toArray, List.set_cons_zero, List.set_cons_succ]
  refine wpAnyH_take (i := 3) (v := .bool false) rfl (by kernel_rfl) (by kernel_rfl) (by kernel_rfl) (fun _ _ _ h => h) (Yields.yieldsIf (Or.inl ⟨by rfl, by intro wz; go_simp⟩)) hS0 ?_
  try simp only [Act.put, List.getElem_toArray, List.getElem_cons_succ, List.getElem_cons_zero, List.setIfInBounds_toArray, List.set_cons_zero, List.set_cons_succ]
  refine wpAnyH_take (i := 4) (v := va) rfl (by kernel_rfl) (by kernel_rfl) (by kernel_rfl) (fun _ _ _ h => h) (Yields.yieldsIf (Or.inl ⟨by rfl, by intro wz; go_simp⟩)) hS0 ?_
  try simp only [Act.put, List.getElem_toArray, List.getElem_cons_succ, List.getElem_cons_zero, List.setIfInBounds_toArray, List.set_cons_zero, List.set_cons_succ]
  refine wpAnyH_take (i := 5) (v := rv) rfl (by kernel_rfl) (by kernel_rfl) (by kernel_rfl) (fun _ _ _ h => h) (Yields.yieldsIf (Or.inl ⟨by rfl, by intro wz; go_simp⟩)) hS0 ?_
  try simp only [Act.put, List.getElem_toArray, List.getElem_cons_succ, List.getElem_cons_zero, List.setIfInBounds_toArray, List.set_cons_zero, List.set_cons_succ]
  refine wpAnyH_ready (rs := [6]) (by kernel_rfl) (by simp) ?_
  refine AllReadyH.cons rfl (fun K' hK => ?_) AllReadyH.nil
  go_simp
  refine (sameTexts_any va rv La La _ (HAT.out _ hb5) (HBT.out _ hb5) (by omega) (by omega)).mono ?_
  rintro e w6 ⟨rfl, hb6'⟩
  have hb6 := hb5.trans (hb6'.mono hb5.size)
  clear hb6'
  rw [show decide (La = La) = true from decide_eq_true rfl]
  have hSn := HST.out _ hb6
  refine hK.out _ _ hSn (fun _ => ?_)
  clear hK K' hS0
  have hS0 := hSn
  clear hSn
  try simp only [Act.put, List.getElem_toArray, List.getElem_cons_succ, List.getElem_cons_zero, List.setIfInBounds_toArray, List.set_cons_zero, List.set_cons_succ]
  refine wpAnyH_take (i := 7) (v := .bool false) rfl (by kernel_rfl) (by kernel_rfl) (by kernel_rfl) (fun _ _ _ h => h) (Yields.yieldsIf (Or.inl ⟨by rfl, by intro wz; go_simp⟩)) hS0 ?_
  try simp only [Act.put, List.getElem_toArray, List.getElem_cons_succ, List.getElem_cons_zero, List.setIfInBounds_toArray, List.set_cons_zero, List.set_cons_succ]
  refine wpAnyH_take (i := 8) (v := .bool false) rfl (by kernel_rfl) (by kernel_rfl) (by kernel_rfl) (fun _ _ _ h => h) (Yields.yieldsIf (Or.inl ⟨by rfl, by intro wz; go_simp⟩)) hS0 ?_
  try simp only [Act.put, List.getElem_toArray, List.getElem_cons_succ, List.getElem_cons_zero, List.setIfInBounds_toArray, List.set_cons_zero, List.set_cons_succ]
  refine wpAnyH_take (i := 9) (v := .bool false) rfl (by kernel_rfl) (by kernel_rfl) (by kernel_rfl) (fun _ _ _ h => h) (Yields.yieldsIf (Or.inl ⟨by rfl, by intro wz; go_simp⟩)) hS0 ?_
  try simp only [Act.put, List.getElem_toArray, List.getElem_cons_succ, List.getElem_cons_zero, List.setIfInBounds_toArray, List.set_cons_zero, List.set_cons_succ]
  refine wpAnyH_take (i := 10) (v := .bool bf) rfl (by kernel_rfl) (by kernel_rfl) (by kernel_rfl) (fun _ _ _ h => h) (Yields.yieldsIf (Or.inl ⟨by rfl, by intro wz; go_simp⟩)) hS0 ?_
  try simp only [Act.put, List.getElem_toArray, List.getElem_cons_succ, List.getElem_cons_zero, List.setIfInBounds_toArray, List.set_cons_zero, List.set_cons_succ]
  refine wpAnyH_take (i := 11) (v := .bool bf) rfl (by kernel_rfl) (by kernel_rfl) (by kernel_rfl) (fun _ _ _ h => h) (Yields.yieldsIf (Or.inl ⟨by rfl, by intro wz; go_simp⟩)) hS0 ?_
  try simp only [Act.put, List.getElem_toArray, List.getElem_cons_succ, List.getElem_cons_zero, List.setIfInBounds_toArray, List.set_cons_zero, List.set_cons_succ]
  refine wpAnyH_take (i := 12) (v := .bool false) rfl (by kernel_rfl) (by kernel_rfl) (by kernel_rfl) (fun _ _ _ h => h) (Yields.yieldsIf (Or.inl ⟨by rfl, by intro wz; go_simp⟩)) hS0 ?_
  try simp only [Act.put, List.getElem_toArray, List.getElem_cons_succ, List.getElem_cons_zero, List.setIfInBounds_toArray, List.set_cons_zero, List.set_cons_succ]
  refine wpAnyH_take (i := 13) (v := .bool false) rfl (by kernel_rfl) (by kernel_rfl) (by kernel_rfl) (fun _ _ _ h => h) (Yields.yieldsIf (Or.inl ⟨by rfl, by intro wz; go_simp⟩)) hS0 ?_
  try simp only [Act.put, List.getElem_toArray, List.getElem_cons_succ, List.getElem_cons_zero, List.setIfInBounds_toArray, List.set_cons_zero, List.set_cons_succ]
  refine wpAnyH_take (i := 14) (v := .bool false) rfl (by kernel_rfl) (by kernel_rfl) (by kernel_rfl) (fun _ _ _ h => h) (Yields.yieldsIf (Or.inl ⟨by rfl, by intro wz; go_simp⟩)) hS0 ?_
  try simp only [Act.put, List.getElem_toArray, List.getElem_cons_succ, List.getElem_cons_zero, List.setIfInBounds_toArray, List.set_cons_zero, List.set_cons_succ]
  refine wpAnyH_take (i := 15) (v := vp) rfl (by kernel_rfl) (by kernel_rfl) (by kernel_rfl) (fun _ _ _ h => h) (Yields.yieldsIf (Or.inl ⟨by rfl, by intro wz; go_simp⟩)) hS0 ?_
  try simp only [Act.put, List.getElem_toArray, List.getElem_cons_succ, List.getElem_cons_zero, List.setIfInBounds_toArray, List.set_cons_zero, List.set_cons_succ]
  refine wpAnyH_take (i := 16) (v := rq) rfl (by kernel_rfl) (by kernel_rfl) (by kernel_rfl) (fun _ _ _ h => h) (Yields.yieldsIf (Or.inl ⟨by rfl, by intro wz; go_simp⟩)) hS0 ?_
  try simp only [Act.put, List.getElem_toArray, List.getElem_cons_succ, List.getElem_cons_zero, List.setIfInBounds_toArray, List.set_cons_zero, List.set_cons_succ]
  refine wpAnyH_ready (rs := [17]) (by kernel_rfl) (by simp) ?_
  refine AllReadyH.cons rfl (fun K' hK => ?_) AllReadyH.nil
  go_simp
  refine (sameNodes_any vp rq Lp Lp _ (HPT.out _ hb6) (HQT.out _ hb6) (by omega)).mono ?_
  rintro e w7 ⟨rfl, hb7'⟩
  have hb7 := hb6.trans (hb7'.mono hb6.size)
  clear hb7'
  rw [sameNs_true (rfl : Lp = Lp)]
  have hSn := HST.out _ hb7
  refine hK.out _ _ hSn (fun _ => ?_)
  clear hK K' hS0
  have hS0 := hSn
  clear hSn
  try simp only [Act.put, List.getElem_toArray, List.getElem_cons_succ, List.getElem_cons_zero, List.setIfInBounds_toArray, List.set_cons_zero, List.set_cons_succ]
  refine wpAnyH_take (i := 18) (v := .bool false) rfl (by kernel_rfl) (by kernel_rfl) (by kernel_rfl) (fun _ _ _ h => h) (Yields.yieldsIf (Or.inl ⟨by rfl, by intro wz; go_simp⟩)) hS0 ?_
  try simp only [Act.put, List.getElem_toArray, List.getElem_cons_succ, List.getElem_cons_zero, List.setIfInBounds_toArray, List.set_cons_zero, List.set_cons_succ]
  refine wpAnyH_take (i := 19) (v := .bool false) rfl (by kernel_rfl) (by kernel_rfl) (by kernel_rfl) (fun _ _ _ h => h) (Yields.yieldsIf (Or.inl ⟨by rfl, by intro wz; go_simp⟩)) hS0 ?_
  try simp only [Act.put, List.getElem_toArray, List.getElem_cons_succ, List.getElem_cons_zero, List.setIfInBounds_toArray, List.set_cons_zero, List.set_cons_succ]
  refine wpAnyH_take (i := 20) (v := .bool false) rfl (by kernel_rfl) (by kernel_rfl) (by kernel_rfl) (fun _ _ _ h => h) (Yields.yieldsIf (Or.inl ⟨by rfl, by intro wz; go_simp⟩)) hS0 ?_
  try simp only [Act.put, List.getElem_toArray, List.getElem_cons_succ, List.getElem_cons_zero, List.setIfInBounds_toArray, List.set_cons_zero, List.set_cons_succ]
  refine wpAnyH_take (i := 21) (v := sP sb) rfl (by kernel_rfl) (by kernel_rfl) (by kernel_rfl) (fun _ _ _ h => h) (Yields.yieldsIf (Or.inl ⟨by rfl, by intro wz; go_simp⟩)) hS0 ?_
  try simp only [Act.put, List.getElem_toArray, List.getElem_cons_succ, List.getElem_cons_zero, List.setIfInBounds_toArray, List.set_cons_zero, List.set_cons_succ]
  refine wpAnyH_take (i := 22) (v := sP sb) rfl (by kernel_rfl) (by kernel_rfl) (by kernel_rfl) (fun _ _ _ h => h) (Yields.yieldsIf (Or.inl ⟨by rfl, by intro wz; go_simp⟩)) hS0 ?_
  try simp only [Act.put, List.getElem_toArray, List.getElem_cons_succ, List.getElem_cons_zero, List.setIfInBounds_toArray, List.set_cons_zero, List.set_cons_succ]
  refine wpAnyH_take (i := 23) (v := sP sb) rfl (by kernel_rfl) (by kernel_rfl) (by kernel_rfl) (fun _ _ _ h => h) (Yields.yieldsIf (Or.inl ⟨by rfl, by intro wz; go_simp⟩)) hS0 ?_
  try simp only [Act.put, List.getElem_toArray, List.getElem_cons_succ, List.getElem_cons_zero, List.setIfInBounds_toArray, List.set_cons_zero, List.set_cons_succ]
  refine wpAnyH_take (i := 25) (v := xP xb) rfl (by kernel_rfl) (by kernel_rfl) (by kernel_rfl) (fun _ _ _ h => h) (Yields.yieldsIf (Or.inl ⟨by rfl, by intro wz; go_simp⟩)) hS0 ?_
  try simp only [Act.put, List.getElem_toArray, List.getElem_cons_succ, List.getElem_cons_zero, List.setIfInBounds_toArray, List.set_cons_zero, List.set_cons_succ]
  refine wpAnyH_take (i := 26) (v := xP xb) rfl (by kernel_rfl) (by kernel_rfl) (by kernel_rfl) (fun _ _ _ h => h) (Yields.yieldsIf (Or.inl ⟨by rfl, by intro wz; go_simp⟩)) hS0 ?_
  try simp only [Act.put, List.getElem_toArray, List.getElem_cons_succ, List.getElem_cons_zero, List.setIfInBounds_toArray, List.set_cons_zero, List.set_cons_succ]
  refine wpAnyH_take (i := 27) (v := .pointer (some ⟨xb, 1, none⟩)) rfl (by kernel_rfl) (by kernel_rfl) (by kernel_rfl) (fun _ _ _ h => h) (Yields.yieldsIf (Or.inl ⟨by rfl, by intro wz; go_simp⟩)) hS0 ?_
  try simp only [Act.put, List.getElem_toArray, List.getElem_cons_succ, List.getElem_cons_zero, List.setIfInBounds_toArray, List.set_cons_zero, List.set_cons_succ]
  refine wpAnyH_take (i := 28) (v := av) rfl (by kernel_rfl) (by kernel_rfl) (by kernel_rfl) (fun _ _ _ h => h) (Or.inl ⟨by rfl, fun wz hS => by obtain ⟨s1, s2⟩ := hS; go_simp⟩) hS0 ?_
  try simp only [Act.put, List.getElem_toArray, List.getElem_cons_succ, List.getElem_cons_zero, List.setIfInBounds_toArray, List.set_cons_zero, List.set_cons_succ]
  refine wpAnyH_ready (rs := [24]) (by kernel_rfl) (by simp) ?_
  refine AllReadyH.cons rfl (fun K' hK => ?_) AllReadyH.nil
  go_simp
  refine (args_any (HSB.out _ hb7)).mono ?_
  rintro e w8 ⟨v8, rfl, ho8, hb8'⟩
  have hb8 := hb7.trans (hb8'.mono hb7.size)
  rw [HAS.out] at ho8
  have HT8 : Hid (Tx w8 v8 LA) := Tx.owned ho8
  clear hb8' ho8
  have hSn := HST.out _ hb8
  refine hK.out _ _ hSn (fun _ => ?_)
  clear hK K' hS0
  have hS0 := hSn
  clear hSn
  try simp only [Act.put, List.getElem_toArray, List.getElem_cons_succ, List.getElem_cons_zero, List.setIfInBounds_toArray, List.set_cons_zero, List.set_cons_succ]
  refine wpAnyH_ready (rs := [29]) (by kernel_rfl) (by simp) ?_
  refine AllReadyH.cons rfl (fun K' hK => ?_) AllReadyH.nil
  go_simp
  refine (sameTexts_any v8 av LA LA _ HT8.out (HLT.out _ hb8) (by omega) (by omega)).mono ?_
  rintro e w9 ⟨rfl, hb9'⟩
  have hb9 := hb8.trans (hb9'.mono hb8.size)
  clear hb9'
  rw [show decide (LA = LA) = true from decide_eq_true rfl]
  have hSn := HST.out _ hb9
  refine hK.out _ _ hSn (fun _ => ?_)
  clear hK K' hS0
  have hS0 := hSn
  clear hSn
  try simp only [Act.put, List.getElem_toArray, List.getElem_cons_succ, List.getElem_cons_zero, List.setIfInBounds_toArray, List.set_cons_zero, List.set_cons_succ]
  refine wpAnyH_take (i := 30) (v := .bool false) rfl (by kernel_rfl) (by kernel_rfl) (by kernel_rfl) (fun _ _ _ h => h) (Yields.yieldsIf (Or.inl ⟨by rfl, by intro wz; go_simp⟩)) hS0 ?_
  try simp only [Act.put, List.getElem_toArray, List.getElem_cons_succ, List.getElem_cons_zero, List.setIfInBounds_toArray, List.set_cons_zero, List.set_cons_succ]
  refine wpAnyH_take (i := 31) (v := .bool false) rfl (by kernel_rfl) (by kernel_rfl) (by kernel_rfl) (fun _ _ _ h => h) (Yields.yieldsIf (Or.inl ⟨by rfl, by intro wz; go_simp⟩)) hS0 ?_
  try simp only [Act.put, List.getElem_toArray, List.getElem_cons_succ, List.getElem_cons_zero, List.setIfInBounds_toArray, List.set_cons_zero, List.set_cons_succ]
  refine wpAnyH_take (i := 32) (v := .bool false) rfl (by kernel_rfl) (by kernel_rfl) (by kernel_rfl) (fun _ _ _ h => h) (Yields.yieldsIf (Or.inl ⟨by rfl, by intro wz; go_simp⟩)) hS0 ?_
  try simp only [Act.put, List.getElem_toArray, List.getElem_cons_succ, List.getElem_cons_zero, List.setIfInBounds_toArray, List.set_cons_zero, List.set_cons_succ]
  refine wpAnyH_take (i := 33) (v := sP sb) rfl (by kernel_rfl) (by kernel_rfl) (by kernel_rfl) (fun _ _ _ h => h) (Yields.yieldsIf (Or.inl ⟨by rfl, by intro wz; go_simp⟩)) hS0 ?_
  try simp only [Act.put, List.getElem_toArray, List.getElem_cons_succ, List.getElem_cons_zero, List.setIfInBounds_toArray, List.set_cons_zero, List.set_cons_succ]
  refine wpAnyH_take (i := 34) (v := sP sb) rfl (by kernel_rfl) (by kernel_rfl) (by kernel_rfl) (fun _ _ _ h => h) (Yields.yieldsIf (Or.inl ⟨by rfl, by intro wz; go_simp⟩)) hS0 ?_
  try simp only [Act.put, List.getElem_toArray, List.getElem_cons_succ, List.getElem_cons_zero, List.setIfInBounds_toArray, List.set_cons_zero, List.set_cons_succ]
  refine wpAnyH_take (i := 35) (v := sP sb) rfl (by kernel_rfl) (by kernel_rfl) (by kernel_rfl) (fun _ _ _ h => h) (Yields.yieldsIf (Or.inl ⟨by rfl, by intro wz; go_simp⟩)) hS0 ?_
  try simp only [Act.put, List.getElem_toArray, List.getElem_cons_succ, List.getElem_cons_zero, List.setIfInBounds_toArray, List.set_cons_zero, List.set_cons_succ]
  refine wpAnyH_take (i := 37) (v := xP xb) rfl (by kernel_rfl) (by kernel_rfl) (by kernel_rfl) (fun _ _ _ h => h) (Yields.yieldsIf (Or.inl ⟨by rfl, by intro wz; go_simp⟩)) hS0 ?_
  try simp only [Act.put, List.getElem_toArray, List.getElem_cons_succ, List.getElem_cons_zero, List.setIfInBounds_toArray, List.set_cons_zero, List.set_cons_succ]
  refine wpAnyH_take (i := 38) (v := xP xb) rfl (by kernel_rfl) (by kernel_rfl) (by kernel_rfl) (fun _ _ _ h => h) (Yields.yieldsIf (Or.inl ⟨by rfl, by intro wz; go_simp⟩)) hS0 ?_
  try simp only [Act.put, List.getElem_toArray, List.getElem_cons_succ, List.getElem_cons_zero, List.setIfInBounds_toArray, List.set_cons_zero, List.set_cons_succ]
  refine wpAnyH_take (i := 39) (v := xP xb) rfl (by kernel_rfl) (by kernel_rfl) (by kernel_rfl) (fun _ _ _ h => h) (Yields.yieldsIf (Or.inl ⟨by rfl, by intro wz; go_simp⟩)) hS0 ?_
  try simp only [Act.put, List.getElem_toArray, List.getElem_cons_succ, List.getElem_cons_zero, List.setIfInBounds_toArray, List.set_cons_zero, List.set_cons_succ]
  refine wpAnyH_take (i := 40) (v := vv) rfl (by kernel_rfl) (by kernel_rfl) (by kernel_rfl) (fun _ _ _ h => h) (Or.inl ⟨by rfl, fun wz hS => by obtain ⟨s1, s2⟩ := hS; go_simp⟩) hS0 ?_
  try simp only [Act.put, List.getElem_toArray, List.getElem_cons_succ, List.getElem_cons_zero, List.setIfInBounds_toArray, List.set_cons_zero, List.set_cons_succ]
  refine wpAnyH_ready (rs := [36]) (by kernel_rfl) (by simp) ?_
  refine AllReadyH.cons rfl (fun K' hK => ?_) AllReadyH.nil
  go_simp
  refine (vars_any (HSB.out _ hb9) HVL.out HVN.out).mono ?_
  rintro e w10 ⟨v10, Y, rfl, ho10, hc10, hb10'⟩
  have hb10 := hb9.trans (hb10'.mono hb9.size)
  have HY : Hid (VaAt w10 v10 Y ∧ cont Y = cont P) := ⟨ho10.at, by rw [hc10, HCV.out, HCP.out]⟩
  clear hb10' ho10 hc10
  have hSn := HST.out _ hb10
  refine hK.out _ _ hSn (fun _ => ?_)
  clear hK K' hS0
  have hS0 := hSn
  clear hSn
  try simp only [Act.put, List.getElem_toArray, List.getElem_cons_succ, List.getElem_cons_zero, List.setIfInBounds_toArray, List.set_cons_zero, List.set_cons_succ]
  refine wpAnyH_ready (rs := [41]) (by kernel_rfl) (by simp) ?_
  refine AllReadyH.cons rfl (fun K' hK => ?_) AllReadyH.nil
  go_simp
  refine (sameValues_any v10 vv Y P _ HY.out.1 (HVA.out _ hb10) HY.out.2 (HYL.out Y HY.out.2).1 (HYL.out Y HY.out.2).2 (HYL.out P rfl).2).mono ?_
  rintro e w11 ⟨rfl, hb11'⟩
  have hb11 := hb10.trans (hb11'.mono hb10.size)
  clear hb11'
  have hSn := HST.out _ hb11
  refine hK.out _ _ hSn (fun _ => ?_)
  clear hK K' hS0
  have hS0 := hSn
  clear hSn
  try simp only [Act.put, List.getElem_toArray, List.getElem_cons_succ, List.getElem_cons_zero, List.setIfInBounds_toArray, List.set_cons_zero, List.set_cons_succ]
  refine wpAnyH_take (i := 42) (v := .bool false) rfl (by kernel_rfl) (by kernel_rfl) (by kernel_rfl) (fun _ _ _ h => h) (Yields.yieldsIf (Or.inl ⟨by rfl, by intro wz; go_simp⟩)) hS0 ?_
  try simp only [Act.put, List.getElem_toArray, List.getElem_cons_succ, List.getElem_cons_zero, List.setIfInBounds_toArray, List.set_cons_zero, List.set_cons_succ]
  refine wpAnyH_take (i := 43) (v := .bool false) rfl (by kernel_rfl) (by kernel_rfl) (by kernel_rfl) (fun _ _ _ h => h) (Yields.yieldsIf (Or.inl ⟨by rfl, by intro wz; go_simp⟩)) hS0 ?_
  try simp only [Act.put, List.getElem_toArray, List.getElem_cons_succ, List.getElem_cons_zero, List.setIfInBounds_toArray, List.set_cons_zero, List.set_cons_succ]
  refine wpAnyH_done (by kernel_rfl) ?_ _
  clear hS0
  clear HAT HBT HQT HST HLT HVA HPT hb5 hb6 hb7 hb8 hb9 hb10 HT8 HY
  go_wp2_with fail
  refine Calls.mono (HG5.out _ (HUP.out _ hb11)) ?_
  rintro e w12 ⟨vf, rfl, hof, hb12⟩
  have hb12' := HUP.out _ (hb11.trans (hb12.mono hb11.size))
  have HTF : Hid (Tx w12 vf (H.map Prod.fst)) := Tx.owned hof
  rw [List.length_map] at hof
  obtain ⟨adf, capf, rfl⟩ := owns_slice hof
  subst hfv
  clear hof
  go_wp2_with fail
  go_loopw [16] (fun v16 wr => ∃ i : Nat, v16 = .int .i64 i ∧ i ≤ H.length ∧ Below w12.heap.size w12 wr) (fun v16 _ => H.length - (intOf v16).toNat)
  case atStart => exact ⟨0, rfl, Nat.zero_le _, Below.refl _ _⟩
  case round =>
    obtain ⟨i, rfl, hi, hbr⟩ := hrel
    have hbW : Below W.heap.size W wr := hb12'.trans (hbr.mono hb12'.size)
    have c2 := (HQR.out _ hbW).1
    by_cases hil : i < H.length
    · obtain ⟨q, hq⟩ := mem_iff_some hil
      obtain ⟨gq, capq, hvq, dq⟩ := (HQR.out _ hbW).2 i q hq
      cases hvq
      obtain ⟨gf, of_, cap', hv, _, hgf, hcf⟩ := HTF.out.inRow (fun e => by
        have := congrArg List.length e
        simp at this
        rw [this] at hil
        simp at hil)
      rw [List.length_map] at hv
      cases hv
      have df : wr.cell? ⟨gf, of_ + i, none⟩ = some (str q.1) := (hbr.cell (p := ⟨gf, of_ + i, none⟩) hgf).trans (hcf i q.1 (by rw [List.getElem?_map, hq]; rfl))
      clear hcf hgf hq
      go_upto_region 11 with fail
      refine wp_region_held (S := Told4 xb gf (of_ + i) gq (i * 2) (.slice (some ⟨gq, 0, none⟩) H.length capq0) q.1 q.1) (by kernel_rfl) ?_
      change wpAnyH _ _ _ _ _ _ _ _ (World.drew _)
      have hS0 : Told4 xb gf (of_ + i) gq (i * 2) (.slice (some ⟨gq, 0, none⟩) H.length capq0) q.1 q.1 (World.drew wr) := ⟨c2, df, dq⟩
      refine wpAnyH_take (i := 0) (v := .int .i64 (i : Nat)) rfl (by kernel_rfl) (by kernel_rfl) (by kernel_rfl) (fun _ _ _ h => h) (Yields.yieldsIf (Or.inl ⟨by rfl, by intro wz; go_simp⟩)) hS0 ?_
      try simp only [Act.put, List.getElem_toArray, List.getElem_cons_zero, List.setIfInBounds_toArray, List.set_cons_zero, List.set_cons_succ]
      refine wpAnyH_take (i := 1) (v := xP xb) rfl (by kernel_rfl) (by kernel_rfl) (by kernel_rfl) (fun _ _ _ h => h) (Yields.yieldsIf (Or.inl ⟨by rfl, by intro wz; go_simp⟩)) hS0 ?_
      try simp only [Act.put, List.getElem_toArray, List.getElem_cons_succ, List.getElem_cons_zero, List.setIfInBounds_toArray, List.set_cons_zero, List.set_cons_succ]
      refine wpAnyH_take (i := 2) (v := xP xb) rfl (by kernel_rfl) (by kernel_rfl) (by kernel_rfl) (fun _ _ _ h => h) (Yields.yieldsIf (Or.inl ⟨by rfl, by intro wz; go_simp⟩)) hS0 ?_
      try simp only [Act.put, List.getElem_toArray, List.getElem_cons_succ, List.getElem_cons_zero, List.setIfInBounds_toArray, List.set_cons_zero, List.set_cons_succ]
      refine wpAnyH_take (i := 3) (v := .pointer (some ⟨xb, 2, none⟩)) rfl (by kernel_rfl) (by kernel_rfl) (by kernel_rfl) (fun _ _ _ h => h) (Yields.yieldsIf (Or.inl ⟨by rfl, by intro wz; go_simp⟩)) hS0 ?_
      try simp only [Act.put, List.getElem_toArray, List.getElem_cons_succ, List.getElem_cons_zero, List.setIfInBounds_toArray, List.set_cons_zero, List.set_cons_succ]
      refine wpAnyH_take (i := 4) (v := .slice (some ⟨gq, 0, none⟩) H.length capq0) rfl (by kernel_rfl) (by kernel_rfl) (by kernel_rfl) (fun _ _ _ h => h) (Or.inl ⟨by rfl, fun wz hS => by obtain ⟨s1, s2, s3⟩ := hS; go_simp⟩) hS0 ?_
      try simp only [Act.put, List.getElem_toArray, List.getElem_cons_succ, List.getElem_cons_zero, List.setIfInBounds_toArray, List.set_cons_zero, List.set_cons_succ]
      refine wpAnyH_take (i := 5) (v := .int .i64 (H.length : Nat)) rfl (by kernel_rfl) (by kernel_rfl) (by kernel_rfl) (fun _ _ _ h => h) (Yields.yieldsIf (Or.inl ⟨by rfl, by intro wz; go_simp⟩)) hS0 ?_
      try simp only [Act.put, List.getElem_toArray, List.getElem_cons_succ, List.getElem_cons_zero, List.setIfInBounds_toArray, List.set_cons_zero, List.set_cons_succ]
      refine wpAnyH_take (i := 6) (v := .bool false) rfl (by kernel_rfl) (by kernel_rfl) (by kernel_rfl) (fun _ _ _ h => h) (Yields.yieldsIf (Or.inl ⟨by rfl, by intro wz; go_simp⟩)) hS0 ?_
      try simp only [Act.put, List.getElem_toArray, List.getElem_cons_succ, List.getElem_cons_zero, List.setIfInBounds_toArray, List.set_cons_zero, List.set_cons_succ]
      refine wpAnyH_take (i := 7) (v := .bool false) rfl (by kernel_rfl) (by kernel_rfl) (by kernel_rfl) (fun _ _ _ h => h) (Yields.yieldsIf (Or.inl ⟨by rfl, by intro wz; go_simp⟩)) hS0 ?_
      try simp only [Act.put, List.getElem_toArray, List.getElem_cons_succ, List.getElem_cons_zero, List.setIfInBounds_toArray, List.set_cons_zero, List.set_cons_succ]
      refine wpAnyH_take (i := 8) (v := .slice (some ⟨gf, of_, none⟩) H.length capf) rfl (by kernel_rfl) (by kernel_rfl) (by kernel_rfl) (fun _ _ _ h => h) (Yields.yieldsIf (Or.inl ⟨by rfl, by intro wz; go_simp⟩)) hS0 ?_
      try simp only [Act.put, List.getElem_toArray, List.getElem_cons_succ, List.getElem_cons_zero, List.setIfInBounds_toArray, List.set_cons_zero, List.set_cons_succ]
      refine wpAnyH_take (i := 9) (v := .int .i64 (i : Nat)) rfl (by kernel_rfl) (by kernel_rfl) (by kernel_rfl) (fun _ _ _ h => h) (Yields.yieldsIf (Or.inl ⟨by rfl, by intro wz; go_simp⟩)) hS0 ?_
      try simp only [Act.put, List.getElem_toArray, List.getElem_cons_succ, List.getElem_cons_zero, List.setIfInBounds_toArray, List.set_cons_zero, List.set_cons_succ]
      refine wpAnyH_take (i := 10) (v := .pointer (some ⟨gf, of_ + i, none⟩)) rfl (by kernel_rfl) (by kernel_rfl) (by kernel_rfl) (fun _ _ _ h => h) (Yields.yieldsIf (Or.inl ⟨by rfl, by intro wz; go_simp⟩)) hS0 ?_
      try simp only [Act.put, List.getElem_toArray, List.getElem_cons_succ, List.getElem_cons_zero, List.setIfInBounds_toArray, List.set_cons_zero, List.set_cons_succ]
      refine wpAnyH_take (i := 11) (v := str q.1) rfl (by kernel_rfl) (by kernel_rfl) (by kernel_rfl) (fun _ _ _ h => h) (Or.inl ⟨by rfl, fun wz hS => by obtain ⟨s1, s2, s3⟩ := hS; go_simp⟩) hS0 ?_
      try simp only [Act.put, List.getElem_toArray, List.getElem_cons_succ, List.getElem_cons_zero, List.setIfInBounds_toArray, List.set_cons_zero, List.set_cons_succ]
      refine wpAnyH_take (i := 12) (v := xP xb) rfl (by kernel_rfl) (by kernel_rfl) (by kernel_rfl) (fun _ _ _ h => h) (Yields.yieldsIf (Or.inl ⟨by rfl, by intro wz; go_simp⟩)) hS0 ?_
      try simp only [Act.put, List.getElem_toArray, List.getElem_cons_succ, List.getElem_cons_zero, List.setIfInBounds_toArray, List.set_cons_zero, List.set_cons_succ]
      refine wpAnyH_take (i := 13) (v := xP xb) rfl (by kernel_rfl) (by kernel_rfl) (by kernel_rfl) (fun _ _ _ h => h) (Yields.yieldsIf (Or.inl ⟨by rfl, by intro wz; go_simp⟩)) hS0 ?_
      try simp only [Act.put, List.getElem_toArray, List.getElem_cons_succ, List.getElem_cons_zero, List.setIfInBounds_toArray, List.set_cons_zero, List.set_cons_succ]
      refine wpAnyH_take (i := 14) (v := .pointer (some ⟨xb, 2, none⟩)) rfl (by kernel_rfl) (by kernel_rfl) (by kernel_rfl) (fun _ _ _ h => h) (Yields.yieldsIf (Or.inl ⟨by rfl, by intro wz; go_simp⟩)) hS0 ?_
      try simp only [Act.put, List.getElem_toArray, List.getElem_cons_succ, List.getElem_cons_zero, List.setIfInBounds_toArray, List.set_cons_zero, List.set_cons_succ]
      refine wpAnyH_take (i := 15) (v := .slice (some ⟨gq, 0, none⟩) H.length capq0) rfl (by kernel_rfl) (by kernel_rfl) (by kernel_rfl) (fun _ _ _ h => h) (Or.inl ⟨by rfl, fun wz hS => by obtain ⟨s1, s2, s3⟩ := hS; go_simp⟩) hS0 ?_
      try simp only [Act.put, List.getElem_toArray, List.getElem_cons_succ, List.getElem_cons_zero, List.setIfInBounds_toArray, List.set_cons_zero, List.set_cons_succ]
      refine wpAnyH_take (i := 16) (v := .int .i64 (i : Nat)) rfl (by kernel_rfl) (by kernel_rfl) (by kernel_rfl) (fun _ _ _ h => h) (Yields.yieldsIf (Or.inl ⟨by rfl, by intro wz; go_simp⟩)) hS0 ?_
      try simp only [Act.put, List.getElem_toArray, List.getElem_cons_succ, List.getElem_cons_zero, List.setIfInBounds_toArray, List.set_cons_zero, List.set_cons_succ]
      refine wpAnyH_take (i := 17) (v := .pointer (some ⟨gq, i * 2, none⟩)) rfl (by kernel_rfl) (by kernel_rfl) (by kernel_rfl) (fun _ _ _ h => h) (Yields.yieldsIf (Or.inl ⟨by rfl, by intro wz; go_simp⟩)) hS0 ?_
      try simp only [Act.put, List.getElem_toArray, List.getElem_cons_succ, List.getElem_cons_zero, List.setIfInBounds_toArray, List.set_cons_zero, List.set_cons_succ]
      refine wpAnyH_take (i := 18) (v := .pointer (some ⟨gq, i * 2, none⟩)) rfl (by kernel_rfl) (by kernel_rfl) (by kernel_rfl) (fun _ _ _ h => h) (Yields.yieldsIf (Or.inl ⟨by rfl, by intro wz; go_simp⟩)) hS0 ?_
      try simp only [Act.put, List.getElem_toArray, List.getElem_cons_succ, List.getElem_cons_zero, List.setIfInBounds_toArray, List.set_cons_zero, List.set_cons_succ]
      refine wpAnyH_take (i := 19) (v := str q.1) rfl (by kernel_rfl) (by kernel_rfl) (by kernel_rfl) (fun _ _ _ h => h) (Or.inl ⟨by rfl, fun wz hS => by obtain ⟨s1, s2, s3⟩ := hS; go_simp⟩) hS0 ?_
      try simp only [Act.put, List.getElem_toArray, List.getElem_cons_succ, List.getElem_cons_zero, List.setIfInBounds_toArray, List.set_cons_zero, List.set_cons_succ]
      refine wpAnyH_take (i := 20) (v := .bool false) rfl (by kernel_rfl) (by kernel_rfl) (by kernel_rfl) (fun _ _ _ h => h) (Yields.yieldsIf (Or.inl ⟨by rfl, by intro wz; go_simp⟩)) hS0 ?_
      try simp only [Act.put, List.getElem_toArray, List.getElem_cons_succ, List.getElem_cons_zero, List.setIfInBounds_toArray, List.set_cons_zero, List.set_cons_succ]
      refine wpAnyH_take (i := 21) (v := .bool false) rfl (by kernel_rfl) (by kernel_rfl) (by kernel_rfl) (fun _ _ _ h => h) (Yields.yieldsIf (Or.inl ⟨by rfl, by intro wz; go_simp⟩)) hS0 ?_
      try simp only [Act.put, List.getElem_toArray, List.getElem_cons_succ, List.getElem_cons_zero, List.setIfInBounds_toArray, List.set_cons_zero, List.set_cons_succ]
      refine wpAnyH_done (by kernel_rfl) ?_ _
      go_wp2_with fail
      exact ⟨⟨i + 1, by simp, by omega, hbr.drew⟩, by simp [intOf]; omega⟩
    · have hie : i = H.length := by omega
      subst hie
      go_wp2_with fail
      go_ret
      exact ⟨rfl, hbW⟩
end Go.Proofs.Ytikogljojnapaaa
