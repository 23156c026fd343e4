/- The chapter's examples. -/
import Derived.Test.YtfakelaibijgkaaDoorDe10
namespace Go.Proofs.YtfakelaibijgkaaDoor
open Go.RowKit
attribute [local go_sem] Oper.semAt_some

/-- A node put above lists that lie in memory. -/
theorem new_cells (kind n : Int) (s : Txt) (K : List (Value × List Nd)) (k : Nat) (cs : Array Value) (W : World) (hk : k = K.length) (hcs : cs = (K.map Prod.fst).toArray) (h : ∀ p ∈ K, NdAt W p.1 p.2) (hK : K.length ≤ 100000) (hl : (kidL K).length ≤ 100000) :
    Calls Tryd.prog 15 #[.int .i64 kind, .int .i64 n, str s, .slice (some ⟨W.heap.size, 0, none⟩) k k] (W.alloc (.cells cs 22)) fun e w' => ∃ ad cap, e = .returned (.slice ad (newN kind n s (K.map Prod.snd)).length cap) ∧ NdOwn w' W.heap.size (.slice ad (newN kind n s (K.map Prod.snd)).length cap) (newN kind n s (K.map Prod.snd)) ∧ Below W.heap.size W w' := by
  have hb := below_new W (.cells cs 22)
  have hk' : KdAt (W.alloc (.cells cs 22)) (.slice (some ⟨W.heap.size, 0, none⟩) k k) K := by
    subst hk
    exact KdAt.of_cells rfl (by rw [hcs]; exact Cel.new W 22 _) (fun p hp => (h p hp).below hb (Nat.le_refl _)) (Nat.le_refl _)
  refine (new_own kind n s _ K _ hk' (by omega) (by omega)).mono ?_
  rintro e w' ⟨v', rfl, h1, h2⟩
  obtain ⟨ad, cap, rfl⟩ := owns_slice h1
  exact ⟨ad, cap, rfl, owns_lower h1 hb.size, hb.trans (h2.mono hb.size)⟩
theorem lit_form (s : ByteArray) (w : World) : Calls Tryd.prog 16 #[.string s] w fun e w' => ∃ ad cap, e = .returned (.slice ad 1 cap) ∧ NdOwn w' w.heap.size (.slice ad 1 cap) [litN s.data.toList] ∧ Below w.heap.size w w' := by
  refine (lit_any s w).mono ?_
  rintro e w' ⟨v', rfl, h1, h2⟩
  obtain ⟨ad, cap, rfl⟩ := owns_slice h1
  exact ⟨ad, cap, rfl, h1, h2⟩
theorem leaf_form (kind n : Int) (s : Txt) (w : World) : Calls Tryd.prog 15 #[.int .i64 kind, .int .i64 n, str s, .slice none 0 0] w fun e w' => ∃ ad cap, e = .returned (.slice ad 1 cap) ∧ NdOwn w' w.heap.size (.slice ad 1 cap) [⟨kind, n, 0, 1, s⟩] ∧ Below w.heap.size w w' := by
  refine (new_leaf kind n s w).mono ?_
  rintro e w' ⟨v', rfl, h1, h2⟩
  obtain ⟨ad, cap, rfl⟩ := owns_slice h1
  exact ⟨ad, cap, rfl, h1, h2⟩
theorem pass_form (v : Value) (X Y : List Nd) (W : World) (ea : Nat → Addr) (hE : Ers W ea) (hN : NdAt W v X) (hl : X.length < 4294967296) (hok : ∀ x ∈ X, NdOk x) (hY : passL X = Y) :
    Calls Tryd.prog 9 #[v] W fun e w' => ∃ ad cap, e = .returned (.slice ad Y.length cap) ∧ NdOwn w' W.heap.size (.slice ad Y.length cap) Y ∧ Below W.heap.size W w' := by
  refine (pass_any v X W ea hE hN hl hok).mono ?_
  rintro e w' ⟨v', rfl, h1, h2⟩
  rw [hY] at h1
  obtain ⟨ad, cap, rfl⟩ := owns_slice h1
  exact ⟨ad, cap, rfl, h1, h2⟩
def aN : List Nd := newN 21 0 [] [[litN [97]]]
def bN : List Nd := newN 21 0 [] [[litN [98]]]
def abN : List Nd := newN 23 0 [] [aN, bN]
def inP : List Nd := newN 23 0 [] [nopL, abN]
def naN : List Nd := newN 27 0 [] [aN]
def inQ : List Nd := newN 24 0 [] [naN, bN, nopL]
def outQ : List Nd := newN 24 0 [] [aN, nopL, bN]
def inH : List Nd := newN 34 0 [] [[litN [120]], nopL]
theorem passP : passL inP = abN := by kernel_rfl
theorem passQ : passL inQ = outQ := by kernel_rfl
theorem passH : passL inH = nopL := by kernel_rfl
theorem okP : ∀ x ∈ inP, NdOk x := by unfold NdOk; decide
theorem okQ : ∀ x ∈ inQ, NdOk x := by unfold NdOk; decide
theorem okH : ∀ x ∈ inH, NdOk x := by unfold NdOk; decide
set_option maxRecDepth 100000 in
set_option maxHeartbeats 8000000 in
theorem first_any (W : World) (ea : Nat → Addr) (hE : Ers W ea) :
    Calls Tryd.prog 7 #[] W fun e w' => e = .returned (.bool true) ∧ Below W.heap.size W w' := by
  have HE : Hid (∀ w, Below W.heap.size W w → Ers w ea) := fun w hb => hE.below hb
  have hB0 : Below W.heap.size W W := Below.refl _ _
  have HB0 : Hid (Below W.heap.size W W) := hB0
  clear hE hB0
  go_enter Tryd.func7, Tryd.ntmps7
  have HC1 : Hid _ := leaf_form 20 0 [] W
  go_wp2_with fail
  refine Calls.mono HC1.out ?_
  rintro e w1 ⟨na, nc, rfl, ho1, hb1⟩
  have HNna : Hid (∀ w, Below w1.heap.size w1 w → NdAt w (.slice na 1 nc) nopL) := fun w hb => ho1.at.below hb (Nat.le_refl _)
  have HB1 : Hid (Below W.heap.size W w1) := HB0.out.trans (hb1.mono HB0.out.size)
  clear ho1 hb1 HC1
  have HC2 : Hid _ := lit_form ⟨#[97]⟩ w1
  go_wp2_with fail
  refine Calls.mono HC2.out ?_
  rintro e w2 ⟨xa, xc, rfl, ho2, hb2⟩
  have HNxa : Hid (∀ w, Below w2.heap.size w2 w → NdAt w (.slice xa 1 xc) [litN [97]]) := fun w hb => ho2.at.below hb (Nat.le_refl _)
  have HB2 : Hid (Below W.heap.size W w2) := HB1.out.trans (hb2.mono HB1.out.size)
  have HNna : Hid (∀ w, Below w2.heap.size w2 w → NdAt w (.slice na 1 nc) nopL) := fun w hb => HNna.out w (hb2.trans (hb.mono hb2.size))
  clear ho2 hb2 HC2
  have HC3 : Hid _ := new_cells 21 0 [] [(.slice xa 1 xc, [litN [97]])] 1 #[.slice xa 1 xc] w2 rfl rfl (fun p hp => by simp only [List.mem_cons, List.not_mem_nil, or_false] at hp; rcases hp with rfl <;> first | exact HNxa.out _ (Below.refl _ _)) (by simp) (show (List.flatten [[litN [97]]]).length ≤ 100000 by decide)
  go_wp2_with fail
  refine Calls.mono HC3.out ?_
  rintro e w3 ⟨aa, ac, rfl, ho3, hb3⟩
  have HNaa : Hid (∀ w, Below w3.heap.size w3 w → NdAt w (.slice aa aN.length ac) aN) := fun w hb => ho3.at.below hb (Nat.le_refl _)
  have HB3 : Hid (Below W.heap.size W w3) := HB2.out.trans (hb3.mono HB2.out.size)
  have HNna : Hid (∀ w, Below w3.heap.size w3 w → NdAt w (.slice na 1 nc) nopL) := fun w hb => HNna.out w (hb3.trans (hb.mono hb3.size))
  have HNxa : Hid (∀ w, Below w3.heap.size w3 w → NdAt w (.slice xa 1 xc) [litN [97]]) := fun w hb => HNxa.out w (hb3.trans (hb.mono hb3.size))
  clear ho3 hb3 HC3
  have HC4 : Hid _ := lit_form ⟨#[98]⟩ w3
  go_wp2_with fail
  refine Calls.mono HC4.out ?_
  rintro e w4 ⟨ya, yc, rfl, ho4, hb4⟩
  have HNya : Hid (∀ w, Below w4.heap.size w4 w → NdAt w (.slice ya 1 yc) [litN [98]]) := fun w hb => ho4.at.below hb (Nat.le_refl _)
  have HB4 : Hid (Below W.heap.size W w4) := HB3.out.trans (hb4.mono HB3.out.size)
  have HNna : Hid (∀ w, Below w4.heap.size w4 w → NdAt w (.slice na 1 nc) nopL) := fun w hb => HNna.out w (hb4.trans (hb.mono hb4.size))
  have HNxa : Hid (∀ w, Below w4.heap.size w4 w → NdAt w (.slice xa 1 xc) [litN [97]]) := fun w hb => HNxa.out w (hb4.trans (hb.mono hb4.size))
  have HNaa : Hid (∀ w, Below w4.heap.size w4 w → NdAt w (.slice aa aN.length ac) aN) := fun w hb => HNaa.out w (hb4.trans (hb.mono hb4.size))
  clear ho4 hb4 HC4
  have HC5 : Hid _ := new_cells 21 0 [] [(.slice ya 1 yc, [litN [98]])] 1 #[.slice ya 1 yc] w4 rfl rfl (fun p hp => by simp only [List.mem_cons, List.not_mem_nil, or_false] at hp; rcases hp with rfl <;> first | exact HNya.out _ (Below.refl _ _)) (by simp) (show (List.flatten [[litN [98]]]).length ≤ 100000 by decide)
  go_wp2_with fail
  refine Calls.mono HC5.out ?_
  rintro e w5 ⟨ba, bc, rfl, ho5, hb5⟩
  have HNba : Hid (∀ w, Below w5.heap.size w5 w → NdAt w (.slice ba bN.length bc) bN) := fun w hb => ho5.at.below hb (Nat.le_refl _)
  have HB5 : Hid (Below W.heap.size W w5) := HB4.out.trans (hb5.mono HB4.out.size)
  have HNna : Hid (∀ w, Below w5.heap.size w5 w → NdAt w (.slice na 1 nc) nopL) := fun w hb => HNna.out w (hb5.trans (hb.mono hb5.size))
  have HNxa : Hid (∀ w, Below w5.heap.size w5 w → NdAt w (.slice xa 1 xc) [litN [97]]) := fun w hb => HNxa.out w (hb5.trans (hb.mono hb5.size))
  have HNaa : Hid (∀ w, Below w5.heap.size w5 w → NdAt w (.slice aa aN.length ac) aN) := fun w hb => HNaa.out w (hb5.trans (hb.mono hb5.size))
  have HNya : Hid (∀ w, Below w5.heap.size w5 w → NdAt w (.slice ya 1 yc) [litN [98]]) := fun w hb => HNya.out w (hb5.trans (hb.mono hb5.size))
  clear ho5 hb5 HC5
  have HC6 : Hid _ := new_cells 23 0 [] [(.slice aa aN.length ac, aN), (.slice ba bN.length bc, bN)] 2 #[.slice aa aN.length ac, .slice ba bN.length bc] w5 rfl rfl (fun p hp => by simp only [List.mem_cons, List.not_mem_nil, or_false] at hp; rcases hp with rfl | rfl <;> first | exact HNaa.out _ (Below.refl _ _) | exact HNba.out _ (Below.refl _ _)) (by simp) (show (List.flatten [aN, bN]).length ≤ 100000 by decide)
  go_wp2_with fail
  refine Calls.mono HC6.out ?_
  rintro e w6 ⟨sa, sc, rfl, ho6, hb6⟩
  have HNsa : Hid (∀ w, Below w6.heap.size w6 w → NdAt w (.slice sa abN.length sc) abN) := fun w hb => ho6.at.below hb (Nat.le_refl _)
  have HB6 : Hid (Below W.heap.size W w6) := HB5.out.trans (hb6.mono HB5.out.size)
  have HNna : Hid (∀ w, Below w6.heap.size w6 w → NdAt w (.slice na 1 nc) nopL) := fun w hb => HNna.out w (hb6.trans (hb.mono hb6.size))
  have HNxa : Hid (∀ w, Below w6.heap.size w6 w → NdAt w (.slice xa 1 xc) [litN [97]]) := fun w hb => HNxa.out w (hb6.trans (hb.mono hb6.size))
  have HNaa : Hid (∀ w, Below w6.heap.size w6 w → NdAt w (.slice aa aN.length ac) aN) := fun w hb => HNaa.out w (hb6.trans (hb.mono hb6.size))
  have HNya : Hid (∀ w, Below w6.heap.size w6 w → NdAt w (.slice ya 1 yc) [litN [98]]) := fun w hb => HNya.out w (hb6.trans (hb.mono hb6.size))
  have HNba : Hid (∀ w, Below w6.heap.size w6 w → NdAt w (.slice ba bN.length bc) bN) := fun w hb => HNba.out w (hb6.trans (hb.mono hb6.size))
  clear ho6 hb6 HC6
  have HC7 : Hid _ := new_cells 23 0 [] [(.slice na 1 nc, nopL), (.slice sa abN.length sc, abN)] 2 #[.slice na 1 nc, .slice sa abN.length sc] w6 rfl rfl (fun p hp => by simp only [List.mem_cons, List.not_mem_nil, or_false] at hp; rcases hp with rfl | rfl <;> first | exact HNna.out _ (Below.refl _ _) | exact HNsa.out _ (Below.refl _ _)) (by simp) (show (List.flatten [nopL, abN]).length ≤ 100000 by decide)
  go_wp2_with fail
  refine Calls.mono HC7.out ?_
  rintro e w7 ⟨ia, ic, rfl, ho7, hb7⟩
  have HNia : Hid (∀ w, Below w7.heap.size w7 w → NdAt w (.slice ia inP.length ic) inP) := fun w hb => ho7.at.below hb (Nat.le_refl _)
  have HB7 : Hid (Below W.heap.size W w7) := HB6.out.trans (hb7.mono HB6.out.size)
  have HNna : Hid (∀ w, Below w7.heap.size w7 w → NdAt w (.slice na 1 nc) nopL) := fun w hb => HNna.out w (hb7.trans (hb.mono hb7.size))
  have HNxa : Hid (∀ w, Below w7.heap.size w7 w → NdAt w (.slice xa 1 xc) [litN [97]]) := fun w hb => HNxa.out w (hb7.trans (hb.mono hb7.size))
  have HNaa : Hid (∀ w, Below w7.heap.size w7 w → NdAt w (.slice aa aN.length ac) aN) := fun w hb => HNaa.out w (hb7.trans (hb.mono hb7.size))
  have HNya : Hid (∀ w, Below w7.heap.size w7 w → NdAt w (.slice ya 1 yc) [litN [98]]) := fun w hb => HNya.out w (hb7.trans (hb.mono hb7.size))
  have HNba : Hid (∀ w, Below w7.heap.size w7 w → NdAt w (.slice ba bN.length bc) bN) := fun w hb => HNba.out w (hb7.trans (hb.mono hb7.size))
  have HNsa : Hid (∀ w, Below w7.heap.size w7 w → NdAt w (.slice sa abN.length sc) abN) := fun w hb => HNsa.out w (hb7.trans (hb.mono hb7.size))
  clear ho7 hb7 HC7
  have HC8 : Hid _ := pass_form _ inP abN w7 ea (HE.out _ HB7.out) (HNia.out _ (Below.refl _ _)) (by decide) okP passP
  go_wp2_with fail
  refine Calls.mono HC8.out ?_
  rintro e w8 ⟨pa, pc, rfl, ho8, hb8⟩
  have HNpa : Hid (∀ w, Below w8.heap.size w8 w → NdAt w (.slice pa abN.length pc) abN) := fun w hb => ho8.at.below hb (Nat.le_refl _)
  have HB8 : Hid (Below W.heap.size W w8) := HB7.out.trans (hb8.mono HB7.out.size)
  have HNna : Hid (∀ w, Below w8.heap.size w8 w → NdAt w (.slice na 1 nc) nopL) := fun w hb => HNna.out w (hb8.trans (hb.mono hb8.size))
  have HNxa : Hid (∀ w, Below w8.heap.size w8 w → NdAt w (.slice xa 1 xc) [litN [97]]) := fun w hb => HNxa.out w (hb8.trans (hb.mono hb8.size))
  have HNaa : Hid (∀ w, Below w8.heap.size w8 w → NdAt w (.slice aa aN.length ac) aN) := fun w hb => HNaa.out w (hb8.trans (hb.mono hb8.size))
  have HNya : Hid (∀ w, Below w8.heap.size w8 w → NdAt w (.slice ya 1 yc) [litN [98]]) := fun w hb => HNya.out w (hb8.trans (hb.mono hb8.size))
  have HNba : Hid (∀ w, Below w8.heap.size w8 w → NdAt w (.slice ba bN.length bc) bN) := fun w hb => HNba.out w (hb8.trans (hb.mono hb8.size))
  have HNsa : Hid (∀ w, Below w8.heap.size w8 w → NdAt w (.slice sa abN.length sc) abN) := fun w hb => HNsa.out w (hb8.trans (hb.mono hb8.size))
  have HNia : Hid (∀ w, Below w8.heap.size w8 w → NdAt w (.slice ia inP.length ic) inP) := fun w hb => HNia.out w (hb8.trans (hb.mono hb8.size))
  clear ho8 hb8 HC8
  have HC9 : Hid _ := new_cells 27 0 [] [(.slice aa aN.length ac, aN)] 1 #[.slice aa aN.length ac] w8 rfl rfl (fun p hp => by simp only [List.mem_cons, List.not_mem_nil, or_false] at hp; rcases hp with rfl <;> first | exact HNaa.out _ (Below.refl _ _)) (by simp) (show (List.flatten [aN]).length ≤ 100000 by decide)
  go_wp2_with fail
  refine Calls.mono HC9.out ?_
  rintro e w9 ⟨ta, tc, rfl, ho9, hb9⟩
  have HNta : Hid (∀ w, Below w9.heap.size w9 w → NdAt w (.slice ta naN.length tc) naN) := fun w hb => ho9.at.below hb (Nat.le_refl _)
  have HB9 : Hid (Below W.heap.size W w9) := HB8.out.trans (hb9.mono HB8.out.size)
  have HNna : Hid (∀ w, Below w9.heap.size w9 w → NdAt w (.slice na 1 nc) nopL) := fun w hb => HNna.out w (hb9.trans (hb.mono hb9.size))
  have HNxa : Hid (∀ w, Below w9.heap.size w9 w → NdAt w (.slice xa 1 xc) [litN [97]]) := fun w hb => HNxa.out w (hb9.trans (hb.mono hb9.size))
  have HNaa : Hid (∀ w, Below w9.heap.size w9 w → NdAt w (.slice aa aN.length ac) aN) := fun w hb => HNaa.out w (hb9.trans (hb.mono hb9.size))
  have HNya : Hid (∀ w, Below w9.heap.size w9 w → NdAt w (.slice ya 1 yc) [litN [98]]) := fun w hb => HNya.out w (hb9.trans (hb.mono hb9.size))
  have HNba : Hid (∀ w, Below w9.heap.size w9 w → NdAt w (.slice ba bN.length bc) bN) := fun w hb => HNba.out w (hb9.trans (hb.mono hb9.size))
  have HNsa : Hid (∀ w, Below w9.heap.size w9 w → NdAt w (.slice sa abN.length sc) abN) := fun w hb => HNsa.out w (hb9.trans (hb.mono hb9.size))
  have HNia : Hid (∀ w, Below w9.heap.size w9 w → NdAt w (.slice ia inP.length ic) inP) := fun w hb => HNia.out w (hb9.trans (hb.mono hb9.size))
  have HNpa : Hid (∀ w, Below w9.heap.size w9 w → NdAt w (.slice pa abN.length pc) abN) := fun w hb => HNpa.out w (hb9.trans (hb.mono hb9.size))
  clear ho9 hb9 HC9
  have HC10 : Hid _ := new_cells 24 0 [] [(.slice ta naN.length tc, naN), (.slice ba bN.length bc, bN), (.slice na 1 nc, nopL)] 3 #[.slice ta naN.length tc, .slice ba bN.length bc, .slice na 1 nc] w9 rfl rfl (fun p hp => by simp only [List.mem_cons, List.not_mem_nil, or_false] at hp; rcases hp with rfl | rfl | rfl <;> first | exact HNta.out _ (Below.refl _ _) | exact HNba.out _ (Below.refl _ _) | exact HNna.out _ (Below.refl _ _)) (by simp) (show (List.flatten [naN, bN, nopL]).length ≤ 100000 by decide)
  go_wp2_with fail
  refine Calls.mono HC10.out ?_
  rintro e w10 ⟨ja, jc, rfl, ho10, hb10⟩
  have HNja : Hid (∀ w, Below w10.heap.size w10 w → NdAt w (.slice ja inQ.length jc) inQ) := fun w hb => ho10.at.below hb (Nat.le_refl _)
  have HB10 : Hid (Below W.heap.size W w10) := HB9.out.trans (hb10.mono HB9.out.size)
  have HNna : Hid (∀ w, Below w10.heap.size w10 w → NdAt w (.slice na 1 nc) nopL) := fun w hb => HNna.out w (hb10.trans (hb.mono hb10.size))
  have HNxa : Hid (∀ w, Below w10.heap.size w10 w → NdAt w (.slice xa 1 xc) [litN [97]]) := fun w hb => HNxa.out w (hb10.trans (hb.mono hb10.size))
  have HNaa : Hid (∀ w, Below w10.heap.size w10 w → NdAt w (.slice aa aN.length ac) aN) := fun w hb => HNaa.out w (hb10.trans (hb.mono hb10.size))
  have HNya : Hid (∀ w, Below w10.heap.size w10 w → NdAt w (.slice ya 1 yc) [litN [98]]) := fun w hb => HNya.out w (hb10.trans (hb.mono hb10.size))
  have HNba : Hid (∀ w, Below w10.heap.size w10 w → NdAt w (.slice ba bN.length bc) bN) := fun w hb => HNba.out w (hb10.trans (hb.mono hb10.size))
  have HNsa : Hid (∀ w, Below w10.heap.size w10 w → NdAt w (.slice sa abN.length sc) abN) := fun w hb => HNsa.out w (hb10.trans (hb.mono hb10.size))
  have HNia : Hid (∀ w, Below w10.heap.size w10 w → NdAt w (.slice ia inP.length ic) inP) := fun w hb => HNia.out w (hb10.trans (hb.mono hb10.size))
  have HNpa : Hid (∀ w, Below w10.heap.size w10 w → NdAt w (.slice pa abN.length pc) abN) := fun w hb => HNpa.out w (hb10.trans (hb.mono hb10.size))
  have HNta : Hid (∀ w, Below w10.heap.size w10 w → NdAt w (.slice ta naN.length tc) naN) := fun w hb => HNta.out w (hb10.trans (hb.mono hb10.size))
  clear ho10 hb10 HC10
  have HC11 : Hid _ := pass_form _ inQ outQ w10 ea (HE.out _ HB10.out) (HNja.out _ (Below.refl _ _)) (by decide) okQ passQ
  go_wp2_with fail
  refine Calls.mono HC11.out ?_
  rintro e w11 ⟨qa, qc, rfl, ho11, hb11⟩
  have HNqa : Hid (∀ w, Below w11.heap.size w11 w → NdAt w (.slice qa outQ.length qc) outQ) := fun w hb => ho11.at.below hb (Nat.le_refl _)
  have HB11 : Hid (Below W.heap.size W w11) := HB10.out.trans (hb11.mono HB10.out.size)
  have HNna : Hid (∀ w, Below w11.heap.size w11 w → NdAt w (.slice na 1 nc) nopL) := fun w hb => HNna.out w (hb11.trans (hb.mono hb11.size))
  have HNxa : Hid (∀ w, Below w11.heap.size w11 w → NdAt w (.slice xa 1 xc) [litN [97]]) := fun w hb => HNxa.out w (hb11.trans (hb.mono hb11.size))
  have HNaa : Hid (∀ w, Below w11.heap.size w11 w → NdAt w (.slice aa aN.length ac) aN) := fun w hb => HNaa.out w (hb11.trans (hb.mono hb11.size))
  have HNya : Hid (∀ w, Below w11.heap.size w11 w → NdAt w (.slice ya 1 yc) [litN [98]]) := fun w hb => HNya.out w (hb11.trans (hb.mono hb11.size))
  have HNba : Hid (∀ w, Below w11.heap.size w11 w → NdAt w (.slice ba bN.length bc) bN) := fun w hb => HNba.out w (hb11.trans (hb.mono hb11.size))
  have HNsa : Hid (∀ w, Below w11.heap.size w11 w → NdAt w (.slice sa abN.length sc) abN) := fun w hb => HNsa.out w (hb11.trans (hb.mono hb11.size))
  have HNia : Hid (∀ w, Below w11.heap.size w11 w → NdAt w (.slice ia inP.length ic) inP) := fun w hb => HNia.out w (hb11.trans (hb.mono hb11.size))
  have HNpa : Hid (∀ w, Below w11.heap.size w11 w → NdAt w (.slice pa abN.length pc) abN) := fun w hb => HNpa.out w (hb11.trans (hb.mono hb11.size))
  have HNta : Hid (∀ w, Below w11.heap.size w11 w → NdAt w (.slice ta naN.length tc) naN) := fun w hb => HNta.out w (hb11.trans (hb.mono hb11.size))
  have HNja : Hid (∀ w, Below w11.heap.size w11 w → NdAt w (.slice ja inQ.length jc) inQ) := fun w hb => HNja.out w (hb11.trans (hb.mono hb11.size))
  clear ho11 hb11 HC11
  have HC12 : Hid _ := new_cells 23 0 [] [(.slice aa aN.length ac, aN), (.slice ba bN.length bc, bN)] 2 #[.slice aa aN.length ac, .slice ba bN.length bc] w11 rfl rfl (fun p hp => by simp only [List.mem_cons, List.not_mem_nil, or_false] at hp; rcases hp with rfl | rfl <;> first | exact HNaa.out _ (Below.refl _ _) | exact HNba.out _ (Below.refl _ _)) (by simp) (show (List.flatten [aN, bN]).length ≤ 100000 by decide)
  go_wp2_with fail
  refine Calls.mono HC12.out ?_
  rintro e w12 ⟨s2, s2c, rfl, ho12, hb12⟩
  have HNs2 : Hid (∀ w, Below w12.heap.size w12 w → NdAt w (.slice s2 abN.length s2c) abN) := fun w hb => ho12.at.below hb (Nat.le_refl _)
  have HB12 : Hid (Below W.heap.size W w12) := HB11.out.trans (hb12.mono HB11.out.size)
  have HNna : Hid (∀ w, Below w12.heap.size w12 w → NdAt w (.slice na 1 nc) nopL) := fun w hb => HNna.out w (hb12.trans (hb.mono hb12.size))
  have HNxa : Hid (∀ w, Below w12.heap.size w12 w → NdAt w (.slice xa 1 xc) [litN [97]]) := fun w hb => HNxa.out w (hb12.trans (hb.mono hb12.size))
  have HNaa : Hid (∀ w, Below w12.heap.size w12 w → NdAt w (.slice aa aN.length ac) aN) := fun w hb => HNaa.out w (hb12.trans (hb.mono hb12.size))
  have HNya : Hid (∀ w, Below w12.heap.size w12 w → NdAt w (.slice ya 1 yc) [litN [98]]) := fun w hb => HNya.out w (hb12.trans (hb.mono hb12.size))
  have HNba : Hid (∀ w, Below w12.heap.size w12 w → NdAt w (.slice ba bN.length bc) bN) := fun w hb => HNba.out w (hb12.trans (hb.mono hb12.size))
  have HNsa : Hid (∀ w, Below w12.heap.size w12 w → NdAt w (.slice sa abN.length sc) abN) := fun w hb => HNsa.out w (hb12.trans (hb.mono hb12.size))
  have HNia : Hid (∀ w, Below w12.heap.size w12 w → NdAt w (.slice ia inP.length ic) inP) := fun w hb => HNia.out w (hb12.trans (hb.mono hb12.size))
  have HNpa : Hid (∀ w, Below w12.heap.size w12 w → NdAt w (.slice pa abN.length pc) abN) := fun w hb => HNpa.out w (hb12.trans (hb.mono hb12.size))
  have HNta : Hid (∀ w, Below w12.heap.size w12 w → NdAt w (.slice ta naN.length tc) naN) := fun w hb => HNta.out w (hb12.trans (hb.mono hb12.size))
  have HNja : Hid (∀ w, Below w12.heap.size w12 w → NdAt w (.slice ja inQ.length jc) inQ) := fun w hb => HNja.out w (hb12.trans (hb.mono hb12.size))
  have HNqa : Hid (∀ w, Below w12.heap.size w12 w → NdAt w (.slice qa outQ.length qc) outQ) := fun w hb => HNqa.out w (hb12.trans (hb.mono hb12.size))
  clear ho12 hb12 HC12
  have HC13 : Hid _ := same_any _ _ abN w12 (HNpa.out _ (Below.refl _ _)) (HNs2.out _ (Below.refl _ _)) (by decide)
  go_wp2_with fail
  refine Calls.mono HC13.out ?_
  rintro e w13 ⟨rfl, hb13⟩
  have HB13 : Hid (Below W.heap.size W w13) := HB12.out.trans (hb13.mono HB12.out.size)
  have HNna : Hid (∀ w, Below w13.heap.size w13 w → NdAt w (.slice na 1 nc) nopL) := fun w hb => HNna.out w (hb13.trans (hb.mono hb13.size))
  have HNxa : Hid (∀ w, Below w13.heap.size w13 w → NdAt w (.slice xa 1 xc) [litN [97]]) := fun w hb => HNxa.out w (hb13.trans (hb.mono hb13.size))
  have HNaa : Hid (∀ w, Below w13.heap.size w13 w → NdAt w (.slice aa aN.length ac) aN) := fun w hb => HNaa.out w (hb13.trans (hb.mono hb13.size))
  have HNya : Hid (∀ w, Below w13.heap.size w13 w → NdAt w (.slice ya 1 yc) [litN [98]]) := fun w hb => HNya.out w (hb13.trans (hb.mono hb13.size))
  have HNba : Hid (∀ w, Below w13.heap.size w13 w → NdAt w (.slice ba bN.length bc) bN) := fun w hb => HNba.out w (hb13.trans (hb.mono hb13.size))
  have HNsa : Hid (∀ w, Below w13.heap.size w13 w → NdAt w (.slice sa abN.length sc) abN) := fun w hb => HNsa.out w (hb13.trans (hb.mono hb13.size))
  have HNia : Hid (∀ w, Below w13.heap.size w13 w → NdAt w (.slice ia inP.length ic) inP) := fun w hb => HNia.out w (hb13.trans (hb.mono hb13.size))
  have HNpa : Hid (∀ w, Below w13.heap.size w13 w → NdAt w (.slice pa abN.length pc) abN) := fun w hb => HNpa.out w (hb13.trans (hb.mono hb13.size))
  have HNta : Hid (∀ w, Below w13.heap.size w13 w → NdAt w (.slice ta naN.length tc) naN) := fun w hb => HNta.out w (hb13.trans (hb.mono hb13.size))
  have HNja : Hid (∀ w, Below w13.heap.size w13 w → NdAt w (.slice ja inQ.length jc) inQ) := fun w hb => HNja.out w (hb13.trans (hb.mono hb13.size))
  have HNqa : Hid (∀ w, Below w13.heap.size w13 w → NdAt w (.slice qa outQ.length qc) outQ) := fun w hb => HNqa.out w (hb13.trans (hb.mono hb13.size))
  have HNs2 : Hid (∀ w, Below w13.heap.size w13 w → NdAt w (.slice s2 abN.length s2c) abN) := fun w hb => HNs2.out w (hb13.trans (hb.mono hb13.size))
  clear hb13 HC13
  have HC14 : Hid _ := new_cells 24 0 [] [(.slice aa aN.length ac, aN), (.slice na 1 nc, nopL), (.slice ba bN.length bc, bN)] 3 #[.slice aa aN.length ac, .slice na 1 nc, .slice ba bN.length bc] w13 rfl rfl (fun p hp => by simp only [List.mem_cons, List.not_mem_nil, or_false] at hp; rcases hp with rfl | rfl | rfl <;> first | exact HNaa.out _ (Below.refl _ _) | exact HNna.out _ (Below.refl _ _) | exact HNba.out _ (Below.refl _ _)) (by simp) (show (List.flatten [aN, nopL, bN]).length ≤ 100000 by decide)
  go_wp2_with fail
  refine Calls.mono HC14.out ?_
  rintro e w14 ⟨o2, o2c, rfl, ho14, hb14⟩
  have HNo2 : Hid (∀ w, Below w14.heap.size w14 w → NdAt w (.slice o2 outQ.length o2c) outQ) := fun w hb => ho14.at.below hb (Nat.le_refl _)
  have HB14 : Hid (Below W.heap.size W w14) := HB13.out.trans (hb14.mono HB13.out.size)
  have HNna : Hid (∀ w, Below w14.heap.size w14 w → NdAt w (.slice na 1 nc) nopL) := fun w hb => HNna.out w (hb14.trans (hb.mono hb14.size))
  have HNxa : Hid (∀ w, Below w14.heap.size w14 w → NdAt w (.slice xa 1 xc) [litN [97]]) := fun w hb => HNxa.out w (hb14.trans (hb.mono hb14.size))
  have HNaa : Hid (∀ w, Below w14.heap.size w14 w → NdAt w (.slice aa aN.length ac) aN) := fun w hb => HNaa.out w (hb14.trans (hb.mono hb14.size))
  have HNya : Hid (∀ w, Below w14.heap.size w14 w → NdAt w (.slice ya 1 yc) [litN [98]]) := fun w hb => HNya.out w (hb14.trans (hb.mono hb14.size))
  have HNba : Hid (∀ w, Below w14.heap.size w14 w → NdAt w (.slice ba bN.length bc) bN) := fun w hb => HNba.out w (hb14.trans (hb.mono hb14.size))
  have HNsa : Hid (∀ w, Below w14.heap.size w14 w → NdAt w (.slice sa abN.length sc) abN) := fun w hb => HNsa.out w (hb14.trans (hb.mono hb14.size))
  have HNia : Hid (∀ w, Below w14.heap.size w14 w → NdAt w (.slice ia inP.length ic) inP) := fun w hb => HNia.out w (hb14.trans (hb.mono hb14.size))
  have HNpa : Hid (∀ w, Below w14.heap.size w14 w → NdAt w (.slice pa abN.length pc) abN) := fun w hb => HNpa.out w (hb14.trans (hb.mono hb14.size))
  have HNta : Hid (∀ w, Below w14.heap.size w14 w → NdAt w (.slice ta naN.length tc) naN) := fun w hb => HNta.out w (hb14.trans (hb.mono hb14.size))
  have HNja : Hid (∀ w, Below w14.heap.size w14 w → NdAt w (.slice ja inQ.length jc) inQ) := fun w hb => HNja.out w (hb14.trans (hb.mono hb14.size))
  have HNqa : Hid (∀ w, Below w14.heap.size w14 w → NdAt w (.slice qa outQ.length qc) outQ) := fun w hb => HNqa.out w (hb14.trans (hb.mono hb14.size))
  have HNs2 : Hid (∀ w, Below w14.heap.size w14 w → NdAt w (.slice s2 abN.length s2c) abN) := fun w hb => HNs2.out w (hb14.trans (hb.mono hb14.size))
  clear ho14 hb14 HC14
  have HC15 : Hid _ := same_any _ _ outQ w14 (HNqa.out _ (Below.refl _ _)) (HNo2.out _ (Below.refl _ _)) (by decide)
  go_wp2_with fail
  refine Calls.mono HC15.out ?_
  rintro e w15 ⟨rfl, hb15⟩
  have HB15 : Hid (Below W.heap.size W w15) := HB14.out.trans (hb15.mono HB14.out.size)
  have HNna : Hid (∀ w, Below w15.heap.size w15 w → NdAt w (.slice na 1 nc) nopL) := fun w hb => HNna.out w (hb15.trans (hb.mono hb15.size))
  have HNxa : Hid (∀ w, Below w15.heap.size w15 w → NdAt w (.slice xa 1 xc) [litN [97]]) := fun w hb => HNxa.out w (hb15.trans (hb.mono hb15.size))
  have HNaa : Hid (∀ w, Below w15.heap.size w15 w → NdAt w (.slice aa aN.length ac) aN) := fun w hb => HNaa.out w (hb15.trans (hb.mono hb15.size))
  have HNya : Hid (∀ w, Below w15.heap.size w15 w → NdAt w (.slice ya 1 yc) [litN [98]]) := fun w hb => HNya.out w (hb15.trans (hb.mono hb15.size))
  have HNba : Hid (∀ w, Below w15.heap.size w15 w → NdAt w (.slice ba bN.length bc) bN) := fun w hb => HNba.out w (hb15.trans (hb.mono hb15.size))
  have HNsa : Hid (∀ w, Below w15.heap.size w15 w → NdAt w (.slice sa abN.length sc) abN) := fun w hb => HNsa.out w (hb15.trans (hb.mono hb15.size))
  have HNia : Hid (∀ w, Below w15.heap.size w15 w → NdAt w (.slice ia inP.length ic) inP) := fun w hb => HNia.out w (hb15.trans (hb.mono hb15.size))
  have HNpa : Hid (∀ w, Below w15.heap.size w15 w → NdAt w (.slice pa abN.length pc) abN) := fun w hb => HNpa.out w (hb15.trans (hb.mono hb15.size))
  have HNta : Hid (∀ w, Below w15.heap.size w15 w → NdAt w (.slice ta naN.length tc) naN) := fun w hb => HNta.out w (hb15.trans (hb.mono hb15.size))
  have HNja : Hid (∀ w, Below w15.heap.size w15 w → NdAt w (.slice ja inQ.length jc) inQ) := fun w hb => HNja.out w (hb15.trans (hb.mono hb15.size))
  have HNqa : Hid (∀ w, Below w15.heap.size w15 w → NdAt w (.slice qa outQ.length qc) outQ) := fun w hb => HNqa.out w (hb15.trans (hb.mono hb15.size))
  have HNs2 : Hid (∀ w, Below w15.heap.size w15 w → NdAt w (.slice s2 abN.length s2c) abN) := fun w hb => HNs2.out w (hb15.trans (hb.mono hb15.size))
  have HNo2 : Hid (∀ w, Below w15.heap.size w15 w → NdAt w (.slice o2 outQ.length o2c) outQ) := fun w hb => HNo2.out w (hb15.trans (hb.mono hb15.size))
  clear hb15 HC15
  have HC16 : Hid _ := lit_form ⟨#[120]⟩ w15
  go_wp2_with fail
  refine Calls.mono HC16.out ?_
  rintro e w16 ⟨za, zc, rfl, ho16, hb16⟩
  have HNza : Hid (∀ w, Below w16.heap.size w16 w → NdAt w (.slice za 1 zc) [litN [120]]) := fun w hb => ho16.at.below hb (Nat.le_refl _)
  have HB16 : Hid (Below W.heap.size W w16) := HB15.out.trans (hb16.mono HB15.out.size)
  have HNna : Hid (∀ w, Below w16.heap.size w16 w → NdAt w (.slice na 1 nc) nopL) := fun w hb => HNna.out w (hb16.trans (hb.mono hb16.size))
  have HNxa : Hid (∀ w, Below w16.heap.size w16 w → NdAt w (.slice xa 1 xc) [litN [97]]) := fun w hb => HNxa.out w (hb16.trans (hb.mono hb16.size))
  have HNaa : Hid (∀ w, Below w16.heap.size w16 w → NdAt w (.slice aa aN.length ac) aN) := fun w hb => HNaa.out w (hb16.trans (hb.mono hb16.size))
  have HNya : Hid (∀ w, Below w16.heap.size w16 w → NdAt w (.slice ya 1 yc) [litN [98]]) := fun w hb => HNya.out w (hb16.trans (hb.mono hb16.size))
  have HNba : Hid (∀ w, Below w16.heap.size w16 w → NdAt w (.slice ba bN.length bc) bN) := fun w hb => HNba.out w (hb16.trans (hb.mono hb16.size))
  have HNsa : Hid (∀ w, Below w16.heap.size w16 w → NdAt w (.slice sa abN.length sc) abN) := fun w hb => HNsa.out w (hb16.trans (hb.mono hb16.size))
  have HNia : Hid (∀ w, Below w16.heap.size w16 w → NdAt w (.slice ia inP.length ic) inP) := fun w hb => HNia.out w (hb16.trans (hb.mono hb16.size))
  have HNpa : Hid (∀ w, Below w16.heap.size w16 w → NdAt w (.slice pa abN.length pc) abN) := fun w hb => HNpa.out w (hb16.trans (hb.mono hb16.size))
  have HNta : Hid (∀ w, Below w16.heap.size w16 w → NdAt w (.slice ta naN.length tc) naN) := fun w hb => HNta.out w (hb16.trans (hb.mono hb16.size))
  have HNja : Hid (∀ w, Below w16.heap.size w16 w → NdAt w (.slice ja inQ.length jc) inQ) := fun w hb => HNja.out w (hb16.trans (hb.mono hb16.size))
  have HNqa : Hid (∀ w, Below w16.heap.size w16 w → NdAt w (.slice qa outQ.length qc) outQ) := fun w hb => HNqa.out w (hb16.trans (hb.mono hb16.size))
  have HNs2 : Hid (∀ w, Below w16.heap.size w16 w → NdAt w (.slice s2 abN.length s2c) abN) := fun w hb => HNs2.out w (hb16.trans (hb.mono hb16.size))
  have HNo2 : Hid (∀ w, Below w16.heap.size w16 w → NdAt w (.slice o2 outQ.length o2c) outQ) := fun w hb => HNo2.out w (hb16.trans (hb.mono hb16.size))
  clear ho16 hb16 HC16
  have HC17 : Hid _ := new_cells 34 0 [] [(.slice za 1 zc, [litN [120]]), (.slice na 1 nc, nopL)] 2 #[.slice za 1 zc, .slice na 1 nc] w16 rfl rfl (fun p hp => by simp only [List.mem_cons, List.not_mem_nil, or_false] at hp; rcases hp with rfl | rfl <;> first | exact HNza.out _ (Below.refl _ _) | exact HNna.out _ (Below.refl _ _)) (by simp) (show (List.flatten [[litN [120]], nopL]).length ≤ 100000 by decide)
  go_wp2_with fail
  refine Calls.mono HC17.out ?_
  rintro e w17 ⟨ha, hc, rfl, ho17, hb17⟩
  have HNha : Hid (∀ w, Below w17.heap.size w17 w → NdAt w (.slice ha inH.length hc) inH) := fun w hb => ho17.at.below hb (Nat.le_refl _)
  have HB17 : Hid (Below W.heap.size W w17) := HB16.out.trans (hb17.mono HB16.out.size)
  have HNna : Hid (∀ w, Below w17.heap.size w17 w → NdAt w (.slice na 1 nc) nopL) := fun w hb => HNna.out w (hb17.trans (hb.mono hb17.size))
  have HNxa : Hid (∀ w, Below w17.heap.size w17 w → NdAt w (.slice xa 1 xc) [litN [97]]) := fun w hb => HNxa.out w (hb17.trans (hb.mono hb17.size))
  have HNaa : Hid (∀ w, Below w17.heap.size w17 w → NdAt w (.slice aa aN.length ac) aN) := fun w hb => HNaa.out w (hb17.trans (hb.mono hb17.size))
  have HNya : Hid (∀ w, Below w17.heap.size w17 w → NdAt w (.slice ya 1 yc) [litN [98]]) := fun w hb => HNya.out w (hb17.trans (hb.mono hb17.size))
  have HNba : Hid (∀ w, Below w17.heap.size w17 w → NdAt w (.slice ba bN.length bc) bN) := fun w hb => HNba.out w (hb17.trans (hb.mono hb17.size))
  have HNsa : Hid (∀ w, Below w17.heap.size w17 w → NdAt w (.slice sa abN.length sc) abN) := fun w hb => HNsa.out w (hb17.trans (hb.mono hb17.size))
  have HNia : Hid (∀ w, Below w17.heap.size w17 w → NdAt w (.slice ia inP.length ic) inP) := fun w hb => HNia.out w (hb17.trans (hb.mono hb17.size))
  have HNpa : Hid (∀ w, Below w17.heap.size w17 w → NdAt w (.slice pa abN.length pc) abN) := fun w hb => HNpa.out w (hb17.trans (hb.mono hb17.size))
  have HNta : Hid (∀ w, Below w17.heap.size w17 w → NdAt w (.slice ta naN.length tc) naN) := fun w hb => HNta.out w (hb17.trans (hb.mono hb17.size))
  have HNja : Hid (∀ w, Below w17.heap.size w17 w → NdAt w (.slice ja inQ.length jc) inQ) := fun w hb => HNja.out w (hb17.trans (hb.mono hb17.size))
  have HNqa : Hid (∀ w, Below w17.heap.size w17 w → NdAt w (.slice qa outQ.length qc) outQ) := fun w hb => HNqa.out w (hb17.trans (hb.mono hb17.size))
  have HNs2 : Hid (∀ w, Below w17.heap.size w17 w → NdAt w (.slice s2 abN.length s2c) abN) := fun w hb => HNs2.out w (hb17.trans (hb.mono hb17.size))
  have HNo2 : Hid (∀ w, Below w17.heap.size w17 w → NdAt w (.slice o2 outQ.length o2c) outQ) := fun w hb => HNo2.out w (hb17.trans (hb.mono hb17.size))
  have HNza : Hid (∀ w, Below w17.heap.size w17 w → NdAt w (.slice za 1 zc) [litN [120]]) := fun w hb => HNza.out w (hb17.trans (hb.mono hb17.size))
  clear ho17 hb17 HC17
  have HC18 : Hid _ := pass_form _ inH nopL w17 ea (HE.out _ HB17.out) (HNha.out _ (Below.refl _ _)) (by decide) okH passH
  go_wp2_with fail
  refine Calls.mono HC18.out ?_
  rintro e w18 ⟨ga, gc, rfl, ho18, hb18⟩
  have HNga : Hid (∀ w, Below w18.heap.size w18 w → NdAt w (.slice ga nopL.length gc) nopL) := fun w hb => ho18.at.below hb (Nat.le_refl _)
  have HB18 : Hid (Below W.heap.size W w18) := HB17.out.trans (hb18.mono HB17.out.size)
  have HNna : Hid (∀ w, Below w18.heap.size w18 w → NdAt w (.slice na 1 nc) nopL) := fun w hb => HNna.out w (hb18.trans (hb.mono hb18.size))
  have HNxa : Hid (∀ w, Below w18.heap.size w18 w → NdAt w (.slice xa 1 xc) [litN [97]]) := fun w hb => HNxa.out w (hb18.trans (hb.mono hb18.size))
  have HNaa : Hid (∀ w, Below w18.heap.size w18 w → NdAt w (.slice aa aN.length ac) aN) := fun w hb => HNaa.out w (hb18.trans (hb.mono hb18.size))
  have HNya : Hid (∀ w, Below w18.heap.size w18 w → NdAt w (.slice ya 1 yc) [litN [98]]) := fun w hb => HNya.out w (hb18.trans (hb.mono hb18.size))
  have HNba : Hid (∀ w, Below w18.heap.size w18 w → NdAt w (.slice ba bN.length bc) bN) := fun w hb => HNba.out w (hb18.trans (hb.mono hb18.size))
  have HNsa : Hid (∀ w, Below w18.heap.size w18 w → NdAt w (.slice sa abN.length sc) abN) := fun w hb => HNsa.out w (hb18.trans (hb.mono hb18.size))
  have HNia : Hid (∀ w, Below w18.heap.size w18 w → NdAt w (.slice ia inP.length ic) inP) := fun w hb => HNia.out w (hb18.trans (hb.mono hb18.size))
  have HNpa : Hid (∀ w, Below w18.heap.size w18 w → NdAt w (.slice pa abN.length pc) abN) := fun w hb => HNpa.out w (hb18.trans (hb.mono hb18.size))
  have HNta : Hid (∀ w, Below w18.heap.size w18 w → NdAt w (.slice ta naN.length tc) naN) := fun w hb => HNta.out w (hb18.trans (hb.mono hb18.size))
  have HNja : Hid (∀ w, Below w18.heap.size w18 w → NdAt w (.slice ja inQ.length jc) inQ) := fun w hb => HNja.out w (hb18.trans (hb.mono hb18.size))
  have HNqa : Hid (∀ w, Below w18.heap.size w18 w → NdAt w (.slice qa outQ.length qc) outQ) := fun w hb => HNqa.out w (hb18.trans (hb.mono hb18.size))
  have HNs2 : Hid (∀ w, Below w18.heap.size w18 w → NdAt w (.slice s2 abN.length s2c) abN) := fun w hb => HNs2.out w (hb18.trans (hb.mono hb18.size))
  have HNo2 : Hid (∀ w, Below w18.heap.size w18 w → NdAt w (.slice o2 outQ.length o2c) outQ) := fun w hb => HNo2.out w (hb18.trans (hb.mono hb18.size))
  have HNza : Hid (∀ w, Below w18.heap.size w18 w → NdAt w (.slice za 1 zc) [litN [120]]) := fun w hb => HNza.out w (hb18.trans (hb.mono hb18.size))
  have HNha : Hid (∀ w, Below w18.heap.size w18 w → NdAt w (.slice ha inH.length hc) inH) := fun w hb => HNha.out w (hb18.trans (hb.mono hb18.size))
  clear ho18 hb18 HC18
  have HC19 : Hid _ := same_any _ _ nopL w18 (HNga.out _ (Below.refl _ _)) (HNna.out _ (Below.refl _ _)) (by decide)
  go_wp2_with fail
  refine Calls.mono HC19.out ?_
  rintro e w19 ⟨rfl, hb19⟩
  have HB19 : Hid (Below W.heap.size W w19) := HB18.out.trans (hb19.mono HB18.out.size)
  have HNna : Hid (∀ w, Below w19.heap.size w19 w → NdAt w (.slice na 1 nc) nopL) := fun w hb => HNna.out w (hb19.trans (hb.mono hb19.size))
  have HNxa : Hid (∀ w, Below w19.heap.size w19 w → NdAt w (.slice xa 1 xc) [litN [97]]) := fun w hb => HNxa.out w (hb19.trans (hb.mono hb19.size))
  have HNaa : Hid (∀ w, Below w19.heap.size w19 w → NdAt w (.slice aa aN.length ac) aN) := fun w hb => HNaa.out w (hb19.trans (hb.mono hb19.size))
  have HNya : Hid (∀ w, Below w19.heap.size w19 w → NdAt w (.slice ya 1 yc) [litN [98]]) := fun w hb => HNya.out w (hb19.trans (hb.mono hb19.size))
  have HNba : Hid (∀ w, Below w19.heap.size w19 w → NdAt w (.slice ba bN.length bc) bN) := fun w hb => HNba.out w (hb19.trans (hb.mono hb19.size))
  have HNsa : Hid (∀ w, Below w19.heap.size w19 w → NdAt w (.slice sa abN.length sc) abN) := fun w hb => HNsa.out w (hb19.trans (hb.mono hb19.size))
  have HNia : Hid (∀ w, Below w19.heap.size w19 w → NdAt w (.slice ia inP.length ic) inP) := fun w hb => HNia.out w (hb19.trans (hb.mono hb19.size))
  have HNpa : Hid (∀ w, Below w19.heap.size w19 w → NdAt w (.slice pa abN.length pc) abN) := fun w hb => HNpa.out w (hb19.trans (hb.mono hb19.size))
  have HNta : Hid (∀ w, Below w19.heap.size w19 w → NdAt w (.slice ta naN.length tc) naN) := fun w hb => HNta.out w (hb19.trans (hb.mono hb19.size))
  have HNja : Hid (∀ w, Below w19.heap.size w19 w → NdAt w (.slice ja inQ.length jc) inQ) := fun w hb => HNja.out w (hb19.trans (hb.mono hb19.size))
  have HNqa : Hid (∀ w, Below w19.heap.size w19 w → NdAt w (.slice qa outQ.length qc) outQ) := fun w hb => HNqa.out w (hb19.trans (hb.mono hb19.size))
  have HNs2 : Hid (∀ w, Below w19.heap.size w19 w → NdAt w (.slice s2 abN.length s2c) abN) := fun w hb => HNs2.out w (hb19.trans (hb.mono hb19.size))
  have HNo2 : Hid (∀ w, Below w19.heap.size w19 w → NdAt w (.slice o2 outQ.length o2c) outQ) := fun w hb => HNo2.out w (hb19.trans (hb.mono hb19.size))
  have HNza : Hid (∀ w, Below w19.heap.size w19 w → NdAt w (.slice za 1 zc) [litN [120]]) := fun w hb => HNza.out w (hb19.trans (hb.mono hb19.size))
  have HNha : Hid (∀ w, Below w19.heap.size w19 w → NdAt w (.slice ha inH.length hc) inH) := fun w hb => HNha.out w (hb19.trans (hb.mono hb19.size))
  have HNga : Hid (∀ w, Below w19.heap.size w19 w → NdAt w (.slice ga nopL.length gc) nopL) := fun w hb => HNga.out w (hb19.trans (hb.mono hb19.size))
  clear hb19 HC19
  have HC20 : Hid _ := lit_form ⟨#[120]⟩ w19
  go_wp2_with fail
  refine Calls.mono HC20.out ?_
  rintro e w20 ⟨z2, z2c, rfl, ho20, hb20⟩
  have HNz2 : Hid (∀ w, Below w20.heap.size w20 w → NdAt w (.slice z2 1 z2c) [litN [120]]) := fun w hb => ho20.at.below hb (Nat.le_refl _)
  have HB20 : Hid (Below W.heap.size W w20) := HB19.out.trans (hb20.mono HB19.out.size)
  have HNna : Hid (∀ w, Below w20.heap.size w20 w → NdAt w (.slice na 1 nc) nopL) := fun w hb => HNna.out w (hb20.trans (hb.mono hb20.size))
  have HNxa : Hid (∀ w, Below w20.heap.size w20 w → NdAt w (.slice xa 1 xc) [litN [97]]) := fun w hb => HNxa.out w (hb20.trans (hb.mono hb20.size))
  have HNaa : Hid (∀ w, Below w20.heap.size w20 w → NdAt w (.slice aa aN.length ac) aN) := fun w hb => HNaa.out w (hb20.trans (hb.mono hb20.size))
  have HNya : Hid (∀ w, Below w20.heap.size w20 w → NdAt w (.slice ya 1 yc) [litN [98]]) := fun w hb => HNya.out w (hb20.trans (hb.mono hb20.size))
  have HNba : Hid (∀ w, Below w20.heap.size w20 w → NdAt w (.slice ba bN.length bc) bN) := fun w hb => HNba.out w (hb20.trans (hb.mono hb20.size))
  have HNsa : Hid (∀ w, Below w20.heap.size w20 w → NdAt w (.slice sa abN.length sc) abN) := fun w hb => HNsa.out w (hb20.trans (hb.mono hb20.size))
  have HNia : Hid (∀ w, Below w20.heap.size w20 w → NdAt w (.slice ia inP.length ic) inP) := fun w hb => HNia.out w (hb20.trans (hb.mono hb20.size))
  have HNpa : Hid (∀ w, Below w20.heap.size w20 w → NdAt w (.slice pa abN.length pc) abN) := fun w hb => HNpa.out w (hb20.trans (hb.mono hb20.size))
  have HNta : Hid (∀ w, Below w20.heap.size w20 w → NdAt w (.slice ta naN.length tc) naN) := fun w hb => HNta.out w (hb20.trans (hb.mono hb20.size))
  have HNja : Hid (∀ w, Below w20.heap.size w20 w → NdAt w (.slice ja inQ.length jc) inQ) := fun w hb => HNja.out w (hb20.trans (hb.mono hb20.size))
  have HNqa : Hid (∀ w, Below w20.heap.size w20 w → NdAt w (.slice qa outQ.length qc) outQ) := fun w hb => HNqa.out w (hb20.trans (hb.mono hb20.size))
  have HNs2 : Hid (∀ w, Below w20.heap.size w20 w → NdAt w (.slice s2 abN.length s2c) abN) := fun w hb => HNs2.out w (hb20.trans (hb.mono hb20.size))
  have HNo2 : Hid (∀ w, Below w20.heap.size w20 w → NdAt w (.slice o2 outQ.length o2c) outQ) := fun w hb => HNo2.out w (hb20.trans (hb.mono hb20.size))
  have HNza : Hid (∀ w, Below w20.heap.size w20 w → NdAt w (.slice za 1 zc) [litN [120]]) := fun w hb => HNza.out w (hb20.trans (hb.mono hb20.size))
  have HNha : Hid (∀ w, Below w20.heap.size w20 w → NdAt w (.slice ha inH.length hc) inH) := fun w hb => HNha.out w (hb20.trans (hb.mono hb20.size))
  have HNga : Hid (∀ w, Below w20.heap.size w20 w → NdAt w (.slice ga nopL.length gc) nopL) := fun w hb => HNga.out w (hb20.trans (hb.mono hb20.size))
  clear ho20 hb20 HC20
  have HC21 : Hid _ := silent_any _ [litN [120]] w20 (HNz2.out _ (Below.refl _ _)) (by decide)
  go_wp2_with fail
  refine Calls.mono HC21.out ?_
  rintro e w21 ⟨rfl, hb21⟩
  have HB21 : Hid (Below W.heap.size W w21) := HB20.out.trans (hb21.mono HB20.out.size)
  have HNna : Hid (∀ w, Below w21.heap.size w21 w → NdAt w (.slice na 1 nc) nopL) := fun w hb => HNna.out w (hb21.trans (hb.mono hb21.size))
  have HNxa : Hid (∀ w, Below w21.heap.size w21 w → NdAt w (.slice xa 1 xc) [litN [97]]) := fun w hb => HNxa.out w (hb21.trans (hb.mono hb21.size))
  have HNaa : Hid (∀ w, Below w21.heap.size w21 w → NdAt w (.slice aa aN.length ac) aN) := fun w hb => HNaa.out w (hb21.trans (hb.mono hb21.size))
  have HNya : Hid (∀ w, Below w21.heap.size w21 w → NdAt w (.slice ya 1 yc) [litN [98]]) := fun w hb => HNya.out w (hb21.trans (hb.mono hb21.size))
  have HNba : Hid (∀ w, Below w21.heap.size w21 w → NdAt w (.slice ba bN.length bc) bN) := fun w hb => HNba.out w (hb21.trans (hb.mono hb21.size))
  have HNsa : Hid (∀ w, Below w21.heap.size w21 w → NdAt w (.slice sa abN.length sc) abN) := fun w hb => HNsa.out w (hb21.trans (hb.mono hb21.size))
  have HNia : Hid (∀ w, Below w21.heap.size w21 w → NdAt w (.slice ia inP.length ic) inP) := fun w hb => HNia.out w (hb21.trans (hb.mono hb21.size))
  have HNpa : Hid (∀ w, Below w21.heap.size w21 w → NdAt w (.slice pa abN.length pc) abN) := fun w hb => HNpa.out w (hb21.trans (hb.mono hb21.size))
  have HNta : Hid (∀ w, Below w21.heap.size w21 w → NdAt w (.slice ta naN.length tc) naN) := fun w hb => HNta.out w (hb21.trans (hb.mono hb21.size))
  have HNja : Hid (∀ w, Below w21.heap.size w21 w → NdAt w (.slice ja inQ.length jc) inQ) := fun w hb => HNja.out w (hb21.trans (hb.mono hb21.size))
  have HNqa : Hid (∀ w, Below w21.heap.size w21 w → NdAt w (.slice qa outQ.length qc) outQ) := fun w hb => HNqa.out w (hb21.trans (hb.mono hb21.size))
  have HNs2 : Hid (∀ w, Below w21.heap.size w21 w → NdAt w (.slice s2 abN.length s2c) abN) := fun w hb => HNs2.out w (hb21.trans (hb.mono hb21.size))
  have HNo2 : Hid (∀ w, Below w21.heap.size w21 w → NdAt w (.slice o2 outQ.length o2c) outQ) := fun w hb => HNo2.out w (hb21.trans (hb.mono hb21.size))
  have HNza : Hid (∀ w, Below w21.heap.size w21 w → NdAt w (.slice za 1 zc) [litN [120]]) := fun w hb => HNza.out w (hb21.trans (hb.mono hb21.size))
  have HNha : Hid (∀ w, Below w21.heap.size w21 w → NdAt w (.slice ha inH.length hc) inH) := fun w hb => HNha.out w (hb21.trans (hb.mono hb21.size))
  have HNga : Hid (∀ w, Below w21.heap.size w21 w → NdAt w (.slice ga nopL.length gc) nopL) := fun w hb => HNga.out w (hb21.trans (hb.mono hb21.size))
  have HNz2 : Hid (∀ w, Below w21.heap.size w21 w → NdAt w (.slice z2 1 z2c) [litN [120]]) := fun w hb => HNz2.out w (hb21.trans (hb.mono hb21.size))
  clear hb21 HC21
  go_wp2_with fail
  go_ret
  exact ⟨rfl, HB21.out⟩
end Go.Proofs.YtfakelaibijgkaaDoor
