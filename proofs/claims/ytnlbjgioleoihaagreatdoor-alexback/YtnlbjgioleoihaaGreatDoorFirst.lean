/- The chapter's examples. -/
import Derived.Test.YtnlbjgioleoihaaGreatDoorRd19
import Derived.Test.YtnlbjgioleoihaaGreatDoorSee
namespace Go.Proofs.YtnlbjgioleoihaaGreatDoor
open Go.RowKit
attribute [local go_sem] Oper.semAt_some

theorem flat_get3 : ∀ (K : List (Value × Tk)) (i : Nat) (q : Value × Tk), K[i]? = some q → ∀ j u, (tkC q)[j]? = some u → (tkCs K)[i * 3 + j]? = some u
  | [], i, q, h => by simp at h
  | x :: K, 0, q, h => by
    simp at h
    subst h
    intro j u hu
    rw [Nat.zero_mul, Nat.zero_add]
    show (tkC x ++ tkCs K)[j]? = _
    rw [List.getElem?_append_left (List.getElem?_eq_some_iff.1 hu).1]
    exact hu
  | x :: K, i + 1, q, h => by
    intro j u hu
    have := flat_get3 K i q (by simpa using h) j u hu
    show (tkC x ++ tkCs K)[(i + 1) * 3 + j]? = _
    rw [List.getElem?_append_right (by show 3 ≤ _; omega)]
    show (tkCs K)[(i + 1) * 3 + j - 3]? = _
    rw [show (i + 1) * 3 + j - 3 = i * 3 + j by omega]
    exact this
theorem flat_get5 : ∀ (X : List Pt) (i : Nat) (p : Pt), X[i]? = some p → ∀ j u, (ptC p)[j]? = some u → (ptCs X)[i * 5 + j]? = some u
  | [], i, q, h => by simp at h
  | x :: K, 0, q, h => by
    simp at h
    subst h
    intro j u hu
    rw [Nat.zero_mul, Nat.zero_add]
    show (ptC x ++ ptCs K)[j]? = _
    rw [List.getElem?_append_left (List.getElem?_eq_some_iff.1 hu).1]
    exact hu
  | x :: K, i + 1, q, h => by
    intro j u hu
    have := flat_get5 K i q (by simpa using h) j u hu
    show (ptC x ++ ptCs K)[(i + 1) * 5 + j]? = _
    rw [List.getElem?_append_right (by show 5 ≤ _; omega)]
    show (ptCs K)[(i + 1) * 5 + j - 5]? = _
    rw [show (i + 1) * 5 + j - 5 = i * 5 + j by omega]
    exact this
theorem PtOwn.get {W : World} {B : Nat} {v : Value} {X : List Pt} (h : PtOwn W B v X) (hne : X ≠ []) : ∃ g cap, v = .slice (some ⟨g, 0, none⟩) X.length cap ∧ ∀ i p, X[i]? = some p → ∀ j u, (ptC p)[j]? = some u → W.cell? ⟨g, i * 5 + j, none⟩ = some u := by
  obtain ⟨g, cap, hv, _, hc⟩ := h.cells hne
  refine ⟨g, cap, hv, fun i p hi j u hu => ?_⟩
  have := hc _ _ (flat_get5 X i p hi j u hu)
  rw [Addr.add_lit, Nat.zero_add] at this
  exact this
theorem TkOwn.get {W : World} {B : Nat} {v : Value} {K : List (Value × Tk)} (h : TkOwn W B v K) (hne : K ≠ []) : ∃ g cap, v = .slice (some ⟨g, 0, none⟩) K.length cap ∧ ∀ i q, K[i]? = some q → ∀ j u, (tkC q)[j]? = some u → W.cell? ⟨g, i * 3 + j, none⟩ = some u := by
  rcases h.row.2 with ⟨_, h0⟩ | ⟨g, cap, cur, hv, hb, hc, h1, _, h2, h3⟩
  · exact absurd (List.eq_nil_of_length_eq_zero h0) hne
  · refine ⟨g, cap, hv, fun i q hi j u hu => ?_⟩
    have hf := flat_get3 K i q hi j u hu
    have hlt := (List.getElem?_eq_some_iff.1 hf).1
    rw [tkCs_length] at hlt
    have e1 : W.cell? ⟨g, i * 3 + j, none⟩ = cur[i * 3 + j]? := by simp [World.cell?, hc]
    rw [e1, ← Array.getElem?_toList, ← List.getElem?_take_of_lt hlt, h3]
    exact hf
def srcA : List UInt8 := [97, 32, 34, 36, 120, 34, 98, 62, 102]
def srcB : List UInt8 := [39, 97]
def srcC : List UInt8 := [97, 32, 38, 32, 98]
def srcD : List UInt8 := [36, 40, 97, 32, 40, 98, 41, 32, 39, 41, 39, 41, 99]
def tokA : List Tk := [⟨13, 0, [⟨1, 0, 0, false, [97]⟩]⟩, ⟨13, 2, [⟨2, 2, 0, false, []⟩, ⟨3, 3, 0, true, [120]⟩, ⟨1, 6, 0, false, [98]⟩]⟩, ⟨10, 7, []⟩, ⟨13, 8, [⟨1, 8, 0, false, [102]⟩]⟩, ⟨0, 9, []⟩]
def tokD : List Tk := [⟨13, 0, [⟨4, 0, 0, false, [97, 32, 40, 98, 41, 32, 39, 41, 39]⟩, ⟨1, 12, 0, false, [99]⟩]⟩, ⟨0, 13, []⟩]
theorem lexA : lexL srcA = .ok tokA := by kernel_rfl
theorem lexB : lexL srcB = .error ⟨2, 0⟩ := by kernel_rfl
theorem lexC : lexL srcC = .error ⟨3, 2⟩ := by kernel_rfl
theorem lexD : lexL srcD = .ok tokD := by kernel_rfl
theorem map_five {K : List (Value × Tk)} {a b c d e : Tk} (h : K.map Prod.snd = [a, b, c, d, e]) : ∃ va vb vc vd ve, K = [(va, a), (vb, b), (vc, c), (vd, d), (ve, e)] := by
  match K, h with
  | [(va, _), (vb, _), (vc, _), (vd, _), (ve, _)], h =>
    simp at h
    obtain ⟨rfl, rfl, rfl, rfl, rfl⟩ := h
    exact ⟨va, vb, vc, vd, ve, rfl⟩
theorem map_two {K : List (Value × Tk)} {a b : Tk} (h : K.map Prod.snd = [a, b]) : ∃ va vb, K = [(va, a), (vb, b)] := by
  match K, h with
  | [(va, _), (vb, _)], h =>
    simp at h
    obtain ⟨rfl, rfl⟩ := h
    exact ⟨va, vb, rfl⟩
set_option maxRecDepth 100000 in
set_option maxHeartbeats 4000000 in
theorem first_any (W : World) (ea : Nat → Addr) (hE : Env W ea) (hW : (ea 64).block ≤ W.heap.size) :
    Calls Tryz.prog 4 #[] W fun e w' => e = .returned (.bool true) ∧ Below W.heap.size W w' := by
  have HL : Hid (∀ (l : List UInt8) (w : World), l.length ≤ 8192 → Below W.heap.size W w → Calls Tryz.prog 5 #[.string ⟨l.toArray⟩] w fun e w' => ∃ v ev, e = .returned (.tuple #[v, ev]) ∧ LexV w ea (lexL l) v ev w' ∧ Below w.heap.size w w') := fun l w hl hb => lex_any ⟨l.toArray⟩ w ea (hE.below hb) (Nat.le_trans hW hb.size) hl
  have HE : Hid (∀ w, Below W.heap.size W w → Env w ea) := fun w hb => hE.below hb
  clear hE
  have LA := HL.out srcA W (by decide) (Below.refl _ _)
  rw [lexA] at LA
  have HLA : Hid _ := LA
  clear LA
  go_enter Tryz.func4, Tryz.ntmps4
  go_wp2_with fail
  refine Calls.mono HLA.out ?_
  rintro e w1 ⟨v1, ev1, rfl, ⟨rfl, K1, hK1, hO1⟩, hb1⟩
  obtain ⟨ad1, cap1, rfl⟩ := hO1.form
  have HO1 : Hid (TkOwn w1 W.heap.size (.slice ad1 K1.length cap1) K1) := hO1
  have HK1 : Hid (K1.map Prod.snd = tokA) := hK1
  have HB1 : Hid (Below W.heap.size W w1) := hb1
  clear hO1 hK1 hb1 HLA
  have LB := HL.out srcB w1 (by decide) HB1.out
  rw [lexB] at LB
  have HLB : Hid _ := LB
  clear LB
  go_wp2_with fail
  refine Calls.mono HLB.out ?_
  rintro e w2 ⟨v2, ev2, rfl, ⟨rfl, q2, rfl, hx2⟩, hb2⟩
  have HX2 : Hid (Cel w2 q2 81 #[.int .i64 0, errV (ea (gOf 2))]) := hx2
  have HO2 : Hid (TkOwn w2 W.heap.size (.slice ad1 K1.length cap1) K1) := HO1.out.below hb2
  have HB2 : Hid (Below W.heap.size W w2) := HB1.out.trans (Below.mono hb2 HB1.out.size)
  clear hx2 hb2 HLB HO1 HB1
  have LC := HL.out srcC w2 (by decide) HB2.out
  rw [lexC] at LC
  have HLC : Hid _ := LC
  clear LC
  go_wp2_with fail
  refine Calls.mono HLC.out ?_
  rintro e w3 ⟨v3, ev3, rfl, ⟨rfl, q3, rfl, hx3⟩, hb3⟩
  have HX3 : Hid (Cel w3 q3 81 #[.int .i64 2, errV (ea (gOf 3))]) := hx3
  have HX23 : Hid (Cel w3 q2 81 #[.int .i64 0, errV (ea (gOf 2))]) := HX2.out.below hb3 HX2.out.lt
  have HO3 : Hid (TkOwn w3 W.heap.size (.slice ad1 K1.length cap1) K1) := HO2.out.below hb3
  have HB3 : Hid (Below W.heap.size W w3) := HB2.out.trans (Below.mono hb3 HB2.out.size)
  clear hx3 hb3 HLC HO2 HB2 HX2
  have LD := HL.out srcD w3 (by decide) HB3.out
  rw [lexD] at LD
  have HLD : Hid _ := LD
  clear LD
  go_wp2_with fail
  refine Calls.mono HLD.out ?_
  rintro e w4 ⟨v4, ev4, rfl, ⟨rfl, K4, hK4, hO4⟩, hb4⟩
  have hO1 : TkOwn w4 W.heap.size (.slice ad1 K1.length cap1) K1 := HO3.out.below hb4
  have HX34 : Hid (Cel w4 q3 81 #[.int .i64 2, errV (ea (gOf 3))]) := HX3.out.below hb4 HX3.out.lt
  have HX24 : Hid (Cel w4 q2 81 #[.int .i64 0, errV (ea (gOf 2))]) := HX23.out.below hb4 HX23.out.lt
  have HB4 : Hid (Below W.heap.size W w4) := HB3.out.trans (Below.mono hb4 HB3.out.size)
  obtain ⟨va, vb, vc, vd, ve, rfl⟩ := map_five (show K1.map Prod.snd = [_, _, _, _, _] from HK1.out)
  obtain ⟨ua, ub, rfl⟩ := map_two (show K4.map Prod.snd = [_, _] from hK4)
  obtain ⟨g1, c1, hv1, hg1⟩ := hO1.get (by simp)
  obtain ⟨g4, c4, rfl, hg4⟩ := hO4.get (by simp)
  have hpb : PtOwn w4 W.heap.size vb [⟨2, 2, 0, false, []⟩, ⟨3, 3, 0, true, [120]⟩, ⟨1, 6, 0, false, [98]⟩] := hO1.parts (vb, ⟨13, 2, [⟨2, 2, 0, false, []⟩, ⟨3, 3, 0, true, [120]⟩, ⟨1, 6, 0, false, [98]⟩]⟩) (by simp)
  have hpa : PtOwn w4 w3.heap.size ua [⟨4, 0, 0, false, [97, 32, 40, 98, 41, 32, 39, 41, 39]⟩, ⟨1, 12, 0, false, [99]⟩] := hO4.parts (ua, ⟨13, 0, [⟨4, 0, 0, false, [97, 32, 40, 98, 41, 32, 39, 41, 39]⟩, ⟨1, 12, 0, false, [99]⟩]⟩) (by simp)
  obtain ⟨hb1, pb, rfl, hgb⟩ := hpb.get (by simp)
  obtain ⟨ha4, pa, rfl, hga⟩ := hpa.get (by simp)
  simp only [List.length_cons, List.length_nil, Nat.zero_add, Nat.reduceAdd] at hv1
  have t2k : w4.cell? ⟨g1, 6, none⟩ = some (.int .i64 10) := hg1 2 _ rfl 0 _ rfl
  have t1p : w4.cell? ⟨g1, 5, none⟩ = some (.slice (some ⟨hb1, 0, none⟩) 3 pb) := hg1 1 _ rfl 2 _ rfl
  have m0p : w4.cell? ⟨g4, 2, none⟩ = some (.slice (some ⟨ha4, 0, none⟩) 2 pa) := hg4 0 _ rfl 2 _ rfl
  have p1k : w4.cell? ⟨hb1, 5, none⟩ = some (.int .i64 3) := hgb 1 _ rfl 0 _ rfl
  have p1q : w4.cell? ⟨hb1, 8, none⟩ = some (.bool true) := hgb 1 _ rfl 3 _ rfl
  have m0s : w4.cell? ⟨ha4, 4, none⟩ = some (.string ⟨#[97, 32, 40, 98, 41, 32, 39, 41, 39]⟩) := hga 0 _ rfl 4 _ rfl
  have hv1' := Value.slice.inj hv1
  obtain ⟨rfl, _, rfl⟩ := hv1'
  clear hpa hpb hO1 hO4 hb4 hK4 HK1 hg1 hg4 hgb hga HO3 HB3 HX3 HX23 HLD hv1
  simp only [List.length_cons, List.length_nil, Nat.zero_add, Nat.reduceAdd]
  go_wp2_with fail
  refine (placed_any 103 0 (by decide) _).mono ?_
  rintro e w5 ⟨f5, rfl, hf5, _, hb5⟩
  have HB5 : Hid (Below W.heap.size W w5) := HB4.out.trans (Below.mono hb5 HB4.out.size)
  have HX35 : Hid (Cel w5 q3 81 #[.int .i64 2, errV (ea (gOf 3))]) := HX34.out.below hb5 HX34.out.lt
  have HSA : Hid _ := same_any w5 ea (HE.out _ HB5.out) 2 (by omega) (ea (gOf 2)) rfl q2 0 (HX24.out.below hb5 HX24.out.lt) f5 hf5 103 rfl
  clear hf5 hb5 t2k t1p m0p p1k p1q m0s HX34 HX24 HB4
  go_wp2_with fail
  refine Calls.mono HSA.out ?_
  rintro e w6 ⟨rfl, hb6⟩
  have HB6 : Hid (Below W.heap.size W w6) := HB5.out.trans (Below.mono hb6 HB5.out.size)
  have HX36 : Hid (Cel w6 q3 81 #[.int .i64 2, errV (ea (gOf 3))]) := HX35.out.below hb6 HX35.out.lt
  clear hb6 HSA HB5 HX35
  go_wp2_with fail
  refine (placed_any 107 2 (by decide) _).mono ?_
  rintro e w7 ⟨f7, rfl, hf7, _, hb7⟩
  have HB7 : Hid (Below W.heap.size W w7) := HB6.out.trans (Below.mono hb7 HB6.out.size)
  have HSB : Hid _ := same_any w7 ea (HE.out _ HB7.out) 6 (by omega) (ea (gOf 3)) rfl q3 2 (HX36.out.below hb7 HX36.out.lt) f7 hf7 107 rfl
  clear hf7 hb7 HX36 HB6
  go_wp2_with fail
  refine Calls.mono HSB.out ?_
  rintro e w8 ⟨rfl, hb8⟩
  have HB8 : Hid (Below W.heap.size W w8) := HB7.out.trans (Below.mono hb8 HB7.out.size)
  clear hb8 HSB HB7
  go_wp2_with fail
  go_ret
  exact ⟨rfl, HB8.out⟩
end Go.Proofs.YtnlbjgioleoihaaGreatDoor
