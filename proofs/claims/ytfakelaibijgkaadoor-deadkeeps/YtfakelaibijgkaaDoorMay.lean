/- May a node be what is asked of it? -/
import Derived.Test.YtfakelaibijgkaaDoorAsk
import Derived.Deep.CutRange
import Derived.BigRegion
namespace Go.Proofs.YtfakelaibijgkaaDoor
open Go.RowKit
attribute [local go_sem] Oper.semAt_some

theorem two_new (W : World) (t1 t2 : TypeId) (c1 c2 : Array Value) : Cel ((W.alloc (.cells c1 t1)).alloc (.cells c2 t2)).drew W.heap.size t1 c1 ∧ Cel ((W.alloc (.cells c1 t1)).alloc (.cells c2 t2)).drew (W.heap.size + 1) t2 c2 ∧ Below W.heap.size W ((W.alloc (.cells c1 t1)).alloc (.cells c2 t2)).drew := by
  have hb := below_new W (.cells c1 t1)
  have e : (W.alloc (.cells c1 t1)).heap.size = W.heap.size + 1 := by simp
  refine ⟨?_, ?_, (hb.alloc hb.size _).drew⟩
  · exact Cel.below (B := W.heap.size + 1) (Cel.new W t1 c1) (by rw [← e]; exact (below_new _ _).drew) (by omega)
  · have := Cel.new (W.alloc (.cells c1 t1)) t2 c2
    rw [e] at this
    exact this
set_option maxRecDepth 100000 in
set_option maxHeartbeats 4000000 in
theorem mayBe_any (X : List Nd) (A : List Ak) (pb ab : Nat) (v : Value) (i : Nat) (x : Nd) (a : Ak) (W : World) (hP : PrAt W pb ab v X.length A) (hN : NdAt W v X) (hx : X[i]? = some x) (ha : A[i]? = some a) (hi : i < 4294967296) (hs : x.s.length < 4611686018427387904) (hf0 : -4294967296 ≤ a.fin) (hf1 : a.fin ≤ 4294967296) :
    Calls Tryd.prog 24 #[.pointer (some ⟨pb, 0, none⟩), .int .i64 i] W fun e w' => e = .returned (.bool (mayB x a i)) ∧ Below W.heap.size W w' := by
  obtain ⟨g, o, cap, hv, hg, c0, c1, c2, c3, c4⟩ := hN.at hx
  subst hv
  have hlt : i < X.length := (List.getElem?_eq_some_iff.1 hx).1
  have p0 : W.cell? ⟨pb, 0, none⟩ = some (.slice (some ⟨g, o, none⟩) X.length cap) := hP.prog.cell 0
  have p1 : W.cell? ⟨pb, 1, none⟩ = some (.slice (some ⟨ab, 0, none⟩) X.length X.length) := hP.prog.cell 1
  obtain ⟨a0, a1, a2, a3⟩ := hP.ask.at ha
  have hpb : pb < W.heap.size := hP.prog.lt
  have hab : ab < W.heap.size := Cel.lt hP.ask
  clear hP hN hx ha
  obtain ⟨kd, n, k, sz, s⟩ := x
  obtain ⟨fin, dep, last, word⟩ := a
  simp only at c0 c1 c2 c3 c4 a0 a1 a2 a3 hf0 hf1 hs
  have hlt' : (i : Int) < (X.length : Int) := by omega
  go_enter Tryd.func24, Tryd.ntmps24
  go_upto_region 1 with fail
  go_cut [5, 6] from 7 to 20 (fun v5 v6 wx => ∃ b5 b6, v5 = .pointer (some ⟨b5, 0, none⟩) ∧ v6 = .pointer (some ⟨b6, 0, none⟩) ∧ Cel wx b5 26 #[.int .i64 kd, .int .i64 n, .int .i64 k, .int .i64 sz, str s] ∧ Cel wx b6 52 #[.int .i64 fin, .int .i64 dep, .bool last, .bool word] ∧ Below W.heap.size W wx)
  case first => as_aux_lemma =>
    go_region
    all_goals (go_wp2_with fail; go_meet)
    · obtain ⟨q1, q2, q3⟩ := two_new W 26 52 #[.int .i64 kd, .int .i64 n, .int .i64 k, .int .i64 sz, str s] #[.int .i64 fin, .int .i64 dep, .bool last, .bool word]
      exact ⟨_, _, rfl, rfl, q1, q2, q3⟩
    · obtain ⟨q1, q2, q3⟩ := two_new W 52 26 #[.int .i64 fin, .int .i64 dep, .bool last, .bool word] #[.int .i64 kd, .int .i64 n, .int .i64 k, .int .i64 sz, str s]
      exact ⟨_, _, rfl, rfl, q2, q1, q3⟩
  case rest =>
    obtain ⟨b5, b6, rfl, rfl, q5, q6, hbc⟩ := hcut
    clear c0 c1 c2 c3 c4 a0 a1 a2 a3 p0 p1
    have Q5 : Hid (∀ W', Below wc.heap.size wc W' → Cel W' b5 26 #[.int .i64 kd, .int .i64 n, .int .i64 k, .int .i64 sz, str s]) := fun W' hb => Cel.below q5 hb q5.lt
    have Q6 : Hid (∀ W', Below wc.heap.size wc W' → Cel W' b6 52 #[.int .i64 fin, .int .i64 dep, .bool last, .bool word]) := fun W' hb => Cel.below q6 hb q6.lt
    have d0 := q5.cell 0
    have d1 := q5.cell 1
    have d2 := q5.cell 2
    have d3 := q5.cell 3
    have d4 := q5.cell 4
    have e3 := q6.cell 3
    simp only [List.getElem?_toArray, List.getElem?_cons_zero, List.getElem?_cons_succ] at d0 d1 d2 d3 d4 e3
    clear q5 q6
    have HM : Hid (mayB ⟨kd, n, k, sz, s⟩ ⟨fin, dep, last, word⟩ i = (isOneB kd word && numB kd n && strB kd n s && cntB kd k && sizB k sz (fin - i) last)) := rfl
    go_wp2_with fail
    refine (isOne_any _ _ _).mono ?_
    rintro e w1 ⟨rfl, hw1⟩
    subst hw1
    cases h1 : isOneB kd word with
    | false =>
      go_wp2_with fail
      go_ret
      exact ⟨ret_bool (by rw [HM.out, h1]; rfl), hbc⟩
    | true =>
      go_wp2_with fail
      refine (number_any ⟨kd, n, k, sz, s⟩ _).mono ?_
      rintro e w2 ⟨rfl, hw2⟩
      have HW2 : Hid (Below w1.heap.size w1 w2) := hw2
      obtain ⟨b2, hb2⟩ : ∃ b2, numB kd n = b2 := ⟨_, rfl⟩
      simp only [hb2]
      clear d0 d1 d2 d3 d4 e3 hw2
      have d0 := (Q5.out _ HW2.out).cell 0
      have d1 := (Q5.out _ HW2.out).cell 1
      have d2 := (Q5.out _ HW2.out).cell 2
      have d3 := (Q5.out _ HW2.out).cell 3
      have d4 := (Q5.out _ HW2.out).cell 4
      simp only [List.getElem?_toArray, List.getElem?_cons_zero, List.getElem?_cons_succ] at d0 d1 d2 d3 d4
      cases b2 with
      | false =>
        go_wp2_with fail
        go_ret
        exact ⟨ret_bool (by rw [HM.out, h1, hb2]; rfl), hbc.trans (HW2.out.mono hbc.size)⟩
      | true =>
        go_wp2_with fail
        refine (string_any ⟨kd, n, k, sz, s⟩ hs _).mono ?_
        rintro e w3 ⟨rfl, hw3⟩
        have HW3 : Hid (Below w1.heap.size w1 w3) := HW2.out.trans (hw3.mono HW2.out.size)
        obtain ⟨b3, hb3⟩ : ∃ b3, strB kd n s = b3 := ⟨_, rfl⟩
        simp only [hb3]
        clear d0 d1 d2 d3 d4 hw3
        have d0 := (Q5.out _ HW3.out).cell 0
        have d1 := (Q5.out _ HW3.out).cell 1
        have d2 := (Q5.out _ HW3.out).cell 2
        have d3 := (Q5.out _ HW3.out).cell 3
        have d4 := (Q5.out _ HW3.out).cell 4
        simp only [List.getElem?_toArray, List.getElem?_cons_zero, List.getElem?_cons_succ] at d0 d1 d2 d3 d4
        cases b3 with
        | false =>
          go_wp2_with fail
          go_ret
          exact ⟨ret_bool (by rw [HM.out, h1, hb2, hb3]; rfl), hbc.trans (HW3.out.mono hbc.size)⟩
        | true =>
          go_wp2_with fail
          refine (count_any ⟨kd, n, k, sz, s⟩ _).mono ?_
          rintro e w4 ⟨rfl, hw4⟩
          have HW4 : Hid (Below w1.heap.size w1 w4) := HW3.out.trans (hw4.mono HW3.out.size)
          obtain ⟨b4, hb4⟩ : ∃ b4, cntB kd k = b4 := ⟨_, rfl⟩
          simp only [hb4]
          clear d0 d1 d2 d3 d4 hw4
          have d0 := (Q5.out _ HW4.out).cell 0
          have d1 := (Q5.out _ HW4.out).cell 1
          have d2 := (Q5.out _ HW4.out).cell 2
          have d3 := (Q5.out _ HW4.out).cell 3
          have d4 := (Q5.out _ HW4.out).cell 4
          have e0 := (Q6.out _ HW4.out).cell 0
          have e2 := (Q6.out _ HW4.out).cell 2
          simp only [List.getElem?_toArray, List.getElem?_cons_zero, List.getElem?_cons_succ] at d0 d1 d2 d3 d4 e0 e2
          cases b4 with
          | false =>
            go_wp2_with fail
            go_ret
            exact ⟨ret_bool (by rw [HM.out, h1, hb2, hb3, hb4]; rfl), hbc.trans (HW4.out.mono hbc.size)⟩
          | true =>
            go_wp2_with fail
            refine (size_any ⟨kd, n, k, sz, s⟩ (fin - i) last _).mono ?_
            rintro e w5 ⟨rfl, hw5⟩
            have HW5 : Hid (Below w1.heap.size w1 w5) := HW4.out.trans (hw5.mono HW4.out.size)
            clear d0 d1 d2 d3 d4 hw5
            go_wp2_with fail
            go_ret
            exact ⟨ret_bool (by rw [HM.out, h1, hb2, hb3, hb4]; simp), hbc.trans (HW5.out.mono hbc.size)⟩
end Go.Proofs.YtfakelaibijgkaaDoor
