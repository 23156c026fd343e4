/- The chapter's examples. -/
import Derived.Test.YtgabodcbhjcmiaaDoorSee
import Derived.Test.YtgabodcbhjcmiaaDoorNew
namespace Go.Proofs.YtgabodcbhjcmiaaDoor
open Go.RowKit
attribute [local go_sem] Oper.semAt_some

/-- Nodes of one's own. -/
def NdOwn (W : World) (B : Nat) (v : Value) (X : List Nd) : Prop := W.ownsRow B 28 5 v X.length (ndCs X)
theorem NdOwn.at {W : World} {B : Nat} {v : Value} {X : List Nd} (h : NdOwn W B v X) : NdAt W v X := NdAt.owned h
theorem NdOwn.below {W W' : World} {B : Nat} {v : Value} {X : List Nd} (h : NdOwn W B v X) (hb : Below W.heap.size W W') : NdOwn W' B v X := owns_turn h (Turn.ofBelow (S := fun _ => False) hb) (fun _ _ h => h)
/-- A list of lists that lies in a block. -/
theorem KdAt.of_cells {W : World} {b : Nat} {t : TypeId} {K : List (Value × List Nd)} {n cap : Nat} (hn : n = K.length) (hc : Cel W b t (K.map Prod.fst).toArray) (h : ∀ p ∈ K, NdAt W p.1 p.2) (hcap : n ≤ cap) : KdAt W (.slice (some ⟨b, 0, none⟩) n cap) K := by
  subst hn
  refine ⟨.inr ⟨b, 0, cap, by simp, by simpa using hcap, hc.lt, fun j cs hj i u hu => ?_⟩, h⟩
  rw [List.getElem?_map] at hj
  cases hp : K[j]? with
  | none => rw [hp] at hj; cases hj
  | some p =>
    rw [hp] at hj
    cases hj
    cases i with
    | succ i => simp at hu
    | zero =>
      simp at hu
      subst hu
      rw [Nat.mul_one, Nat.zero_add, Nat.add_zero, hc.cell, List.getElem?_toArray, List.getElem?_map, hp]
      rfl
theorem new_own (kind n : Int) (s : Txt) (v : Value) (K : List (Value × List Nd)) (w : World) (h : KdAt w v K) (hK : K.length < 4294967296) (hT : (kidL K).length < 4294967296) :
    Calls Tryd.prog 11 #[.int .i64 kind, .int .i64 n, str s, v] w fun e w' => ∃ v', e = .returned v' ∧ NdOwn w' w.heap.size v' (newN kind n s (K.map Prod.snd)) ∧ Below w.heap.size w w' := by
  refine (new_any kind n s v K w h hK hT).mono ?_
  rintro e w' ⟨v', rfl, h1, h2⟩
  refine ⟨v', rfl, ?_, h2⟩
  have e : (newN kind n s (K.map Prod.snd)).length = (kidL K).length + 1 := by simp [newN, kidL]
  unfold NdOwn
  rw [e]
  exact h1
theorem new_leaf (kind n : Int) (s : Txt) (w : World) :
    Calls Tryd.prog 11 #[.int .i64 kind, .int .i64 n, str s, .slice none 0 0] w fun e w' => ∃ v', e = .returned v' ∧ NdOwn w' w.heap.size v' [⟨kind, n, 0, 1, s⟩] ∧ Below w.heap.size w w' :=
  new_own kind n s (.slice none 0 0) [] w (KdAt.nil w) (by decide) (by decide)
theorem lit_any (s : ByteArray) (w : World) : Calls Tryd.prog 22 #[.string s] w fun e w' => ∃ v', e = .returned v' ∧ NdOwn w' w.heap.size v' [litN s.data.toList] ∧ Below w.heap.size w w' := by
  have HL : Hid (∀ W', Calls Tryd.prog 11 #[.int .i64 1, .int .i64 0, .string s, .slice none 0 0] W' fun e w' => ∃ v', e = .returned v' ∧ NdOwn w' W'.heap.size v' [litN s.data.toList] ∧ Below W'.heap.size W' w') := fun W' => new_leaf 1 0 s.data.toList W'
  go_enter Tryd.func22, Tryd.ntmps22
  go_wp2_with fail
  refine Calls.mono (HL.out _) ?_
  rintro e w1 ⟨v1, rfl, ho, hb⟩
  go_wp2_with fail
  go_ret
  exact ⟨_, rfl, ho, hb⟩
theorem coreSize_any (ad : Option Addr) (n cap : Nat) (W : World) : Calls Tryd.prog 23 #[.slice ad n cap] W fun e w' => e = .returned (.int .i64 n) ∧ w' = W := by
  go_enter Tryd.func23, Tryd.ntmps23
  go_wp2_with fail
  go_ret
  exact ⟨rfl, rfl⟩
theorem ok_small (x : Nd) (h1 : x.s.length ≤ 300) (h2 : x.k ≤ 4294967296) : NdOk x := ⟨by omega, by omega⟩

set_option maxRecDepth 100000 in
set_option maxHeartbeats 4000000 in
theorem first_any (W : World) (ea : Nat → Addr) (hE : Ers W ea) : Calls Tryd.prog 8 #[] W fun e w' => e = .returned (.bool true) ∧ Below W.heap.size W w' := by
  have HE : Hid (∀ W', Below W.heap.size W W' → Ers W' ea) := fun W' hb => hE.below hb
  clear hE
  go_enter Tryd.func8, Tryd.ntmps8
  go_wp2_with fail
  refine (lit_any _ _).mono ?_
  rintro e w1 ⟨v1, rfl, ho1, hb1⟩
  have HO1 : Hid (NdOwn w1 W.heap.size v1 [litN [101, 99, 104, 111]]) := ho1
  obtain ⟨ad1, cap1, rfl⟩ := owns_slice ho1
  clear ho1
  go_wp2_with fail
  refine (lit_any _ _).mono ?_
  rintro e w2 ⟨v2, rfl, ho2, hb2⟩
  have HO2 : Hid (NdOwn w2 w1.heap.size v2 [litN [97]]) := ho2
  have HO1' : Hid (NdOwn w2 W.heap.size (.slice ad1 1 cap1) [litN [101, 99, 104, 111]]) := HO1.out.below hb2
  obtain ⟨ad2, cap2, rfl⟩ := owns_slice ho2
  have hbw2 := hb1.trans (hb2.mono hb1.size)
  clear ho2 hb2 HO1
  obtain ⟨w3, hw3⟩ : ∃ w3, w3 = w2.alloc (.cells #[.slice ad1 1 cap1, .slice ad2 1 cap2] 25) := ⟨_, rfl⟩
  have hb3 : Below w2.heap.size w2 w3 := by rw [hw3]; exact below_new _ _
  have hK : KdAt w3 (.slice (some ⟨w2.heap.size, 0, none⟩) 2 2) [(.slice ad1 1 cap1, [litN [101, 99, 104, 111]]), (.slice ad2 1 cap2, [litN [97]])] := by
    refine KdAt.of_cells (t := 25) rfl (by rw [hw3]; exact Cel.new _ _ _) ?_ (by decide)
    intro p hp
    simp only [List.mem_cons, List.not_mem_nil, or_false] at hp
    rcases hp with rfl | rfl
    · exact (HO1'.out.below hb3).at
    · exact (HO2.out.below hb3).at
  have hN := new_own 21 0 [] _ _ _ hK (by show 2 < 4294967296; decide) (by show 2 < 4294967296; decide)
  have HN : Hid (Calls Tryd.prog 11 #[.int .i64 21, .int .i64 0, .string ⟨#[]⟩, .slice (some ⟨w2.heap.size, 0, none⟩) 2 2] w3 fun e w' => ∃ v', e = .returned v' ∧ NdOwn w' w3.heap.size v' (newN 21 0 [] [[litN [101, 99, 104, 111]], [litN [97]]]) ∧ Below w3.heap.size w3 w') := hN
  have hbw3 := hbw2.trans (hb3.mono hbw2.size)
  clear hK hN
  go_wp2_with fail
  rw [← hw3]
  refine Calls.mono HN.out ?_
  rintro e w4 ⟨v4, rfl, ho4, hb4⟩
  have HO4 : Hid (NdOwn w4 w3.heap.size v4 (newN 21 0 [] [[litN [101, 99, 104, 111]], [litN [97]]])) := ho4
  obtain ⟨ad4, cap4, hv4⟩ := owns_slice ho4
  obtain rfl : v4 = .slice ad4 3 cap4 := hv4
  have hbw4 := hbw3.trans (hb4.mono hbw3.size)
  clear ho4 hb4 HN hw3 hb3 HO1' HO2 hbw2 hb1
  go_wp2_with fail
  refine (new_leaf 20 0 [] _).mono ?_
  rintro e w5 ⟨v5, rfl, ho5, hb5⟩
  have HO5 : Hid (NdOwn w5 w4.heap.size v5 [nopN]) := ho5
  have HO4' : Hid (NdOwn w5 w3.heap.size (.slice ad4 3 cap4) (newN 21 0 [] [[litN [101, 99, 104, 111]], [litN [97]]])) := HO4.out.below hb5
  obtain ⟨ad5, cap5, rfl⟩ := owns_slice ho5
  have hbw5 := hbw4.trans (hb5.mono hbw4.size)
  clear ho5 hb5 HO4
  obtain ⟨w6, hw6⟩ : ∃ w6, w6 = w5.alloc (.cells #[.slice ad5 1 cap5] 25) := ⟨_, rfl⟩
  have hb6 : Below w5.heap.size w5 w6 := by rw [hw6]; exact below_new _ _
  have hK : KdAt w6 (.slice (some ⟨w5.heap.size, 0, none⟩) 1 1) [(.slice ad5 1 cap5, [nopN])] := by
    refine KdAt.of_cells (t := 25) rfl (by rw [hw6]; exact Cel.new _ _ _) ?_ (by decide)
    intro p hp
    simp only [List.mem_cons, List.not_mem_nil, or_false] at hp
    subst hp
    exact (HO5.out.below hb6).at
  have HN : Hid (Calls Tryd.prog 11 #[.int .i64 23, .int .i64 0, .string ⟨#[]⟩, .slice (some ⟨w5.heap.size, 0, none⟩) 1 1] w6 fun e w' => ∃ v', e = .returned v' ∧ NdOwn w' w6.heap.size v' (newN 23 0 [] [[nopN]]) ∧ Below w6.heap.size w6 w') := new_own 23 0 [] _ _ _ hK (by show 1 < 4294967296; decide) (by show 1 < 4294967296; decide)
  have hbw6 := hbw5.trans (hb6.mono hbw5.size)
  have HO6 : Hid (NdOwn w6 w3.heap.size (.slice ad4 3 cap4) (newN 21 0 [] [[litN [101, 99, 104, 111]], [litN [97]]])) := HO4'.out.below hb6
  clear hK HO4'
  go_wp2_with fail
  rw [← hw6]
  refine Calls.mono HN.out ?_
  rintro e w7 ⟨v7, rfl, ho7, hb7⟩
  have HO7 : Hid (NdOwn w7 w6.heap.size v7 (newN 23 0 [] [[nopN]])) := ho7
  obtain ⟨ad7, cap7, hv7⟩ := owns_slice ho7
  obtain rfl : v7 = .slice ad7 2 cap7 := hv7
  have hbw7 := hbw6.trans (hb7.mono hbw6.size)
  have HO4 : Hid (NdOwn w7 w3.heap.size (.slice ad4 3 cap4) (newN 21 0 [] [[litN [101, 99, 104, 111]], [litN [97]]])) := HO6.out.below hb7
  clear ho7 hb7 HN hw6 hb6 HO5 HO6 hbw5 hbw4
  go_wp2_with fail
  refine (check_any _ _ _ ea (HE.out _ hbw7) HO7.out.at (by decide) ?_).mono ?_
  · intro x hx
    simp only [newN, nopN, List.flatten_cons, List.flatten_nil, List.append_nil, List.mem_cons, List.not_mem_nil, or_false] at hx
    rcases hx with rfl | rfl <;> exact ok_small _ (by decide) (by decide)
  rintro e w8 ⟨u8, rfl, hu8, hb8⟩
  rw [first_two] at hu8
  obtain ⟨q, rfl, hq⟩ := hu8
  have HQ : Hid (Cel w8 q 62 #[.int .i64 0, errV (ea 1)]) := hq
  have hbw8 := hbw7.trans (hb8.mono hbw7.size)
  have HO8 : Hid (NdOwn w8 w3.heap.size (.slice ad4 3 cap4) (newN 21 0 [] [[litN [101, 99, 104, 111]], [litN [97]]])) := HO4.out.below hb8
  clear hq hb8 HO4 HO7
  go_wp2_with fail
  refine (check_any _ _ _ ea (HE.out _ hbw8) HO8.out.at (by decide) ?_).mono ?_
  · intro x hx
    simp only [newN, litN, List.flatten_cons, List.flatten_nil, List.append_nil, List.cons_append, List.nil_append, List.mem_cons, List.not_mem_nil, or_false] at hx
    rcases hx with rfl | rfl | rfl <;> exact ok_small _ (by decide) (by decide)
  rintro e w9 ⟨u9, rfl, hu9, hb9⟩
  rw [first_one] at hu9
  obtain rfl := hu9
  have HQ9 : Hid (Cel w9 q 62 #[.int .i64 0, errV (ea 1)]) := Cel.below HQ.out hb9 HQ.out.lt
  have hbw9 := hbw8.trans (hb9.mono hbw8.size)
  obtain ⟨g, o, cap', hv, hg, c0, c1, c2, c3, c4⟩ := (HO8.out.below hb9).at.at (j := 0) (x := ⟨21, 0, 2, 3, []⟩) rfl
  simp only [Nat.zero_mul, Nat.add_zero] at c2 c3
  obtain ⟨rfl, rfl⟩ : ad4 = some ⟨g, o, none⟩ ∧ cap4 = cap' := by
    cases hv
    exact ⟨rfl, rfl⟩
  clear hb9 HO8 HQ c0 c1 c4 hv
  go_wp2_with fail
  refine (placed_any 110 0 (by decide) _).mono ?_
  rintro e w10 ⟨fb, rfl, hfb, _, hb10⟩
  have hbw10 := hbw9.trans (hb10.mono hbw9.size)
  have HS : Hid (Calls Tryd.prog 19 #[.iface 60 (.pointer (some ⟨q, 0, none⟩)), .agg #[.int .i64 110, .slice (some ⟨fb, 0, none⟩) 1 1]] w10 fun e w' => e = .returned (.bool true) ∧ Below w10.heap.size w10 w') :=
    same_any w10 ea (HE.out _ hbw10) 9 (by decide) (ea 1) rfl q 0 (Cel.below HQ9.out hb10 HQ9.out.lt) fb hfb 110 (by decide)
  clear hfb
  go_wp2_with fail
  refine Calls.mono HS.out ?_
  rintro e w11 ⟨rfl, hb11⟩
  have hbw11 := hbw10.trans (hb11.mono hbw10.size)
  clear HS
  go_wp2_with fail
  refine (coreSize_any _ _ _ _).mono ?_
  rintro e w12 ⟨rfl, hw12⟩
  subst hw12
  go_wp2_with fail
  go_ret
  exact ⟨rfl, hbw11⟩
end Go.Proofs.YtgabodcbhjcmiaaDoor
