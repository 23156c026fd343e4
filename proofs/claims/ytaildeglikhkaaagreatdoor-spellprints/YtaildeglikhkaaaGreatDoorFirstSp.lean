/- The law's own first try. -/
import Derived.Test.YtaildeglikhkaaaGreatDoorBndAll
import Derived.Test.YtaildeglikhkaaaGreatDoorRReadAll
import Derived.Test.YtaildeglikhkaaaGreatDoorNewAll
import Derived.Test.YtaildeglikhkaaaGreatDoorSame
namespace Go.Proofs.YtaildeglikhkaaaGreatDoor
open Go.RowKit
attribute [local go_sem] Oper.semAt_some
theorem read_1 : readOk ⟨#[40, 110, 111, 112, 44]⟩ = false ∧ readAt ⟨#[40, 110, 111, 112, 44]⟩ = 4 := by decide +kernel
theorem read_2 : readOk ⟨#[40, 110, 111, 112]⟩ = false ∧ readAt ⟨#[40, 110, 111, 112]⟩ = 4 := by decide +kernel
theorem read_3 : readOk ⟨#[40, 110, 111, 112, 41]⟩ = true ∧ (readN ⟨#[40, 110, 111, 112, 41]⟩) = [nopN] := ⟨by decide +kernel, (sameNs_iff _ _).1 (by decide +kernel)⟩
theorem chk_3 : checkL [nopN] = .fine := rfl
def firstN : List Nd := newN 21 0 [] [[litN [101, 99, 104, 111]], [⟨2, 0, 0, 1, [120]⟩]]
theorem print_1 : printL firstN = [40, 99, 97, 108, 108, 32, 40, 108, 105, 116, 32, 34, 101, 99, 104, 111, 34, 41, 32, 40, 118, 97, 114, 32, 34, 120, 34, 41, 41] := by decide +kernel
theorem quote_1 : quoteL [97, 34, 10] = [34, 97, 92, 50, 50, 92, 48, 97, 34] := by decide +kernel
theorem ord_7 : ordE 7 = 5 := by decide
theorem ord_8 : ordE 8 = 4 := by decide
set_option maxRecDepth 100000 in
set_option maxHeartbeats 2000000 in
theorem first_any (W : World) (ea : Nat → Addr) (hE : Ers W ea) (hK : KnAt W) (hP : ∀ w', Below W.heap.size W w' → Pow w') : Calls Tryz.prog 6 #[] W fun e w' => e = .returned (.bool true) ∧ Below W.heap.size W w' := by
  have HE : Hid (∀ W', Below W.heap.size W W' → Ers W' ea) := fun W' hb => hE.below hb
  have HK : Hid (∀ W', Below W.heap.size W W' → KnAt W') := fun W' hb => KnAt.below hK hb
  have HP : Hid (∀ W', Below W.heap.size W W' → ∀ w', Below W'.heap.size W' w' → Pow w') := fun W' hb w' hb' => hP w' (hb.trans (hb'.mono hb.size))
  clear hE hK hP
  go_enter Tryz.func6, Tryz.ntmps6
  go_wp2_with fail
  refine (lit_any _ _).mono ?_
  rintro e w1 ⟨v1, rfl, ho1, hb1⟩
  have HO1 : Hid (NdOwn w1 W.heap.size v1 [litN [101, 99, 104, 111]]) := ho1
  obtain ⟨ad1, cap1, rfl⟩ := owns_slice ho1
  clear ho1
  go_wp2_with fail
  refine (new_leaf 2 0 [120] _).mono ?_
  rintro e w2 ⟨v2, rfl, ho2, hb2⟩
  have HO2 : Hid (NdOwn w2 w1.heap.size v2 [⟨2, 0, 0, 1, [120]⟩]) := ho2
  have HO1' : Hid (NdOwn w2 W.heap.size (.slice ad1 1 cap1) [litN [101, 99, 104, 111]]) := HO1.out.below hb2
  obtain ⟨ad2, cap2, rfl⟩ := owns_slice ho2
  have hbw2 := hb1.trans (hb2.mono hb1.size)
  clear ho2 hb2 HO1
  obtain ⟨w3, hw3⟩ : ∃ w3, w3 = w2.alloc (.cells #[.slice ad1 1 cap1, .slice ad2 1 cap2] 22) := ⟨_, rfl⟩
  have hb3 : Below w2.heap.size w2 w3 := by rw [hw3]; exact below_new _ _
  have hKd : KdAt w3 (.slice (some ⟨w2.heap.size, 0, none⟩) 2 2) [(.slice ad1 1 cap1, [litN [101, 99, 104, 111]]), (.slice ad2 1 cap2, [⟨2, 0, 0, 1, [120]⟩])] := by
    refine KdAt.of_cells (t := 22) rfl (by rw [hw3]; exact Cel.new _ _ _) ?_ (by decide)
    intro p hp
    simp only [List.mem_cons, List.not_mem_nil, or_false] at hp
    rcases hp with rfl | rfl
    · exact (HO1'.out.below hb3).at
    · exact (HO2.out.below hb3).at
  have hN := new_own 21 0 [] _ _ _ hKd (by show 2 < 4294967296; decide) (by show 2 < 4294967296; decide)
  have HN : Hid (Calls Tryz.prog 20 #[.int .i64 21, .int .i64 0, .string ⟨#[]⟩, .slice (some ⟨w2.heap.size, 0, none⟩) 2 2] w3 fun e w' => ∃ v', e = .returned v' ∧ NdOwn w' w3.heap.size v' firstN ∧ Below w3.heap.size w3 w') := hN
  have hbw3 := hbw2.trans (hb3.mono hbw2.size)
  clear hKd hN
  go_wp2_with fail
  rw [← hw3]
  refine Calls.mono HN.out ?_
  rintro e w4 ⟨v4, rfl, ho4, hb4⟩
  have HO4 : Hid (NdOwn w4 w3.heap.size v4 firstN) := ho4
  obtain ⟨ad4, cap4, hv4⟩ := owns_slice ho4
  obtain rfl : v4 = .slice ad4 3 cap4 := hv4
  have hbw4 := hbw3.trans (hb4.mono hbw3.size)
  clear ho4 hb4 HN hw3 hb3 HO1' HO2 hbw2 hb1
  go_wp2_with fail
  refine (parse_no (HK.out _ hbw4) ea (HE.out _ hbw4) _ (by decide) (by rw [read_1.1]; simp)).mono ?_
  rintro e w5 ⟨u5, rfl, hu5, hb5⟩
  unfold BadIs at hu5
  rw [read_1.1, read_1.2, if_neg (by decide), if_neg (by decide)] at hu5
  obtain ⟨q5, rfl, hq5⟩ := hu5
  have hbw5 := hbw4.trans (hb5.mono hbw4.size)
  have HO5 : Hid (NdOwn w5 w3.heap.size (.slice ad4 3 cap4) firstN) := HO4.out.below hb5
  have HQ5 : Hid (∀ W', Below w5.heap.size w5 W' → Cel W' q5 81 #[.int .i64 4, errV (ea 5)]) := fun W' h => Cel.below hq5 h hq5.lt
  clear hb5 hq5 HO4
  go_wp2_with fail
  refine (parse_no (HK.out _ hbw5) ea (HE.out _ hbw5) _ (by decide) (by rw [read_2.1]; simp)).mono ?_
  rintro e w6 ⟨u6, rfl, hu6, hb6⟩
  unfold BadIs at hu6
  rw [read_2.1, read_2.2, if_neg (by decide), if_pos (by decide)] at hu6
  obtain ⟨q6, rfl, hq6⟩ := hu6
  have hbw6 := hbw5.trans (hb6.mono hbw5.size)
  have HO6 : Hid (NdOwn w6 w3.heap.size (.slice ad4 3 cap4) firstN) := HO5.out.below hb6
  have HQ5b : Hid (∀ W', Below w6.heap.size w6 W' → Cel W' q5 81 #[.int .i64 4, errV (ea 5)]) := fun W' h => HQ5.out W' (hb6.trans (h.mono hb6.size))
  have HQ6 : Hid (∀ W', Below w6.heap.size w6 W' → Cel W' q6 81 #[.int .i64 4, errV (ea 4)]) := fun W' h => Cel.below hq6 h hq6.lt
  clear hb6 hq6 HO5 HQ5
  go_wp2_with fail
  refine (parse_yes (HK.out _ hbw6) ea (HE.out _ hbw6) _ (by decide) read_3.1 (by rw [read_3.2]; exact chk_3)).mono ?_
  rintro e w7 ⟨v7, rfl, ho7, hb7⟩
  rw [read_3.2] at ho7
  obtain ⟨ad7, cap7, hv7⟩ := owns_slice ho7
  obtain rfl : v7 = .slice ad7 1 cap7 := hv7
  have hbw7 := hbw6.trans (hb7.mono hbw6.size)
  have HO7 : Hid (NdOwn w7 w3.heap.size (.slice ad4 3 cap4) firstN) := HO6.out.below hb7
  have HQ5c : Hid (∀ W', Below w7.heap.size w7 W' → Cel W' q5 81 #[.int .i64 4, errV (ea 5)]) := fun W' h => HQ5b.out W' (hb7.trans (h.mono hb7.size))
  have HQ6c : Hid (∀ W', Below w7.heap.size w7 W' → Cel W' q6 81 #[.int .i64 4, errV (ea 4)]) := fun W' h => HQ6.out W' (hb7.trans (h.mono hb7.size))
  clear hb7 ho7 HO6 HQ5b HQ6
  go_wp2_with fail
  have hpr := print_any (.slice ad4 3 cap4) firstN w7 ea (HE.out _ hbw7) (HK.out _ hbw7) (HP.out _ hbw7) HO7.out.at (by decide) (by
    intro x hx
    simp only [firstN, newN, List.flatten_cons, List.flatten_nil, List.append_nil, List.mem_cons, List.mem_append, List.not_mem_nil, or_false] at hx
    rcases hx with rfl | rfl | rfl
    · exact ⟨ok_small _ (by decide) (by decide), by decide⟩
    · exact ⟨ok_small _ (by decide) (by decide), by decide⟩
    · exact ⟨ok_small _ (by decide) (by decide), by decide⟩) (by decide)
  rw [print_1] at hpr
  refine Calls.mono hpr ?_
  rintro e w8 ⟨rfl, hb8⟩
  have hbw8 := hbw7.trans (hb8.mono hbw7.size)
  have HQ5d : Hid (∀ W', Below w8.heap.size w8 W' → Cel W' q5 81 #[.int .i64 4, errV (ea 5)]) := fun W' h => HQ5c.out W' (hb8.trans (h.mono hb8.size))
  have HQ6d : Hid (∀ W', Below w8.heap.size w8 W' → Cel W' q6 81 #[.int .i64 4, errV (ea 4)]) := fun W' h => HQ6c.out W' (hb8.trans (h.mono hb8.size))
  clear hpr hb8 HQ5c HQ6c HO7
  go_wp2_with fail
  have hqu := quote_any ⟨#[97, 34, 10]⟩ (by decide) w8
  rw [show quoteL (⟨#[97, 34, 10]⟩ : ByteArray).data.toList = [34, 97, 92, 50, 50, 92, 48, 97, 34] from quote_1] at hqu
  refine Calls.mono hqu ?_
  rintro e w9 ⟨rfl, hb9⟩
  have hbw9 := hbw8.trans (hb9.mono hbw8.size)
  have HQ5e : Hid (∀ W', Below w9.heap.size w9 W' → Cel W' q5 81 #[.int .i64 4, errV (ea 5)]) := fun W' h => HQ5d.out W' (hb9.trans (h.mono hb9.size))
  have HQ6e : Hid (∀ W', Below w9.heap.size w9 W' → Cel W' q6 81 #[.int .i64 4, errV (ea 4)]) := fun W' h => HQ6d.out W' (hb9.trans (h.mono hb9.size))
  clear hqu hb9 HQ5d HQ6d
  go_wp2_with fail
  refine (placed_any 108 4 (by decide) _).mono ?_
  rintro e w10 ⟨f10, rfl, hf10, _, hb10⟩
  have hbw10 := hbw9.trans (hb10.mono hbw9.size)
  have HS10 : Hid (Calls Tryz.prog 21 #[.iface 79 (.pointer (some ⟨q5, 0, none⟩)), .agg #[.int .i64 108, .slice (some ⟨f10, 0, none⟩) 1 1]] w10 fun e w' => e = .returned (.bool true) ∧ Below w10.heap.size w10 w') := same_any w10 ea (HE.out _ hbw10) 7 (by decide) (ea 5) (by rw [ord_7]) q5 4 (HQ5e.out _ hb10) f10 hf10 108 (by decide)
  have HQ6f : Hid (∀ W', Below w10.heap.size w10 W' → Cel W' q6 81 #[.int .i64 4, errV (ea 4)]) := fun W' h => HQ6e.out W' (hb10.trans (h.mono hb10.size))
  clear hb10 hf10 HQ5e HQ6e
  go_wp2_with fail
  refine Calls.mono HS10.out ?_
  rintro e w11 ⟨rfl, hb11⟩
  have hbw11 := hbw10.trans (hb11.mono hbw10.size)
  have HQ6g : Hid (∀ W', Below w11.heap.size w11 W' → Cel W' q6 81 #[.int .i64 4, errV (ea 4)]) := fun W' h => HQ6f.out W' (hb11.trans (h.mono hb11.size))
  clear hb11 HS10 HQ6f
  go_wp2_with fail
  refine (placed_any 109 4 (by decide) _).mono ?_
  rintro e w12 ⟨f12, rfl, hf12, _, hb12⟩
  have hbw12 := hbw11.trans (hb12.mono hbw11.size)
  have HS12 : Hid (Calls Tryz.prog 21 #[.iface 79 (.pointer (some ⟨q6, 0, none⟩)), .agg #[.int .i64 109, .slice (some ⟨f12, 0, none⟩) 1 1]] w12 fun e w' => e = .returned (.bool true) ∧ Below w12.heap.size w12 w') := same_any w12 ea (HE.out _ hbw12) 8 (by decide) (ea 4) (by rw [ord_8]) q6 4 (HQ6g.out _ hb12) f12 hf12 109 (by decide)
  clear hb12 hf12 HQ6g
  go_wp2_with fail
  refine Calls.mono HS12.out ?_
  rintro e w13 ⟨rfl, hb13⟩
  have hbw13 := hbw12.trans (hb13.mono hbw12.size)
  clear HS12 hb13
  go_wp2_with fail
  go_ret
  exact ⟨rfl, hbw13⟩
end Go.Proofs.YtaildeglikhkaaaGreatDoor
