/- For every list of nodes and every text: a program is read back from its text, and what is read has just this text (SpellBack, a tied card). -/
import Derived.Test.YtaildeglikhkaaaGreatDoorPrAny
import Derived.Test.YtaildeglikhkaaaGreatDoorRParse
import Derived.Test.YtaildeglikhkaaaGreatDoorSee
import Derived.Test.YtaildeglikhkaaaGreatDoorSame
import Derived.Test.YtaildeglikhkaaaGreatDoorCheck
import Derived.Test.YtaildeglikhkaaaGreatDoorRows
import Derived.Test.YtaildeglikhkaaaGreatDoorKind
import Derived.Lib.LaidTab
import Derived.ProofKit
import Derived.Carry
import Derived.LaidMore
import Derived.OpenShut
import Derived.Test.YtaildeglikhkaaaGreatDoorCards
import Derived.Test.YtaildeglikhkaaaGreatDoorTie
import Derived.Test.YtaildeglikhkaaaGreatDoorOpenNd
import Derived.Lay
import Derived.Below
import Derived.Stop.Joined
import Derived.Stop.LaidErr
import Derived.Stop.LaidTwo
import Derived.SevenTiedAt
/-! The law's own first try. -/
namespace Go.Proofs.YtaildeglikhkaaaGreatDoor
open Go.RowKit
attribute [local go_sem] Oper.semAt_some
theorem read_1 : readOk ⟨#[40, 110, 111, 112, 44]⟩ = false ∧ readAt ⟨#[40, 110, 111, 112, 44]⟩ = 4 := by decide +kernel
theorem read_2 : readOk ⟨#[40, 110, 111, 112]⟩ = false ∧ readAt ⟨#[40, 110, 111, 112]⟩ = 4 := by decide +kernel
theorem read_3 : readOk ⟨#[40, 110, 111, 112, 41]⟩ = true ∧ (readN ⟨#[40, 110, 111, 112, 41]⟩) = [nopN] := ⟨by decide +kernel, (sameNs_iff _ _).1 (by decide +kernel)⟩
theorem chk_3 : checkL [nopN] = .fine := rfl
def firstN : List Nd := newN 21 0 [] [[litN [101, 99, 104, 111]], [⟨2, 0, 0, 1, [120]⟩]]
theorem print_1 : printL firstN = [40, 99, 97, 108, 108, 32, 40, 108, 105, 116, 32, 34, 101, 99, 104, 111, 34, 41, 32, 40, 118, 97, 114, 32, 34, 120, 34, 41, 41] := by decide +kernel
theorem quote_1 : quoteL [97, 34, 10] = [34, 97, 92, 50, 50, 92, 48, 97, 34] := by decide +kernel
theorem ord_7 : ordE 7 = 5 := by decide
theorem ord_8 : ordE 8 = 4 := by decide
set_option maxRecDepth 100000 in
set_option maxHeartbeats 2000000 in
theorem first_any (W : World) (ea : Nat → Addr) (hE : Ers W ea) (hK : KnAt W) (hP : ∀ w', Below W.heap.size W w' → Pow w') : Calls Tryz.prog 6 #[] W fun e w' => e = .returned (.bool true) ∧ Below W.heap.size W w' := by
  have HE : Hid (∀ W', Below W.heap.size W W' → Ers W' ea) := fun W' hb => hE.below hb
  have HK : Hid (∀ W', Below W.heap.size W W' → KnAt W') := fun W' hb => KnAt.below hK hb
  have HP : Hid (∀ W', Below W.heap.size W W' → ∀ w', Below W'.heap.size W' w' → Pow w') := fun W' hb w' hb' => hP w' (hb.trans (hb'.mono hb.size))
  clear hE hK hP
  go_enter Tryz.func6, Tryz.ntmps6
  go_wp2_with fail
  refine (lit_any _ _).mono ?_
  rintro e w1 ⟨v1, rfl, ho1, hb1⟩
  have HO1 : Hid (NdOwn w1 W.heap.size v1 [litN [101, 99, 104, 111]]) := ho1
  obtain ⟨ad1, cap1, rfl⟩ := owns_slice ho1
  clear ho1
  go_wp2_with fail
  refine (new_leaf 2 0 [120] _).mono ?_
  rintro e w2 ⟨v2, rfl, ho2, hb2⟩
  have HO2 : Hid (NdOwn w2 w1.heap.size v2 [⟨2, 0, 0, 1, [120]⟩]) := ho2
  have HO1' : Hid (NdOwn w2 W.heap.size (.slice ad1 1 cap1) [litN [101, 99, 104, 111]]) := HO1.out.below hb2
  obtain ⟨ad2, cap2, rfl⟩ := owns_slice ho2
  have hbw2 := hb1.trans (hb2.mono hb1.size)
  clear ho2 hb2 HO1
  obtain ⟨w3, hw3⟩ : ∃ w3, w3 = w2.alloc (.cells #[.slice ad1 1 cap1, .slice ad2 1 cap2] 22) := ⟨_, rfl⟩
  have hb3 : Below w2.heap.size w2 w3 := by rw [hw3]; exact below_new _ _
  have hKd : KdAt w3 (.slice (some ⟨w2.heap.size, 0, none⟩) 2 2) [(.slice ad1 1 cap1, [litN [101, 99, 104, 111]]), (.slice ad2 1 cap2, [⟨2, 0, 0, 1, [120]⟩])] := by
    refine KdAt.of_cells (t := 22) rfl (by rw [hw3]; exact Cel.new _ _ _) ?_ (by decide)
    intro p hp
    simp only [List.mem_cons, List.not_mem_nil, or_false] at hp
    rcases hp with rfl | rfl
    · exact (HO1'.out.below hb3).at
    · exact (HO2.out.below hb3).at
  have hN := new_own 21 0 [] _ _ _ hKd (by show 2 < 4294967296; decide) (by show 2 < 4294967296; decide)
  have HN : Hid (Calls Tryz.prog 20 #[.int .i64 21, .int .i64 0, .string ⟨#[]⟩, .slice (some ⟨w2.heap.size, 0, none⟩) 2 2] w3 fun e w' => ∃ v', e = .returned v' ∧ NdOwn w' w3.heap.size v' firstN ∧ Below w3.heap.size w3 w') := hN
  have hbw3 := hbw2.trans (hb3.mono hbw2.size)
  clear hKd hN
  go_wp2_with fail
  rw [← hw3]
  refine Calls.mono HN.out ?_
  rintro e w4 ⟨v4, rfl, ho4, hb4⟩
  have HO4 : Hid (NdOwn w4 w3.heap.size v4 firstN) := ho4
  obtain ⟨ad4, cap4, hv4⟩ := owns_slice ho4
  obtain rfl : v4 = .slice ad4 3 cap4 := hv4
  have hbw4 := hbw3.trans (hb4.mono hbw3.size)
  clear ho4 hb4 HN hw3 hb3 HO1' HO2 hbw2 hb1
  go_wp2_with fail
  refine (parse_no (HK.out _ hbw4) ea (HE.out _ hbw4) _ (by decide) (by rw [read_1.1]; simp)).mono ?_
  rintro e w5 ⟨u5, rfl, hu5, hb5⟩
  unfold BadIs at hu5
  rw [read_1.1, read_1.2, if_neg (by decide), if_neg (by decide)] at hu5
  obtain ⟨q5, rfl, hq5⟩ := hu5
  have hbw5 := hbw4.trans (hb5.mono hbw4.size)
  have HO5 : Hid (NdOwn w5 w3.heap.size (.slice ad4 3 cap4) firstN) := HO4.out.below hb5
  have HQ5 : Hid (∀ W', Below w5.heap.size w5 W' → Cel W' q5 81 #[.int .i64 4, errV (ea 5)]) := fun W' h => Cel.below hq5 h hq5.lt
  clear hb5 hq5 HO4
  go_wp2_with fail
  refine (parse_no (HK.out _ hbw5) ea (HE.out _ hbw5) _ (by decide) (by rw [read_2.1]; simp)).mono ?_
  rintro e w6 ⟨u6, rfl, hu6, hb6⟩
  unfold BadIs at hu6
  rw [read_2.1, read_2.2, if_neg (by decide), if_pos (by decide)] at hu6
  obtain ⟨q6, rfl, hq6⟩ := hu6
  have hbw6 := hbw5.trans (hb6.mono hbw5.size)
  have HO6 : Hid (NdOwn w6 w3.heap.size (.slice ad4 3 cap4) firstN) := HO5.out.below hb6
  have HQ5b : Hid (∀ W', Below w6.heap.size w6 W' → Cel W' q5 81 #[.int .i64 4, errV (ea 5)]) := fun W' h => HQ5.out W' (hb6.trans (h.mono hb6.size))
  have HQ6 : Hid (∀ W', Below w6.heap.size w6 W' → Cel W' q6 81 #[.int .i64 4, errV (ea 4)]) := fun W' h => Cel.below hq6 h hq6.lt
  clear hb6 hq6 HO5 HQ5
  go_wp2_with fail
  refine (parse_yes (HK.out _ hbw6) ea (HE.out _ hbw6) _ (by decide) read_3.1 (by rw [read_3.2]; exact chk_3)).mono ?_
  rintro e w7 ⟨v7, rfl, ho7, hb7⟩
  rw [read_3.2] at ho7
  obtain ⟨ad7, cap7, hv7⟩ := owns_slice ho7
  obtain rfl : v7 = .slice ad7 1 cap7 := hv7
  have hbw7 := hbw6.trans (hb7.mono hbw6.size)
  have HO7 : Hid (NdOwn w7 w3.heap.size (.slice ad4 3 cap4) firstN) := HO6.out.below hb7
  have HQ5c : Hid (∀ W', Below w7.heap.size w7 W' → Cel W' q5 81 #[.int .i64 4, errV (ea 5)]) := fun W' h => HQ5b.out W' (hb7.trans (h.mono hb7.size))
  have HQ6c : Hid (∀ W', Below w7.heap.size w7 W' → Cel W' q6 81 #[.int .i64 4, errV (ea 4)]) := fun W' h => HQ6.out W' (hb7.trans (h.mono hb7.size))
  clear hb7 ho7 HO6 HQ5b HQ6
  go_wp2_with fail
  have hpr := print_any (.slice ad4 3 cap4) firstN w7 ea (HE.out _ hbw7) (HK.out _ hbw7) (HP.out _ hbw7) HO7.out.at (by decide) (by
    intro x hx
    simp only [firstN, newN, List.flatten_cons, List.flatten_nil, List.append_nil, List.mem_cons, List.mem_append, List.not_mem_nil, or_false] at hx
    rcases hx with rfl | rfl | rfl
    · exact ⟨ok_small _ (by decide) (by decide), by decide⟩
    · exact ⟨ok_small _ (by decide) (by decide), by decide⟩
    · exact ⟨ok_small _ (by decide) (by decide), by decide⟩) (by decide)
  rw [print_1] at hpr
  refine Calls.mono hpr ?_
  rintro e w8 ⟨rfl, hb8⟩
  have hbw8 := hbw7.trans (hb8.mono hbw7.size)
  have HQ5d : Hid (∀ W', Below w8.heap.size w8 W' → Cel W' q5 81 #[.int .i64 4, errV (ea 5)]) := fun W' h => HQ5c.out W' (hb8.trans (h.mono hb8.size))
  have HQ6d : Hid (∀ W', Below w8.heap.size w8 W' → Cel W' q6 81 #[.int .i64 4, errV (ea 4)]) := fun W' h => HQ6c.out W' (hb8.trans (h.mono hb8.size))
  clear hpr hb8 HQ5c HQ6c HO7
  go_wp2_with fail
  have hqu := quote_any ⟨#[97, 34, 10]⟩ (by decide) w8
  rw [show quoteL (⟨#[97, 34, 10]⟩ : ByteArray).data.toList = [34, 97, 92, 50, 50, 92, 48, 97, 34] from quote_1] at hqu
  refine Calls.mono hqu ?_
  rintro e w9 ⟨rfl, hb9⟩
  have hbw9 := hbw8.trans (hb9.mono hbw8.size)
  have HQ5e : Hid (∀ W', Below w9.heap.size w9 W' → Cel W' q5 81 #[.int .i64 4, errV (ea 5)]) := fun W' h => HQ5d.out W' (hb9.trans (h.mono hb9.size))
  have HQ6e : Hid (∀ W', Below w9.heap.size w9 W' → Cel W' q6 81 #[.int .i64 4, errV (ea 4)]) := fun W' h => HQ6d.out W' (hb9.trans (h.mono hb9.size))
  clear hqu hb9 HQ5d HQ6d
  go_wp2_with fail
  refine (placed_any 108 4 (by decide) _).mono ?_
  rintro e w10 ⟨f10, rfl, hf10, _, hb10⟩
  have hbw10 := hbw9.trans (hb10.mono hbw9.size)
  have HS10 : Hid (Calls Tryz.prog 21 #[.iface 79 (.pointer (some ⟨q5, 0, none⟩)), .agg #[.int .i64 108, .slice (some ⟨f10, 0, none⟩) 1 1]] w10 fun e w' => e = .returned (.bool true) ∧ Below w10.heap.size w10 w') := same_any w10 ea (HE.out _ hbw10) 7 (by decide) (ea 5) (by rw [ord_7]) q5 4 (HQ5e.out _ hb10) f10 hf10 108 (by decide)
  have HQ6f : Hid (∀ W', Below w10.heap.size w10 W' → Cel W' q6 81 #[.int .i64 4, errV (ea 4)]) := fun W' h => HQ6e.out W' (hb10.trans (h.mono hb10.size))
  clear hb10 hf10 HQ5e HQ6e
  go_wp2_with fail
  refine Calls.mono HS10.out ?_
  rintro e w11 ⟨rfl, hb11⟩
  have hbw11 := hbw10.trans (hb11.mono hbw10.size)
  have HQ6g : Hid (∀ W', Below w11.heap.size w11 W' → Cel W' q6 81 #[.int .i64 4, errV (ea 4)]) := fun W' h => HQ6f.out W' (hb11.trans (h.mono hb11.size))
  clear hb11 HS10 HQ6f
  go_wp2_with fail
  refine (placed_any 109 4 (by decide) _).mono ?_
  rintro e w12 ⟨f12, rfl, hf12, _, hb12⟩
  have hbw12 := hbw11.trans (hb12.mono hbw11.size)
  have HS12 : Hid (Calls Tryz.prog 21 #[.iface 79 (.pointer (some ⟨q6, 0, none⟩)), .agg #[.int .i64 109, .slice (some ⟨f12, 0, none⟩) 1 1]] w12 fun e w' => e = .returned (.bool true) ∧ Below w12.heap.size w12 w') := same_any w12 ea (HE.out _ hbw12) 8 (by decide) (ea 4) (by rw [ord_8]) q6 4 (HQ6g.out _ hb12) f12 hf12 109 (by decide)
  clear hb12 hf12 HQ6g
  go_wp2_with fail
  refine Calls.mono HS12.out ?_
  rintro e w13 ⟨rfl, hb13⟩
  have hbw13 := hbw12.trans (hb13.mono hbw12.size)
  clear HS12 hb13
  go_wp2_with fail
  go_ret
  exact ⟨rfl, hbw13⟩
end Go.Proofs.YtaildeglikhkaaaGreatDoor
/-! The law SpellBack. -/
namespace Go.Proofs.YtaildeglikhkaaaGreatDoor
open Go.RowKit
attribute [local go_sem] Oper.semAt_some
theorem readOk_of (s : ByteArray) (l : List Nd) (h : readG s = (true, s.size, l)) : readOk s = true ∧ readN s = l := by
  unfold readOk readN
  rw [h]
  simp
theorem readG_of (s : ByteArray) (h : readOk s = true) : readG s = (true, s.size, readN s) := by
  unfold readOk at h
  unfold readN
  cases hr : readG s with
  | mk a b =>
    obtain ⟨b, c⟩ := b
    rw [hr] at h
    simp only [Bool.and_eq_true, beq_iff_eq] at h
    rw [h.1, h.2]
theorem sumS_mem (X : List Nd) (x : Nd) (h : x ∈ X) : x.s.length ≤ sumS X := by
  induction X with
  | nil => cases h
  | cons y X ih =>
    rw [sumS]
    rcases List.mem_cons.1 h with rfl | h
    · omega
    · have := ih h; omega
theorem light_parts (X : List Nd) (h : lightL X = true) : X.length ≤ 200 ∧ sumS X ≤ 9000 := by
  unfold lightL at h
  simp only [Bool.and_eq_true, decide_eq_true_eq] at h
  refine ⟨h.1, ?_⟩
  have := h.2
  rwa [List.take_of_length_le (by omega)] at this
theorem may_len (x : Nd) (a : Ak) (i : Nat) (h : mayB x a i = true) : x.s.length ≤ 2000 := by
  unfold mayB at h
  simp only [Bool.and_eq_true] at h
  obtain ⟨⟨⟨⟨_, _⟩, h3⟩, _⟩, _⟩ := h
  have hname : ∀ l : Txt, nameB l = true → l.length ≤ 2000 := by
    intro l hl
    cases l with
    | nil => simp
    | cons b l =>
      unfold nameB at hl
      simp only [Bool.and_eq_true, decide_eq_true_eq] at hl
      have := hl.1.1
      omega
  unfold strB at h3
  split at h3
  · simp only [Bool.and_eq_true, decide_eq_true_eq] at h3
    exact h3.1
  · split at h3
    · simp only [Bool.or_eq_true, beq_iff_eq] at h3
      rcases h3 with h3 | h3
      · rw [h3]; decide
      · exact hname _ h3
    · split at h3
      · exact hname _ h3
      · have : x.s = [] := by simpa using h3
        rw [this]; simp
theorem len_go (l : List Nd) : ∀ (f i : Nat) (A : List Ak), goC l f i A = .fine → i + f = l.length → A.length = l.length → ∀ (j : Nat) (x : Nd), i ≤ j → l[j]? = some x → x.s.length ≤ 2000
  | 0, i, A, _, hi, _, j, x, hj, hx => by
    have := (List.getElem?_eq_some_iff.1 hx).1
    omega
  | f + 1, i, A, h, hi, hA, j, x, hj, hx => by
    have h1 : i < l.length := by omega
    have h2 : i < A.length := by omega
    obtain ⟨g1, _, _, g4⟩ := goC_parts l f i A l[i] A[i] (List.getElem?_eq_getElem h1) (List.getElem?_eq_getElem h2) h
    by_cases e : i = j
    · subst e
      rw [List.getElem?_eq_getElem h1] at hx
      have : l[i] = x := by simpa using hx
      rw [← this]
      exact may_len _ _ _ g1
    · exact len_go l f (i + 1) _ g4 (by omega) (by rw [(askG_low l _ _ _ _ _ _ A).1, hA]) j x (by omega) hx
theorem len_fine (l : List Nd) (h : checkL l = .fine) : ∀ x ∈ l, x.s.length ≤ 2000 := by
  intro x hx
  obtain ⟨j, hj⟩ := List.mem_iff_getElem?.1 hx
  unfold checkL at h
  split at h
  · cases h
  · rename_i hl
    exact len_go l l.length 0 _ h (by omega) (aks_len _ (by omega)) j x (Nat.zero_le _) hj
theorem flat_len (d : Nat) : ∀ Ys : List (List Nd), (∀ Y ∈ Ys, Seg d Y) → Ys.length ≤ Ys.flatten.length
  | [], _ => by simp
  | Y :: Ys, h => by
    obtain ⟨_, _, _, h1⟩ := (h Y (by simp)).head
    have h2 := flat_len d Ys (fun Z hZ => h Z (by simp [hZ]))
    simp only [List.length_cons, List.flatten_cons, List.length_append]
    omega
theorem seg_k {d : Nat} {Y : List Nd} (h : Seg d Y) : ∀ x ∈ Y, x.k ≤ Y.length := by
  induction h with
  | mk d kind n s Ys hs ih =>
    intro x hx
    have hlen : (newN kind n s Ys).length = Ys.flatten.length + 1 := by simp [newN]
    rw [hlen]
    unfold newN at hx
    rcases List.mem_cons.1 hx with rfl | hx
    · have := flat_len d Ys hs
      simp only
      omega
    · obtain ⟨Y, hY, hxY⟩ := List.mem_flatten.1 hx
      have h1 := ih Y hY x hxY
      have h2 := (List.sublist_flatten_of_mem hY).length_le
      omega
theorem word_text (X : List Nd) (h : isWordL X = true) : ∃ t, printL X = 40 :: t := by
  have hd' := (fineB_iff _).1 h
  obtain ⟨g1, _, _⟩ := word_seg X hd'
  obtain ⟨t, ht⟩ := text_head 29 X g1
  refine ⟨t, ?_⟩
  unfold printL
  rw [h, Bool.or_true, if_pos rfl, show beginL = bgB from funext begin_bg, print_seg bgB 29 X g1, ht]
theorem bad_some {W : World} {ea : Nat → Addr} {s : ByteArray} {u : Value} (h : BadIs W ea s u) (hr : ¬ (readOk s = true ∧ checkL (readN s) = .fine)) : ∃ t p, u = .iface t p := by
  unfold BadIs at h
  cases ho : readOk s with
  | true =>
    rw [ho, if_pos rfl] at h
    exact err_some h (fun e => hr ⟨ho, e⟩)
  | false =>
    rw [ho, if_neg (by decide)] at h
    obtain ⟨q, rfl, _⟩ := h
    exact ⟨_, _, rfl⟩
set_option maxRecDepth 100000 in
set_option maxHeartbeats 2000000 in
theorem back_any (v : Value) (X : List Nd) (s : ByteArray) (W : World) (ea : Nat → Addr) (hE : Ers W ea) (hK : KnAt W) (hP : ∀ w', Below W.heap.size W w' → Pow w') (hN : NdAt W v X) (hl : X.length ≤ 140737488351232) (hok : ∀ x ∈ X, x.s.length ≤ 140737488351232 ∧ x.k ≤ 9223372036854775807) (hsl : s.size < 4611686018427387904) :
    Calls Tryz.prog 4 #[v, .string s] W fun e w' => e = .returned (.bool true) ∧ Below W.heap.size W w' := by
  have HE : Hid (∀ W', Below W.heap.size W W' → Ers W' ea) := fun W' hb => hE.below hb
  have HK : Hid (∀ W', Below W.heap.size W W' → KnAt W') := fun W' hb => KnAt.below hK hb
  have HP : Hid (∀ W', Below W.heap.size W W' → ∀ w', Below W'.heap.size W' w' → Pow w') := fun W' hb w' hb' => hP w' (hb.trans (hb'.mono hb.size))
  have HN : Hid (∀ W', Below W.heap.size W W' → NdAt W' v X) := fun W' hb => hN.below hb (Nat.le_refl _)
  have HF : Hid _ := first_any W ea hE hK hP
  obtain ⟨ad, cap, rfl⟩ := hN.form
  have HL : Hid (∀ W', Below W.heap.size W W' → Calls Tryz.prog 7 #[.slice ad X.length cap] W' fun e w' => e = .returned (.bool (lightL X)) ∧ w' = W') := fun W' hb => light_any _ X W' (HN.out W' hb) (fun x hx => (hok x hx).1) hl
  clear hE hK hP hN
  go_enter Tryz.func4, Tryz.ntmps4
  go_wp2_with fail
  refine Calls.mono HF.out ?_
  rintro e w1 ⟨rfl, hb1⟩
  clear HF
  have HL1 : Hid (Calls Tryz.prog 7 #[.slice ad X.length cap] w1 fun e w' => e = .returned (.bool (lightL X)) ∧ w' = w1) := HL.out _ hb1
  clear HL
  cases hlt : lightL X with
  | false =>
    rw [hlt] at HL1
    go_wp2_with fail
    refine Calls.mono HL1.out ?_
    rintro e w2 ⟨rfl, hw⟩
    have hw' := hw.symm
    subst hw'
    clear hw
    go_wp2_with fail
    go_ret
    exact ⟨rfl, hb1⟩
  | true =>
    rw [hlt] at HL1
    obtain ⟨hx1, hx2⟩ := light_parts X hlt
    have hxs := sumS_mem X
    go_wp2_with fail
    refine Calls.mono HL1.out ?_
    rintro e w2 ⟨rfl, hw⟩
    have hw' := hw.symm
    subst hw'
    clear hw HL1
    by_cases hs4 : 4000 < s.size
    · go_wp2_with fail
      go_ret
      exact ⟨rfl, hb1⟩
    · have HPA : Hid (∀ W', Below W.heap.size W W' → Calls Tryz.prog 15 #[.slice ad X.length cap] W' fun e w' => e = .returned (str (printL X)) ∧ Below W'.heap.size W' w') := fun W' hb =>
        print_any _ X W' ea (HE.out W' hb) (HK.out W' hb) (HP.out W' hb) (HN.out W' hb) (by omega) (fun x hx => ⟨⟨by have := hxs x hx; omega, (hok x hx).2⟩, by have := hxs x hx; omega⟩) (by omega)
      have HCK : Hid (Calls Tryz.prog 17 #[.slice ad X.length cap] w1 fun e w' => ∃ u, e = .returned u ∧ ErrIs w' ea u (checkL X) ∧ Below w1.heap.size w1 w') := check_any _ X w1 ea (HE.out w1 hb1) (HN.out w1 hb1) (by omega) (fun x hx => ⟨by have := hxs x hx; omega, (hok x hx).2⟩)
      go_wp2_with fail
      refine Calls.mono HCK.out ?_
      rintro e w2 ⟨u, rfl, hu, hb2⟩
      have hbw2 := hb1.trans (hb2.mono hb1.size)
      clear HCK hb2
      by_cases hf : checkL X = .fine
      · rw [hf] at hu
        obtain rfl : u = .nilIface := hu
        have hpl := print_len X hf
        have hpL : printL X = printG beginL X 0 [] := by unfold printL; rw [(fineB_iff _).2 hf, Bool.true_or, if_pos rfl]
        have hrd := readOk_of ⟨(printL X).toArray⟩ X (by have := printL_read X hf; simpa [ByteArray.size] using this)
        rw [← hpL] at hpl
        have HY : Hid (∀ W', Below W.heap.size W W' → Calls Tryz.prog 18 #[str (printL X)] W' fun e w' => ∃ v', e = .returned (.tuple #[v', .nilIface]) ∧ w'.ownsRow W'.heap.size 50 5 v' X.length (ndCs X) ∧ Below W'.heap.size W' w') := fun W' hb => by
          have := parse_yes (HK.out _ hb) ea (HE.out _ hb) ⟨(printL X).toArray⟩ (by simp only [ByteArray.size, List.size_toArray]; omega) hrd.1 (by rw [hrd.2]; exact hf)
          rw [hrd.2] at this
          exact this
        clear hrd hpL
        go_wp2_with fail
        refine Calls.mono (HPA.out _ hbw2) ?_
        rintro e w3 ⟨rfl, hb3⟩
        have hbw3 := hbw2.trans (hb3.mono hbw2.size)
        clear hb3
        go_wp2_with fail
        refine Calls.mono (HY.out _ hbw3) ?_
        rintro e w4 ⟨v4, rfl, ho4, hb4⟩
        have hbw4 := hbw3.trans (hb4.mono hbw3.size)
        have hn4 : NdAt w4 v4 X := NdAt.owned ho4
        have HS4 : Hid (Calls Tryz.prog 19 #[v4, .slice ad X.length cap] w4 fun e w' => e = .returned (.bool true) ∧ Below w4.heap.size w4 w') := by
          have := sameNodes_any v4 (.slice ad X.length cap) X X w4 hn4 (HN.out _ hbw4) (by omega)
          rw [sameNs_true rfl] at this
          exact this
        obtain ⟨ad4, cap4, rfl⟩ := hn4.form
        clear ho4 hn4 hb4 HY
        go_wp2_with fail
        refine Calls.mono HS4.out ?_
        rintro e wt ⟨rfl, hb5⟩
        have hbt := hbw4.trans (hb5.mono hbw4.size)
        clear HS4 hb5
        go_wp2_with fail
        by_cases hr : readOk s = true ∧ checkL (readN s) = .fine
        · have hlen := (seg_of_fine _ hr.2).2.2
          have hl2 := len_fine _ hr.2
          have hk2 := seg_k (seg_of_fine _ hr.2).1
          have hok2 : ∀ x ∈ readN s, NdOk x ∧ x.s.length < 8796093022208 := fun x hx => ⟨⟨by have := hl2 x hx; omega, by have := hk2 x hx; omega⟩, by have := hl2 x hx; omega⟩
          have hsum : sumS (readN s) ≤ 8796093022208 := by have := sumS_le 2000 _ hl2; omega
          have hpr : printL (readN s) = s.data.toList := read_printL s _ (readG_of s hr.1) hr.2
          refine (parse_yes (HK.out _ hbt) ea (HE.out _ hbt) s (by omega) hr.1 hr.2).mono ?_
          rintro e wa ⟨va, rfl, hoa, hba⟩
          have hbwa := hbt.trans (hba.mono hbt.size)
          have hna : NdAt wa va (readN s) := NdAt.owned hoa
          obtain ⟨ada, capa, rfl⟩ := hna.form
          have HPa : Hid (Calls Tryz.prog 15 #[.slice ada (readN s).length capa] wa fun e w' => e = .returned (.string s) ∧ Below wa.heap.size wa w') := by
            have := print_any _ (readN s) wa ea (HE.out _ hbwa) (HK.out _ hbwa) (HP.out _ hbwa) hna (by omega) hok2 hsum
            rw [hpr] at this
            exact this
          have HCa : Hid (∀ W', Below wa.heap.size wa W' → Calls Tryz.prog 17 #[.slice ada (readN s).length capa] W' fun e w' => e = .returned .nilIface ∧ Below W'.heap.size W' w') := fun W' hb => (check_any _ _ W' ea (HE.out _ (hbwa.trans (hb.mono hbwa.size))) (hna.below hb (Nat.le_refl _)) (by omega) (fun x hx => (hok2 x hx).1)).mono (by
            rintro e w' ⟨u, rfl, hu, hb⟩
            rw [hr.2] at hu
            obtain rfl : u = .nilIface := hu
            exact ⟨rfl, hb⟩)
          clear hoa hba hna
          go_wp2_with fail
          refine Calls.mono HPa.out ?_
          rintro e wb ⟨rfl, hbb⟩
          have HCb := HCa.out _ hbb
          have hbwb := hbwa.trans (hbb.mono hbwa.size)
          clear HPa HCa hbb
          go_wp2_with fail
          refine Calls.mono HCb ?_
          rintro e wc ⟨rfl, hbc⟩
          go_wp2_with fail
          go_ret
          exact ⟨rfl, hbwb.trans (hbc.mono hbwb.size)⟩
        · refine (parse_no (HK.out _ hbt) ea (HE.out _ hbt) s (by omega) hr).mono ?_
          rintro e wa ⟨ua, rfl, hua, hba⟩
          obtain ⟨ta, pa, rfl⟩ := bad_some hua hr
          have hbwa := hbt.trans (hba.mono hbt.size)
          clear hua hba
          go_wp2_with fail
          go_ret
          exact ⟨rfl, hbwa⟩
      · obtain ⟨tu, pu, rfl⟩ := err_some hu hf
        clear hu
        cases hd : isWordL X with
        | false =>
          have hpL : printL X = [] := by
            unfold printL
            rw [hd, Bool.or_false, if_neg]
            intro e
            exact hf ((fineB_iff _).1 e)
          rw [hpL] at HPA
          go_wp2_with fail
          refine Calls.mono (HPA.out _ hbw2) ?_
          rintro e wt ⟨rfl, hb3⟩
          have hbt := hbw2.trans (hb3.mono hbw2.size)
          clear hb3
          go_wp2_with fail
          by_cases hr : readOk s = true ∧ checkL (readN s) = .fine
          · have hlen := (seg_of_fine _ hr.2).2.2
            have hl2 := len_fine _ hr.2
            have hk2 := seg_k (seg_of_fine _ hr.2).1
            have hok2 : ∀ x ∈ readN s, NdOk x ∧ x.s.length < 8796093022208 := fun x hx => ⟨⟨by have := hl2 x hx; omega, by have := hk2 x hx; omega⟩, by have := hl2 x hx; omega⟩
            have hsum : sumS (readN s) ≤ 8796093022208 := by have := sumS_le 2000 _ hl2; omega
            have hpr : printL (readN s) = s.data.toList := read_printL s _ (readG_of s hr.1) hr.2
            refine (parse_yes (HK.out _ hbt) ea (HE.out _ hbt) s (by omega) hr.1 hr.2).mono ?_
            rintro e wa ⟨va, rfl, hoa, hba⟩
            have hbwa := hbt.trans (hba.mono hbt.size)
            have hna : NdAt wa va (readN s) := NdAt.owned hoa
            obtain ⟨ada, capa, rfl⟩ := hna.form
            have HPa : Hid (Calls Tryz.prog 15 #[.slice ada (readN s).length capa] wa fun e w' => e = .returned (.string s) ∧ Below wa.heap.size wa w') := by
              have := print_any _ (readN s) wa ea (HE.out _ hbwa) (HK.out _ hbwa) (HP.out _ hbwa) hna (by omega) hok2 hsum
              rw [hpr] at this
              exact this
            have HCa : Hid (∀ W', Below wa.heap.size wa W' → Calls Tryz.prog 17 #[.slice ada (readN s).length capa] W' fun e w' => e = .returned .nilIface ∧ Below W'.heap.size W' w') := fun W' hb => (check_any _ _ W' ea (HE.out _ (hbwa.trans (hb.mono hbwa.size))) (hna.below hb (Nat.le_refl _)) (by omega) (fun x hx => (hok2 x hx).1)).mono (by
              rintro e w' ⟨u, rfl, hu, hb⟩
              rw [hr.2] at hu
              obtain rfl : u = .nilIface := hu
              exact ⟨rfl, hb⟩)
            clear hoa hba hna
            go_wp2_with fail
            refine Calls.mono HPa.out ?_
            rintro e wb ⟨rfl, hbb⟩
            have HCb := HCa.out _ hbb
            have hbwb := hbwa.trans (hbb.mono hbwa.size)
            clear HPa HCa hbb
            go_wp2_with fail
            refine Calls.mono HCb ?_
            rintro e wc ⟨rfl, hbc⟩
            go_wp2_with fail
            go_ret
            exact ⟨rfl, hbwb.trans (hbc.mono hbwb.size)⟩
          · refine (parse_no (HK.out _ hbt) ea (HE.out _ hbt) s (by omega) hr).mono ?_
            rintro e wa ⟨ua, rfl, hua, hba⟩
            obtain ⟨ta, pa, rfl⟩ := bad_some hua hr
            have hbwa := hbt.trans (hba.mono hbt.size)
            clear hua hba
            go_wp2_with fail
            go_ret
            exact ⟨rfl, hbwa⟩
        | true =>
          obtain ⟨tl, htl⟩ := word_text X hd
          rw [htl] at HPA
          go_wp2_with fail
          refine Calls.mono (HPA.out _ hbw2) ?_
          rintro e w3 ⟨rfl, hb3⟩
          have hbw3 := hbw2.trans (hb3.mono hbw2.size)
          clear hb3
          go_wp2_with fail
          have hb4 : Below w3.heap.size w3 (w3.alloc (.cells #[.slice ad X.length cap] 22)) := (Below.refl _ w3).alloc (Nat.le_refl _) _
          have hbw4 := hbw3.trans (hb4.mono hbw3.size)
          have HKD : Hid (KdAt (w3.alloc (.cells #[.slice ad X.length cap] 22)) (.slice (some ⟨w3.heap.size, 0, none⟩) 1 1) [(.slice ad X.length cap, X)]) :=
            KdAt.of_cells (t := 22) rfl (Cel.new w3 22 _) (fun p hp => by rw [List.mem_singleton.1 hp]; exact HN.out _ hbw4) (Nat.le_refl _)
          have hkl : kidL [(.slice ad X.length cap, X)] = X := by simp [kidL]
          refine (new_own 22 0 [120] _ [(.slice ad X.length cap, X)] _ HKD.out (by simp) (by rw [hkl]; omega)).mono ?_
          rintro e w5 ⟨v5, rfl, ho5, hb5⟩
          have hbw5 := hbw4.trans (hb5.mono hbw4.size)
          have hd' := (fineB_iff _).1 hd
          have HC5 : Hid (Calls Tryz.prog 17 #[v5] w5 fun e w' => e = .returned .nilIface ∧ Below w5.heap.size w5 w') := (check_any v5 _ w5 ea (HE.out _ hbw5) ho5.at (by simp [newN]; omega) (fun x hx => by
            simp only [List.map_cons, List.map_nil, newN, List.flatten_cons, List.flatten_nil, List.append_nil, List.mem_cons] at hx
            rcases hx with rfl | hx
            · exact ⟨by simp, by simp⟩
            · exact ⟨by have := hxs x hx; omega, (hok x hx).2⟩)).mono (by
            rintro e w' ⟨u, rfl, hu, hb⟩
            rw [show checkL (newN 22 0 [120] ([(Value.slice ad X.length cap, X)].map Prod.snd)) = .fine from hd'] at hu
            obtain rfl : u = .nilIface := hu
            exact ⟨rfl, hb⟩)
          obtain ⟨ad5, cap5, rfl⟩ := ho5.at.form
          clear ho5 hb5 hb4 HKD hkl
          go_wp2_with fail
          refine Calls.mono HC5.out ?_
          rintro e wt ⟨rfl, hb6⟩
          have hbt := hbw5.trans (hb6.mono hbw5.size)
          clear HC5 hb6
          go_wp2_with fail
          by_cases hr : readOk s = true ∧ checkL (readN s) = .fine
          · have hlen := (seg_of_fine _ hr.2).2.2
            have hl2 := len_fine _ hr.2
            have hk2 := seg_k (seg_of_fine _ hr.2).1
            have hok2 : ∀ x ∈ readN s, NdOk x ∧ x.s.length < 8796093022208 := fun x hx => ⟨⟨by have := hl2 x hx; omega, by have := hk2 x hx; omega⟩, by have := hl2 x hx; omega⟩
            have hsum : sumS (readN s) ≤ 8796093022208 := by have := sumS_le 2000 _ hl2; omega
            have hpr : printL (readN s) = s.data.toList := read_printL s _ (readG_of s hr.1) hr.2
            refine (parse_yes (HK.out _ hbt) ea (HE.out _ hbt) s (by omega) hr.1 hr.2).mono ?_
            rintro e wa ⟨va, rfl, hoa, hba⟩
            have hbwa := hbt.trans (hba.mono hbt.size)
            have hna : NdAt wa va (readN s) := NdAt.owned hoa
            obtain ⟨ada, capa, rfl⟩ := hna.form
            have HPa : Hid (Calls Tryz.prog 15 #[.slice ada (readN s).length capa] wa fun e w' => e = .returned (.string s) ∧ Below wa.heap.size wa w') := by
              have := print_any _ (readN s) wa ea (HE.out _ hbwa) (HK.out _ hbwa) (HP.out _ hbwa) hna (by omega) hok2 hsum
              rw [hpr] at this
              exact this
            have HCa : Hid (∀ W', Below wa.heap.size wa W' → Calls Tryz.prog 17 #[.slice ada (readN s).length capa] W' fun e w' => e = .returned .nilIface ∧ Below W'.heap.size W' w') := fun W' hb => (check_any _ _ W' ea (HE.out _ (hbwa.trans (hb.mono hbwa.size))) (hna.below hb (Nat.le_refl _)) (by omega) (fun x hx => (hok2 x hx).1)).mono (by
              rintro e w' ⟨u, rfl, hu, hb⟩
              rw [hr.2] at hu
              obtain rfl : u = .nilIface := hu
              exact ⟨rfl, hb⟩)
            clear hoa hba hna
            go_wp2_with fail
            refine Calls.mono HPa.out ?_
            rintro e wb ⟨rfl, hbb⟩
            have HCb := HCa.out _ hbb
            have hbwb := hbwa.trans (hbb.mono hbwa.size)
            clear HPa HCa hbb
            go_wp2_with fail
            refine Calls.mono HCb ?_
            rintro e wc ⟨rfl, hbc⟩
            go_wp2_with fail
            go_ret
            exact ⟨rfl, hbwb.trans (hbc.mono hbwb.size)⟩
          · refine (parse_no (HK.out _ hbt) ea (HE.out _ hbt) s (by omega) hr).mono ?_
            rintro e wa ⟨ua, rfl, hua, hba⟩
            obtain ⟨ta, pa, rfl⟩ := bad_some hua hr
            have hbwa := hbt.trans (hba.mono hbt.size)
            clear hua hba
            go_wp2_with fail
            go_ret
            exact ⟨rfl, hbwa⟩
end Go.Proofs.YtaildeglikhkaaaGreatDoor
/-! The errors' texts are others each. -/
namespace Go.Proofs.YtaildeglikhkaaaGreatDoor
open Go.RowKit

/-- The text of the error in a variable. -/
def textE : Nat → List UInt8
  | 0 => [116, 111, 111, 32, 109, 97, 110, 121]
  | 1 => [110, 111, 32, 112, 114, 111, 103, 114, 97, 109]
  | 2 => [110, 101, 115, 116, 101, 100, 32, 116, 111, 111, 32, 100, 101, 101, 112]
  | 3 => [116, 111, 111, 32, 108, 111, 110, 103]
  | 4 => [105, 116, 32, 101, 110, 100, 115, 32, 116, 111, 111, 32, 101, 97, 114, 108, 121]
  | 5 => [105, 116, 32, 100, 111, 101, 115, 32, 110, 111, 116, 32, 115, 116, 97, 110, 100, 32, 104, 101, 114, 101]
  | 6 => [97, 32, 113, 117, 111, 116, 101, 32, 116, 104, 97, 116, 32, 100, 111, 101, 115, 32, 110, 111, 116, 32, 101, 110, 100]
  | 7 => [97, 32, 98, 114, 97, 99, 107, 101, 116, 32, 116, 104, 97, 116, 32, 100, 111, 101, 115, 32, 110, 111, 116, 32, 101, 110, 100]
  | 8 => [97, 32, 98, 114, 97, 99, 101, 32, 116, 104, 97, 116, 32, 100, 111, 101, 115, 32, 110, 111, 116, 32, 101, 110, 100]
  | 9 => [110, 111, 32, 110, 97, 109, 101]
  | 10 => [110, 111, 32, 116, 111, 107, 101, 110]
  | 11 => [116, 111, 111, 32, 109, 97, 110, 121, 32, 115, 116, 101, 112, 115]
  | 12 => [99, 97, 108, 108, 101, 100, 32, 116, 111, 111, 32, 100, 101, 101, 112]
  | 13 => [116, 111, 111, 32, 98, 105, 103]
  | 14 => [105, 116, 32, 99, 97, 110, 110, 111, 116, 32, 98, 101, 32, 115, 97, 105, 100]
  | 15 => [110, 111, 32, 99, 111, 100, 101]
  | 16 => [110, 111, 32, 115, 117, 99, 104, 32, 110, 117, 109, 98, 101, 114]
  | _ => []
theorem textE_inj : ∀ i, i < 17 → ∀ j, j < 17 → textE i = textE j → i = j := by decide
theorem ers_of {W : World} {ea : Nat → Addr} (h : ∀ i, i < 17 → W.cell? ⟨i + 1, 0, none⟩ = some (errV (ea i)) ∧ (∃ s, W.cell? (ea i) = some (.string s) ∧ s.data.toList = textE i) ∧ ∃ c t, W.heap[(ea i).block]? = some (.cells c t (0, 0))) : Ers W ea := by
  refine ⟨fun i hi => (h i hi).1, fun i j hi hj e => ?_, fun i hi => (h i hi).2.2⟩
  obtain ⟨s, h1, h2⟩ := (h i hi).2.1
  obtain ⟨s', h3, h4⟩ := (h j hj).2.1
  rw [e, h3] at h1
  cases h1
  exact textE_inj i hi j hj (h2.symm.trans h4)
end Go.Proofs.YtaildeglikhkaaaGreatDoor
/-! The names of the kinds lie in the world, out of what the card lays. -/
namespace Go.Proofs.YtaildeglikhkaaaGreatDoor
open Go.RowKit Go.Lib
/-- A row's data: these texts. -/
def namesData {H : Type} (L : List (List UInt8)) : DataW H := .agg (L.map fun l => .lit (.string l))
theorem cells_of_names {H : Type} {enc : TypeId × Value → H} {P : Program} {w : World} {base : Nat} {sp : Nat → Bool} {held : Bool} {fuel : Nat} {t e : TypeId} {n : Nat} {cs : List Value} {zs : List (List UInt8)} {p : List MemPlace}
    (ht : P.underlying t = some (.array n e)) (he : P.underlying e = some .string) (hce : P.cellsOf e = 1) (hct : P.cellsOf t = n)
    (h : DataW.trod enc P w base sp held fuel t cs = some (namesData zs, p)) : cs = zs.map str := by
  cases fuel with
  | zero => simp [DataW.trod] at h
  | succ fuel =>
    simp only [DataW.trod, ht, hce, hct, Nat.mul_one] at h
    split at h
    · rename_i hl
      obtain ⟨xs, hm, hx⟩ := Option.map_eq_some_iff.1 h
      have hxs : xs.map (·.1) = zs.map fun z => (DataW.lit (.string z) : DataW H) := by
        have := congrArg Prod.fst hx
        simpa [namesData] using this
      have hxl : xs.length = n := by simpa using mapM_length hm
      have hzl : zs.length = n := by
        have := congrArg List.length hxs
        simp at this
        omega
      apply List.ext_getElem?
      intro i
      by_cases hi : i < n
      · obtain ⟨b, hb, hf⟩ := mapM_at hm i i (by simp [hi])
        obtain ⟨z, hc, hz, _⟩ := DataW.trod_string he hf
        have h1 : cs[i]? = some (.string z) := by
          have := congrArg (·[0]?) hc
          simpa [List.getElem?_take, List.getElem?_drop] using this
        have h2 : (xs.map (·.1))[i]? = some b.1 := by simp [hb]
        rw [hxs] at h2
        rw [hz] at h2
        simp only [List.getElem?_map, Option.map_eq_some_iff, DataW.lit.injEq, Lit.string.injEq] at h2
        obtain ⟨z', hz', e'⟩ := h2
        rw [h1, List.getElem?_map, hz', e']
        rfl
      · rw [List.getElem?_eq_none (by omega), List.getElem?_eq_none (by simp; omega)]
    · cases h
theorem gKn : Tryz.prog.globalNamed "patois/spell.kindNames" = some 0 := by kernel_rfl
theorem tKn : (Tryz.prog.globals[0]?).map (·.type) = some 60 := by kernel_rfl
theorem uKn : Tryz.prog.underlying 60 = some (.array 38 9) := by kernel_rfl
theorem uS : Tryz.prog.underlying 9 = some .string := by kernel_rfl
theorem cKn : Tryz.prog.cellsOf 60 = 38 := by kernel_rfl
theorem cS : Tryz.prog.cellsOf 9 = 1 := by kernel_rfl
theorem dKn : (Rows.laid_patois_spell_kindNames : DataW Unit) = namesData kindL := by kernel_rfl
theorem kn_of_head {W : World} {rest : List (String × DataW Unit)} (h : laidMet Tryz.prog (("patois/spell.kindNames", namesData kindL) :: rest) W) : KnAt W := by
  obtain ⟨ps, ⟨g', t', cs, fuel, p, q, hg', ht', hvar, hd, _, _⟩, _⟩ := h
  obtain rfl := Option.some.inj (gKn.symm.trans hg')
  obtain rfl := Option.some.inj (tKn.symm.trans ht')
  have hcs := cells_of_names uKn uS cS cKn hd
  unfold World.var? at hvar
  rw [gKn] at hvar
  simp only [Option.bind_some] at hvar
  cases hh : W.heap[0]? with
  | none => rw [hh] at hvar; cases hvar
  | some o =>
    rw [hh] at hvar
    cases o with
    | cells c t fr =>
      have e1 : c = cs := by simpa using hvar
      have e2 : cs = kindA := by
        apply Array.toList_inj.1
        rw [hcs, kindA_list]
      exact ⟨t, fr, by rw [hh, e1, e2]⟩
    | _ => cases hvar
end Go.Proofs.YtaildeglikhkaaaGreatDoor
namespace Go.Proofs.YtaildeglikhkaaaGreatDoor.cardSpellBack
open Go.ChangeShapes Go.WideShapes Go.ChangeAt Go.WideMaps Go.WideElems Go.RowKit
open Go.ChangeMaps (open_string shut_string)

theorem own : ownKnob Tryz.prog.godebug = none := by kernel_rfl
theorem g3 : Tryz.prog.globalNamed (Rows.spellBackRow.named.getD 0 default) = some 4 := by kernel_rfl
theorem t3 : (Tryz.prog.globals[4]?).map (·.type) = some 36 := by kernel_rfl
theorem g2 : Tryz.prog.globalNamed (Rows.spellBackRow.named.getD 6 default) = some 3 := by kernel_rfl
theorem t2 : (Tryz.prog.globals[3]?).map (·.type) = some 36 := by kernel_rfl
theorem g6 : Tryz.prog.globalNamed (Rows.spellBackRow.named.getD 12 default) = some 7 := by kernel_rfl
theorem t6 : (Tryz.prog.globals[7]?).map (·.type) = some 36 := by kernel_rfl
theorem g7 : Tryz.prog.globalNamed (Rows.spellBackRow.named.getD 13 default) = some 8 := by kernel_rfl
theorem t7 : (Tryz.prog.globals[8]?).map (·.type) = some 36 := by kernel_rfl
theorem g8 : Tryz.prog.globalNamed (Rows.spellBackRow.named.getD 14 default) = some 9 := by kernel_rfl
theorem t8 : (Tryz.prog.globals[9]?).map (·.type) = some 36 := by kernel_rfl
theorem g9 : Tryz.prog.globalNamed (Rows.spellBackRow.named.getD 15 default) = some 10 := by kernel_rfl
theorem t9 : (Tryz.prog.globals[10]?).map (·.type) = some 36 := by kernel_rfl
theorem g10 : Tryz.prog.globalNamed (Rows.spellBackRow.named.getD 16 default) = some 11 := by kernel_rfl
theorem t10 : (Tryz.prog.globals[11]?).map (·.type) = some 36 := by kernel_rfl
theorem g5 : Tryz.prog.globalNamed (Rows.spellBackRow.named.getD 3 default) = some 6 := by kernel_rfl
theorem t5 : (Tryz.prog.globals[6]?).map (·.type) = some 36 := by kernel_rfl
theorem g4 : Tryz.prog.globalNamed (Rows.spellBackRow.named.getD 2 default) = some 5 := by kernel_rfl
theorem t4 : (Tryz.prog.globals[5]?).map (·.type) = some 36 := by kernel_rfl
theorem g1 : Tryz.prog.globalNamed (Rows.spellBackRow.named.getD 5 default) = some 2 := by kernel_rfl
theorem t1 : (Tryz.prog.globals[2]?).map (·.type) = some 36 := by kernel_rfl
theorem g0 : Tryz.prog.globalNamed (Rows.spellBackRow.named.getD 4 default) = some 1 := by kernel_rfl
theorem t0 : (Tryz.prog.globals[1]?).map (·.type) = some 36 := by kernel_rfl
theorem g11 : Tryz.prog.globalNamed (Rows.spellBackRow.named.getD 17 default) = some 12 := by kernel_rfl
theorem t11 : (Tryz.prog.globals[12]?).map (·.type) = some 36 := by kernel_rfl
theorem g12 : Tryz.prog.globalNamed (Rows.spellBackRow.named.getD 18 default) = some 13 := by kernel_rfl
theorem t12 : (Tryz.prog.globals[13]?).map (·.type) = some 36 := by kernel_rfl
theorem g13 : Tryz.prog.globalNamed (Rows.spellBackRow.named.getD 19 default) = some 14 := by kernel_rfl
theorem t13 : (Tryz.prog.globals[14]?).map (·.type) = some 36 := by kernel_rfl
theorem g14 : Tryz.prog.globalNamed (Rows.spellBackRow.named.getD 20 default) = some 15 := by kernel_rfl
theorem t14 : (Tryz.prog.globals[15]?).map (·.type) = some 36 := by kernel_rfl
theorem g15 : Tryz.prog.globalNamed (Rows.spellBackRow.named.getD 21 default) = some 16 := by kernel_rfl
theorem t15 : (Tryz.prog.globals[16]?).map (·.type) = some 36 := by kernel_rfl
theorem g16 : Tryz.prog.globalNamed (Rows.spellBackRow.named.getD 22 default) = some 17 := by kernel_rfl
theorem t16 : (Tryz.prog.globals[17]?).map (·.type) = some 36 := by kernel_rfl
theorem star : "*" ++ "errors.errorString" = "*errors.errorString" := by decide
theorem rowErr (u : TypeId) (h : Tryz.prog.typeName? 3 u = some "*errors.errorString") : u = 162 :=
  typeName_ptr_named (nm := "errors.errorString") (by rw [star]; kernel_rfl) (by kernel_rfl) (by decide) u (by rw [star]; exact h)
theorem c125 : Tryz.prog.cellsOf 176 = 1 := by kernel_rfl
theorem cell9 : Tryz.prog.cellsOf 9 = 1 := by kernel_rfl
/-- What the row's list gives: the sentinels are pointers, others each. -/
theorem err_of {W : World} (h : laidMetH Tryz.prog Rows.spellBackRow.laid W) : ∃ ea, Ers W ea := by
  rw [MakeChecks.laidMetH_plain _ _ _ (by kernel_rfl)] at h
  obtain ⟨a3, a2, s3, s2, c3, c2, u3, u2, v3, v2, x3, y3, _, x2, y2, _, _, z3, z2⟩ := laid_sentinels2 ((laidMet.tail (laidMet.tail (laidMet.tail (laidMet.tail h))))) g3 t3 g2 t2 Tryz.underlying36 rowErr Tryz.underlying162 Tryz.underlying176 rfl rfl Tryz.underlying9 c125 cell9
  obtain ⟨a6, a7, s6, s7, c6, c7, u6, u7, v6, v7, x6, y6, _, x7, y7, _, _, z6, z7⟩ := laid_sentinels2 ((laidMet.tail (laidMet.tail (laidMet.tail (laidMet.tail (laidMet.tail (laidMet.tail h))))))) g6 t6 g7 t7 Tryz.underlying36 rowErr Tryz.underlying162 Tryz.underlying176 rfl rfl Tryz.underlying9 c125 cell9
  obtain ⟨a8, a9, s8, s9, c8, c9, u8, u9, v8, v9, x8, y8, _, x9, y9, _, _, z8, z9⟩ := laid_sentinels2 ((laidMet.tail (laidMet.tail (laidMet.tail (laidMet.tail (laidMet.tail (laidMet.tail (laidMet.tail (laidMet.tail h))))))))) g8 t8 g9 t9 Tryz.underlying36 rowErr Tryz.underlying162 Tryz.underlying176 rfl rfl Tryz.underlying9 c125 cell9
  obtain ⟨a10, a5, s10, s5, c10, c5, u10, u5, v10, v5, x10, y10, _, x5, y5, _, _, z10, z5⟩ := laid_sentinels2 ((laidMet.tail (laidMet.tail (laidMet.tail (laidMet.tail (laidMet.tail (laidMet.tail (laidMet.tail (laidMet.tail (laidMet.tail (laidMet.tail h))))))))))) g10 t10 g5 t5 Tryz.underlying36 rowErr Tryz.underlying162 Tryz.underlying176 rfl rfl Tryz.underlying9 c125 cell9
  obtain ⟨a4, a1, s4, s1, c4, c1, u4, u1, v4, v1, x4, y4, _, x1, y1, _, _, z4, z1⟩ := laid_sentinels2 ((laidMet.tail (laidMet.tail (laidMet.tail (laidMet.tail (laidMet.tail (laidMet.tail (laidMet.tail (laidMet.tail (laidMet.tail (laidMet.tail (laidMet.tail (laidMet.tail h))))))))))))) g4 t4 g1 t1 Tryz.underlying36 rowErr Tryz.underlying162 Tryz.underlying176 rfl rfl Tryz.underlying9 c125 cell9
  obtain ⟨a0, a11, s0, s11, c0, c11, u0, u11, v0, v11, x0, y0, _, x11, y11, _, _, z0, z11⟩ := laid_sentinels2 ((laidMet.tail (laidMet.tail (laidMet.tail (laidMet.tail (laidMet.tail (laidMet.tail (laidMet.tail (laidMet.tail (laidMet.tail (laidMet.tail (laidMet.tail (laidMet.tail (laidMet.tail (laidMet.tail h))))))))))))))) g0 t0 g11 t11 Tryz.underlying36 rowErr Tryz.underlying162 Tryz.underlying176 rfl rfl Tryz.underlying9 c125 cell9
  obtain ⟨a12, a13, s12, s13, c12, c13, u12, u13, v12, v13, x12, y12, _, x13, y13, _, _, z12, z13⟩ := laid_sentinels2 ((laidMet.tail (laidMet.tail (laidMet.tail (laidMet.tail (laidMet.tail (laidMet.tail (laidMet.tail (laidMet.tail (laidMet.tail (laidMet.tail (laidMet.tail (laidMet.tail (laidMet.tail (laidMet.tail (laidMet.tail (laidMet.tail h))))))))))))))))) g12 t12 g13 t13 Tryz.underlying36 rowErr Tryz.underlying162 Tryz.underlying176 rfl rfl Tryz.underlying9 c125 cell9
  obtain ⟨a14, a15, s14, s15, c14, c15, u14, u15, v14, v15, x14, y14, _, x15, y15, _, _, z14, z15⟩ := laid_sentinels2 ((laidMet.tail (laidMet.tail (laidMet.tail (laidMet.tail (laidMet.tail (laidMet.tail (laidMet.tail (laidMet.tail (laidMet.tail (laidMet.tail (laidMet.tail (laidMet.tail (laidMet.tail (laidMet.tail (laidMet.tail (laidMet.tail (laidMet.tail (laidMet.tail h))))))))))))))))))) g14 t14 g15 t15 Tryz.underlying36 rowErr Tryz.underlying162 Tryz.underlying176 rfl rfl Tryz.underlying9 c125 cell9
  obtain ⟨_, a16, _, s16, _, c16, _, u16, _, v16, _, _, _, x16, y16, _, _, _, z16⟩ := laid_sentinels2 ((laidMet.tail (laidMet.tail (laidMet.tail (laidMet.tail (laidMet.tail (laidMet.tail (laidMet.tail (laidMet.tail (laidMet.tail (laidMet.tail (laidMet.tail (laidMet.tail (laidMet.tail (laidMet.tail (laidMet.tail (laidMet.tail (laidMet.tail (laidMet.tail (laidMet.tail h)))))))))))))))))))) g15 t15 g16 t16 Tryz.underlying36 rowErr Tryz.underlying162 Tryz.underlying176 rfl rfl Tryz.underlying9 c125 cell9
  refine ⟨fun i => match i with | 0 => a0 | 1 => a1 | 2 => a2 | 3 => a3 | 4 => a4 | 5 => a5 | 6 => a6 | 7 => a7 | 8 => a8 | 9 => a9 | 10 => a10 | 11 => a11 | 12 => a12 | 13 => a13 | 14 => a14 | 15 => a15 | _ => a16, ers_of fun i hi => ?_⟩
  match i, hi with
  | 0, _ => exact ⟨by simpa using World.var?_cell g0 v0 0, ⟨s0, x0, y0⟩, c0, u0, z0⟩
  | 1, _ => exact ⟨by simpa using World.var?_cell g1 v1 0, ⟨s1, x1, y1⟩, c1, u1, z1⟩
  | 2, _ => exact ⟨by simpa using World.var?_cell g2 v2 0, ⟨s2, x2, y2⟩, c2, u2, z2⟩
  | 3, _ => exact ⟨by simpa using World.var?_cell g3 v3 0, ⟨s3, x3, y3⟩, c3, u3, z3⟩
  | 4, _ => exact ⟨by simpa using World.var?_cell g4 v4 0, ⟨s4, x4, y4⟩, c4, u4, z4⟩
  | 5, _ => exact ⟨by simpa using World.var?_cell g5 v5 0, ⟨s5, x5, y5⟩, c5, u5, z5⟩
  | 6, _ => exact ⟨by simpa using World.var?_cell g6 v6 0, ⟨s6, x6, y6⟩, c6, u6, z6⟩
  | 7, _ => exact ⟨by simpa using World.var?_cell g7 v7 0, ⟨s7, x7, y7⟩, c7, u7, z7⟩
  | 8, _ => exact ⟨by simpa using World.var?_cell g8 v8 0, ⟨s8, x8, y8⟩, c8, u8, z8⟩
  | 9, _ => exact ⟨by simpa using World.var?_cell g9 v9 0, ⟨s9, x9, y9⟩, c9, u9, z9⟩
  | 10, _ => exact ⟨by simpa using World.var?_cell g10 v10 0, ⟨s10, x10, y10⟩, c10, u10, z10⟩
  | 11, _ => exact ⟨by simpa using World.var?_cell g11 v11 0, ⟨s11, x11, y11⟩, c11, u11, z11⟩
  | 12, _ => exact ⟨by simpa using World.var?_cell g12 v12 0, ⟨s12, x12, y12⟩, c12, u12, z12⟩
  | 13, _ => exact ⟨by simpa using World.var?_cell g13 v13 0, ⟨s13, x13, y13⟩, c13, u13, z13⟩
  | 14, _ => exact ⟨by simpa using World.var?_cell g14 v14 0, ⟨s14, x14, y14⟩, c14, u14, z14⟩
  | 15, _ => exact ⟨by simpa using World.var?_cell g15 v15 0, ⟨s15, x15, y15⟩, c15, u15, z15⟩
  | 16, _ => exact ⟨by simpa using World.var?_cell g16 v16 0, ⟨s16, x16, y16⟩, c16, u16, z16⟩
  | n + 17, h => exact absurd h (by omega)
theorem gPow : Tryz.prog.globalNamed "internal/strconv.uint64pow10" = some 18 := by kernel_rfl
theorem tPow : (Tryz.prog.globals[18]?).map (·.type) = some 148 := by kernel_rfl
theorem cPow : Tryz.prog.cellsOf 148 = 20 := by kernel_rfl
theorem cU : Tryz.prog.cellsOf 138 = 1 := by kernel_rfl
theorem dPow : (Rows.laid_internal_strconv_uint64pow10 : DataW Unit) = Lib.tabData .u64 Lib.pow10Tab := by kernel_rfl
/-- What the row's list gives: the table of powers lies in the world, and stays. -/
theorem pow_of {W : World} (h : laidMetH Tryz.prog Rows.spellBackRow.laid W) : ∀ W', Below W.heap.size W W' → Pow W' := by
  rw [MakeChecks.laidMetH_plain _ _ _ (by kernel_rfl)] at h
  have h2 := laidMet.tail (laidMet.tail h)
  rw [dPow] at h2
  have hp : Pow W := Lib.tabIs_of_head gPow tPow Tryz.underlying148 Tryz.underlying138 cU cPow h2
  have hc := Lib.TabIs.cell hp gPow 0 (by rw [Lib.pow10Tab_length]; omega)
  have h1 : 18 < W.heap.size := World.block_lt_of_cell? W _ hc
  exact fun W' hb => var?_below hb gPow h1 hp
/-- What the row's list gives: the kinds' names lie in the world. -/
theorem kn_of {W : World} (h : laidMetH Tryz.prog Rows.spellBackRow.laid W) : KnAt W := by
  rw [MakeChecks.laidMetH_plain _ _ _ (by kernel_rfl)] at h
  have h2 := (laidMet.tail (laidMet.tail (laidMet.tail (laidMet.tail (laidMet.tail (laidMet.tail (laidMet.tail (laidMet.tail (laidMet.tail (laidMet.tail (laidMet.tail (laidMet.tail (laidMet.tail (laidMet.tail (laidMet.tail (laidMet.tail (laidMet.tail (laidMet.tail (laidMet.tail (laidMet.tail (laidMet.tail h)))))))))))))))))))))
  rw [dKn] at h2
  exact kn_of_head h2


set_option maxRecDepth 100000 in
theorem lifted (os : Os) (started : os.Started) (H : Type) (enc : TypeId × Value → H) :
    ReturnsInHanded {} Tryz.checked os 4 .any (fun w args => (Rows.spellBackSpec.pre enc Tryz.prog Tryz.f4 [] false w args ∧ laidMetH Tryz.prog Rows.spellBackRow.laid w) ∧ sizedMet enc Tryz.prog Tryz.f4 (OpenSpec.ofChange Rows.spellBackSpec) false w args)
      (Rows.spellBackSpec.post enc Tryz.prog Tryz.f4 false true false false) := by
  refine returnsInHanded_of_change_and (C := Tryz.checked) (X := fun w _ => laidMetH Tryz.prog Rows.spellBackRow.laid w) (fun _ _ _ hh h => h.of_heap hh) own started (by kernel_rfl) Tryz.func4
    (ChangeSpec.witness_shaped (enc := enc) (C := Tryz.checked) (os := os) (X := fun w _ => laidMetH Tryz.prog Rows.spellBackRow.laid w) false (World.laidAll Tryz.prog os Rows.spellBackRow.laid) #[.slice none 0 0, .string ⟨#[]⟩] 8 (World.laidAll_os _ _ _) (World.shaped_of_ZipB (by kernel_rfl) (by kernel_rfl)) (by kernel_rfl) (by kernel_rfl) (by kernel_rfl) (by rw [MakeChecks.laidMetH_plain _ _ _ (by kernel_rfl)]; exact laidMet_laidAll _ (by kernel_rfl) (by kernel_rfl))) ?_
  intro W base args ds gs before hval0 hW _ hsz0 hL _
  have hval : ∀ (j : Nat) t v, Tryz.f4.params[j]? = some t → args[j]? = some v → Value.okWide Tryz.prog W .any base t v := hval0
  have hsz : (DataW.weightsEach Tryz.prog (Tryz.f4.params.toList ++ Rows.spellBackSpec.plain.varTypes Tryz.prog) (ds ++ gs)).all (· ≤ reachBytes) = true := hsz0
  have hW' := hW
  obtain ⟨p, q, hA0, hV, rfl, hfz, hnd⟩ := hW
  have hA : DataW.TrodAll enc Tryz.prog W 0 (fun _ => true) true Tryz.f4.params.toList args.toList ds p := hA0
  rw [Tryz.params4] at hA hval hsz
  obtain ⟨v0, vs0, d0, ds0, p0, q0, hargs, rfl, rfl, h0, r0⟩ := trodAll_cons hA
  obtain ⟨v1, vs1, d1, ds1, p1, q1, rfl, rfl, rfl, h1, r1⟩ := trodAll_cons r0
  obtain ⟨rfl, rfl, rfl⟩ := trodAll_nil r1
  obtain rfl : args = #[v0, v1] := by cases args; simp_all
  obtain ⟨rfl, rfl⟩ := trodVars_none hV
  obtain ⟨a0, len0, cap0, rfl⟩ := okWide_slice Tryz.underlying22 (hval 0 22 v0 rfl rfl)
  have k0 := h0
  have lt0 : ∀ x ∈ p0, x.block < W.heap.size := by obtain ⟨m, hm⟩ := k0; exact DataW.trod_lt m _ _ _ hm
  obtain ⟨fuel0, hf0⟩ := h0
  obtain ⟨x0, t0, n0, z0⟩ := open_nd hf0 (fun n hn => by have := List.all_eq_true.1 hsz n (DataW.weights_mem_each (j := 0) rfl rfl n hn); simpa using this)
  obtain ⟨x1, rfl, rfl, rfl, w1⟩ := open_string Tryz.underlying9 (hval 1 9 v1 rfl rfl) h1
  clear hA0 hval0
  obtain ⟨ea, hE⟩ := err_of hL
  have hK := kn_of hL
  have hP := pow_of hL
  have hs1 : x1.size < 4611686018427387904 := by
    have h := of_decide_eq_true (List.all_eq_true.1 hsz x1.size (DataW.weights_mem_each (j := 1) rfl rfl _ (by simp [DataW.weights])))
    have hr : reachBytes = 140737488351232 := by decide
    omega
  refine (back_any _ x0 x1 W ea hE hK hP t0 z0 (fun x hx => ⟨(n0 x hx).s, (n0 x hx).k.2⟩) hs1).mono fun e W' ⟨he, bel⟩ => ?_
  subst he
  exact ⟨_, rfl, _, _, _, [], _, [], hW', trodAll_mk1 (shut_bool Tryz.underlying4 _), (trodAll_cons_mk (Below.trod laidOut3 (by kernel_rfl) (of_decide_eq_true (by kernel_rfl)) k0 bel lt0) (trodAll_cons_mk (shut_string Tryz.underlying9 w1) trodAll_mk0)), rfl, bel.frame _, fun h => by cases h⟩

theorem said : Rows.SpellBackSaid :=
  OpenClaim.holds_of_wide 4 Tryz.f4 rfl rfl rfl rfl rfl rfl rfl ⟨rfl, rfl, rfl, rfl, rfl⟩ rfl rfl rfl rfl rfl (by kernel_rfl) Tryz.func4 (by kernel_rfl)
    (of_decide_eq_true (by kernel_rfl)) (by unfold Func.isWrapper; first | (rw [if_pos (by decide +kernel)]; kernel_rfl) | (rw [if_neg (by decide +kernel)]; exact ⟨rfl, rfl⟩))
    (fun os started H enc _ => lifted os started H enc)

theorem plain (f : FuncId) (fn : Func) (hf : Tryz.pinned.checked.prog.funcNamed Rows.spellBackRow.func = some f) (hfn : Tryz.pinned.checked.prog.funcs[f]? = some fn) :
    true = Tryz.pinned.checked.prog.looks [] ∧ ∀ (j : Nat) t, fn.params[j]? = some t → Tryz.pinned.checked.prog.wantsStandIn t = false := by
  obtain rfl : f = 4 := Option.some.inj ((show Tryz.prog.funcNamed Rows.spellBackRow.func = some 4 by kernel_rfl).symm.trans hf) |>.symm
  obtain rfl : fn = Tryz.f4 := (Option.some.inj (Tryz.func4.symm.trans hfn)).symm
  refine ⟨by kernel_rfl, fun j t ht => ?_⟩
  rw [Tryz.params4] at ht
  have hm : t ∈ [22, 9] := by simpa using Array.mem_of_getElem? ht
  have hall : ([22, 9].all fun u => !Tryz.prog.wantsStandIn u) = true := by kernel_rfl
  exact (show Tryz.prog.wantsStandIn t = false by simpa using List.all_eq_true.1 hall t hm)

theorem proved : Rows.SpellBackCardSaid :=
  Claim7.holds_tied_plain_at .later [] _ _ _ _ said (fun _ h => by cases h) (by kernel_rfl) (fun _ h => by cases h) spellBack_row_tie rfl ⟨rfl, rfl⟩ (by kernel_rfl) rfl plain (by kernel_rfl)
end Go.Proofs.YtaildeglikhkaaaGreatDoor.cardSpellBack
namespace Go.Proofs.YtaildeglikhkaaaGreatDoor
theorem spellBack_card : Rows.SpellBackCardSaid := cardSpellBack.proved
#print axioms spellBack_card
end Go.Proofs.YtaildeglikhkaaaGreatDoor
