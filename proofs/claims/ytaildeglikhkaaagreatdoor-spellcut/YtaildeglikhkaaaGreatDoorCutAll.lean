/- For every list of nodes, every number and every byte: a program's text that is cut off ends too early, there; with a byte more it does not fit, there; with one byte turned it is another one, or the place is at the byte or behind it (SpellCut, a tied card). -/
import Derived.Test.YtaildeglikhkaaaGreatDoorPrAny
import Derived.Test.YtaildeglikhkaaaGreatDoorRParse
import Derived.Test.YtaildeglikhkaaaGreatDoorSee
import Derived.Test.YtaildeglikhkaaaGreatDoorSame
import Derived.Test.YtaildeglikhkaaaGreatDoorBack3
import Derived.Test.YtaildeglikhkaaaGreatDoorFwd
import Derived.Laws.IdiomStrings
import Derived.BigQuiet
import Derived.Test.YtaildeglikhkaaaGreatDoorCheck
import Derived.Test.YtaildeglikhkaaaGreatDoorRows
import Derived.Test.YtaildeglikhkaaaGreatDoorKind
import Derived.Lib.LaidTab
import Derived.ProofKit
import Derived.Carry
import Derived.LaidMore
import Derived.OpenShut
import Derived.Test.YtaildeglikhkaaaGreatDoorCards
import Derived.Test.YtaildeglikhkaaaGreatDoorTie
import Derived.Test.YtaildeglikhkaaaGreatDoorOpenNd
import Derived.Lay
import Derived.Below
import Derived.Stop.Joined
import Derived.Stop.LaidErr
import Derived.Stop.LaidTwo
import Derived.SevenTiedAt
/-! The law's own first try. -/
namespace Go.Proofs.YtaildeglikhkaaaGreatDoor
open Go.RowKit
attribute [local go_sem] Oper.semAt_some
theorem read_1 : readOk ⟨#[40, 110, 111, 112, 44]⟩ = false ∧ readAt ⟨#[40, 110, 111, 112, 44]⟩ = 4 := by decide +kernel
theorem read_2 : readOk ⟨#[40, 110, 111, 112]⟩ = false ∧ readAt ⟨#[40, 110, 111, 112]⟩ = 4 := by decide +kernel
theorem read_3 : readOk ⟨#[40, 110, 111, 112, 41]⟩ = true ∧ (readN ⟨#[40, 110, 111, 112, 41]⟩) = [nopN] := ⟨by decide +kernel, (sameNs_iff _ _).1 (by decide +kernel)⟩
theorem chk_3 : checkL [nopN] = .fine := rfl
def firstN : List Nd := newN 21 0 [] [[litN [101, 99, 104, 111]], [⟨2, 0, 0, 1, [120]⟩]]
theorem print_1 : printL firstN = [40, 99, 97, 108, 108, 32, 40, 108, 105, 116, 32, 34, 101, 99, 104, 111, 34, 41, 32, 40, 118, 97, 114, 32, 34, 120, 34, 41, 41] := by decide +kernel
theorem quote_1 : quoteL [97, 34, 10] = [34, 97, 92, 50, 50, 92, 48, 97, 34] := by decide +kernel
theorem ord_7 : ordE 7 = 5 := by decide
theorem ord_8 : ordE 8 = 4 := by decide
set_option maxRecDepth 100000 in
set_option maxHeartbeats 2000000 in
theorem first_any (W : World) (ea : Nat → Addr) (hE : Ers W ea) (hK : KnAt W) (hP : ∀ w', Below W.heap.size W w' → Pow w') : Calls Tryz.prog 6 #[] W fun e w' => e = .returned (.bool true) ∧ Below W.heap.size W w' := by
  have HE : Hid (∀ W', Below W.heap.size W W' → Ers W' ea) := fun W' hb => hE.below hb
  have HK : Hid (∀ W', Below W.heap.size W W' → KnAt W') := fun W' hb => KnAt.below hK hb
  have HP : Hid (∀ W', Below W.heap.size W W' → ∀ w', Below W'.heap.size W' w' → Pow w') := fun W' hb w' hb' => hP w' (hb.trans (hb'.mono hb.size))
  clear hE hK hP
  go_enter Tryz.func6, Tryz.ntmps6
  go_wp2_with fail
  refine (lit_any _ _).mono ?_
  rintro e w1 ⟨v1, rfl, ho1, hb1⟩
  have HO1 : Hid (NdOwn w1 W.heap.size v1 [litN [101, 99, 104, 111]]) := ho1
  obtain ⟨ad1, cap1, rfl⟩ := owns_slice ho1
  clear ho1
  go_wp2_with fail
  refine (new_leaf 2 0 [120] _).mono ?_
  rintro e w2 ⟨v2, rfl, ho2, hb2⟩
  have HO2 : Hid (NdOwn w2 w1.heap.size v2 [⟨2, 0, 0, 1, [120]⟩]) := ho2
  have HO1' : Hid (NdOwn w2 W.heap.size (.slice ad1 1 cap1) [litN [101, 99, 104, 111]]) := HO1.out.below hb2
  obtain ⟨ad2, cap2, rfl⟩ := owns_slice ho2
  have hbw2 := hb1.trans (hb2.mono hb1.size)
  clear ho2 hb2 HO1
  obtain ⟨w3, hw3⟩ : ∃ w3, w3 = w2.alloc (.cells #[.slice ad1 1 cap1, .slice ad2 1 cap2] 22) := ⟨_, rfl⟩
  have hb3 : Below w2.heap.size w2 w3 := by rw [hw3]; exact below_new _ _
  have hKd : KdAt w3 (.slice (some ⟨w2.heap.size, 0, none⟩) 2 2) [(.slice ad1 1 cap1, [litN [101, 99, 104, 111]]), (.slice ad2 1 cap2, [⟨2, 0, 0, 1, [120]⟩])] := by
    refine KdAt.of_cells (t := 22) rfl (by rw [hw3]; exact Cel.new _ _ _) ?_ (by decide)
    intro p hp
    simp only [List.mem_cons, List.not_mem_nil, or_false] at hp
    rcases hp with rfl | rfl
    · exact (HO1'.out.below hb3).at
    · exact (HO2.out.below hb3).at
  have hN := new_own 21 0 [] _ _ _ hKd (by show 2 < 4294967296; decide) (by show 2 < 4294967296; decide)
  have HN : Hid (Calls Tryz.prog 20 #[.int .i64 21, .int .i64 0, .string ⟨#[]⟩, .slice (some ⟨w2.heap.size, 0, none⟩) 2 2] w3 fun e w' => ∃ v', e = .returned v' ∧ NdOwn w' w3.heap.size v' firstN ∧ Below w3.heap.size w3 w') := hN
  have hbw3 := hbw2.trans (hb3.mono hbw2.size)
  clear hKd hN
  go_wp2_with fail
  rw [← hw3]
  refine Calls.mono HN.out ?_
  rintro e w4 ⟨v4, rfl, ho4, hb4⟩
  have HO4 : Hid (NdOwn w4 w3.heap.size v4 firstN) := ho4
  obtain ⟨ad4, cap4, hv4⟩ := owns_slice ho4
  obtain rfl : v4 = .slice ad4 3 cap4 := hv4
  have hbw4 := hbw3.trans (hb4.mono hbw3.size)
  clear ho4 hb4 HN hw3 hb3 HO1' HO2 hbw2 hb1
  go_wp2_with fail
  refine (parse_no (HK.out _ hbw4) ea (HE.out _ hbw4) _ (by decide) (by rw [read_1.1]; simp)).mono ?_
  rintro e w5 ⟨u5, rfl, hu5, hb5⟩
  unfold BadIs at hu5
  rw [read_1.1, read_1.2, if_neg (by decide), if_neg (by decide)] at hu5
  obtain ⟨q5, rfl, hq5⟩ := hu5
  have hbw5 := hbw4.trans (hb5.mono hbw4.size)
  have HO5 : Hid (NdOwn w5 w3.heap.size (.slice ad4 3 cap4) firstN) := HO4.out.below hb5
  have HQ5 : Hid (∀ W', Below w5.heap.size w5 W' → Cel W' q5 81 #[.int .i64 4, errV (ea 5)]) := fun W' h => Cel.below hq5 h hq5.lt
  clear hb5 hq5 HO4
  go_wp2_with fail
  refine (parse_no (HK.out _ hbw5) ea (HE.out _ hbw5) _ (by decide) (by rw [read_2.1]; simp)).mono ?_
  rintro e w6 ⟨u6, rfl, hu6, hb6⟩
  unfold BadIs at hu6
  rw [read_2.1, read_2.2, if_neg (by decide), if_pos (by decide)] at hu6
  obtain ⟨q6, rfl, hq6⟩ := hu6
  have hbw6 := hbw5.trans (hb6.mono hbw5.size)
  have HO6 : Hid (NdOwn w6 w3.heap.size (.slice ad4 3 cap4) firstN) := HO5.out.below hb6
  have HQ5b : Hid (∀ W', Below w6.heap.size w6 W' → Cel W' q5 81 #[.int .i64 4, errV (ea 5)]) := fun W' h => HQ5.out W' (hb6.trans (h.mono hb6.size))
  have HQ6 : Hid (∀ W', Below w6.heap.size w6 W' → Cel W' q6 81 #[.int .i64 4, errV (ea 4)]) := fun W' h => Cel.below hq6 h hq6.lt
  clear hb6 hq6 HO5 HQ5
  go_wp2_with fail
  refine (parse_yes (HK.out _ hbw6) ea (HE.out _ hbw6) _ (by decide) read_3.1 (by rw [read_3.2]; exact chk_3)).mono ?_
  rintro e w7 ⟨v7, rfl, ho7, hb7⟩
  rw [read_3.2] at ho7
  obtain ⟨ad7, cap7, hv7⟩ := owns_slice ho7
  obtain rfl : v7 = .slice ad7 1 cap7 := hv7
  have hbw7 := hbw6.trans (hb7.mono hbw6.size)
  have HO7 : Hid (NdOwn w7 w3.heap.size (.slice ad4 3 cap4) firstN) := HO6.out.below hb7
  have HQ5c : Hid (∀ W', Below w7.heap.size w7 W' → Cel W' q5 81 #[.int .i64 4, errV (ea 5)]) := fun W' h => HQ5b.out W' (hb7.trans (h.mono hb7.size))
  have HQ6c : Hid (∀ W', Below w7.heap.size w7 W' → Cel W' q6 81 #[.int .i64 4, errV (ea 4)]) := fun W' h => HQ6.out W' (hb7.trans (h.mono hb7.size))
  clear hb7 ho7 HO6 HQ5b HQ6
  go_wp2_with fail
  have hpr := print_any (.slice ad4 3 cap4) firstN w7 ea (HE.out _ hbw7) (HK.out _ hbw7) (HP.out _ hbw7) HO7.out.at (by decide) (by
    intro x hx
    simp only [firstN, newN, List.flatten_cons, List.flatten_nil, List.append_nil, List.mem_cons, List.mem_append, List.not_mem_nil, or_false] at hx
    rcases hx with rfl | rfl | rfl
    · exact ⟨ok_small _ (by decide) (by decide), by decide⟩
    · exact ⟨ok_small _ (by decide) (by decide), by decide⟩
    · exact ⟨ok_small _ (by decide) (by decide), by decide⟩) (by decide)
  rw [print_1] at hpr
  refine Calls.mono hpr ?_
  rintro e w8 ⟨rfl, hb8⟩
  have hbw8 := hbw7.trans (hb8.mono hbw7.size)
  have HQ5d : Hid (∀ W', Below w8.heap.size w8 W' → Cel W' q5 81 #[.int .i64 4, errV (ea 5)]) := fun W' h => HQ5c.out W' (hb8.trans (h.mono hb8.size))
  have HQ6d : Hid (∀ W', Below w8.heap.size w8 W' → Cel W' q6 81 #[.int .i64 4, errV (ea 4)]) := fun W' h => HQ6c.out W' (hb8.trans (h.mono hb8.size))
  clear hpr hb8 HQ5c HQ6c HO7
  go_wp2_with fail
  have hqu := quote_any ⟨#[97, 34, 10]⟩ (by decide) w8
  rw [show quoteL (⟨#[97, 34, 10]⟩ : ByteArray).data.toList = [34, 97, 92, 50, 50, 92, 48, 97, 34] from quote_1] at hqu
  refine Calls.mono hqu ?_
  rintro e w9 ⟨rfl, hb9⟩
  have hbw9 := hbw8.trans (hb9.mono hbw8.size)
  have HQ5e : Hid (∀ W', Below w9.heap.size w9 W' → Cel W' q5 81 #[.int .i64 4, errV (ea 5)]) := fun W' h => HQ5d.out W' (hb9.trans (h.mono hb9.size))
  have HQ6e : Hid (∀ W', Below w9.heap.size w9 W' → Cel W' q6 81 #[.int .i64 4, errV (ea 4)]) := fun W' h => HQ6d.out W' (hb9.trans (h.mono hb9.size))
  clear hqu hb9 HQ5d HQ6d
  go_wp2_with fail
  refine (placed_any 108 4 (by decide) _).mono ?_
  rintro e w10 ⟨f10, rfl, hf10, _, hb10⟩
  have hbw10 := hbw9.trans (hb10.mono hbw9.size)
  have HS10 : Hid (Calls Tryz.prog 21 #[.iface 79 (.pointer (some ⟨q5, 0, none⟩)), .agg #[.int .i64 108, .slice (some ⟨f10, 0, none⟩) 1 1]] w10 fun e w' => e = .returned (.bool true) ∧ Below w10.heap.size w10 w') := same_any w10 ea (HE.out _ hbw10) 7 (by decide) (ea 5) (by rw [ord_7]) q5 4 (HQ5e.out _ hb10) f10 hf10 108 (by decide)
  have HQ6f : Hid (∀ W', Below w10.heap.size w10 W' → Cel W' q6 81 #[.int .i64 4, errV (ea 4)]) := fun W' h => HQ6e.out W' (hb10.trans (h.mono hb10.size))
  clear hb10 hf10 HQ5e HQ6e
  go_wp2_with fail
  refine Calls.mono HS10.out ?_
  rintro e w11 ⟨rfl, hb11⟩
  have hbw11 := hbw10.trans (hb11.mono hbw10.size)
  have HQ6g : Hid (∀ W', Below w11.heap.size w11 W' → Cel W' q6 81 #[.int .i64 4, errV (ea 4)]) := fun W' h => HQ6f.out W' (hb11.trans (h.mono hb11.size))
  clear hb11 HS10 HQ6f
  go_wp2_with fail
  refine (placed_any 109 4 (by decide) _).mono ?_
  rintro e w12 ⟨f12, rfl, hf12, _, hb12⟩
  have hbw12 := hbw11.trans (hb12.mono hbw11.size)
  have HS12 : Hid (Calls Tryz.prog 21 #[.iface 79 (.pointer (some ⟨q6, 0, none⟩)), .agg #[.int .i64 109, .slice (some ⟨f12, 0, none⟩) 1 1]] w12 fun e w' => e = .returned (.bool true) ∧ Below w12.heap.size w12 w') := same_any w12 ea (HE.out _ hbw12) 8 (by decide) (ea 4) (by rw [ord_8]) q6 4 (HQ6g.out _ hb12) f12 hf12 109 (by decide)
  clear hb12 hf12 HQ6g
  go_wp2_with fail
  refine Calls.mono HS12.out ?_
  rintro e w13 ⟨rfl, hb13⟩
  have hbw13 := hbw12.trans (hb13.mono hbw12.size)
  clear HS12 hb13
  go_wp2_with fail
  go_ret
  exact ⟨rfl, hbw13⟩
end Go.Proofs.YtaildeglikhkaaaGreatDoor
/-! The law SpellBack. -/
namespace Go.Proofs.YtaildeglikhkaaaGreatDoor
open Go.RowKit
attribute [local go_sem] Oper.semAt_some
theorem readOk_of (s : ByteArray) (l : List Nd) (h : readG s = (true, s.size, l)) : readOk s = true ∧ readN s = l := by
  unfold readOk readN
  rw [h]
  simp
theorem readG_of (s : ByteArray) (h : readOk s = true) : readG s = (true, s.size, readN s) := by
  unfold readOk at h
  unfold readN
  cases hr : readG s with
  | mk a b =>
    obtain ⟨b, c⟩ := b
    rw [hr] at h
    simp only [Bool.and_eq_true, beq_iff_eq] at h
    rw [h.1, h.2]
theorem sumS_mem (X : List Nd) (x : Nd) (h : x ∈ X) : x.s.length ≤ sumS X := by
  induction X with
  | nil => cases h
  | cons y X ih =>
    rw [sumS]
    rcases List.mem_cons.1 h with rfl | h
    · omega
    · have := ih h; omega
theorem light_parts (X : List Nd) (h : lightL X = true) : X.length ≤ 200 ∧ sumS X ≤ 9000 := by
  unfold lightL at h
  simp only [Bool.and_eq_true, decide_eq_true_eq] at h
  refine ⟨h.1, ?_⟩
  have := h.2
  rwa [List.take_of_length_le (by omega)] at this
theorem may_len (x : Nd) (a : Ak) (i : Nat) (h : mayB x a i = true) : x.s.length ≤ 2000 := by
  unfold mayB at h
  simp only [Bool.and_eq_true] at h
  obtain ⟨⟨⟨⟨_, _⟩, h3⟩, _⟩, _⟩ := h
  have hname : ∀ l : Txt, nameB l = true → l.length ≤ 2000 := by
    intro l hl
    cases l with
    | nil => simp
    | cons b l =>
      unfold nameB at hl
      simp only [Bool.and_eq_true, decide_eq_true_eq] at hl
      have := hl.1.1
      omega
  unfold strB at h3
  split at h3
  · simp only [Bool.and_eq_true, decide_eq_true_eq] at h3
    exact h3.1
  · split at h3
    · simp only [Bool.or_eq_true, beq_iff_eq] at h3
      rcases h3 with h3 | h3
      · rw [h3]; decide
      · exact hname _ h3
    · split at h3
      · exact hname _ h3
      · have : x.s = [] := by simpa using h3
        rw [this]; simp
theorem len_go (l : List Nd) : ∀ (f i : Nat) (A : List Ak), goC l f i A = .fine → i + f = l.length → A.length = l.length → ∀ (j : Nat) (x : Nd), i ≤ j → l[j]? = some x → x.s.length ≤ 2000
  | 0, i, A, _, hi, _, j, x, hj, hx => by
    have := (List.getElem?_eq_some_iff.1 hx).1
    omega
  | f + 1, i, A, h, hi, hA, j, x, hj, hx => by
    have h1 : i < l.length := by omega
    have h2 : i < A.length := by omega
    obtain ⟨g1, _, _, g4⟩ := goC_parts l f i A l[i] A[i] (List.getElem?_eq_getElem h1) (List.getElem?_eq_getElem h2) h
    by_cases e : i = j
    · subst e
      rw [List.getElem?_eq_getElem h1] at hx
      have : l[i] = x := by simpa using hx
      rw [← this]
      exact may_len _ _ _ g1
    · exact len_go l f (i + 1) _ g4 (by omega) (by rw [(askG_low l _ _ _ _ _ _ A).1, hA]) j x (by omega) hx
theorem len_fine (l : List Nd) (h : checkL l = .fine) : ∀ x ∈ l, x.s.length ≤ 2000 := by
  intro x hx
  obtain ⟨j, hj⟩ := List.mem_iff_getElem?.1 hx
  unfold checkL at h
  split at h
  · cases h
  · rename_i hl
    exact len_go l l.length 0 _ h (by omega) (aks_len _ (by omega)) j x (Nat.zero_le _) hj
theorem flat_len (d : Nat) : ∀ Ys : List (List Nd), (∀ Y ∈ Ys, Seg d Y) → Ys.length ≤ Ys.flatten.length
  | [], _ => by simp
  | Y :: Ys, h => by
    obtain ⟨_, _, _, h1⟩ := (h Y (by simp)).head
    have h2 := flat_len d Ys (fun Z hZ => h Z (by simp [hZ]))
    simp only [List.length_cons, List.flatten_cons, List.length_append]
    omega
theorem seg_k {d : Nat} {Y : List Nd} (h : Seg d Y) : ∀ x ∈ Y, x.k ≤ Y.length := by
  induction h with
  | mk d kind n s Ys hs ih =>
    intro x hx
    have hlen : (newN kind n s Ys).length = Ys.flatten.length + 1 := by simp [newN]
    rw [hlen]
    unfold newN at hx
    rcases List.mem_cons.1 hx with rfl | hx
    · have := flat_len d Ys hs
      simp only
      omega
    · obtain ⟨Y, hY, hxY⟩ := List.mem_flatten.1 hx
      have h1 := ih Y hY x hxY
      have h2 := (List.sublist_flatten_of_mem hY).length_le
      omega
theorem word_text (X : List Nd) (h : isWordL X = true) : ∃ t, printL X = 40 :: t := by
  have hd' := (fineB_iff _).1 h
  obtain ⟨g1, _, _⟩ := word_seg X hd'
  obtain ⟨t, ht⟩ := text_head 29 X g1
  refine ⟨t, ?_⟩
  unfold printL
  rw [h, Bool.or_true, if_pos rfl, show beginL = bgB from funext begin_bg, print_seg bgB 29 X g1, ht]
theorem bad_some {W : World} {ea : Nat → Addr} {s : ByteArray} {u : Value} (h : BadIs W ea s u) (hr : ¬ (readOk s = true ∧ checkL (readN s) = .fine)) : ∃ t p, u = .iface t p := by
  unfold BadIs at h
  cases ho : readOk s with
  | true =>
    rw [ho, if_pos rfl] at h
    exact err_some h (fun e => hr ⟨ho, e⟩)
  | false =>
    rw [ho, if_neg (by decide)] at h
    obtain ⟨q, rfl, _⟩ := h
    exact ⟨_, _, rfl⟩
set_option maxRecDepth 100000 in
set_option maxHeartbeats 2000000 in
theorem back_any (v : Value) (X : List Nd) (s : ByteArray) (W : World) (ea : Nat → Addr) (hE : Ers W ea) (hK : KnAt W) (hP : ∀ w', Below W.heap.size W w' → Pow w') (hN : NdAt W v X) (hl : X.length ≤ 140737488351232) (hok : ∀ x ∈ X, x.s.length ≤ 140737488351232 ∧ x.k ≤ 9223372036854775807) (hsl : s.size < 4611686018427387904) :
    Calls Tryz.prog 4 #[v, .string s] W fun e w' => e = .returned (.bool true) ∧ Below W.heap.size W w' := by
  have HE : Hid (∀ W', Below W.heap.size W W' → Ers W' ea) := fun W' hb => hE.below hb
  have HK : Hid (∀ W', Below W.heap.size W W' → KnAt W') := fun W' hb => KnAt.below hK hb
  have HP : Hid (∀ W', Below W.heap.size W W' → ∀ w', Below W'.heap.size W' w' → Pow w') := fun W' hb w' hb' => hP w' (hb.trans (hb'.mono hb.size))
  have HN : Hid (∀ W', Below W.heap.size W W' → NdAt W' v X) := fun W' hb => hN.below hb (Nat.le_refl _)
  have HF : Hid _ := first_any W ea hE hK hP
  obtain ⟨ad, cap, rfl⟩ := hN.form
  have HL : Hid (∀ W', Below W.heap.size W W' → Calls Tryz.prog 7 #[.slice ad X.length cap] W' fun e w' => e = .returned (.bool (lightL X)) ∧ w' = W') := fun W' hb => light_any _ X W' (HN.out W' hb) (fun x hx => (hok x hx).1) hl
  clear hE hK hP hN
  go_enter Tryz.func4, Tryz.ntmps4
  go_wp2_with fail
  refine Calls.mono HF.out ?_
  rintro e w1 ⟨rfl, hb1⟩
  clear HF
  have HL1 : Hid (Calls Tryz.prog 7 #[.slice ad X.length cap] w1 fun e w' => e = .returned (.bool (lightL X)) ∧ w' = w1) := HL.out _ hb1
  clear HL
  cases hlt : lightL X with
  | false =>
    rw [hlt] at HL1
    go_wp2_with fail
    refine Calls.mono HL1.out ?_
    rintro e w2 ⟨rfl, hw⟩
    have hw' := hw.symm
    subst hw'
    clear hw
    go_wp2_with fail
    go_ret
    exact ⟨rfl, hb1⟩
  | true =>
    rw [hlt] at HL1
    obtain ⟨hx1, hx2⟩ := light_parts X hlt
    have hxs := sumS_mem X
    go_wp2_with fail
    refine Calls.mono HL1.out ?_
    rintro e w2 ⟨rfl, hw⟩
    have hw' := hw.symm
    subst hw'
    clear hw HL1
    by_cases hs4 : 4000 < s.size
    · go_wp2_with fail
      go_ret
      exact ⟨rfl, hb1⟩
    · have HPA : Hid (∀ W', Below W.heap.size W W' → Calls Tryz.prog 15 #[.slice ad X.length cap] W' fun e w' => e = .returned (str (printL X)) ∧ Below W'.heap.size W' w') := fun W' hb =>
        print_any _ X W' ea (HE.out W' hb) (HK.out W' hb) (HP.out W' hb) (HN.out W' hb) (by omega) (fun x hx => ⟨⟨by have := hxs x hx; omega, (hok x hx).2⟩, by have := hxs x hx; omega⟩) (by omega)
      have HCK : Hid (Calls Tryz.prog 17 #[.slice ad X.length cap] w1 fun e w' => ∃ u, e = .returned u ∧ ErrIs w' ea u (checkL X) ∧ Below w1.heap.size w1 w') := check_any _ X w1 ea (HE.out w1 hb1) (HN.out w1 hb1) (by omega) (fun x hx => ⟨by have := hxs x hx; omega, (hok x hx).2⟩)
      go_wp2_with fail
      refine Calls.mono HCK.out ?_
      rintro e w2 ⟨u, rfl, hu, hb2⟩
      have hbw2 := hb1.trans (hb2.mono hb1.size)
      clear HCK hb2
      by_cases hf : checkL X = .fine
      · rw [hf] at hu
        obtain rfl : u = .nilIface := hu
        have hpl := print_len X hf
        have hpL : printL X = printG beginL X 0 [] := by unfold printL; rw [(fineB_iff _).2 hf, Bool.true_or, if_pos rfl]
        have hrd := readOk_of ⟨(printL X).toArray⟩ X (by have := printL_read X hf; simpa [ByteArray.size] using this)
        rw [← hpL] at hpl
        have HY : Hid (∀ W', Below W.heap.size W W' → Calls Tryz.prog 18 #[str (printL X)] W' fun e w' => ∃ v', e = .returned (.tuple #[v', .nilIface]) ∧ w'.ownsRow W'.heap.size 50 5 v' X.length (ndCs X) ∧ Below W'.heap.size W' w') := fun W' hb => by
          have := parse_yes (HK.out _ hb) ea (HE.out _ hb) ⟨(printL X).toArray⟩ (by simp only [ByteArray.size, List.size_toArray]; omega) hrd.1 (by rw [hrd.2]; exact hf)
          rw [hrd.2] at this
          exact this
        clear hrd hpL
        go_wp2_with fail
        refine Calls.mono (HPA.out _ hbw2) ?_
        rintro e w3 ⟨rfl, hb3⟩
        have hbw3 := hbw2.trans (hb3.mono hbw2.size)
        clear hb3
        go_wp2_with fail
        refine Calls.mono (HY.out _ hbw3) ?_
        rintro e w4 ⟨v4, rfl, ho4, hb4⟩
        have hbw4 := hbw3.trans (hb4.mono hbw3.size)
        have hn4 : NdAt w4 v4 X := NdAt.owned ho4
        have HS4 : Hid (Calls Tryz.prog 19 #[v4, .slice ad X.length cap] w4 fun e w' => e = .returned (.bool true) ∧ Below w4.heap.size w4 w') := by
          have := sameNodes_any v4 (.slice ad X.length cap) X X w4 hn4 (HN.out _ hbw4) (by omega)
          rw [sameNs_true rfl] at this
          exact this
        obtain ⟨ad4, cap4, rfl⟩ := hn4.form
        clear ho4 hn4 hb4 HY
        go_wp2_with fail
        refine Calls.mono HS4.out ?_
        rintro e wt ⟨rfl, hb5⟩
        have hbt := hbw4.trans (hb5.mono hbw4.size)
        clear HS4 hb5
        go_wp2_with fail
        by_cases hr : readOk s = true ∧ checkL (readN s) = .fine
        · have hlen := (seg_of_fine _ hr.2).2.2
          have hl2 := len_fine _ hr.2
          have hk2 := seg_k (seg_of_fine _ hr.2).1
          have hok2 : ∀ x ∈ readN s, NdOk x ∧ x.s.length < 8796093022208 := fun x hx => ⟨⟨by have := hl2 x hx; omega, by have := hk2 x hx; omega⟩, by have := hl2 x hx; omega⟩
          have hsum : sumS (readN s) ≤ 8796093022208 := by have := sumS_le 2000 _ hl2; omega
          have hpr : printL (readN s) = s.data.toList := read_printL s _ (readG_of s hr.1) hr.2
          refine (parse_yes (HK.out _ hbt) ea (HE.out _ hbt) s (by omega) hr.1 hr.2).mono ?_
          rintro e wa ⟨va, rfl, hoa, hba⟩
          have hbwa := hbt.trans (hba.mono hbt.size)
          have hna : NdAt wa va (readN s) := NdAt.owned hoa
          obtain ⟨ada, capa, rfl⟩ := hna.form
          have HPa : Hid (Calls Tryz.prog 15 #[.slice ada (readN s).length capa] wa fun e w' => e = .returned (.string s) ∧ Below wa.heap.size wa w') := by
            have := print_any _ (readN s) wa ea (HE.out _ hbwa) (HK.out _ hbwa) (HP.out _ hbwa) hna (by omega) hok2 hsum
            rw [hpr] at this
            exact this
          have HCa : Hid (∀ W', Below wa.heap.size wa W' → Calls Tryz.prog 17 #[.slice ada (readN s).length capa] W' fun e w' => e = .returned .nilIface ∧ Below W'.heap.size W' w') := fun W' hb => (check_any _ _ W' ea (HE.out _ (hbwa.trans (hb.mono hbwa.size))) (hna.below hb (Nat.le_refl _)) (by omega) (fun x hx => (hok2 x hx).1)).mono (by
            rintro e w' ⟨u, rfl, hu, hb⟩
            rw [hr.2] at hu
            obtain rfl : u = .nilIface := hu
            exact ⟨rfl, hb⟩)
          clear hoa hba hna
          go_wp2_with fail
          refine Calls.mono HPa.out ?_
          rintro e wb ⟨rfl, hbb⟩
          have HCb := HCa.out _ hbb
          have hbwb := hbwa.trans (hbb.mono hbwa.size)
          clear HPa HCa hbb
          go_wp2_with fail
          refine Calls.mono HCb ?_
          rintro e wc ⟨rfl, hbc⟩
          go_wp2_with fail
          go_ret
          exact ⟨rfl, hbwb.trans (hbc.mono hbwb.size)⟩
        · refine (parse_no (HK.out _ hbt) ea (HE.out _ hbt) s (by omega) hr).mono ?_
          rintro e wa ⟨ua, rfl, hua, hba⟩
          obtain ⟨ta, pa, rfl⟩ := bad_some hua hr
          have hbwa := hbt.trans (hba.mono hbt.size)
          clear hua hba
          go_wp2_with fail
          go_ret
          exact ⟨rfl, hbwa⟩
      · obtain ⟨tu, pu, rfl⟩ := err_some hu hf
        clear hu
        cases hd : isWordL X with
        | false =>
          have hpL : printL X = [] := by
            unfold printL
            rw [hd, Bool.or_false, if_neg]
            intro e
            exact hf ((fineB_iff _).1 e)
          rw [hpL] at HPA
          go_wp2_with fail
          refine Calls.mono (HPA.out _ hbw2) ?_
          rintro e wt ⟨rfl, hb3⟩
          have hbt := hbw2.trans (hb3.mono hbw2.size)
          clear hb3
          go_wp2_with fail
          by_cases hr : readOk s = true ∧ checkL (readN s) = .fine
          · have hlen := (seg_of_fine _ hr.2).2.2
            have hl2 := len_fine _ hr.2
            have hk2 := seg_k (seg_of_fine _ hr.2).1
            have hok2 : ∀ x ∈ readN s, NdOk x ∧ x.s.length < 8796093022208 := fun x hx => ⟨⟨by have := hl2 x hx; omega, by have := hk2 x hx; omega⟩, by have := hl2 x hx; omega⟩
            have hsum : sumS (readN s) ≤ 8796093022208 := by have := sumS_le 2000 _ hl2; omega
            have hpr : printL (readN s) = s.data.toList := read_printL s _ (readG_of s hr.1) hr.2
            refine (parse_yes (HK.out _ hbt) ea (HE.out _ hbt) s (by omega) hr.1 hr.2).mono ?_
            rintro e wa ⟨va, rfl, hoa, hba⟩
            have hbwa := hbt.trans (hba.mono hbt.size)
            have hna : NdAt wa va (readN s) := NdAt.owned hoa
            obtain ⟨ada, capa, rfl⟩ := hna.form
            have HPa : Hid (Calls Tryz.prog 15 #[.slice ada (readN s).length capa] wa fun e w' => e = .returned (.string s) ∧ Below wa.heap.size wa w') := by
              have := print_any _ (readN s) wa ea (HE.out _ hbwa) (HK.out _ hbwa) (HP.out _ hbwa) hna (by omega) hok2 hsum
              rw [hpr] at this
              exact this
            have HCa : Hid (∀ W', Below wa.heap.size wa W' → Calls Tryz.prog 17 #[.slice ada (readN s).length capa] W' fun e w' => e = .returned .nilIface ∧ Below W'.heap.size W' w') := fun W' hb => (check_any _ _ W' ea (HE.out _ (hbwa.trans (hb.mono hbwa.size))) (hna.below hb (Nat.le_refl _)) (by omega) (fun x hx => (hok2 x hx).1)).mono (by
              rintro e w' ⟨u, rfl, hu, hb⟩
              rw [hr.2] at hu
              obtain rfl : u = .nilIface := hu
              exact ⟨rfl, hb⟩)
            clear hoa hba hna
            go_wp2_with fail
            refine Calls.mono HPa.out ?_
            rintro e wb ⟨rfl, hbb⟩
            have HCb := HCa.out _ hbb
            have hbwb := hbwa.trans (hbb.mono hbwa.size)
            clear HPa HCa hbb
            go_wp2_with fail
            refine Calls.mono HCb ?_
            rintro e wc ⟨rfl, hbc⟩
            go_wp2_with fail
            go_ret
            exact ⟨rfl, hbwb.trans (hbc.mono hbwb.size)⟩
          · refine (parse_no (HK.out _ hbt) ea (HE.out _ hbt) s (by omega) hr).mono ?_
            rintro e wa ⟨ua, rfl, hua, hba⟩
            obtain ⟨ta, pa, rfl⟩ := bad_some hua hr
            have hbwa := hbt.trans (hba.mono hbt.size)
            clear hua hba
            go_wp2_with fail
            go_ret
            exact ⟨rfl, hbwa⟩
        | true =>
          obtain ⟨tl, htl⟩ := word_text X hd
          rw [htl] at HPA
          go_wp2_with fail
          refine Calls.mono (HPA.out _ hbw2) ?_
          rintro e w3 ⟨rfl, hb3⟩
          have hbw3 := hbw2.trans (hb3.mono hbw2.size)
          clear hb3
          go_wp2_with fail
          have hb4 : Below w3.heap.size w3 (w3.alloc (.cells #[.slice ad X.length cap] 22)) := (Below.refl _ w3).alloc (Nat.le_refl _) _
          have hbw4 := hbw3.trans (hb4.mono hbw3.size)
          have HKD : Hid (KdAt (w3.alloc (.cells #[.slice ad X.length cap] 22)) (.slice (some ⟨w3.heap.size, 0, none⟩) 1 1) [(.slice ad X.length cap, X)]) :=
            KdAt.of_cells (t := 22) rfl (Cel.new w3 22 _) (fun p hp => by rw [List.mem_singleton.1 hp]; exact HN.out _ hbw4) (Nat.le_refl _)
          have hkl : kidL [(.slice ad X.length cap, X)] = X := by simp [kidL]
          refine (new_own 22 0 [120] _ [(.slice ad X.length cap, X)] _ HKD.out (by simp) (by rw [hkl]; omega)).mono ?_
          rintro e w5 ⟨v5, rfl, ho5, hb5⟩
          have hbw5 := hbw4.trans (hb5.mono hbw4.size)
          have hd' := (fineB_iff _).1 hd
          have HC5 : Hid (Calls Tryz.prog 17 #[v5] w5 fun e w' => e = .returned .nilIface ∧ Below w5.heap.size w5 w') := (check_any v5 _ w5 ea (HE.out _ hbw5) ho5.at (by simp [newN]; omega) (fun x hx => by
            simp only [List.map_cons, List.map_nil, newN, List.flatten_cons, List.flatten_nil, List.append_nil, List.mem_cons] at hx
            rcases hx with rfl | hx
            · exact ⟨by simp, by simp⟩
            · exact ⟨by have := hxs x hx; omega, (hok x hx).2⟩)).mono (by
            rintro e w' ⟨u, rfl, hu, hb⟩
            rw [show checkL (newN 22 0 [120] ([(Value.slice ad X.length cap, X)].map Prod.snd)) = .fine from hd'] at hu
            obtain rfl : u = .nilIface := hu
            exact ⟨rfl, hb⟩)
          obtain ⟨ad5, cap5, rfl⟩ := ho5.at.form
          clear ho5 hb5 hb4 HKD hkl
          go_wp2_with fail
          refine Calls.mono HC5.out ?_
          rintro e wt ⟨rfl, hb6⟩
          have hbt := hbw5.trans (hb6.mono hbw5.size)
          clear HC5 hb6
          go_wp2_with fail
          by_cases hr : readOk s = true ∧ checkL (readN s) = .fine
          · have hlen := (seg_of_fine _ hr.2).2.2
            have hl2 := len_fine _ hr.2
            have hk2 := seg_k (seg_of_fine _ hr.2).1
            have hok2 : ∀ x ∈ readN s, NdOk x ∧ x.s.length < 8796093022208 := fun x hx => ⟨⟨by have := hl2 x hx; omega, by have := hk2 x hx; omega⟩, by have := hl2 x hx; omega⟩
            have hsum : sumS (readN s) ≤ 8796093022208 := by have := sumS_le 2000 _ hl2; omega
            have hpr : printL (readN s) = s.data.toList := read_printL s _ (readG_of s hr.1) hr.2
            refine (parse_yes (HK.out _ hbt) ea (HE.out _ hbt) s (by omega) hr.1 hr.2).mono ?_
            rintro e wa ⟨va, rfl, hoa, hba⟩
            have hbwa := hbt.trans (hba.mono hbt.size)
            have hna : NdAt wa va (readN s) := NdAt.owned hoa
            obtain ⟨ada, capa, rfl⟩ := hna.form
            have HPa : Hid (Calls Tryz.prog 15 #[.slice ada (readN s).length capa] wa fun e w' => e = .returned (.string s) ∧ Below wa.heap.size wa w') := by
              have := print_any _ (readN s) wa ea (HE.out _ hbwa) (HK.out _ hbwa) (HP.out _ hbwa) hna (by omega) hok2 hsum
              rw [hpr] at this
              exact this
            have HCa : Hid (∀ W', Below wa.heap.size wa W' → Calls Tryz.prog 17 #[.slice ada (readN s).length capa] W' fun e w' => e = .returned .nilIface ∧ Below W'.heap.size W' w') := fun W' hb => (check_any _ _ W' ea (HE.out _ (hbwa.trans (hb.mono hbwa.size))) (hna.below hb (Nat.le_refl _)) (by omega) (fun x hx => (hok2 x hx).1)).mono (by
              rintro e w' ⟨u, rfl, hu, hb⟩
              rw [hr.2] at hu
              obtain rfl : u = .nilIface := hu
              exact ⟨rfl, hb⟩)
            clear hoa hba hna
            go_wp2_with fail
            refine Calls.mono HPa.out ?_
            rintro e wb ⟨rfl, hbb⟩
            have HCb := HCa.out _ hbb
            have hbwb := hbwa.trans (hbb.mono hbwa.size)
            clear HPa HCa hbb
            go_wp2_with fail
            refine Calls.mono HCb ?_
            rintro e wc ⟨rfl, hbc⟩
            go_wp2_with fail
            go_ret
            exact ⟨rfl, hbwb.trans (hbc.mono hbwb.size)⟩
          · refine (parse_no (HK.out _ hbt) ea (HE.out _ hbt) s (by omega) hr).mono ?_
            rintro e wa ⟨ua, rfl, hua, hba⟩
            obtain ⟨ta, pa, rfl⟩ := bad_some hua hr
            have hbwa := hbt.trans (hba.mono hbt.size)
            clear hua hba
            go_wp2_with fail
            go_ret
            exact ⟨rfl, hbwa⟩
end Go.Proofs.YtaildeglikhkaaaGreatDoor
/-! Where the reader stands when a text begins as a tree's text does. Plain. -/
namespace Go.Proofs.YtaildeglikhkaaaGreatDoor
open Go.Lib (decDigits itoa)

theorem app_split {α : Type} {p t a b : List α} (h : p ++ t = a ++ b) : (∃ u, p ++ u = a ∧ t = u ++ b) ∨ (∃ q, p = a ++ q ∧ q ++ t = b) := by
  rcases List.append_eq_append_iff.1 h with ⟨u, h1, h2⟩ | ⟨q, h1, h2⟩
  · exact .inl ⟨u, h1.symm, h2⟩
  · exact .inr ⟨q, h1, h2.symm⟩
theorem qb_pre (s : ByteArray) (k : Nat) (c : UInt8) (p t r : List UInt8) (hT : p ++ t = quoteB c) (h : s.data.toList.drop k = p ++ r) : k + p.length ≤ (qbR s k).2 := by
  by_cases ht : t = []
  · subst ht
    rw [List.append_nil] at hT
    rw [hT] at h
    rw [(qb_back s k c r h).1, hT]
    exact Nat.le_refl _
  unfold quoteB at hT
  by_cases he : escB ((c.toNat : Nat) : Int) = true
  · rw [if_pos he] at hT
    match p, hT with
    | [], _ => exact qbR_ge s k
    | [a], hT =>
      have ha : a = 92 := by simp at hT; exact hT.1
      subst ha
      have h0 := (drop_get h).1
      unfold qbR
      rw [h0]
      exact escR_ge s (k + 1)
    | [a, b], hT =>
      have ha : a = 92 ∧ b = hexC (c.toNat / 16) := by simp at hT; exact ⟨hT.1, hT.2.1⟩
      obtain ⟨rfl, rfl⟩ := ha
      obtain ⟨h0, h1⟩ := drop_get h
      obtain ⟨h2, _⟩ := drop_get h1
      have hlt := c.toNat_lt
      have hx : hexAt s (k + 1) = some (c.toNat / 16) := by
        unfold hexAt
        rw [h2]
        exact hex_back ⟨c.toNat / 16, by omega⟩
      have hb := beg_back ⟨c.toNat, by omega⟩ he
      have hb' : begE (c.toNat / 16) = true := hb
      unfold qbR
      rw [h0]
      simp only
      rw [if_pos trivial]
      unfold escR
      rw [hx]
      simp only
      rw [if_pos hb']
      cases hexAt s (k + 1 + 1) with
      | none => simp
      | some v =>
        simp only
        split <;> simp <;> omega
    | a :: b :: d :: q, hT =>
      exfalso
      simp at hT
      exact ht hT.2.2.2.2
  · rw [if_neg he] at hT
    match p, hT with
    | [], _ => exact qbR_ge s k
    | a :: q, hT =>
      exfalso
      simp at hT
      exact ht hT.2.2
theorem quoteB_head (c : UInt8) : (quoteB c).head? ≠ some 34 ∧ quoteB c ≠ [] := by
  unfold quoteB
  by_cases he : escB ((c.toNat : Nat) : Int) = true
  · rw [if_pos he]; simp
  · rw [if_neg he]
    refine ⟨fun e => he ?_, by simp⟩
    have : c = 34 := by simpa using e
    rw [this]; rfl
theorem quG_pre (s : ByteArray) (r : List UInt8) : ∀ (l : List UInt8) (f k : Nat) (a p t : List UInt8), p ++ t = bodyQ l ++ [34] → s.data.toList.drop k = p ++ r → p.length < f → k + p.length ≤ (quG s f k a).2
  | _, 0, _, _, _, _, _, _, hf => by omega
  | [], f + 1, k, a, p, t, hT, h, _ => by
    match p, hT with
    | [], _ => exact quG_ge s _ _ _
    | b :: q, hT =>
      have hb : b = 34 ∧ q = [] := by simp [bodyQ] at hT; exact ⟨hT.1, hT.2.1⟩
      obtain ⟨rfl, rfl⟩ := hb
      have h0 := (drop_get h).1
      unfold quG
      rw [if_pos h0]
      simp
  | c :: l, f + 1, k, a, p, t, hT, h, hf => by
    have hb : bodyQ (c :: l) ++ [34] = quoteB c ++ (bodyQ l ++ [34]) := by simp [bodyQ]
    rw [hb] at hT
    by_cases hp : p = []
    · subst hp; exact quG_ge s _ _ _
    rcases app_split hT with ⟨u, h1, _⟩ | ⟨q, rfl, h2⟩
    · have hq := qb_pre s k c p u r h1 h
      have hne : s.data.toList[k]? ≠ some 34 := by
        cases p with
        | nil => exact absurd rfl hp
        | cons b q =>
          rw [(drop_get h).1]
          intro e
          have hbe : b = 34 := by simpa using e
          apply (quoteB_head c).1
          rw [← h1, hbe]
          rfl
      unfold quG
      rw [if_neg hne]
      cases hv : (qbR s k).1 with
      | none => exact hq
      | some v => exact Nat.le_trans hq (quG_ge s f _ _)
    · rw [List.append_assoc] at h
      obtain ⟨hq, hne⟩ := qb_back s k c (q ++ r) h
      have hlen : 0 < (quoteB c).length := List.length_pos_iff.2 (quoteB_head c).2
      have ih := quG_pre s r l f (k + (quoteB c).length) (a ++ [c.toNat.toUInt8]) q t h2 (drop_app h) (by rw [List.length_append] at hf; omega)
      unfold quG
      rw [if_neg hne, hq]
      simp only
      rw [List.length_append]
      omega
theorem drop_len (s : ByteArray) (k : Nat) (p r : List UInt8) (h : s.data.toList.drop k = p ++ r) : p.length ≤ s.size := by
  have := congrArg List.length h
  rw [List.length_drop, List.length_append, Array.length_toList] at this
  have e : s.data.size = s.size := rfl
  omega
theorem quR_pre (s : ByteArray) (k : Nat) (l p t r : List UInt8) (hT : p ++ t = quoteL l) (h : s.data.toList.drop k = p ++ r) : k + p.length ≤ (quR s k).2 := by
  match p, hT with
  | [], _ => exact quR_ge s k
  | a :: q, hT =>
    have hq : a = 34 ∧ q ++ t = bodyQ l ++ [34] := by
      have : a :: (q ++ t) = 34 :: (bodyQ l ++ [34]) := by rw [← List.cons_append, hT]; simp [quoteL]
      exact ⟨(List.cons.inj this).1, (List.cons.inj this).2⟩
    obtain ⟨rfl, hq⟩ := hq
    obtain ⟨h0, h1⟩ := drop_get h
    have hl := drop_len s k (34 :: q) r h
    have := quG_pre s r l (s.size + 1) (k + 1) [] q t hq h1 (by simp at hl; omega)
    unfold quR
    rw [if_pos h0]
    simp only [List.length_cons]
    omega
end Go.Proofs.YtaildeglikhkaaaGreatDoor
/-! Where the reader stands when a text begins as a node's text does. Plain. -/
namespace Go.Proofs.YtaildeglikhkaaaGreatDoor
open Go.Lib (decDigits itoa)

theorem kdG_max (m : List UInt8) : ∀ (L : List (List UInt8)) (i n q : Nat), kdG m L i n = (none, q) → n ≤ q ∧ ∀ a ∈ L, shareN a m ≤ q
  | [], i, n, q, h => by
    simp [kdG] at h
    exact ⟨by omega, fun a ha => by simp at ha⟩
  | a :: L, i, n, q, h => by
    unfold kdG at h
    split at h
    · simp at h
    · obtain ⟨h1, h2⟩ := kdG_max m L (i + 1) _ q h
      refine ⟨by omega, fun b hb => ?_⟩
      rcases List.mem_cons.1 hb with rfl | hb
      · omega
      · exact h2 b hb
theorem share_pre : ∀ p t r : List UInt8, p.length ≤ shareN (p ++ t) (p ++ r)
  | [], _, _ => Nat.zero_le _
  | a :: p, t, r => by
    have := share_pre p t r
    simp only [List.cons_append, shareN, if_true, List.length_cons]
    omega
theorem share_app2 : ∀ a x : List UInt8, shareN (a ++ x) a = a.length
  | [], x => by cases x <;> simp [shareN]
  | c :: a, x => by
    have := share_app2 a x
    simp only [List.cons_append, shareN, if_true, List.length_cons]
    omega
theorem kd_pre (s : ByteArray) (k j : Nat) (p t r : List UInt8) (hj : j < 38) (hne : kindL.getD j [] ≠ []) (hT : p ++ t = kindL.getD j []) (h : s.data.toList.drop k = p ++ r) : k + p.length ≤ (kdR s k).2 := by
  unfold kdR
  simp only
  rw [h]
  have hL : kindL.length = 38 := by decide
  have hjm : kindL[j]? = some (p ++ t) := by
    rw [hT, List.getD_eq_getElem?_getD]
    cases e : kindL[j]? with
    | none => rw [List.getElem?_eq_none_iff] at e; omega
    | some a => rfl
  rcases hk : kdG (p ++ r) kindL 0 0 with ⟨_ | v, q⟩
  · obtain ⟨_, h2⟩ := kdG_max _ _ _ _ _ hk
    have h3 := h2 (p ++ t) (List.mem_of_getElem? hjm)
    have h4 := share_pre p t r
    simp only
    omega
  · obtain ⟨_, a, ha, ha0, hq, hsh⟩ := kdG_fwd _ _ _ _ _ _ hk
    simp only
    rw [hq]
    rcases Nat.lt_or_ge a.length p.length with hlt | hge
    · exfalso
      have hw := share_whole a (p ++ r) hsh
      rcases app_split (p := a) (t := (p ++ r).drop a.length) (a := p) (b := r) hw.symm with ⟨u, hu, _⟩ | ⟨u, hu, _⟩
      · have ha' : kindL.getD v [] = a := by rw [List.getD_eq_getElem?_getD]; rw [Nat.sub_zero] at ha; rw [ha]; rfl
        have hv : v < 38 := by
          rw [Nat.sub_zero] at ha
          have := (List.getElem?_eq_some_iff.1 ha).1
          omega
        have hname : kindL.getD j [] = a ++ (u ++ t) := by rw [← hT, ← hu, List.append_assoc]
        have hane : a ≠ [] := List.length_pos_iff.1 ha0
        rcases Nat.lt_trichotomy v j with hvj | hvj | hvj
        · rcases kinds_apart ⟨j, hj⟩ ⟨v, hv⟩ hvj hne with e | ⟨e, _⟩
          · exact hane (ha'.symm.trans e)
          · simp only at e
            rw [ha', hname, share_app] at e
            omega
        · rw [hvj, hT.symm] at ha'
          rw [← ha', List.length_append] at hlt
          omega
        · rcases kinds_apart ⟨v, hv⟩ ⟨j, hj⟩ hvj (by simp only; rw [ha']; exact hane) with e | ⟨_, e⟩
          · exact hne e
          · simp only at e
            rw [ha', hname, share_app2] at e
            omega
      · rw [hu, List.length_append] at hlt
        omega
    · omega
theorem run_ge (s : ByteArray) (r : List UInt8) : ∀ (l : List UInt8) (q f : Nat), l.length ≤ f → allDigit l = true → s.data.toList.drop q = l ++ r → l.length ≤ runN s q f
  | [], _, _, _, _, _ => Nat.zero_le _
  | c :: l, q, f + 1, hf, hd, h => by
    obtain ⟨h0, h1⟩ := drop_get (show s.data.toList.drop q = c :: (l ++ r) from h)
    have hc : digit8 c = true ∧ allDigit l = true := by simpa [allDigit] using hd
    have := run_ge s r l (q + 1) f (by simpa using hf) hc.2 h1
    rw [runN, inB_at s q 48 57 c h0, digit8_in c hc.1, if_pos rfl]
    simp only [List.length_cons]
    omega
theorem run_end (s : ByteArray) (r : List UInt8) : ∀ (l : List UInt8) (q f : Nat), l.length ≤ f → allDigit l = true → s.data.toList.drop q = l ++ r → inB s (q + l.length) 48 57 = false → runN s q f = l.length
  | [], q, 0, _, _, _, _ => rfl
  | [], q, f + 1, _, _, _, he => by
    rw [List.length_nil, Nat.add_zero] at he
    rw [runN, he]
    rfl
  | c :: l, q, f + 1, hf, hd, h, he => by
    obtain ⟨h0, h1⟩ := drop_get (show s.data.toList.drop q = c :: (l ++ r) from h)
    have hc : digit8 c = true ∧ allDigit l = true := by simpa [allDigit] using hd
    have := run_end s r l (q + 1) f (by simpa using hf) hc.2 h1 (by rw [← he, List.length_cons]; congr 1; omega)
    rw [runN, inB_at s q 48 57 c h0, digit8_in c hc.1, if_pos rfl, this]
    rfl
/-- The digits of a number that is not 0. -/
theorem digits_of (n : Nat) (hn : 1 ≤ n) (hn2 : n ≤ 999999999) : ∃ c l, itoa (n : Int) = c :: l ∧ digit8 c = true ∧ allDigit l = true ∧ l.length ≤ 8 ∧ c.toNat ≠ 48 := by
  have hi : itoa (n : Int) = decDigits n := by
    unfold itoa
    rw [if_neg (by omega), Int.toNat_natCast]
  obtain ⟨f1, _, f3⟩ := dec_facts n
  have f4 := dec_len n 9 (by omega) (by omega)
  have f5 := dec_head n hn
  cases hd : decDigits n with
  | nil => rw [hd] at f3; simp at f3
  | cons c l =>
    rw [hd] at f1 f4 f5
    have hc : digit8 c = true ∧ allDigit l = true := by simpa [allDigit] using f1
    exact ⟨c, l, by rw [hi, hd], hc.1, hc.2, by simpa using f4, fun e => f5 (by rw [show c = 48 from UInt8.toNat_inj.1 e]; rfl)⟩
theorem first_digit (s : ByteArray) (k : Nat) (c : UInt8) (h : s.data.toList[k]? = some c) (hc : digit8 c = true) (hne : c.toNat ≠ 48) : inB s k 49 57 = true := by
  have hb := of_decide_eq_true (show decide (48 ≤ (c.toNat : Int) ∧ (c.toNat : Int) ≤ 57) = true from hc)
  rw [inB_at s k 49 57 c h, Bool.and_eq_true]
  exact ⟨decide_eq_true (UInt8.le_iff_toNat_le.2 (by show 49 ≤ c.toNat; omega)), decide_eq_true (UInt8.le_iff_toNat_le.2 (by show c.toNat ≤ 57; omega))⟩
theorem nu_pre (s : ByteArray) (k n : Nat) (p t r : List UInt8) (hn : 1 ≤ n) (hn2 : n ≤ 999999999) (hp : p ≠ []) (hT : p ++ t = itoa (n : Int)) (h : s.data.toList.drop k = 32 :: (p ++ r)) : k + 1 + p.length ≤ (nuR s k).2 := by
  obtain ⟨c, l, hi, hc, hl, hl8, hne⟩ := digits_of n hn hn2
  rw [hi] at hT
  match p, hp, hT with
  | a :: q, _, hT =>
    obtain ⟨rfl, hq⟩ := List.cons.inj (show a :: (q ++ t) = c :: l from hT)
    obtain ⟨h0, h1⟩ := drop_get h
    obtain ⟨h2, h3⟩ := drop_get (show s.data.toList.drop (k + 1) = a :: (q ++ r) from h1)
    have hin := first_digit s (k + 1) a h2 hc hne
    have hqd : allDigit q = true ∧ q.length ≤ 8 := by
      rw [← hq] at hl hl8
      rw [List.length_append] at hl8
      refine ⟨?_, by omega⟩
      unfold allDigit at hl ⊢
      rw [List.all_append] at hl
      simp only [Bool.and_eq_true] at hl
      exact hl.1
    have hrun := run_ge s r q (k + 1 + 1) 8 hqd.2 hqd.1 h3
    unfold nuR
    rw [inB_at s k 32 32 32 h0, hin]
    simp only [dgN, List.length_cons]
    show k + 1 + (q.length + 1) ≤ k + 1 + (1 + runN s (k + 1 + 1) 8)
    omega
theorem nu_end (s : ByteArray) (k n : Nat) (r : List UInt8) (hn : 1 ≤ n) (hn2 : n ≤ 999999999) (h : s.data.toList.drop k = 32 :: (itoa (n : Int) ++ r)) (he : inB s (k + 1 + (itoa (n : Int)).length) 48 57 = false) : (nuR s k).2 = k + 1 + (itoa (n : Int)).length := by
  obtain ⟨c, l, hi, hc, hl, hl8, hne⟩ := digits_of n hn hn2
  rw [hi] at h he ⊢
  obtain ⟨h0, h1⟩ := drop_get h
  obtain ⟨h2, h3⟩ := drop_get (show s.data.toList.drop (k + 1) = c :: (l ++ r) from h1)
  have hin := first_digit s (k + 1) c h2 hc hne
  have hrun := run_end s r l (k + 1 + 1) 8 hl8 hl h3 (by rw [← he, List.length_cons]; congr 1; omega)
  unfold nuR
  rw [inB_at s k 32 32 32 h0, hin]
  simp only [dgN, List.length_cons]
  show k + 1 + (1 + runN s (k + 1 + 1) 8) = k + 1 + (l.length + 1)
  omega
end Go.Proofs.YtaildeglikhkaaaGreatDoor
/-! Where the reader stands when a text begins as a tree's text does: at what they share, or behind. Plain. -/
namespace Go.Proofs.YtaildeglikhkaaaGreatDoor
open Go.Lib (decDigits itoa)

/-- The reader of a node stands far enough, or right ahead of a blank. -/
def Far (s : ByteArray) (o : Option Nd × Nat) (e : Nat) : Prop := e ≤ o.2 ∨ (o.1 ≠ none ∧ o.2 + 1 = e ∧ s.data.toList[o.2]? = some 32)
def quT (x : Nd) : List UInt8 := if strK x.kind then [32] ++ quoteL x.s else []
theorem noS_ge (s : ByteArray) (kd n j : Nat) : j ≤ (noS s kd n j).2 := by
  unfold noS
  split
  · split
    · have := quR_ge s (j + 1)
      simp only
      omega
    · exact Nat.le_refl _
  · exact Nat.le_refl _
/-- Behind the number: the quoted text, and a blank. -/
theorem tail_pre (s : ByteArray) (x : Nd) (kd n j : Nat) (hkd : strK (kd : Int) = strK x.kind) (p t r : List UInt8) (hp : p ≠ []) (hT : p ++ t = quT x ++ [32]) (h : s.data.toList.drop j = p ++ r) : Far s (noS s kd n j) (j + p.length) := by
  unfold quT at hT
  unfold noS
  rw [hkd]
  cases hs : strK x.kind with
  | false =>
    rw [hs] at hT
    match p, hp, hT with
    | a :: q, _, hT =>
      have hq : a = 32 ∧ q = [] := by simp at hT; exact ⟨hT.1, hT.2.1⟩
      obtain ⟨rfl, rfl⟩ := hq
      exact .inr ⟨by simp, rfl, (drop_get h).1⟩
  | true =>
    rw [hs] at hT
    match p, hp, hT with
    | a :: q, _, hT =>
      have hq : a = 32 ∧ q ++ t = quoteL x.s ++ [32] := by
        have : a :: (q ++ t) = 32 :: (quoteL x.s ++ [32]) := by rw [← List.cons_append, hT]; simp
        exact ⟨(List.cons.inj this).1, (List.cons.inj this).2⟩
      obtain ⟨rfl, hq⟩ := hq
      obtain ⟨h0, h1⟩ := drop_get h
      simp only [if_true]
      rw [if_pos h0]
      rcases app_split hq with ⟨u, hu, _⟩ | ⟨w, rfl, hw⟩
      · left
        have := quR_pre s (j + 1) x.s q u r hu h1
        simp only [List.length_cons]
        omega
      · match w, hw with
        | [], _ =>
          left
          rw [List.append_nil] at h1 ⊢
          have := quR_pre s (j + 1) x.s (quoteL x.s) [] r (by simp) h1
          simp only [List.length_cons]
          omega
        | b :: w, hw =>
          have hb : b = 32 ∧ w = [] := by simp at hw; exact ⟨hw.1, hw.2.1⟩
          obtain ⟨rfl, rfl⟩ := hb
          have h2 : s.data.toList.drop (j + 1) = quoteL x.s ++ (32 :: r) := by rw [show s.data.toList.drop (j + 1) = (quoteL x.s ++ [32]) ++ r from h1]; simp
          have hqb := quote_back s (j + 1) x.s (32 :: r) h2
          rw [hqb]
          have h3 := (drop_get (drop_app h2)).1
          refine .inr ⟨by simp, ?_, h3⟩
          simp only [List.length_cons, List.length_append, List.length_nil]
          omega
theorem nu_blank (s : ByteArray) (k : Nat) : (nuR s k).2 = k ∨ k + 2 ≤ (nuR s k).2 := by
  unfold nuR
  split
  · right
    simp only [dgN]
    omega
  · exact .inl rfl
theorem no_pre (s : ByteArray) (k : Nat) (x : Nd) (p t r : List UInt8) (hx : Says x) (hT : p ++ t = kindN x.kind ++ (tailB x ++ [32])) (h : s.data.toList.drop k = p ++ r) : Far s (noR s k) (k + p.length) := by
  obtain ⟨hk, hn0, hn1, hs⟩ := hx
  obtain ⟨j, hj, hlt⟩ := kind_range x.kind hk
  obtain ⟨n, hn⟩ : ∃ n : Nat, x.n = n := ⟨x.n.toNat, by omega⟩
  have hkN : kindN x.kind = kindL.getD j [] := by unfold kindN; rw [hk, if_pos rfl, hj, Int.toNat_natCast]
  have hne := kind_named ⟨j, hlt⟩ (by rw [hj] at hk; exact hk)
  rw [hkN] at hT
  rcases app_split hT with ⟨u, hu, _⟩ | ⟨q, rfl, hq⟩
  · left
    have h1 := kd_pre s k j p u r hlt hne hu h
    have h2 : (kdR s k).2 ≤ (noR s k).2 := by
      unfold noR
      cases (kdR s k).1 with
      | none => exact Nat.le_refl _
      | some kd => exact Nat.le_trans (nuR_ge s _) (noS_ge s _ _ _)
    omega
  · rw [List.append_assoc] at h
    have hkd := kind_back s k j _ hlt hne h
    have h1 := drop_app h
    have hno : noR s k = noS s j (nuR s (k + (kindL.getD j []).length)).1 (nuR s (k + (kindL.getD j []).length)).2 := by
      unfold noR
      rw [hkd]
    rw [hno, List.length_append, ← Nat.add_assoc]
    generalize k + (kindL.getD j []).length = k1 at h1 ⊢
    have hst : strK (j : Int) = strK x.kind := by rw [hj]
    have hge : (nuR s k1).2 ≤ (noS s j (nuR s k1).1 (nuR s k1).2).2 := noS_ge s _ _ _
    have hge0 := nuR_ge s k1
    by_cases hq0 : q = []
    · subst hq0
      exact .inl (by simp only [List.length_nil]; omega)
    have hTB : tailB x ++ [32] = (if x.n = 0 then [] else [32] ++ itoa x.n) ++ (quT x ++ [32]) := by unfold tailB quT; rw [List.append_assoc]
    rw [hTB] at hq
    by_cases hz : x.n = 0
    · rw [if_pos hz, List.nil_append] at hq
      rcases nu_blank s k1 with hb | hb
      · rw [hb]
        exact tail_pre s x j _ k1 hst q t r hq0 hq h1
      · -- a number stands here: then only the blank is shared
        match q, hq0, hq with
        | a :: w, _, hq =>
          have hw : w = [] := by
            cases w with
            | nil => rfl
            | cons b w =>
              exfalso
              unfold quT at hq
              have hin : (inB s k1 32 32 && inB s (k1 + 1) 49 57) = true := by
                cases hc : (inB s k1 32 32 && inB s (k1 + 1) 49 57) with
                | true => rfl
                | false =>
                  have : (nuR s k1).2 = k1 := by unfold nuR; rw [hc]; rfl
                  omega
              obtain ⟨h2, h3⟩ := drop_get (show s.data.toList.drop k1 = a :: (b :: w ++ r) from h1)
              have h4 := (drop_get (show s.data.toList.drop (k1 + 1) = b :: (w ++ r) from h3)).1
              rw [Bool.and_eq_true, inB_at s (k1 + 1) 49 57 b h4] at hin
              cases hsx : strK x.kind with
              | false => rw [hsx] at hq; simp at hq
              | true =>
                rw [hsx] at hq
                have hb : b = 34 := by simp [quoteL] at hq; exact hq.2.1
                rw [hb] at hin
                exact absurd hin.2 (by decide)
          subst hw
          exact .inl (by simp only [List.length_cons, List.length_nil]; omega)
    · rw [if_neg hz] at hq
      have hn' : 1 ≤ n := by omega
      rw [hn] at hq hn1
      match q, hq0, hq with
      | a :: w, _, hq =>
        have hw : a = 32 ∧ w ++ t = itoa (n : Int) ++ (quT x ++ [32]) := by
          have : a :: (w ++ t) = 32 :: (itoa (n : Int) ++ (quT x ++ [32])) := by rw [← List.cons_append, hq]; simp
          exact ⟨(List.cons.inj this).1, (List.cons.inj this).2⟩
        obtain ⟨rfl, hw⟩ := hw
        have h1' : s.data.toList.drop k1 = 32 :: (w ++ r) := h1
        by_cases hw0 : w = []
        · subst hw0
          -- only the blank
          rcases nu_blank s k1 with hb | hb
          · rw [hb]
            have h32 := (drop_get h1').1
            unfold noS
            rw [hst]
            cases strK x.kind with
            | false => exact .inr ⟨by simp, rfl, h32⟩
            | true =>
              simp only [if_true]
              rw [if_pos h32]
              left
              have := quR_ge s (k1 + 1)
              simp only [List.length_cons, List.length_nil]
              omega
          · exact .inl (by simp only [List.length_cons, List.length_nil]; omega)
        · rcases app_split hw with ⟨u, hu, _⟩ | ⟨y, rfl, hy⟩
          · left
            have := nu_pre s k1 n w u r hn' (by omega) hw0 hu h1'
            simp only [List.length_cons]
            omega
          · by_cases hy0 : y = []
            · subst hy0
              rw [List.append_nil] at h1' hw0 ⊢
              left
              have := nu_pre s k1 n (itoa (n : Int)) [] r hn' (by omega) hw0 (by simp) h1'
              simp only [List.length_cons]
              omega
            · have h5 : s.data.toList.drop k1 = 32 :: (itoa (n : Int) ++ (y ++ r)) := by rw [h1', List.append_assoc]
              have h6 : s.data.toList.drop (k1 + 1 + (itoa (n : Int)).length) = y ++ r := drop_app (drop_get h5).2
              have hy1 : ∃ z, y = 32 :: z := by
                cases y with
                | nil => exact absurd rfl hy0
                | cons b z =>
                  refine ⟨z, ?_⟩
                  have : b = 32 := by
                    unfold quT at hy
                    cases hsx : strK x.kind with
                    | false => rw [hsx] at hy; simp at hy; exact hy.1
                    | true => rw [hsx] at hy; simp at hy; exact hy.1
                  rw [this]
              obtain ⟨z, rfl⟩ := hy1
              have h7 := (drop_get (show s.data.toList.drop (k1 + 1 + (itoa (n : Int)).length) = 32 :: (z ++ r) from h6)).1
              have he := nu_end s k1 n _ hn' (by omega) h5 (by rw [inB_at s _ 48 57 32 h7]; rfl)
              rw [he]
              have := tail_pre s x j (nuR s k1).1 (k1 + 1 + (itoa (n : Int)).length) hst (32 :: z) t r hy0 hy h6
              have e : k1 + 1 + (itoa (n : Int)).length + (32 :: z).length = k1 + (32 :: (itoa (n : Int) ++ 32 :: z)).length := by
                simp only [List.length_cons, List.length_append]
                omega
              rw [e] at this
              exact this
theorem kids_blank (s : ByteArray) (f d j : Nat) (X : List Nd) (c : Nat) (hf : 0 < f) (h : s.data.toList[j]? = some 32) : j + 1 ≤ (kidsG s f d j X c).2.1 := by
  obtain ⟨g, rfl⟩ : ∃ g, f = g + 1 := ⟨f - 1, by omega⟩
  rw [kidsG, if_neg (by rw [h]; decide), if_pos h]
  have h1 := (read_ge s g).1 d (j + 1) X
  rcases ht : treeG s g d (j + 1) X with ⟨_ | _, i, Y⟩
  · rw [ht] at h1; exact h1
  · rw [ht] at h1
    simp only at h1 ⊢
    exact Nat.le_trans h1 ((read_ge s g).2 d i Y (c + 1))
/-- How far a tree's beginning is read. -/
def TrPre (d : Nat) (Y : List Nd) : Prop := ∀ (s : ByteArray) (f dep k : Nat) (X : List Nd) (p t r : List UInt8), p ++ t = textL bgB d Y → t ≠ [] → s.data.toList.drop k = p ++ r → dep + d ≤ 121 → X.length + Y.length ≤ 3001 → p.length < f →
  k + p.length ≤ (treeG s f dep k X).2.1
theorem kids_pre (d : Nat) (s : ByteArray) (dep : Nat) (r : List UInt8) (hd : dep + d ≤ 121) : ∀ (Ys : List (List Nd)) (f k : Nat) (X : List Nd) (c : Nat) (p t : List UInt8), (∀ Y ∈ Ys, TrBack d Y ∧ TrPre d Y) → p ++ t = kidsT d Ys ++ [41] → t ≠ [] → s.data.toList.drop k = p ++ r → X.length + Ys.flatten.length ≤ 3001 → p.length < f →
    k + p.length ≤ (kidsG s f dep k X c).2.1
  | _, 0, _, _, _, _, _, _, _, _, _, _, hf => by omega
  | [], f + 1, k, X, c, p, t, _, hT, ht, h, _, _ => by
    have hp : p = [] := by
      cases p with
      | nil => rfl
      | cons a q =>
        exfalso
        simp [kidsT] at hT
        exact ht hT.2.2
    subst hp
    exact (read_ge s (f + 1)).2 dep k X c
  | Y :: Ys, f + 1, k, X, c, p, t, hY, hT, ht, h, hX, hf => by
    match p, hT with
    | [], _ => exact (read_ge s (f + 1)).2 dep k X c
    | a :: q, hT =>
      have hq : a = 32 ∧ q ++ t = textL bgB d Y ++ (kidsT d Ys ++ [41]) := by
        have : a :: (q ++ t) = 32 :: (textL bgB d Y ++ (kidsT d Ys ++ [41])) := by rw [← List.cons_append, hT, kidsT_cons]; simp
        exact ⟨(List.cons.inj this).1, (List.cons.inj this).2⟩
      obtain ⟨rfl, hq⟩ := hq
      simp only [List.length_cons] at hf
      simp only [List.flatten_cons, List.length_append] at hX
      obtain ⟨h0, h1⟩ := drop_get (show _ = 32 :: (q ++ r) from h)
      rw [kidsG, if_neg (by rw [h0]; decide), if_pos h0]
      simp only [List.length_cons]
      have key : ∀ u, q ++ u = textL bgB d Y → u ≠ [] → k + (q.length + 1) ≤ (match treeG s f dep (k + 1) X with
          | (false, j, Y) => ((none : Option Nat), j, Y)
          | (true, j, Y) => kidsG s f dep j Y (c + 1)).2.1 := by
        intro u hu hu0
        have h2 := (hY Y (by simp)).2 s f dep (k + 1) X q u r hu hu0 h1 hd (by omega) (by omega)
        rcases hr : treeG s f dep (k + 1) X with ⟨_ | _, i, Z⟩
        · rw [hr] at h2; simp only at h2 ⊢; omega
        · rw [hr] at h2
          have h3 := (read_ge s f).2 dep i Z (c + 1)
          simp only at h2 ⊢
          omega
      rcases app_split hq with ⟨u, hu, hut⟩ | ⟨w, rfl, hw⟩
      · by_cases hu0 : u = []
        · subst hu0
          rw [List.append_nil] at hu
          subst hu
          have ht2 := (hY Y (by simp)).1 s f dep (k + 1) X r h1 hd (by omega) (by omega)
          rw [ht2]
          have h3 := (read_ge s f).2 dep (k + 1 + (textL bgB d Y).length) (X ++ Y) (c + 1)
          simp only
          omega
        · exact key u hu hu0
      · rw [List.append_assoc] at h1
        simp only [List.length_append] at hf ⊢
        have ht2 := (hY Y (by simp)).1 s f dep (k + 1) X _ h1 hd (by omega) (by omega)
        have ih := kids_pre d s dep r hd Ys f (k + 1 + (textL bgB d Y).length) (X ++ Y) (c + 1) w t (fun Z hZ => hY Z (by simp [hZ])) hw ht (drop_app h1) (by simp only [List.length_append]; omega) (by omega)
        rw [ht2]
        simp only
        omega
theorem tree_pre {d : Nat} {Y : List Nd} (h : Seg d Y) : (∀ x ∈ Y, Says x) → TrPre d Y := by
  induction h with
  | mk d kind n t Ys hs ih =>
    intro hx s f dep k X p u r hT hu h hd hX hf
    rw [textL_new bgB d kind n t Ys hs] at hT
    have hlen : (newN kind n t Ys).length = Ys.flatten.length + 1 := by simp [newN]
    rw [hlen] at hX
    have hsub : ∀ Z ∈ Ys, ∀ x ∈ Z, Says x := fun Z hZ x hx' => hx x (by
      simp only [newN, List.mem_cons]
      exact .inr (List.mem_flatten.2 ⟨Z, hZ, hx'⟩))
    have hm : ∀ Z ∈ Ys, TrBack d Z ∧ TrPre d Z := fun Z hZ => ⟨tree_back (hs Z hZ) (hsub Z hZ), ih Z hZ (hsub Z hZ)⟩
    have h0 := hx ⟨kind, n, Ys.length, Ys.flatten.length + 1, t⟩ (by simp [newN])
    obtain ⟨g, rfl⟩ : ∃ g, f = g + 1 := ⟨f - 1, by omega⟩
    match p, hT with
    | [], _ => exact (read_ge s (g + 1)).1 dep k X
    | a :: q, hT =>
      obtain ⟨x, hxe⟩ : ∃ x : Nd, x = ⟨kind, n, Ys.length, Ys.flatten.length + 1, t⟩ := ⟨_, rfl⟩
      rw [← hxe] at h0 hT
      have hxk : x.kind = kind := by rw [hxe]
      have hq : a = 40 ∧ q ++ u = (kindN x.kind ++ tailB x) ++ (kidsT d Ys ++ [41]) := by
        have : a :: (q ++ u) = 40 :: ((kindN x.kind ++ tailB x) ++ (kidsT d Ys ++ [41])) := by rw [← List.cons_append, hT]; simp [bgB, kidsT]
        exact ⟨(List.cons.inj this).1, (List.cons.inj this).2⟩
      obtain ⟨rfl, hq⟩ := hq
      obtain ⟨h1, h2⟩ := drop_get (show _ = 40 :: (q ++ r) from h)
      simp only [List.length_cons] at hf ⊢
      rw [treeG, if_neg (by omega), if_pos h1]
      -- up to the node, and a blank behind it
      have near : ∀ y, q ++ y = kindN x.kind ++ (tailB x ++ [32]) → k + (q.length + 1) ≤ (match (noR s (k + 1)).1 with
          | none => (false, (noR s (k + 1)).2, X)
          | some n => match kidsG s g (dep + 1) (noR s (k + 1)).2 (if X.length ≤ 3000 then X ++ [n] else X) 0 with
            | (none, j, Y) => (false, j, Y)
            | (some c, j, Y) => (true, j, if X.length ≤ 3000 then fixN Y X.length c else Y)).2.1 := by
        intro y hy
        have hfar := no_pre s (k + 1) x q y r h0 hy h2
        rcases hfar with hl | ⟨hn0, he, h32⟩
        · cases hno : (noR s (k + 1)).1 with
          | none => simp only; omega
          | some m =>
            have h3 := (read_ge s g).2 (dep + 1) (noR s (k + 1)).2 (if X.length ≤ 3000 then X ++ [m] else X) 0
            simp only
            rcases hk : kidsG s g (dep + 1) (noR s (k + 1)).2 (if X.length ≤ 3000 then X ++ [m] else X) 0 with ⟨_ | c, i, Z⟩
            · rw [hk] at h3; simp only at h3 ⊢; omega
            · rw [hk] at h3; simp only at h3 ⊢; omega
        · cases hno : (noR s (k + 1)).1 with
          | none => exact absurd hno hn0
          | some m =>
            have h3 := kids_blank s g (dep + 1) (noR s (k + 1)).2 (if X.length ≤ 3000 then X ++ [m] else X) 0 (by omega) h32
            simp only
            rcases hk : kidsG s g (dep + 1) (noR s (k + 1)).2 (if X.length ≤ 3000 then X ++ [m] else X) 0 with ⟨_ | c, i, Z⟩
            · rw [hk] at h3; simp only at h3 ⊢; omega
            · rw [hk] at h3; simp only at h3 ⊢; omega
      rcases app_split hq with ⟨y, hy, _⟩ | ⟨w, rfl, hw⟩
      · exact near (y ++ [32]) (by rw [← List.append_assoc, hy, List.append_assoc])
      · match w, hw with
        | [], _ => exact near [32] (by rw [List.append_nil, List.append_assoc])
        | b :: w, hw =>
          cases Ys with
          | nil =>
            exfalso
            simp [kidsT] at hw
            exact hu hw.2.2
          | cons Z Zs =>
            obtain ⟨v, hv⟩ := text_head d Z (hs Z (by simp))
            have hb : b = 32 ∧ w ++ u = 40 :: (v ++ (kidsT d Zs ++ [41])) := by
              have : b :: (w ++ u) = 32 :: (40 :: (v ++ (kidsT d Zs ++ [41]))) := by rw [← List.cons_append, hw, kidsT_cons, hv]; simp
              exact ⟨(List.cons.inj this).1, (List.cons.inj this).2⟩
            obtain ⟨rfl, hw2⟩ := hb
            match w, hw2 with
            | [], _ => exact near [] (by rw [List.append_nil, List.append_assoc])
            | e :: w, hw2 =>
              have he : e = 40 := (List.cons.inj (show e :: (w ++ u) = 40 :: _ from hw2)).1
              subst he
              have hst : Stop ((32 :: 40 :: w) ++ r) := .inr ⟨rfl, fun y hy => .inr (by simpa using hy.symm)⟩
              have h2' : s.data.toList.drop (k + 1) = kindN x.kind ++ (tailB x ++ ((32 :: 40 :: w) ++ r)) := by rw [h2]; simp
              have hno := node_back s (k + 1) x _ h0 h2' hst
              have h3 : s.data.toList.drop (k + 1 + (kindN x.kind ++ tailB x).length) = (32 :: 40 :: w) ++ r := by
                rw [← List.append_assoc] at h2'
                exact drop_app h2'
              obtain ⟨J, hJ⟩ : ∃ J, k + 1 + (kindN x.kind ++ tailB x).length = J := ⟨_, rfl⟩
              rw [hJ] at hno h3
              have hk := kids_pre d s (dep + 1) r (by omega) (Z :: Zs) g J (X ++ [⟨x.kind, x.n, 0, 0, x.s⟩]) 0 (32 :: 40 :: w) u hm hw hu h3 (by simp only [List.length_append, List.length_cons, List.length_nil]; omega) (by simp only [List.length_append] at hf; omega)
              have hlen2 : (kindN x.kind ++ tailB x ++ 32 :: 40 :: w).length = (kindN x.kind ++ tailB x).length + (32 :: 40 :: w).length := List.length_append
              rw [hno, hlen2]
              simp only [if_pos (show X.length ≤ 3000 by omega)]
              have key : ∀ o : Option Nat × Nat × List Nd, J + (32 :: 40 :: w).length ≤ o.2.1 → k + ((kindN x.kind ++ tailB x).length + (32 :: 40 :: w).length + 1) ≤ (match o with
                  | (none, j, Y) => (false, j, Y)
                  | (some c, j, Y) => (true, j, fixN Y X.length c)).2.1 := by
                rintro ⟨_ | c, i, Z2⟩ ho
                · simp only at ho ⊢
                  omega
                · simp only at ho ⊢
                  omega
              exact key _ hk
/-- A text that begins as a tree's text, and not with all of it: the reader comes so far at least. -/
theorem read_pre (d : Nat) (l : List Nd) (h : Seg d l) (hd : d ≤ 120) (hl : l.length ≤ 3001) (hx : ∀ x ∈ l, Says x) (s : ByteArray) (p t r : List UInt8) (hT : p ++ t = textL bgB d l) (ht : t ≠ []) (hs : s.data.toList = p ++ r) : p.length ≤ (readG s).2.1 := by
  have hsz := drop_len s 0 p r (by simpa using hs)
  have := tree_pre h hx s (s.size + 1) 1 0 [] p t r hT ht (by simpa using hs) (by omega) (by simpa using hl) (by omega)
  unfold readG
  omega
/-- A tree's text, and more behind it: the reader reads the tree, and stands behind it. -/
theorem read_more (d : Nat) (l : List Nd) (h : Seg d l) (hd : d ≤ 120) (hl : l.length ≤ 3001) (hx : ∀ x ∈ l, Says x) (s : ByteArray) (r : List UInt8) (hs : s.data.toList = textL bgB d l ++ r) : readG s = (true, (textL bgB d l).length, l) := by
  have hsz := drop_len s 0 (textL bgB d l) r (by simpa using hs)
  unfold readG
  rw [tree_back h hx s (s.size + 1) 1 0 [] r (by simpa using hs) (by omega) (by simpa using hl) (by omega)]
  simp
end Go.Proofs.YtaildeglikhkaaaGreatDoor
/-! A tree's text that is cut off is no tree's text: the reader fails at its end. Plain. -/
namespace Go.Proofs.YtaildeglikhkaaaGreatDoor
open Go.Lib (decDigits itoa)

theorem end_none (s : ByteArray) (k : Nat) (p : List UInt8) (h : s.data.toList.drop k = p) (i : Nat) (_hk : k ≤ i) (hi : k + p.length ≤ i) : s.data.toList[i]? = none := by
  rw [← h, List.length_drop] at hi
  rw [List.getElem?_eq_none_iff]
  omega
theorem tree_end (s : ByteArray) (f d k : Nat) (X : List Nd) (h : s.data.toList[k]? = none) : (treeG s f d k X).1 = false := by
  cases f with
  | zero => rw [treeG]
  | succ f =>
    rw [treeG]
    split
    · rfl
    · rw [if_neg (by rw [h]; simp)]
theorem kids_end (s : ByteArray) (f d k : Nat) (X : List Nd) (c : Nat) (h : s.data.toList[k]? = none) : (kidsG s f d k X c).1 = none := by
  cases f with
  | zero => rw [kidsG]
  | succ f =>
    rw [kidsG, if_neg (by rw [h]; simp), if_neg (by rw [h]; simp)]
theorem kids_blank_end (s : ByteArray) (f d k : Nat) (X : List Nd) (c : Nat) (h : s.data.toList[k]? = some 32) (h1 : s.data.toList[k + 1]? = none) : (kidsG s f d k X c).1 = none := by
  cases f with
  | zero => rw [kidsG]
  | succ f =>
    have := tree_end s f d (k + 1) X h1
    rw [kidsG, if_neg (by rw [h]; decide), if_pos h]
    rcases hr : treeG s f d (k + 1) X with ⟨_ | _, i, Y⟩
    · rfl
    · rw [hr] at this; cases this
def TrFail (d : Nat) (Y : List Nd) : Prop := ∀ (s : ByteArray) (f dep k : Nat) (X : List Nd) (p t : List UInt8), p ++ t = textL bgB d Y → t ≠ [] → s.data.toList.drop k = p → dep + d ≤ 121 → X.length + Y.length ≤ 3001 → p.length < f →
  (treeG s f dep k X).1 = false
theorem kids_fail (d : Nat) (s : ByteArray) (dep : Nat) (hd : dep + d ≤ 121) : ∀ (Ys : List (List Nd)) (f k : Nat) (X : List Nd) (c : Nat) (p t : List UInt8), (∀ Y ∈ Ys, TrBack d Y ∧ TrFail d Y) → p ++ t = kidsT d Ys ++ [41] → t ≠ [] → s.data.toList.drop k = p → X.length + Ys.flatten.length ≤ 3001 → p.length < f →
    (kidsG s f dep k X c).1 = none
  | _, 0, _, _, _, _, _, _, _, _, _, _, hf => by omega
  | [], f + 1, k, X, c, p, t, _, hT, ht, h, _, _ => by
    have hp : p = [] := by
      cases p with
      | nil => rfl
      | cons a q =>
        exfalso
        simp [kidsT] at hT
        exact ht hT.2.2
    subst hp
    exact kids_end s (f + 1) dep k X c (end_none s k [] h k (Nat.le_refl _) (Nat.le_refl _))
  | Y :: Ys, f + 1, k, X, c, p, t, hY, hT, ht, h, hX, hf => by
    match p, hT with
    | [], _ => exact kids_end s (f + 1) dep k X c (end_none s k [] h k (Nat.le_refl _) (Nat.le_refl _))
    | a :: q, hT =>
      have hq : a = 32 ∧ q ++ t = textL bgB d Y ++ (kidsT d Ys ++ [41]) := by
        have : a :: (q ++ t) = 32 :: (textL bgB d Y ++ (kidsT d Ys ++ [41])) := by rw [← List.cons_append, hT, kidsT_cons]; simp
        exact ⟨(List.cons.inj this).1, (List.cons.inj this).2⟩
      obtain ⟨rfl, hq⟩ := hq
      simp only [List.length_cons] at hf
      simp only [List.flatten_cons, List.length_append] at hX
      obtain ⟨h0, h1⟩ := drop_get h
      rw [kidsG, if_neg (by rw [h0]; decide), if_pos h0]
      rcases app_split hq with ⟨u, hu, hut⟩ | ⟨w, rfl, hw⟩
      · by_cases hu0 : u = []
        · subst hu0
          rw [List.append_nil] at hu
          have ht2 := (hY Y (by simp)).1 s f dep (k + 1) X [] (by rw [h1, hu, List.append_nil]) hd (by omega) (by rw [← hu]; omega)
          rw [ht2]
          exact kids_end s f dep _ _ _ (end_none s (k + 1) q h1 _ (by omega) (by rw [hu]; omega))
        · have h2 := (hY Y (by simp)).2 s f dep (k + 1) X q u hu hu0 h1 hd (by omega) (by omega)
          rcases hr : treeG s f dep (k + 1) X with ⟨_ | _, i, Z⟩
          · rfl
          · rw [hr] at h2; cases h2
      · simp only [List.length_append] at hf
        have ht2 := (hY Y (by simp)).1 s f dep (k + 1) X w h1 hd (by omega) (by omega)
        have ih := kids_fail d s dep hd Ys f (k + 1 + (textL bgB d Y).length) (X ++ Y) (c + 1) w t (fun Z hZ => hY Z (by simp [hZ])) hw ht (drop_app h1) (by simp only [List.length_append]; omega) (by omega)
        rw [ht2]
        exact ih
theorem none_false (X : List Nd) (g : List Nd → Nat → List Nd) (o : Option Nat × Nat × List Nd) (h : o.1 = none) : (match o with
    | (none, j, Y) => (false, j, Y)
    | (some c, j, Y) => (true, j, if X.length ≤ 3000 then g Y c else Y)).1 = false := by
  obtain ⟨_ | c, i, Z⟩ := o
  · rfl
  · cases h
theorem none_false2 (g : List Nd → Nat → List Nd) (o : Option Nat × Nat × List Nd) (h : o.1 = none) : (match o with
    | (none, j, Y) => (false, j, Y)
    | (some c, j, Y) => (true, j, g Y c)).1 = false := by
  obtain ⟨_ | c, i, Z⟩ := o
  · rfl
  · cases h
theorem tree_fail {d : Nat} {Y : List Nd} (h : Seg d Y) : (∀ x ∈ Y, Says x) → TrFail d Y := by
  induction h with
  | mk d kind n t Ys hs ih =>
    intro hx s f dep k X p u hT hu h hd hX hf
    rw [textL_new bgB d kind n t Ys hs] at hT
    have hlen : (newN kind n t Ys).length = Ys.flatten.length + 1 := by simp [newN]
    rw [hlen] at hX
    have hsub : ∀ Z ∈ Ys, ∀ x ∈ Z, Says x := fun Z hZ x hx' => hx x (by
      simp only [newN, List.mem_cons]
      exact .inr (List.mem_flatten.2 ⟨Z, hZ, hx'⟩))
    have hm : ∀ Z ∈ Ys, TrBack d Z ∧ TrFail d Z := fun Z hZ => ⟨tree_back (hs Z hZ) (hsub Z hZ), ih Z hZ (hsub Z hZ)⟩
    have h0 := hx ⟨kind, n, Ys.length, Ys.flatten.length + 1, t⟩ (by simp [newN])
    obtain ⟨g, rfl⟩ : ∃ g, f = g + 1 := ⟨f - 1, by omega⟩
    match p, hT with
    | [], _ => exact tree_end s (g + 1) dep k X (end_none s k [] h k (Nat.le_refl _) (Nat.le_refl _))
    | a :: q, hT =>
      obtain ⟨x, hxe⟩ : ∃ x : Nd, x = ⟨kind, n, Ys.length, Ys.flatten.length + 1, t⟩ := ⟨_, rfl⟩
      rw [← hxe] at h0 hT
      have hq : a = 40 ∧ q ++ u = (kindN x.kind ++ tailB x) ++ (kidsT d Ys ++ [41]) := by
        have : a :: (q ++ u) = 40 :: ((kindN x.kind ++ tailB x) ++ (kidsT d Ys ++ [41])) := by rw [← List.cons_append, hT]; simp [bgB, kidsT]
        exact ⟨(List.cons.inj this).1, (List.cons.inj this).2⟩
      obtain ⟨rfl, hq⟩ := hq
      obtain ⟨h1, h2⟩ := drop_get h
      simp only [List.length_cons] at hf
      rw [treeG, if_neg (by omega), if_pos h1]
      have near : ∀ y, q ++ y = kindN x.kind ++ (tailB x ++ [32]) → (match (noR s (k + 1)).1 with
          | none => (false, (noR s (k + 1)).2, X)
          | some n => match kidsG s g (dep + 1) (noR s (k + 1)).2 (if X.length ≤ 3000 then X ++ [n] else X) 0 with
            | (none, j, Y) => (false, j, Y)
            | (some c, j, Y) => (true, j, if X.length ≤ 3000 then fixN Y X.length c else Y)).1 = false := by
        intro y hy
        have hfar := no_pre s (k + 1) x q y [] h0 hy (by rw [h2, List.append_nil])
        rcases hfar with hl | ⟨hn0, he, h32⟩
        · cases hno : (noR s (k + 1)).1 with
          | none => rfl
          | some m => exact none_false X (fun Y c => fixN Y X.length c) _ (kids_end s g (dep + 1) (noR s (k + 1)).2 _ 0 (end_none s (k + 1) q h2 _ (by omega) hl))
        · cases hno : (noR s (k + 1)).1 with
          | none => exact absurd hno hn0
          | some m => exact none_false X (fun Y c => fixN Y X.length c) _ (kids_blank_end s g (dep + 1) (noR s (k + 1)).2 _ 0 h32 (end_none s (k + 1) q h2 _ (by omega) (by omega)))
      rcases app_split hq with ⟨y, hy, _⟩ | ⟨w, rfl, hw⟩
      · exact near (y ++ [32]) (by rw [← List.append_assoc, hy, List.append_assoc])
      · match w, hw with
        | [], _ => exact near [32] (by rw [List.append_nil, List.append_assoc])
        | b :: w, hw =>
          cases Ys with
          | nil =>
            exfalso
            simp [kidsT] at hw
            exact hu hw.2.2
          | cons Z Zs =>
            obtain ⟨v, hv⟩ := text_head d Z (hs Z (by simp))
            have hb : b = 32 ∧ w ++ u = 40 :: (v ++ (kidsT d Zs ++ [41])) := by
              have : b :: (w ++ u) = 32 :: (40 :: (v ++ (kidsT d Zs ++ [41]))) := by rw [← List.cons_append, hw, kidsT_cons, hv]; simp
              exact ⟨(List.cons.inj this).1, (List.cons.inj this).2⟩
            obtain ⟨rfl, hw2⟩ := hb
            match w, hw2 with
            | [], _ => exact near [] (by rw [List.append_nil, List.append_assoc])
            | e :: w, hw2 =>
              have he : e = 40 := (List.cons.inj (show e :: (w ++ u) = 40 :: _ from hw2)).1
              subst he
              have hst : Stop (32 :: 40 :: w) := .inr ⟨rfl, fun y hy => .inr (by simpa using hy.symm)⟩
              have h2' : s.data.toList.drop (k + 1) = kindN x.kind ++ (tailB x ++ (32 :: 40 :: w)) := by rw [h2]; simp
              have hno := node_back s (k + 1) x _ h0 h2' hst
              have h3 : s.data.toList.drop (k + 1 + (kindN x.kind ++ tailB x).length) = 32 :: 40 :: w := by
                rw [← List.append_assoc] at h2'
                exact drop_app h2'
              obtain ⟨J, hJ⟩ : ∃ J, k + 1 + (kindN x.kind ++ tailB x).length = J := ⟨_, rfl⟩
              rw [hJ] at hno h3
              have hk := kids_fail d s (dep + 1) (by omega) (Z :: Zs) g J (X ++ [⟨x.kind, x.n, 0, 0, x.s⟩]) 0 (32 :: 40 :: w) u hm hw hu h3 (by simp only [List.length_append, List.length_cons, List.length_nil]; omega) (by simp only [List.length_append] at hf; omega)
              rw [hno]
              simp only [if_pos (show X.length ≤ 3000 by omega)]
              exact none_false2 (fun Y c => fixN Y X.length c) _ hk
/-- A tree's text that is cut off is not read. -/
theorem read_cut (d : Nat) (l : List Nd) (h : Seg d l) (hd : d ≤ 120) (hl : l.length ≤ 3001) (hx : ∀ x ∈ l, Says x) (s : ByteArray) (t : List UInt8) (hT : s.data.toList ++ t = textL bgB d l) (ht : t ≠ []) : (readG s).1 = false := by
  unfold readG
  refine tree_fail h hx s (s.size + 1) 1 0 [] s.data.toList t hT ht (by simp) (by omega) (by simpa using hl) ?_
  have e : s.data.toList.length = s.size := by rw [Array.length_toList]; rfl
  omega
end Go.Proofs.YtaildeglikhkaaaGreatDoor
/-! What the law of cut texts wants of the reader and of its errors. -/
namespace Go.Proofs.YtaildeglikhkaaaGreatDoor
open Go.RowKit
attribute [local go_sem] Oper.semAt_some

theorem print_text (X : List Nd) (h : checkL X = .fine) : printL X = textL bgB 30 X := by
  unfold printL
  rw [(fineB_iff _).2 h, Bool.true_or, if_pos rfl, show beginL = bgB from funext begin_bg, print_seg bgB 30 X (seg_of_fine X h).1]
theorem len_size (s : ByteArray) : s.data.toList.length = s.size := by rw [Array.length_toList]; rfl
section
variable (X : List Nd) (hf : checkL X = .fine) (s : ByteArray) (hs : s.data.toList = printL X)
include hf hs
theorem cut_off (k : Nat) (hk : k < s.size) : readOk (s.extract 0 k) = false ∧ readAt (s.extract 0 k) = k ∧ (s.extract 0 k).size = k := by
  obtain ⟨h1, _, h3⟩ := seg_of_fine X hf
  have hd : (s.extract 0 k).data.toList = s.data.toList.take k := by simp [ByteArray.data_extract]
  have hsz : (s.extract 0 k).size = k := by rw [← len_size, hd, List.length_take, len_size]; omega
  have hT : (s.extract 0 k).data.toList ++ s.data.toList.drop k = textL bgB 30 X := by rw [hd, List.take_append_drop, hs, print_text X hf]
  have ht : s.data.toList.drop k ≠ [] := by
    intro e
    have := congrArg List.length e
    rw [List.length_drop, len_size] at this
    simp at this
    omega
  have hc := read_cut 30 X h1 (by omega) (by omega) (says_fine X hf) (s.extract 0 k) _ hT ht
  have hp := read_pre 30 X h1 (by omega) (by omega) (says_fine X hf) (s.extract 0 k) (s.extract 0 k).data.toList _ [] hT ht (by simp)
  have hle := readAt_le (s.extract 0 k)
  rw [len_size, hsz] at hp
  rw [hsz] at hle
  refine ⟨?_, ?_, hsz⟩
  · unfold readOk
    rw [hc]
    rfl
  · exact Nat.le_antisymm hle hp
theorem one_more (c : UInt8) : readOk (s ++ ⟨#[c]⟩) = false ∧ readAt (s ++ ⟨#[c]⟩) = s.size ∧ (s ++ ⟨#[c]⟩).size = s.size + 1 := by
  obtain ⟨h1, _, h3⟩ := seg_of_fine X hf
  have hd : (s ++ ⟨#[c]⟩).data.toList = textL bgB 30 X ++ [c] := by rw [← print_text X hf, ← hs]; simp
  have hm := read_more 30 X h1 (by omega) (by omega) (says_fine X hf) (s ++ ⟨#[c]⟩) [c] hd
  have hl : (textL bgB 30 X).length = s.size := by rw [← print_text X hf, ← hs, len_size]
  have hsz : (s ++ ⟨#[c]⟩).size = s.size + 1 := by rw [← len_size, hd, List.length_append, hl]; rfl
  rw [hl] at hm
  refine ⟨?_, ?_, hsz⟩
  · unfold readOk
    rw [hm, hsz]
    simp
  · unfold readAt
    rw [hm]
/-- The text with one byte turned. -/
theorem turned (k : Nat) (hk : k < s.size) (c : UInt8) (B : ByteArray) (hB : B = s.extract 0 k ++ ⟨#[c]⟩ ++ s.extract (k + 1) s.size) : k ≤ readAt B ∧ B.size = s.size ∧ B.data.toList[k]? = some c := by
  obtain ⟨h1, _, h3⟩ := seg_of_fine X hf
  have hd1 : (s.extract 0 k).data.toList = s.data.toList.take k := by simp [ByteArray.data_extract]
  have hd2 : (s.extract (k + 1) s.size).data.toList = s.data.toList.drop (k + 1) := by
    have e : s.size = s.data.toList.length := (len_size s).symm
    rw [ByteArray.data_extract, Array.toList_extract, List.extract, e]
    rw [List.take_of_length_le (by rw [List.length_drop]; exact Nat.le_refl _)]
  have hd : B.data.toList = s.data.toList.take k ++ (c :: s.data.toList.drop (k + 1)) := by
    rw [hB, ByteArray.data_append, ByteArray.data_append, Array.toList_append, Array.toList_append, hd1, hd2]
    simp
  have hl : (s.data.toList.take k).length = k := by rw [List.length_take, len_size]; omega
  have ht : s.data.toList.drop k ≠ [] := by
    intro e
    have := congrArg List.length e
    rw [List.length_drop, len_size] at this
    simp at this
    omega
  have hp := read_pre 30 X h1 (by omega) (by omega) (says_fine X hf) B (s.data.toList.take k) (s.data.toList.drop k) _ (by rw [List.take_append_drop, hs, print_text X hf]) ht hd
  rw [hl] at hp
  refine ⟨hp, ?_, ?_⟩
  · rw [← len_size, hd, List.length_append, hl, List.length_cons, List.length_drop, len_size]
    omega
  · rw [hd, List.getElem?_append_right (by omega), hl]
    simp
end
theorem other_text (X : List Nd) (s : ByteArray) (hs : s.data.toList = printL X) (k : Nat) (c : UInt8) (B : ByteArray) (hb : B.data.toList[k]? = some c) (hne : s.data.toList[k]? ≠ some c) (ho : readOk B = true) (hc : checkL (readN B) = .fine) : ¬ readN B = X := by
  intro e
  have hg : readG B = (true, B.size, readN B) := by
    unfold readOk at ho
    unfold readN
    cases hr : readG B with
    | mk a r =>
      obtain ⟨j, l⟩ := r
      rw [hr] at ho
      simp at ho
      rw [ho.1, ho.2]
  have := read_printL B (readN B) hg hc
  rw [e, ← hs] at this
  rw [this] at hne
  exact hne hb
set_option maxRecDepth 100000 in
set_option maxHeartbeats 1000000 in
theorem fault_sent9 (W : World) (ea : Nat → Addr) (hE : Ers W ea) (j : Nat) (hj : j < 17) (a : Addr) (ha : a = ea (ordE j)) : Calls Tryz.prog 51 #[errV a, .int .i64 9] W fun e w' => e = .returned (.agg #[.int .i64 (101 + j), .slice none 0 0]) ∧ Below W.heap.size W w' := by
  have HS : Hid (∀ W', Below W.heap.size W W' → Calls Tryz.prog 73 #[errV a] W' fun e w' => e = .returned (.int .i64 (101 + j)) ∧ Below W'.heap.size W' w') := fun W' hb => sentinel_any W' ea (hE.below hb) j hj a ha
  clear hE ha
  have hno := assert_no (.pointer (some a))
  go_enter Tryz.func51, Tryz.ntmps51
  go_wp2_with fail
  refine Calls.mono (HS.out _ (below_new _ _)) ?_
  rintro e w1 ⟨rfl, hb1⟩
  have hbw1 := (below_new W (.cells #[.int .i64 0, .slice none 0 0] 31)).trans (hb1.mono (below_new W _).size)
  have HC1 : Hid (Cel w1 W.heap.size 31 #[.int .i64 0, .slice none 0 0]) := Cel.below (Cel.new W 31 #[.int .i64 0, .slice none 0 0]) hb1 (by rw [new_size]; omega)
  clear hb1
  go_wp2_with fail
  refine (bare_any _ _).mono ?_
  rintro e w2 ⟨rfl, hb2⟩
  have hc2 : Cel w2 W.heap.size 31 #[.int .i64 0, .slice none 0 0] := Cel.below HC1.out hb2 HC1.out.lt
  have hbw2 := hbw1.trans (hb2.mono hbw1.size)
  have HC2 : Hid (Cel w2 W.heap.size 31 #[.int .i64 0, .slice none 0 0]) := hc2
  have c0 := hc2.cell 0
  have f0 := hc2.frozen 0
  have c1 : ∀ v, (w2.setCell ⟨W.heap.size, 0, none⟩ v).cell? ⟨W.heap.size, 1, none⟩ = some (.slice none 0 0) := fun v => (hc2.set (j := 0) v).cell 1
  have f1 : ∀ v, (w2.setCell ⟨W.heap.size, 0, none⟩ v).frozen? ⟨W.heap.size, 1, none⟩ = false := fun v => (hc2.set (j := 0) v).frozen 1
  simp only [List.getElem?_toArray, List.getElem?_cons_zero] at c0
  clear hc2 hb2
  go_wp2_with fail
  refine bodyPost_ret (results_cell_row (p := 4) (ty := 31) rfl _ _ W.heap.size 31 #[.int .i64 (101 + j), .slice none 0 0] (0, 0) _ rfl ((HC2.out.set (j := 0) _).set (j := 1) _) Tryz.underlying31 rfl size33) rfl ?_
  exact ⟨rfl, (hbw2.setCell (p := ⟨W.heap.size, 0, none⟩) (Nat.le_refl _) _).setCell (p := ⟨W.heap.size, 1, none⟩) (Nat.le_refl _) _⟩
set_option maxRecDepth 100000 in
set_option maxHeartbeats 1000000 in
theorem Fault_sent (W : World) (ea : Nat → Addr) (hE : Ers W ea) (j : Nat) (hj : j < 17) (a : Addr) (ha : a = ea (ordE j)) :
    Calls Tryz.prog 23 #[errV a] W fun e w' => e = .returned (.agg #[.int .i64 (101 + j), .slice none 0 0]) ∧ Below W.heap.size W w' := by
  have HF : Hid (∀ W', Below W.heap.size W W' → Calls Tryz.prog 51 #[errV a, .int .i64 9] W' fun e w' => e = .returned (.agg #[.int .i64 (101 + j), .slice none 0 0]) ∧ Below W'.heap.size W' w') := fun W' hb => fault_sent9 W' ea (hE.below hb) j hj a ha
  clear hE ha
  go_enter Tryz.func23, Tryz.ntmps23
  go_wp2_with fail
  refine Calls.mono (HF.out _ (below_new _ _)) ?_
  rintro e w1 ⟨rfl, hb1⟩
  have hbw1 := (below_new W (.cells #[.int .i64 0, .slice none 0 0] 31)).trans (hb1.mono (below_new W _).size)
  have hr3 : Cel w1 W.heap.size 31 #[.int .i64 0, .slice none 0 0] := Cel.below (Cel.new W 31 #[.int .i64 0, .slice none 0 0]) hb1 (by rw [new_size]; omega)
  have c0 := hr3.cell 0
  have f0 := hr3.frozen 0
  have c1 : ∀ v, (w1.setCell ⟨W.heap.size, 0, none⟩ v).cell? ⟨W.heap.size, 1, none⟩ = some (.slice none 0 0) := fun v => (hr3.set (j := 0) v).cell 1
  have f1 : ∀ v, (w1.setCell ⟨W.heap.size, 0, none⟩ v).frozen? ⟨W.heap.size, 1, none⟩ = false := fun v => (hr3.set (j := 0) v).frozen 1
  simp only [List.getElem?_toArray, List.getElem?_cons_zero] at c0
  have HR4 : Hid (Cel ((w1.setCell ⟨W.heap.size, 0, none⟩ (.int .i64 (101 + (j : Int)))).setCell ⟨W.heap.size, 1, none⟩ (.slice none 0 0)) W.heap.size 31 #[.int .i64 (101 + (j : Int)), .slice none 0 0]) := (hr3.set (j := 0) _).set (j := 1) _
  clear hr3 hb1
  go_wp2_with fail
  refine bodyPost_ret (results_cell_row (p := 2) (ty := 31) rfl _ _ W.heap.size 31 _ (0, 0) _ rfl HR4.out Tryz.underlying31 rfl size33) rfl ?_
  exact ⟨rfl, (hbw1.setCell (p := ⟨W.heap.size, 0, none⟩) (Nat.le_refl _) _).setCell (p := ⟨W.heap.size, 1, none⟩) (Nat.le_refl _) _⟩
/-- A fault of the reader's: too many, or one place. -/
def FaultIs (s : ByteArray) (B : Nat) (e : Ending) (w' : World) : Prop :=
  e = .returned (.agg #[.int .i64 111, .slice none 0 0]) ∨
  ∃ (c p : Int) (fb : Nat), e = .returned (.agg #[.int .i64 c, .slice (some ⟨fb, 0, none⟩) 1 1]) ∧ Cel w' fb 3 #[.int .i64 p] ∧ B ≤ fb ∧ ((c = 108 ∧ p = (readAt s : Nat)) ∨ c = 109 ∨ c = 110 ∨ c = 102)
theorem fault_bad (W : World) (ea : Nat → Addr) (hE : Ers W ea) (s : ByteArray) (u : Value) (h : BadIs W ea s u) (hr : ¬ (readOk s = true ∧ checkL (readN s) = .fine)) :
    Calls Tryz.prog 23 #[u] W fun e w' => FaultIs s W.heap.size e w' ∧ Below W.heap.size W w' := by
  unfold BadIs at h
  cases ho : readOk s with
  | true =>
    rw [ho, if_pos rfl] at h
    cases hc : checkL (readN s) with
    | fine => exact absurd ⟨ho, hc⟩ hr
    | many =>
      rw [hc] at h
      obtain rfl : u = errV (ea 0) := h
      refine (Fault_sent W ea hE 10 (by omega) (ea 0) rfl).mono ?_
      rintro e w' ⟨he, hb⟩
      exact ⟨.inl he, hb⟩
    | node i =>
      rw [hc] at h
      obtain ⟨q, rfl, hq⟩ := h
      refine (Fault_at W ea hE 9 (by omega) (ea 1) rfl q i hq).mono ?_
      rintro e w' ⟨fb, he, h1, h2, hb⟩
      exact ⟨.inr ⟨_, _, fb, he, h1, h2, .inr (.inr (.inl rfl))⟩, hb⟩
    | nest i =>
      rw [hc] at h
      obtain ⟨q, rfl, hq⟩ := h
      refine (Fault_at W ea hE 1 (by omega) (ea 2) rfl q i hq).mono ?_
      rintro e w' ⟨fb, he, h1, h2, hb⟩
      exact ⟨.inr ⟨_, _, fb, he, h1, h2, .inr (.inr (.inr rfl))⟩, hb⟩
  | false =>
    rw [ho, if_neg (by decide)] at h
    obtain ⟨q, rfl, hq⟩ := h
    by_cases he : readAt s = s.size
    · rw [if_pos he] at hq
      refine (Fault_at W ea hE 8 (by omega) (ea 4) rfl q _ hq).mono ?_
      rintro e w' ⟨fb, he, h1, h2, hb⟩
      exact ⟨.inr ⟨_, _, fb, he, h1, h2, .inr (.inl rfl)⟩, hb⟩
    · rw [if_neg he] at hq
      refine (Fault_at W ea hE 7 (by omega) (ea 5) rfl q _ hq).mono ?_
      rintro e w' ⟨fb, he, h1, h2, hb⟩
      exact ⟨.inr ⟨_, _, fb, he, h1, h2, .inl ⟨rfl, rfl⟩⟩, hb⟩
/-- A list of one byte, made a text. -/
theorem conv_at (W : World) (b : Nat) (c : UInt8) (h : W.cell? ⟨b, 0, none⟩ = some (.int .u8 (c.toNat : Int))) :
    (convert 43 9 (.slice (some ⟨b, 0, none⟩) 1 1)).run Tryz.prog W = .ok (.string ⟨#[c]⟩) W := by
  refine run_convert_bytes_back (P := Tryz.prog) W 43 9 5 ⟨b, 0, none⟩ 1 [c] Tryz.underlying43 Tryz.underlying5 Tryz.underlying9 ?_
  intro j hj
  obtain rfl : j = 0 := by simp at hj; exact hj
  simpa [Addr.add] using h
end Go.Proofs.YtaildeglikhkaaaGreatDoor
/-! Parse of a text that is cut off, and of one with a byte more. -/
namespace Go.Proofs.YtaildeglikhkaaaGreatDoor
open Go.RowKit

theorem parse_at {W : World} (hk : KnAt W) (ea : Nat → Addr) (hE : Ers W ea) (B : ByteArray) (n : Nat) (hB : B.size = n) (hn : n ≤ 131072) (p i : Nat) (h1 : readOk B = false) (h2 : readAt B = p) (hi : (if p = n then 4 else 5) = i) :
    Calls Tryz.prog 18 #[.string B] W fun e w' => ∃ q, e = .returned (.tuple #[.slice none 0 0, .iface 79 (.pointer (some ⟨q, 0, none⟩))]) ∧ Cel w' q 81 #[.int .i64 (p : Nat), errV (ea i)] ∧ Below W.heap.size W w' := by
  refine (parse_no hk ea hE B (by rw [hB]; exact hn) (fun h => by rw [h1] at h; cases h.1)).mono ?_
  rintro e w' ⟨u, he, hu, hb'⟩
  unfold BadIs at hu
  rw [h1, h2, hB, hi] at hu
  simp only [Bool.false_eq_true, if_false] at hu
  obtain ⟨q, rfl, hq⟩ := hu
  exact ⟨q, he, hq, hb'⟩
section
variable {W : World} (hk : KnAt W) (ea : Nat → Addr) (hE : Ers W ea) (X : List Nd) (hf : checkL X = .fine) (s : ByteArray) (hs : s.data.toList = printL X) (hz : s.size < 131072)
include hk hE hf hs hz
theorem parse_cut (k : Nat) (hks : k < s.size) : Calls Tryz.prog 18 #[.string (s.extract 0 k)] W fun e w' => ∃ q, e = .returned (.tuple #[.slice none 0 0, .iface 79 (.pointer (some ⟨q, 0, none⟩))]) ∧ Cel w' q 81 #[.int .i64 (k : Nat), errV (ea 4)] ∧ Below W.heap.size W w' := by
  obtain ⟨f1, f2, f3⟩ := cut_off X hf s hs k hks
  exact parse_at hk ea hE _ k f3 (by omega) k 4 f1 f2 (if_pos rfl)
theorem parse_more (c : UInt8) : Calls Tryz.prog 18 #[.string (s ++ ⟨#[c]⟩)] W fun e w' => ∃ q, e = .returned (.tuple #[.slice none 0 0, .iface 79 (.pointer (some ⟨q, 0, none⟩))]) ∧ Cel w' q 81 #[.int .i64 (s.size : Nat), errV (ea 5)] ∧ Below W.heap.size W w' := by
  obtain ⟨f1, f2, f3⟩ := one_more X hf s hs c
  exact parse_at hk ea hE _ (s.size + 1) f3 (by omega) s.size 5 f1 f2 (if_neg (by omega))
end
end Go.Proofs.YtaildeglikhkaaaGreatDoor
/-! A program's text that is cut off ends too early, there; with a byte more it does not fit, there; with one byte turned it is another one, or the place is at the byte or behind it. -/
namespace Go.Proofs.YtaildeglikhkaaaGreatDoor
open Go.RowKit
attribute [local go_sem] Oper.semAt_some

set_option maxRecDepth 100000 in
set_option maxHeartbeats 8000000 in
theorem cut_any (v : Value) (X : List Nd) (a0 : Int) (c : UInt8) (W : World) (ea : Nat → Addr) (hE : Ers W ea) (hK : KnAt W) (hP : ∀ w', Below W.heap.size W w' → Pow w') (hN : NdAt W v X) (hl : X.length ≤ 140737488351232) (hok : ∀ x ∈ X, x.s.length ≤ 140737488351232 ∧ x.k ≤ 9223372036854775807) :
    Calls Tryz.prog 5 #[v, .int .i64 a0, .int .u8 (c.toNat : Int)] W fun e w' => e = .returned (.bool true) ∧ Below W.heap.size W w' := by
  have HE : Hid (∀ W', Below W.heap.size W W' → Ers W' ea) := fun W' hb => hE.below hb
  have HK : Hid (∀ W', Below W.heap.size W W' → KnAt W') := fun W' hb => KnAt.below hK hb
  have HP : Hid (∀ W', Below W.heap.size W W' → ∀ w', Below W'.heap.size W' w' → Pow w') := fun W' hb w' hb' => hP w' (hb.trans (hb'.mono hb.size))
  have HN : Hid (∀ W', Below W.heap.size W W' → NdAt W' v X) := fun W' hb => hN.below hb (Nat.le_refl _)
  have HF : Hid _ := first_any W ea hE hK hP
  obtain ⟨ad, cap, rfl⟩ := hN.form
  have HL : Hid (∀ W', Below W.heap.size W W' → Calls Tryz.prog 7 #[.slice ad X.length cap] W' fun e w' => e = .returned (.bool (lightL X)) ∧ w' = W') := fun W' hb => light_any _ X W' (HN.out W' hb) (fun x hx => (hok x hx).1) hl
  clear hE hK hP hN
  go_enter Tryz.func5, Tryz.ntmps5
  go_wp2_with fail
  refine Calls.mono HF.out ?_
  rintro e w1 ⟨rfl, hb1⟩
  clear HF
  have HL1 : Hid (Calls Tryz.prog 7 #[.slice ad X.length cap] w1 fun e w' => e = .returned (.bool (lightL X)) ∧ w' = w1) := HL.out _ hb1
  clear HL
  cases hlt : lightL X with
  | false =>
    rw [hlt] at HL1
    go_wp2_with fail
    refine Calls.mono HL1.out ?_
    rintro e w2 ⟨rfl, hw⟩
    have hw' := hw.symm
    subst hw'
    clear hw
    go_wp2_with fail
    go_ret
    exact ⟨rfl, hb1⟩
  | true =>
    rw [hlt] at HL1
    obtain ⟨hx1, hx2⟩ := light_parts X hlt
    have hxs := sumS_mem X
    go_wp2_with fail
    refine Calls.mono HL1.out ?_
    rintro e w2 ⟨rfl, hw⟩
    have hw' := hw.symm
    subst hw'
    clear hw HL1
    by_cases h100 : 100 < X.length
    · go_wp2_with fail
      go_ret
      exact ⟨rfl, hb1⟩
    have HPA : Hid (∀ W', Below W.heap.size W W' → Calls Tryz.prog 15 #[.slice ad X.length cap] W' fun e w' => e = .returned (str (printL X)) ∧ Below W'.heap.size W' w') := fun W' hb =>
      print_any _ X W' ea (HE.out W' hb) (HK.out W' hb) (HP.out W' hb) (HN.out W' hb) (by omega) (fun x hx => ⟨⟨by have := hxs x hx; omega, (hok x hx).2⟩, by have := hxs x hx; omega⟩) (by omega)
    have HCK : Hid (Calls Tryz.prog 17 #[.slice ad X.length cap] w1 fun e w' => ∃ u, e = .returned u ∧ ErrIs w' ea u (checkL X) ∧ Below w1.heap.size w1 w') := check_any _ X w1 ea (HE.out w1 hb1) (HN.out w1 hb1) (by omega) (fun x hx => ⟨by have := hxs x hx; omega, (hok x hx).2⟩)
    go_wp2_with fail
    refine Calls.mono HCK.out ?_
    rintro e w2 ⟨u, rfl, hu, hb2⟩
    have hbw2 := hb1.trans (hb2.mono hb1.size)
    clear HCK hb2
    by_cases hf : checkL X = .fine
    · rw [hf] at hu
      obtain rfl : u = .nilIface := hu
      have hpl := print_len X hf
      have hpL : printL X = printG beginL X 0 [] := by unfold printL; rw [(fineB_iff _).2 hf, Bool.true_or, if_pos rfl]
      rw [← hpL] at hpl
      obtain ⟨s, hs0⟩ : ∃ s : ByteArray, (⟨(printL X).toArray⟩ : ByteArray) = s := ⟨_, rfl⟩
      have hs : s.data.toList = printL X := by rw [← hs0]
      have hsz : s.size + 1 ≤ 21 * X.length + 3 * sumS X := by rw [← len_size, hs]; exact hpl
      have hs1 : 1 ≤ s.size := by
        rw [← len_size, hs, print_text X hf]
        obtain ⟨t, ht⟩ := text_head 30 X (seg_of_fine X hf).1
        rw [ht]
        simp
      have HPA : Hid (∀ W', Below W.heap.size W W' → Calls Tryz.prog 15 #[.slice ad X.length cap] W' fun e w' => e = .returned (.string s) ∧ Below W'.heap.size W' w') := fun W' hb => by
        have := HPA.out W' hb
        rw [← hs0]
        exact this
      have HS : Hid (s.data.toList = printL X) := hs
      clear hpL hpl hs0 hs
      go_wp2_with fail
      refine Calls.mono (HPA.out _ hbw2) ?_
      rintro e w3 ⟨rfl, hb3⟩
      have hbw3 := hbw2.trans (hb3.mono hbw2.size)
      clear hb3 HPA
      have ht0 : -(s.size : Int) < a0.tmod s.size := Int.lt_tmod_of_pos _ (by omega)
      have ht1 : a0.tmod s.size < s.size := Int.tmod_lt_of_pos _ (by omega)
      have hne0 : ¬ ((s.size : Int) = 0) := by omega
      have hs3 : s.size ≤ 30000 := by omega
      go_upto_region 6 with fail
      obtain ⟨k, hke, hk⟩ : ∃ k : Nat, (a0.tmod s.size + s.size) % (s.size : Int) = k ∧ k < s.size := by
        have e0 : 0 ≤ (a0.tmod s.size + s.size) % (s.size : Int) := Int.emod_nonneg _ (by omega)
        have e1 : (a0.tmod s.size + s.size) % (s.size : Int) < s.size := Int.emod_lt_of_pos _ (by omega)
        exact ⟨((a0.tmod s.size + s.size) % (s.size : Int)).toNat, by omega, by omega⟩
      rw [hke]
      clear hke
      generalize a0.tmod s.size = ra at *
      have HC1 : Hid (∀ W', Below W.heap.size W W' → Calls Tryz.prog 18 #[.string (s.extract 0 k)] W' fun e w' => ∃ q, e = .returned (.tuple #[.slice none 0 0, .iface 79 (.pointer (some ⟨q, 0, none⟩))]) ∧ Cel w' q 81 #[.int .i64 (k : Nat), errV (ea 4)] ∧ Below W'.heap.size W' w') := fun W' hb => parse_cut (HK.out _ hb) ea (HE.out _ hb) X hf s HS.out (by omega) k hk
      have HC2 : Hid (∀ W', Below W.heap.size W W' → Calls Tryz.prog 18 #[.string (s ++ ⟨#[c]⟩)] W' fun e w' => ∃ q, e = .returned (.tuple #[.slice none 0 0, .iface 79 (.pointer (some ⟨q, 0, none⟩))]) ∧ Cel w' q 81 #[.int .i64 (s.size : Nat), errV (ea 5)] ∧ Below W'.heap.size W' w') := fun W' hb => parse_more (HK.out _ hb) ea (HE.out _ hb) X hf s HS.out (by omega) c
      go_wp2_with fail
      refine Calls.mono (HC1.out _ hbw3) ?_
      rintro e w4 ⟨q1, rfl, hq1, hb4⟩
      have hbw4 := hbw3.trans (hb4.mono hbw3.size)
      clear hb4 HC1
      have HQ1 : Hid (∀ W', Below w4.heap.size w4 W' → Cel W' q1 81 #[.int .i64 (k : Nat), errV (ea 4)]) := fun W' hb => Cel.below hq1 hb hq1.lt
      have hcv := conv_at (w4.alloc (.cells #[.int .u8 (c.toNat : Int)] 5)) w4.heap.size c (by simp [go_sem])
      have hbn4 := below_new w4 (.cells #[.int .u8 (c.toNat : Int)] 5)
      have hbw4n := hbw4.trans (hbn4.mono hbw4.size)
      clear hq1
      go_wp2_with fail
      refine Calls.mono (HC2.out _ hbw4n) ?_
      rintro e w5 ⟨q2, rfl, hq2, hb5⟩
      have hbw5 := hbw4n.trans (hb5.mono hbw4n.size)
      have hb45 := hbn4.trans (hb5.mono hbn4.size)
      clear hb5 HC2 hcv hbn4 hbw4n
      have HQ2 : Hid (∀ W', Below w5.heap.size w5 W' → Cel W' q2 81 #[.int .i64 (s.size : Nat), errV (ea 5)]) := fun W' hb => Cel.below hq2 hb hq2.lt
      clear hq2
      go_wp2_with fail
      refine Calls.mono (placed_any 109 k (by omega) _) ?_
      rintro e w6 ⟨fb6, rfl, hfb6, hfl6, hb6⟩
      have hbw6 := hbw5.trans (hb6.mono hbw5.size)
      have hb46 := hb45.trans (hb6.mono hb45.size)
      have HS6 : Hid (Calls Tryz.prog 21 #[.iface 79 (.pointer (some ⟨q1, 0, none⟩)), .agg #[.int .i64 109, .slice (some ⟨fb6, 0, none⟩) 1 1]] w6 fun e w' => e = .returned (.bool true) ∧ Below w6.heap.size w6 w') := same_any w6 ea (HE.out _ hbw6) 8 (by omega) (ea 4) rfl q1 k (HQ1.out _ hb46) fb6 hfb6 109 rfl
      clear hfb6 hfl6 HQ1 hb46
      go_wp2_with fail
      refine Calls.mono HS6.out ?_
      rintro e w7 ⟨rfl, hb7⟩
      have hbw7 := hbw6.trans (hb7.mono hbw6.size)
      have hb57 := hb6.trans (hb7.mono hb6.size)
      clear hb7 HS6 hb6
      go_wp2_with fail
      refine Calls.mono (placed_any 108 s.size (by omega) _) ?_
      rintro e w8 ⟨fb8, rfl, hfb8, hfl8, hb8⟩
      have hbw8 := hbw7.trans (hb8.mono hbw7.size)
      have hb58 := hb57.trans (hb8.mono hb57.size)
      have HS8 : Hid (Calls Tryz.prog 21 #[.iface 79 (.pointer (some ⟨q2, 0, none⟩)), .agg #[.int .i64 108, .slice (some ⟨fb8, 0, none⟩) 1 1]] w8 fun e w' => e = .returned (.bool true) ∧ Below w8.heap.size w8 w') := same_any w8 ea (HE.out _ hbw8) 7 (by omega) (ea 5) rfl q2 s.size (HQ2.out _ hb58) fb8 hfb8 108 rfl
      clear hfb8 hfl8 HQ2 hb58 hb8
      go_wp2_with fail
      refine Calls.mono HS8.out ?_
      rintro e w9 ⟨rfl, hb9⟩
      have hbw9 := hbw8.trans (hb9.mono hbw8.size)
      clear hb9 HS8
      cases hsc : (((s[k]'hk).toNat : Int) == (c.toNat : Int)) with
      | true =>
        go_wp2_with fail
        go_ret
        exact ⟨rfl, hbw9⟩
      | false =>
        obtain ⟨B, hB⟩ : ∃ B, s.extract 0 k ++ (⟨#[c]⟩ : ByteArray) ++ s.extract (k + 1) s.size = B := ⟨_, rfl⟩
        obtain ⟨t1, t2, t3⟩ := turned X hf s HS.out k hk c B hB.symm
        have hne : s.data.toList[k]? ≠ some c := by
          rw [s_get s k hk]
          intro e
          have e := Option.some.inj e
          rw [e] at hsc
          simp at hsc
        have HB : Hid (s.extract 0 k ++ (⟨#[c]⟩ : ByteArray) ++ s.extract (k + 1) s.size = B) := hB
        have T3 : Hid (B.data.toList[k]? = some c ∧ s.data.toList[k]? ≠ some c) := ⟨t3, hne⟩
        have T1 : Hid (k ≤ readAt B) := t1
        have T2 : Hid (B.size = s.size) := t2
        clear hB t1 t2 t3 hne
        have hcv := conv_at (w9.alloc (.cells #[.int .u8 (c.toNat : Int)] 5)).drew w9.heap.size c (by simp [go_sem])
        have hbn9 : Below w9.heap.size w9 (w9.alloc (.cells #[.int .u8 (c.toNat : Int)] 5)).drew := ((Below.refl _ w9).alloc (Nat.le_refl _) _).drew
        have hbw9n := hbw9.trans (hbn9.mono hbw9.size)
        clear hbn9
        have hz1 : (s.extract 0 k).size = k := (cut_off X hf s HS.out k hk).2.2
        by_cases hr : readOk B = true ∧ checkL (readN B) = .fine
        · obtain ⟨hr1, hr2⟩ := hr
          have HPB : Hid (∀ W', Below W.heap.size W W' → Calls Tryz.prog 18 #[.string B] W' fun e w' => ∃ ad' cap', e = .returned (.tuple #[.slice ad' (readN B).length cap', .nilIface]) ∧ Calls Tryz.prog 19 #[.slice ad' (readN B).length cap', .slice ad X.length cap] w' (fun e2 w2 => e2 = .returned (.bool false) ∧ Below w'.heap.size w' w2) ∧ Below W'.heap.size W' w') := fun W' hb => by
            refine (parse_yes (HK.out _ hb) ea (HE.out _ hb) B (by rw [T2.out]; omega) hr1 hr2).mono ?_
            rintro e w' ⟨v', rfl, ho, hb'⟩
            have hn' : NdAt w' v' (readN B) := NdAt.owned ho
            have hsm := sameNodes_any v' (.slice ad X.length cap) (readN B) X w' hn' (HN.out _ (hb.trans (hb'.mono hb.size))) (by have := readN_len B; omega)
            rw [sameNs_false (other_text X s HS.out k c B T3.out.1 T3.out.2 hr1 hr2)] at hsm
            obtain ⟨ad', cap', rfl⟩ := hn'.form
            exact ⟨ad', cap', rfl, hsm, hb'⟩
          generalize (readN B).length = LB at *
          go_upto_region 12 with fail
          refine wp_region_any (by kernel_rfl) ?_
          try (change wpAny _ _ _ _ _ _ _ (World.drew _))
          refine wpAny_take (i := 0) (v := .string s) rfl (by kernel_rfl) (by kernel_rfl) (by kernel_rfl) (fun _ _ _ h => h) (Or.inl ⟨by rfl, by intro wz; go_simp⟩) ?_
          try simp only [Act.put, List.getElem_toArray, List.getElem_cons_zero, List.setIfInBounds_toArray, List.set_cons_zero, List.set_cons_succ]
          refine wpAny_take (i := 1) (v := .int .i64 (k : Int)) rfl (by kernel_rfl) (by kernel_rfl) (by kernel_rfl) (fun _ _ _ h => h) (Or.inl ⟨by rfl, by intro wz; go_simp⟩) ?_
          try simp only [Act.put, List.getElem_toArray, List.getElem_cons_succ, List.getElem_cons_zero, List.setIfInBounds_toArray, List.set_cons_zero, List.set_cons_succ]
          refine wpAny_take (i := 2) (v := .string (s.extract 0 k)) rfl (by kernel_rfl) (by kernel_rfl) (by kernel_rfl) (fun _ _ _ h => h) (Or.inl ⟨by rfl, by intro wz; go_simp; intro h; omega⟩) ?_
          try simp only [Act.put, List.getElem_toArray, List.getElem_cons_succ, List.getElem_cons_zero, List.setIfInBounds_toArray, List.set_cons_zero, List.set_cons_succ]
          refine wpAny_take (i := 3) (v := .int .u8 (c.toNat : Int)) rfl (by kernel_rfl) (by kernel_rfl) (by kernel_rfl) (fun _ _ _ h => h) (Or.inl ⟨by rfl, by intro wz; go_simp⟩) ?_
          try simp only [Act.put, List.getElem_toArray, List.getElem_cons_succ, List.getElem_cons_zero, List.setIfInBounds_toArray, List.set_cons_zero, List.set_cons_succ]
          refine wpAny_take (i := 7) (v := .string s) rfl (by kernel_rfl) (by kernel_rfl) (by kernel_rfl) (fun _ _ _ h => h) (Or.inl ⟨by rfl, by intro wz; go_simp⟩) ?_
          try simp only [Act.put, List.getElem_toArray, List.getElem_cons_succ, List.getElem_cons_zero, List.setIfInBounds_toArray, List.set_cons_zero, List.set_cons_succ]
          refine wpAny_take (i := 8) (v := .int .i64 (k : Int)) rfl (by kernel_rfl) (by kernel_rfl) (by kernel_rfl) (fun _ _ _ h => h) (Or.inl ⟨by rfl, by intro wz; go_simp⟩) ?_
          try simp only [Act.put, List.getElem_toArray, List.getElem_cons_succ, List.getElem_cons_zero, List.setIfInBounds_toArray, List.set_cons_zero, List.set_cons_succ]
          refine wpAny_take (i := 9) (v := .int .i64 ((k : Int) + 1)) rfl (by kernel_rfl) (by kernel_rfl) (by kernel_rfl) (fun _ _ _ h => h) (Or.inl ⟨by rfl, by intro wz; go_simp; rw [IntKind.wrap_i64]; omega⟩) ?_
          try simp only [Act.put, List.getElem_toArray, List.getElem_cons_succ, List.getElem_cons_zero, List.setIfInBounds_toArray, List.set_cons_zero, List.set_cons_succ]
          refine wpAny_take (i := 10) (v := .string (s.extract (k + 1) s.size)) rfl (by kernel_rfl) (by kernel_rfl) (by kernel_rfl) (fun _ _ _ h => h) (Or.inl ⟨by rfl, by intro wz; go_simp; intro h; exact absurd (h (by omega)) (by omega)⟩) ?_
          try simp only [Act.put, List.getElem_toArray, List.getElem_cons_succ, List.getElem_cons_zero, List.setIfInBounds_toArray, List.set_cons_zero, List.set_cons_succ]
          refine wpAny_ready (rs := [4]) (by kernel_rfl) (by simp) ?_
          refine AllReady.cons rfl (fun K' hK => ?_) AllReady.nil
          go_simp
          refine hK _ _ ?_
          clear hK K'
          try simp only [Act.put, List.getElem_toArray, List.getElem_cons_succ, List.getElem_cons_zero, List.setIfInBounds_toArray, List.set_cons_zero, List.set_cons_succ]
          refine wpAny_ready (rs := [5]) (by kernel_rfl) (by simp) ?_
          refine AllReady.cons rfl (fun K' hK => ?_) AllReady.nil
          go_simp
          refine hK _ _ ?_
          clear hK K'
          try simp only [Act.put, List.getElem_toArray, List.getElem_cons_succ, List.getElem_cons_zero, List.setIfInBounds_toArray, List.set_cons_zero, List.set_cons_succ]
          refine wpAny_take (i := 6) (v := .string (s.extract 0 k ++ ⟨#[c]⟩)) rfl (by kernel_rfl) (by kernel_rfl) (by kernel_rfl) (fun _ _ _ h => h) (Or.inl ⟨by rfl, by intro wz; go_simp; omega⟩) ?_
          try simp only [Act.put, List.getElem_toArray, List.getElem_cons_succ, List.getElem_cons_zero, List.setIfInBounds_toArray, List.set_cons_zero, List.set_cons_succ]
          refine wpAny_take (i := 11) (v := .string B) rfl (by kernel_rfl) (by kernel_rfl) (by kernel_rfl) (fun _ _ _ h => h) (Or.inl ⟨by rfl, by intro wz; go_simp; rw [if_neg (by omega), HB.out]⟩) ?_
          try simp only [Act.put, List.getElem_toArray, List.getElem_cons_succ, List.getElem_cons_zero, List.setIfInBounds_toArray, List.set_cons_zero, List.set_cons_succ]
          refine wpAny_ready (rs := [12]) (by kernel_rfl) (by simp) ?_
          refine AllReady.cons rfl (fun K' hK => ?_) AllReady.nil
          go_simp
          refine (HPB.out _ hbw9n).mono ?_
          rintro e wa ⟨ad', cap', rfl, hsm, hba⟩
          have hbwa := hbw9n.trans (hba.mono hbw9n.size)
          clear hba
          have HSM : Hid (Calls Tryz.prog 19 #[.slice ad' LB cap', .slice ad X.length cap] wa fun e2 w2 => e2 = .returned (.bool false) ∧ Below wa.heap.size wa w2) := hsm
          clear hsm
          refine hK _ _ ?_
          clear hK K'
          try simp only [Act.put, List.getElem_toArray, List.getElem_cons_succ, List.getElem_cons_zero, List.setIfInBounds_toArray, List.set_cons_zero, List.set_cons_succ]
          refine wpAny_take (i := 13) (v := .tuple #[.slice ad' LB cap', .nilIface]) rfl (by kernel_rfl) (by kernel_rfl) (by kernel_rfl) (fun _ _ _ h => h) (Or.inl ⟨by rfl, by intro wz; go_simp⟩) ?_
          try simp only [Act.put, List.getElem_toArray, List.getElem_cons_succ, List.getElem_cons_zero, List.setIfInBounds_toArray, List.set_cons_zero, List.set_cons_succ]
          refine wpAny_take (i := 14) (v := .slice ad' LB cap') rfl (by kernel_rfl) (by kernel_rfl) (by kernel_rfl) (fun _ _ _ h => h) (Or.inl ⟨by rfl, by intro wz; go_simp⟩) ?_
          try simp only [Act.put, List.getElem_toArray, List.getElem_cons_succ, List.getElem_cons_zero, List.setIfInBounds_toArray, List.set_cons_zero, List.set_cons_succ]
          refine wpAny_take (i := 15) (v := .nilIface) rfl (by kernel_rfl) (by kernel_rfl) (by kernel_rfl) (fun _ _ _ h => h) (Or.inl ⟨by rfl, by intro wz; go_simp⟩) ?_
          try simp only [Act.put, List.getElem_toArray, List.getElem_cons_succ, List.getElem_cons_zero, List.setIfInBounds_toArray, List.set_cons_zero, List.set_cons_succ]
          refine wpAny_take (i := 16) (v := .slice ad' LB cap') rfl (by kernel_rfl) (by kernel_rfl) (by kernel_rfl) (fun _ _ _ h => h) (Or.inl ⟨by rfl, by intro wz; go_simp⟩) ?_
          try simp only [Act.put, List.getElem_toArray, List.getElem_cons_succ, List.getElem_cons_zero, List.setIfInBounds_toArray, List.set_cons_zero, List.set_cons_succ]
          refine wpAny_take (i := 17) (v := .nilIface) rfl (by kernel_rfl) (by kernel_rfl) (by kernel_rfl) (fun _ _ _ h => h) (Or.inl ⟨by rfl, by intro wz; go_simp⟩) ?_
          try simp only [Act.put, List.getElem_toArray, List.getElem_cons_succ, List.getElem_cons_zero, List.setIfInBounds_toArray, List.set_cons_zero, List.set_cons_succ]
          refine wpAny_done (by kernel_rfl) ?_ _
          go_wp2_with fail
          refine Calls.mono HSM.out ?_
          rintro e wb ⟨rfl, hbb⟩
          go_wp2_with fail
          go_ret
          exact ⟨rfl, hbwa.trans (hbb.mono hbwa.size)⟩
        · have HPB : Hid (∀ W', Below W.heap.size W W' → Calls Tryz.prog 18 #[.string B] W' fun e w' => ∃ t p, e = .returned (.tuple #[.slice none 0 0, .iface t p]) ∧ Calls Tryz.prog 23 #[.iface t p] w' (fun e2 w2 => FaultIs B w'.heap.size e2 w2 ∧ Below w'.heap.size w' w2) ∧ Below W'.heap.size W' w') := fun W' hb => by
            refine (parse_no (HK.out _ hb) ea (HE.out _ hb) B (by rw [T2.out]; omega) hr).mono ?_
            rintro e w' ⟨u, rfl, hu, hb'⟩
            have hfb := fault_bad w' ea (HE.out _ (hb.trans (hb'.mono hb.size))) B u hu hr
            obtain ⟨t, p, rfl⟩ := bad_some hu hr
            exact ⟨t, p, rfl, hfb, hb'⟩
          clear hr
          go_upto_region 12 with fail
          refine wp_region_any (by kernel_rfl) ?_
          try (change wpAny _ _ _ _ _ _ _ (World.drew _))
          refine wpAny_take (i := 0) (v := .string s) rfl (by kernel_rfl) (by kernel_rfl) (by kernel_rfl) (fun _ _ _ h => h) (Or.inl ⟨by rfl, by intro wz; go_simp⟩) ?_
          try simp only [Act.put, List.getElem_toArray, List.getElem_cons_zero, List.setIfInBounds_toArray, List.set_cons_zero, List.set_cons_succ]
          refine wpAny_take (i := 1) (v := .int .i64 (k : Int)) rfl (by kernel_rfl) (by kernel_rfl) (by kernel_rfl) (fun _ _ _ h => h) (Or.inl ⟨by rfl, by intro wz; go_simp⟩) ?_
          try simp only [Act.put, List.getElem_toArray, List.getElem_cons_succ, List.getElem_cons_zero, List.setIfInBounds_toArray, List.set_cons_zero, List.set_cons_succ]
          refine wpAny_take (i := 2) (v := .string (s.extract 0 k)) rfl (by kernel_rfl) (by kernel_rfl) (by kernel_rfl) (fun _ _ _ h => h) (Or.inl ⟨by rfl, by intro wz; go_simp; intro h; omega⟩) ?_
          try simp only [Act.put, List.getElem_toArray, List.getElem_cons_succ, List.getElem_cons_zero, List.setIfInBounds_toArray, List.set_cons_zero, List.set_cons_succ]
          refine wpAny_take (i := 3) (v := .int .u8 (c.toNat : Int)) rfl (by kernel_rfl) (by kernel_rfl) (by kernel_rfl) (fun _ _ _ h => h) (Or.inl ⟨by rfl, by intro wz; go_simp⟩) ?_
          try simp only [Act.put, List.getElem_toArray, List.getElem_cons_succ, List.getElem_cons_zero, List.setIfInBounds_toArray, List.set_cons_zero, List.set_cons_succ]
          refine wpAny_take (i := 7) (v := .string s) rfl (by kernel_rfl) (by kernel_rfl) (by kernel_rfl) (fun _ _ _ h => h) (Or.inl ⟨by rfl, by intro wz; go_simp⟩) ?_
          try simp only [Act.put, List.getElem_toArray, List.getElem_cons_succ, List.getElem_cons_zero, List.setIfInBounds_toArray, List.set_cons_zero, List.set_cons_succ]
          refine wpAny_take (i := 8) (v := .int .i64 (k : Int)) rfl (by kernel_rfl) (by kernel_rfl) (by kernel_rfl) (fun _ _ _ h => h) (Or.inl ⟨by rfl, by intro wz; go_simp⟩) ?_
          try simp only [Act.put, List.getElem_toArray, List.getElem_cons_succ, List.getElem_cons_zero, List.setIfInBounds_toArray, List.set_cons_zero, List.set_cons_succ]
          refine wpAny_take (i := 9) (v := .int .i64 ((k : Int) + 1)) rfl (by kernel_rfl) (by kernel_rfl) (by kernel_rfl) (fun _ _ _ h => h) (Or.inl ⟨by rfl, by intro wz; go_simp; rw [IntKind.wrap_i64]; omega⟩) ?_
          try simp only [Act.put, List.getElem_toArray, List.getElem_cons_succ, List.getElem_cons_zero, List.setIfInBounds_toArray, List.set_cons_zero, List.set_cons_succ]
          refine wpAny_take (i := 10) (v := .string (s.extract (k + 1) s.size)) rfl (by kernel_rfl) (by kernel_rfl) (by kernel_rfl) (fun _ _ _ h => h) (Or.inl ⟨by rfl, by intro wz; go_simp; intro h; exact absurd (h (by omega)) (by omega)⟩) ?_
          try simp only [Act.put, List.getElem_toArray, List.getElem_cons_succ, List.getElem_cons_zero, List.setIfInBounds_toArray, List.set_cons_zero, List.set_cons_succ]
          refine wpAny_ready (rs := [4]) (by kernel_rfl) (by simp) ?_
          refine AllReady.cons rfl (fun K' hK => ?_) AllReady.nil
          go_simp
          refine hK _ _ ?_
          clear hK K'
          try simp only [Act.put, List.getElem_toArray, List.getElem_cons_succ, List.getElem_cons_zero, List.setIfInBounds_toArray, List.set_cons_zero, List.set_cons_succ]
          refine wpAny_ready (rs := [5]) (by kernel_rfl) (by simp) ?_
          refine AllReady.cons rfl (fun K' hK => ?_) AllReady.nil
          go_simp
          refine hK _ _ ?_
          clear hK K'
          try simp only [Act.put, List.getElem_toArray, List.getElem_cons_succ, List.getElem_cons_zero, List.setIfInBounds_toArray, List.set_cons_zero, List.set_cons_succ]
          refine wpAny_take (i := 6) (v := .string (s.extract 0 k ++ ⟨#[c]⟩)) rfl (by kernel_rfl) (by kernel_rfl) (by kernel_rfl) (fun _ _ _ h => h) (Or.inl ⟨by rfl, by intro wz; go_simp; omega⟩) ?_
          try simp only [Act.put, List.getElem_toArray, List.getElem_cons_succ, List.getElem_cons_zero, List.setIfInBounds_toArray, List.set_cons_zero, List.set_cons_succ]
          refine wpAny_take (i := 11) (v := .string B) rfl (by kernel_rfl) (by kernel_rfl) (by kernel_rfl) (fun _ _ _ h => h) (Or.inl ⟨by rfl, by intro wz; go_simp; rw [if_neg (by omega), HB.out]⟩) ?_
          try simp only [Act.put, List.getElem_toArray, List.getElem_cons_succ, List.getElem_cons_zero, List.setIfInBounds_toArray, List.set_cons_zero, List.set_cons_succ]
          refine wpAny_ready (rs := [12]) (by kernel_rfl) (by simp) ?_
          refine AllReady.cons rfl (fun K' hK => ?_) AllReady.nil
          go_simp
          refine (HPB.out _ hbw9n).mono ?_
          rintro e wa ⟨tt, pp, rfl, hsm, hba⟩
          have hbwa := hbw9n.trans (hba.mono hbw9n.size)
          clear hba
          have HSM : Hid (Calls Tryz.prog 23 #[.iface tt pp] wa fun e2 w2 => FaultIs B wa.heap.size e2 w2 ∧ Below wa.heap.size wa w2) := hsm
          clear hsm
          refine hK _ _ ?_
          clear hK K'
          try simp only [Act.put, List.getElem_toArray, List.getElem_cons_succ, List.getElem_cons_zero, List.setIfInBounds_toArray, List.set_cons_zero, List.set_cons_succ]
          refine wpAny_take (i := 13) (v := .tuple #[.slice none 0 0, .iface tt pp]) rfl (by kernel_rfl) (by kernel_rfl) (by kernel_rfl) (fun _ _ _ h => h) (Or.inl ⟨by rfl, by intro wz; go_simp⟩) ?_
          try simp only [Act.put, List.getElem_toArray, List.getElem_cons_succ, List.getElem_cons_zero, List.setIfInBounds_toArray, List.set_cons_zero, List.set_cons_succ]
          refine wpAny_take (i := 14) (v := .slice none 0 0) rfl (by kernel_rfl) (by kernel_rfl) (by kernel_rfl) (fun _ _ _ h => h) (Or.inl ⟨by rfl, by intro wz; go_simp⟩) ?_
          try simp only [Act.put, List.getElem_toArray, List.getElem_cons_succ, List.getElem_cons_zero, List.setIfInBounds_toArray, List.set_cons_zero, List.set_cons_succ]
          refine wpAny_take (i := 15) (v := .iface tt pp) rfl (by kernel_rfl) (by kernel_rfl) (by kernel_rfl) (fun _ _ _ h => h) (Or.inl ⟨by rfl, by intro wz; go_simp⟩) ?_
          try simp only [Act.put, List.getElem_toArray, List.getElem_cons_succ, List.getElem_cons_zero, List.setIfInBounds_toArray, List.set_cons_zero, List.set_cons_succ]
          refine wpAny_take (i := 16) (v := .slice none 0 0) rfl (by kernel_rfl) (by kernel_rfl) (by kernel_rfl) (fun _ _ _ h => h) (Or.inl ⟨by rfl, by intro wz; go_simp⟩) ?_
          try simp only [Act.put, List.getElem_toArray, List.getElem_cons_succ, List.getElem_cons_zero, List.setIfInBounds_toArray, List.set_cons_zero, List.set_cons_succ]
          refine wpAny_take (i := 17) (v := .iface tt pp) rfl (by kernel_rfl) (by kernel_rfl) (by kernel_rfl) (fun _ _ _ h => h) (Or.inl ⟨by rfl, by intro wz; go_simp⟩) ?_
          try simp only [Act.put, List.getElem_toArray, List.getElem_cons_succ, List.getElem_cons_zero, List.setIfInBounds_toArray, List.set_cons_zero, List.set_cons_succ]
          refine wpAny_done (by kernel_rfl) ?_ _
          go_wp2_with fail
          refine Calls.mono HSM.out ?_
          rintro e wb ⟨hfi, hbb⟩
          have hbwb := hbwa.trans (hbb.mono hbwa.size)
          clear HSM hbb
          rcases hfi with rfl | ⟨cd, pl, fb, rfl, hcel, hfbl, hcd⟩
          · go_wp2_with fail
            go_ret
            exact ⟨rfl, hbwb.alloc hbwb.size _⟩
          · have hcl : wb.cell? ⟨fb, 0, none⟩ = some (.int .i64 pl) := hcel.cell 0
            have hlt' := hcel.lt
            clear hcel
            rcases hcd with ⟨rfl, rfl⟩ | rfl | rfl | rfl
            · have hge : (k : Int) ≤ (readAt B : Nat) := by have := T1.out; omega
              go_wp2_with fail
              go_ret
              exact ⟨rfl, hbwb.alloc hbwb.size _⟩
            all_goals
              go_wp2_with fail
              go_ret
              exact ⟨rfl, hbwb.alloc hbwb.size _⟩
    · obtain ⟨tu, pu, rfl⟩ := err_some hu hf
      clear hu
      go_wp2_with fail
      go_ret
      exact ⟨rfl, hbw2⟩
end Go.Proofs.YtaildeglikhkaaaGreatDoor
/-! The errors' texts are others each. -/
namespace Go.Proofs.YtaildeglikhkaaaGreatDoor
open Go.RowKit

/-- The text of the error in a variable. -/
def textE : Nat → List UInt8
  | 0 => [116, 111, 111, 32, 109, 97, 110, 121]
  | 1 => [110, 111, 32, 112, 114, 111, 103, 114, 97, 109]
  | 2 => [110, 101, 115, 116, 101, 100, 32, 116, 111, 111, 32, 100, 101, 101, 112]
  | 3 => [116, 111, 111, 32, 108, 111, 110, 103]
  | 4 => [105, 116, 32, 101, 110, 100, 115, 32, 116, 111, 111, 32, 101, 97, 114, 108, 121]
  | 5 => [105, 116, 32, 100, 111, 101, 115, 32, 110, 111, 116, 32, 115, 116, 97, 110, 100, 32, 104, 101, 114, 101]
  | 6 => [97, 32, 113, 117, 111, 116, 101, 32, 116, 104, 97, 116, 32, 100, 111, 101, 115, 32, 110, 111, 116, 32, 101, 110, 100]
  | 7 => [97, 32, 98, 114, 97, 99, 107, 101, 116, 32, 116, 104, 97, 116, 32, 100, 111, 101, 115, 32, 110, 111, 116, 32, 101, 110, 100]
  | 8 => [97, 32, 98, 114, 97, 99, 101, 32, 116, 104, 97, 116, 32, 100, 111, 101, 115, 32, 110, 111, 116, 32, 101, 110, 100]
  | 9 => [110, 111, 32, 110, 97, 109, 101]
  | 10 => [110, 111, 32, 116, 111, 107, 101, 110]
  | 11 => [116, 111, 111, 32, 109, 97, 110, 121, 32, 115, 116, 101, 112, 115]
  | 12 => [99, 97, 108, 108, 101, 100, 32, 116, 111, 111, 32, 100, 101, 101, 112]
  | 13 => [116, 111, 111, 32, 98, 105, 103]
  | 14 => [105, 116, 32, 99, 97, 110, 110, 111, 116, 32, 98, 101, 32, 115, 97, 105, 100]
  | 15 => [110, 111, 32, 99, 111, 100, 101]
  | 16 => [110, 111, 32, 115, 117, 99, 104, 32, 110, 117, 109, 98, 101, 114]
  | _ => []
theorem textE_inj : ∀ i, i < 17 → ∀ j, j < 17 → textE i = textE j → i = j := by decide
theorem ers_of {W : World} {ea : Nat → Addr} (h : ∀ i, i < 17 → W.cell? ⟨i + 1, 0, none⟩ = some (errV (ea i)) ∧ (∃ s, W.cell? (ea i) = some (.string s) ∧ s.data.toList = textE i) ∧ ∃ c t, W.heap[(ea i).block]? = some (.cells c t (0, 0))) : Ers W ea := by
  refine ⟨fun i hi => (h i hi).1, fun i j hi hj e => ?_, fun i hi => (h i hi).2.2⟩
  obtain ⟨s, h1, h2⟩ := (h i hi).2.1
  obtain ⟨s', h3, h4⟩ := (h j hj).2.1
  rw [e, h3] at h1
  cases h1
  exact textE_inj i hi j hj (h2.symm.trans h4)
end Go.Proofs.YtaildeglikhkaaaGreatDoor
/-! The names of the kinds lie in the world, out of what the card lays. -/
namespace Go.Proofs.YtaildeglikhkaaaGreatDoor
open Go.RowKit Go.Lib
/-- A row's data: these texts. -/
def namesData {H : Type} (L : List (List UInt8)) : DataW H := .agg (L.map fun l => .lit (.string l))
theorem cells_of_names {H : Type} {enc : TypeId × Value → H} {P : Program} {w : World} {base : Nat} {sp : Nat → Bool} {held : Bool} {fuel : Nat} {t e : TypeId} {n : Nat} {cs : List Value} {zs : List (List UInt8)} {p : List MemPlace}
    (ht : P.underlying t = some (.array n e)) (he : P.underlying e = some .string) (hce : P.cellsOf e = 1) (hct : P.cellsOf t = n)
    (h : DataW.trod enc P w base sp held fuel t cs = some (namesData zs, p)) : cs = zs.map str := by
  cases fuel with
  | zero => simp [DataW.trod] at h
  | succ fuel =>
    simp only [DataW.trod, ht, hce, hct, Nat.mul_one] at h
    split at h
    · rename_i hl
      obtain ⟨xs, hm, hx⟩ := Option.map_eq_some_iff.1 h
      have hxs : xs.map (·.1) = zs.map fun z => (DataW.lit (.string z) : DataW H) := by
        have := congrArg Prod.fst hx
        simpa [namesData] using this
      have hxl : xs.length = n := by simpa using mapM_length hm
      have hzl : zs.length = n := by
        have := congrArg List.length hxs
        simp at this
        omega
      apply List.ext_getElem?
      intro i
      by_cases hi : i < n
      · obtain ⟨b, hb, hf⟩ := mapM_at hm i i (by simp [hi])
        obtain ⟨z, hc, hz, _⟩ := DataW.trod_string he hf
        have h1 : cs[i]? = some (.string z) := by
          have := congrArg (·[0]?) hc
          simpa [List.getElem?_take, List.getElem?_drop] using this
        have h2 : (xs.map (·.1))[i]? = some b.1 := by simp [hb]
        rw [hxs] at h2
        rw [hz] at h2
        simp only [List.getElem?_map, Option.map_eq_some_iff, DataW.lit.injEq, Lit.string.injEq] at h2
        obtain ⟨z', hz', e'⟩ := h2
        rw [h1, List.getElem?_map, hz', e']
        rfl
      · rw [List.getElem?_eq_none (by omega), List.getElem?_eq_none (by simp; omega)]
    · cases h
theorem gKn : Tryz.prog.globalNamed "patois/spell.kindNames" = some 0 := by kernel_rfl
theorem tKn : (Tryz.prog.globals[0]?).map (·.type) = some 60 := by kernel_rfl
theorem uKn : Tryz.prog.underlying 60 = some (.array 38 9) := by kernel_rfl
theorem uS : Tryz.prog.underlying 9 = some .string := by kernel_rfl
theorem cKn : Tryz.prog.cellsOf 60 = 38 := by kernel_rfl
theorem cS : Tryz.prog.cellsOf 9 = 1 := by kernel_rfl
theorem dKn : (Rows.laid_patois_spell_kindNames : DataW Unit) = namesData kindL := by kernel_rfl
theorem kn_of_head {W : World} {rest : List (String × DataW Unit)} (h : laidMet Tryz.prog (("patois/spell.kindNames", namesData kindL) :: rest) W) : KnAt W := by
  obtain ⟨ps, ⟨g', t', cs, fuel, p, q, hg', ht', hvar, hd, _, _⟩, _⟩ := h
  obtain rfl := Option.some.inj (gKn.symm.trans hg')
  obtain rfl := Option.some.inj (tKn.symm.trans ht')
  have hcs := cells_of_names uKn uS cS cKn hd
  unfold World.var? at hvar
  rw [gKn] at hvar
  simp only [Option.bind_some] at hvar
  cases hh : W.heap[0]? with
  | none => rw [hh] at hvar; cases hvar
  | some o =>
    rw [hh] at hvar
    cases o with
    | cells c t fr =>
      have e1 : c = cs := by simpa using hvar
      have e2 : cs = kindA := by
        apply Array.toList_inj.1
        rw [hcs, kindA_list]
      exact ⟨t, fr, by rw [hh, e1, e2]⟩
    | _ => cases hvar
end Go.Proofs.YtaildeglikhkaaaGreatDoor
namespace Go.Proofs.YtaildeglikhkaaaGreatDoor.cardSpellCut
open Go.ChangeShapes Go.WideShapes Go.ChangeAt Go.WideMaps Go.WideElems Go.RowKit
open Go.ChangeMaps (open_string shut_string)

theorem own : ownKnob Tryz.prog.godebug = none := by kernel_rfl
theorem g3 : Tryz.prog.globalNamed (Rows.spellCutRow.named.getD 0 default) = some 4 := by kernel_rfl
theorem t3 : (Tryz.prog.globals[4]?).map (·.type) = some 36 := by kernel_rfl
theorem g2 : Tryz.prog.globalNamed (Rows.spellCutRow.named.getD 6 default) = some 3 := by kernel_rfl
theorem t2 : (Tryz.prog.globals[3]?).map (·.type) = some 36 := by kernel_rfl
theorem g6 : Tryz.prog.globalNamed (Rows.spellCutRow.named.getD 12 default) = some 7 := by kernel_rfl
theorem t6 : (Tryz.prog.globals[7]?).map (·.type) = some 36 := by kernel_rfl
theorem g7 : Tryz.prog.globalNamed (Rows.spellCutRow.named.getD 13 default) = some 8 := by kernel_rfl
theorem t7 : (Tryz.prog.globals[8]?).map (·.type) = some 36 := by kernel_rfl
theorem g8 : Tryz.prog.globalNamed (Rows.spellCutRow.named.getD 14 default) = some 9 := by kernel_rfl
theorem t8 : (Tryz.prog.globals[9]?).map (·.type) = some 36 := by kernel_rfl
theorem g9 : Tryz.prog.globalNamed (Rows.spellCutRow.named.getD 15 default) = some 10 := by kernel_rfl
theorem t9 : (Tryz.prog.globals[10]?).map (·.type) = some 36 := by kernel_rfl
theorem g10 : Tryz.prog.globalNamed (Rows.spellCutRow.named.getD 16 default) = some 11 := by kernel_rfl
theorem t10 : (Tryz.prog.globals[11]?).map (·.type) = some 36 := by kernel_rfl
theorem g5 : Tryz.prog.globalNamed (Rows.spellCutRow.named.getD 3 default) = some 6 := by kernel_rfl
theorem t5 : (Tryz.prog.globals[6]?).map (·.type) = some 36 := by kernel_rfl
theorem g4 : Tryz.prog.globalNamed (Rows.spellCutRow.named.getD 2 default) = some 5 := by kernel_rfl
theorem t4 : (Tryz.prog.globals[5]?).map (·.type) = some 36 := by kernel_rfl
theorem g1 : Tryz.prog.globalNamed (Rows.spellCutRow.named.getD 5 default) = some 2 := by kernel_rfl
theorem t1 : (Tryz.prog.globals[2]?).map (·.type) = some 36 := by kernel_rfl
theorem g0 : Tryz.prog.globalNamed (Rows.spellCutRow.named.getD 4 default) = some 1 := by kernel_rfl
theorem t0 : (Tryz.prog.globals[1]?).map (·.type) = some 36 := by kernel_rfl
theorem g11 : Tryz.prog.globalNamed (Rows.spellCutRow.named.getD 17 default) = some 12 := by kernel_rfl
theorem t11 : (Tryz.prog.globals[12]?).map (·.type) = some 36 := by kernel_rfl
theorem g12 : Tryz.prog.globalNamed (Rows.spellCutRow.named.getD 18 default) = some 13 := by kernel_rfl
theorem t12 : (Tryz.prog.globals[13]?).map (·.type) = some 36 := by kernel_rfl
theorem g13 : Tryz.prog.globalNamed (Rows.spellCutRow.named.getD 19 default) = some 14 := by kernel_rfl
theorem t13 : (Tryz.prog.globals[14]?).map (·.type) = some 36 := by kernel_rfl
theorem g14 : Tryz.prog.globalNamed (Rows.spellCutRow.named.getD 20 default) = some 15 := by kernel_rfl
theorem t14 : (Tryz.prog.globals[15]?).map (·.type) = some 36 := by kernel_rfl
theorem g15 : Tryz.prog.globalNamed (Rows.spellCutRow.named.getD 21 default) = some 16 := by kernel_rfl
theorem t15 : (Tryz.prog.globals[16]?).map (·.type) = some 36 := by kernel_rfl
theorem g16 : Tryz.prog.globalNamed (Rows.spellCutRow.named.getD 22 default) = some 17 := by kernel_rfl
theorem t16 : (Tryz.prog.globals[17]?).map (·.type) = some 36 := by kernel_rfl
theorem star : "*" ++ "errors.errorString" = "*errors.errorString" := by decide
theorem rowErr (u : TypeId) (h : Tryz.prog.typeName? 3 u = some "*errors.errorString") : u = 162 :=
  typeName_ptr_named (nm := "errors.errorString") (by rw [star]; kernel_rfl) (by kernel_rfl) (by decide) u (by rw [star]; exact h)
theorem c125 : Tryz.prog.cellsOf 176 = 1 := by kernel_rfl
theorem cell9 : Tryz.prog.cellsOf 9 = 1 := by kernel_rfl
/-- What the row's list gives: the sentinels are pointers, others each. -/
theorem err_of {W : World} (h : laidMetH Tryz.prog Rows.spellCutRow.laid W) : ∃ ea, Ers W ea := by
  rw [MakeChecks.laidMetH_plain _ _ _ (by kernel_rfl)] at h
  obtain ⟨a3, a2, s3, s2, c3, c2, u3, u2, v3, v2, x3, y3, _, x2, y2, _, _, z3, z2⟩ := laid_sentinels2 ((laidMet.tail (laidMet.tail (laidMet.tail (laidMet.tail h))))) g3 t3 g2 t2 Tryz.underlying36 rowErr Tryz.underlying162 Tryz.underlying176 rfl rfl Tryz.underlying9 c125 cell9
  obtain ⟨a6, a7, s6, s7, c6, c7, u6, u7, v6, v7, x6, y6, _, x7, y7, _, _, z6, z7⟩ := laid_sentinels2 ((laidMet.tail (laidMet.tail (laidMet.tail (laidMet.tail (laidMet.tail (laidMet.tail h))))))) g6 t6 g7 t7 Tryz.underlying36 rowErr Tryz.underlying162 Tryz.underlying176 rfl rfl Tryz.underlying9 c125 cell9
  obtain ⟨a8, a9, s8, s9, c8, c9, u8, u9, v8, v9, x8, y8, _, x9, y9, _, _, z8, z9⟩ := laid_sentinels2 ((laidMet.tail (laidMet.tail (laidMet.tail (laidMet.tail (laidMet.tail (laidMet.tail (laidMet.tail (laidMet.tail h))))))))) g8 t8 g9 t9 Tryz.underlying36 rowErr Tryz.underlying162 Tryz.underlying176 rfl rfl Tryz.underlying9 c125 cell9
  obtain ⟨a10, a5, s10, s5, c10, c5, u10, u5, v10, v5, x10, y10, _, x5, y5, _, _, z10, z5⟩ := laid_sentinels2 ((laidMet.tail (laidMet.tail (laidMet.tail (laidMet.tail (laidMet.tail (laidMet.tail (laidMet.tail (laidMet.tail (laidMet.tail (laidMet.tail h))))))))))) g10 t10 g5 t5 Tryz.underlying36 rowErr Tryz.underlying162 Tryz.underlying176 rfl rfl Tryz.underlying9 c125 cell9
  obtain ⟨a4, a1, s4, s1, c4, c1, u4, u1, v4, v1, x4, y4, _, x1, y1, _, _, z4, z1⟩ := laid_sentinels2 ((laidMet.tail (laidMet.tail (laidMet.tail (laidMet.tail (laidMet.tail (laidMet.tail (laidMet.tail (laidMet.tail (laidMet.tail (laidMet.tail (laidMet.tail (laidMet.tail h))))))))))))) g4 t4 g1 t1 Tryz.underlying36 rowErr Tryz.underlying162 Tryz.underlying176 rfl rfl Tryz.underlying9 c125 cell9
  obtain ⟨a0, a11, s0, s11, c0, c11, u0, u11, v0, v11, x0, y0, _, x11, y11, _, _, z0, z11⟩ := laid_sentinels2 ((laidMet.tail (laidMet.tail (laidMet.tail (laidMet.tail (laidMet.tail (laidMet.tail (laidMet.tail (laidMet.tail (laidMet.tail (laidMet.tail (laidMet.tail (laidMet.tail (laidMet.tail (laidMet.tail h))))))))))))))) g0 t0 g11 t11 Tryz.underlying36 rowErr Tryz.underlying162 Tryz.underlying176 rfl rfl Tryz.underlying9 c125 cell9
  obtain ⟨a12, a13, s12, s13, c12, c13, u12, u13, v12, v13, x12, y12, _, x13, y13, _, _, z12, z13⟩ := laid_sentinels2 ((laidMet.tail (laidMet.tail (laidMet.tail (laidMet.tail (laidMet.tail (laidMet.tail (laidMet.tail (laidMet.tail (laidMet.tail (laidMet.tail (laidMet.tail (laidMet.tail (laidMet.tail (laidMet.tail (laidMet.tail (laidMet.tail h))))))))))))))))) g12 t12 g13 t13 Tryz.underlying36 rowErr Tryz.underlying162 Tryz.underlying176 rfl rfl Tryz.underlying9 c125 cell9
  obtain ⟨a14, a15, s14, s15, c14, c15, u14, u15, v14, v15, x14, y14, _, x15, y15, _, _, z14, z15⟩ := laid_sentinels2 ((laidMet.tail (laidMet.tail (laidMet.tail (laidMet.tail (laidMet.tail (laidMet.tail (laidMet.tail (laidMet.tail (laidMet.tail (laidMet.tail (laidMet.tail (laidMet.tail (laidMet.tail (laidMet.tail (laidMet.tail (laidMet.tail (laidMet.tail (laidMet.tail h))))))))))))))))))) g14 t14 g15 t15 Tryz.underlying36 rowErr Tryz.underlying162 Tryz.underlying176 rfl rfl Tryz.underlying9 c125 cell9
  obtain ⟨_, a16, _, s16, _, c16, _, u16, _, v16, _, _, _, x16, y16, _, _, _, z16⟩ := laid_sentinels2 ((laidMet.tail (laidMet.tail (laidMet.tail (laidMet.tail (laidMet.tail (laidMet.tail (laidMet.tail (laidMet.tail (laidMet.tail (laidMet.tail (laidMet.tail (laidMet.tail (laidMet.tail (laidMet.tail (laidMet.tail (laidMet.tail (laidMet.tail (laidMet.tail (laidMet.tail h)))))))))))))))))))) g15 t15 g16 t16 Tryz.underlying36 rowErr Tryz.underlying162 Tryz.underlying176 rfl rfl Tryz.underlying9 c125 cell9
  refine ⟨fun i => match i with | 0 => a0 | 1 => a1 | 2 => a2 | 3 => a3 | 4 => a4 | 5 => a5 | 6 => a6 | 7 => a7 | 8 => a8 | 9 => a9 | 10 => a10 | 11 => a11 | 12 => a12 | 13 => a13 | 14 => a14 | 15 => a15 | _ => a16, ers_of fun i hi => ?_⟩
  match i, hi with
  | 0, _ => exact ⟨by simpa using World.var?_cell g0 v0 0, ⟨s0, x0, y0⟩, c0, u0, z0⟩
  | 1, _ => exact ⟨by simpa using World.var?_cell g1 v1 0, ⟨s1, x1, y1⟩, c1, u1, z1⟩
  | 2, _ => exact ⟨by simpa using World.var?_cell g2 v2 0, ⟨s2, x2, y2⟩, c2, u2, z2⟩
  | 3, _ => exact ⟨by simpa using World.var?_cell g3 v3 0, ⟨s3, x3, y3⟩, c3, u3, z3⟩
  | 4, _ => exact ⟨by simpa using World.var?_cell g4 v4 0, ⟨s4, x4, y4⟩, c4, u4, z4⟩
  | 5, _ => exact ⟨by simpa using World.var?_cell g5 v5 0, ⟨s5, x5, y5⟩, c5, u5, z5⟩
  | 6, _ => exact ⟨by simpa using World.var?_cell g6 v6 0, ⟨s6, x6, y6⟩, c6, u6, z6⟩
  | 7, _ => exact ⟨by simpa using World.var?_cell g7 v7 0, ⟨s7, x7, y7⟩, c7, u7, z7⟩
  | 8, _ => exact ⟨by simpa using World.var?_cell g8 v8 0, ⟨s8, x8, y8⟩, c8, u8, z8⟩
  | 9, _ => exact ⟨by simpa using World.var?_cell g9 v9 0, ⟨s9, x9, y9⟩, c9, u9, z9⟩
  | 10, _ => exact ⟨by simpa using World.var?_cell g10 v10 0, ⟨s10, x10, y10⟩, c10, u10, z10⟩
  | 11, _ => exact ⟨by simpa using World.var?_cell g11 v11 0, ⟨s11, x11, y11⟩, c11, u11, z11⟩
  | 12, _ => exact ⟨by simpa using World.var?_cell g12 v12 0, ⟨s12, x12, y12⟩, c12, u12, z12⟩
  | 13, _ => exact ⟨by simpa using World.var?_cell g13 v13 0, ⟨s13, x13, y13⟩, c13, u13, z13⟩
  | 14, _ => exact ⟨by simpa using World.var?_cell g14 v14 0, ⟨s14, x14, y14⟩, c14, u14, z14⟩
  | 15, _ => exact ⟨by simpa using World.var?_cell g15 v15 0, ⟨s15, x15, y15⟩, c15, u15, z15⟩
  | 16, _ => exact ⟨by simpa using World.var?_cell g16 v16 0, ⟨s16, x16, y16⟩, c16, u16, z16⟩
  | n + 17, h => exact absurd h (by omega)
theorem gPow : Tryz.prog.globalNamed "internal/strconv.uint64pow10" = some 18 := by kernel_rfl
theorem tPow : (Tryz.prog.globals[18]?).map (·.type) = some 148 := by kernel_rfl
theorem cPow : Tryz.prog.cellsOf 148 = 20 := by kernel_rfl
theorem cU : Tryz.prog.cellsOf 138 = 1 := by kernel_rfl
theorem dPow : (Rows.laid_internal_strconv_uint64pow10 : DataW Unit) = Lib.tabData .u64 Lib.pow10Tab := by kernel_rfl
/-- What the row's list gives: the table of powers lies in the world, and stays. -/
theorem pow_of {W : World} (h : laidMetH Tryz.prog Rows.spellCutRow.laid W) : ∀ W', Below W.heap.size W W' → Pow W' := by
  rw [MakeChecks.laidMetH_plain _ _ _ (by kernel_rfl)] at h
  have h2 := laidMet.tail (laidMet.tail h)
  rw [dPow] at h2
  have hp : Pow W := Lib.tabIs_of_head gPow tPow Tryz.underlying148 Tryz.underlying138 cU cPow h2
  have hc := Lib.TabIs.cell hp gPow 0 (by rw [Lib.pow10Tab_length]; omega)
  have h1 : 18 < W.heap.size := World.block_lt_of_cell? W _ hc
  exact fun W' hb => var?_below hb gPow h1 hp
/-- What the row's list gives: the kinds' names lie in the world. -/
theorem kn_of {W : World} (h : laidMetH Tryz.prog Rows.spellCutRow.laid W) : KnAt W := by
  rw [MakeChecks.laidMetH_plain _ _ _ (by kernel_rfl)] at h
  have h2 := (laidMet.tail (laidMet.tail (laidMet.tail (laidMet.tail (laidMet.tail (laidMet.tail (laidMet.tail (laidMet.tail (laidMet.tail (laidMet.tail (laidMet.tail (laidMet.tail (laidMet.tail (laidMet.tail (laidMet.tail (laidMet.tail (laidMet.tail (laidMet.tail (laidMet.tail (laidMet.tail (laidMet.tail h)))))))))))))))))))))
  rw [dKn] at h2
  exact kn_of_head h2


set_option maxRecDepth 100000 in
theorem lifted (os : Os) (started : os.Started) (H : Type) (enc : TypeId × Value → H) :
    ReturnsInHanded {} Tryz.checked os 5 .any (fun w args => (Rows.spellCutSpec.pre enc Tryz.prog Tryz.f5 [] false w args ∧ laidMetH Tryz.prog Rows.spellCutRow.laid w) ∧ sizedMet enc Tryz.prog Tryz.f5 (OpenSpec.ofChange Rows.spellCutSpec) false w args)
      (Rows.spellCutSpec.post enc Tryz.prog Tryz.f5 false true false false) := by
  refine returnsInHanded_of_change_and (C := Tryz.checked) (X := fun w _ => laidMetH Tryz.prog Rows.spellCutRow.laid w) (fun _ _ _ hh h => h.of_heap hh) own started (by kernel_rfl) Tryz.func5
    (ChangeSpec.witness_shaped (enc := enc) (C := Tryz.checked) (os := os) (X := fun w _ => laidMetH Tryz.prog Rows.spellCutRow.laid w) false (World.laidAll Tryz.prog os Rows.spellCutRow.laid) #[.slice none 0 0, .int .i64 0, .int .u8 0] 8 (World.laidAll_os _ _ _) (World.shaped_of_ZipB (by kernel_rfl) (by kernel_rfl)) (by kernel_rfl) (by kernel_rfl) (by kernel_rfl) (by rw [MakeChecks.laidMetH_plain _ _ _ (by kernel_rfl)]; exact laidMet_laidAll _ (by kernel_rfl) (by kernel_rfl))) ?_
  intro W base args ds gs before hval0 hW _ hsz0 hL _
  have hval : ∀ (j : Nat) t v, Tryz.f5.params[j]? = some t → args[j]? = some v → Value.okWide Tryz.prog W .any base t v := hval0
  have hsz : (DataW.weightsEach Tryz.prog (Tryz.f5.params.toList ++ Rows.spellCutSpec.plain.varTypes Tryz.prog) (ds ++ gs)).all (· ≤ reachBytes) = true := hsz0
  have hW' := hW
  obtain ⟨p, q, hA0, hV, rfl, hfz, hnd⟩ := hW
  have hA : DataW.TrodAll enc Tryz.prog W 0 (fun _ => true) true Tryz.f5.params.toList args.toList ds p := hA0
  rw [Tryz.params5] at hA hval hsz
  obtain ⟨v0, vs0, d0, ds0, p0, q0, hargs, rfl, rfl, h0, r0⟩ := trodAll_cons hA
  obtain ⟨v1, vs1, d1, ds1, p1, q1, rfl, rfl, rfl, h1, r1⟩ := trodAll_cons r0
  obtain ⟨v2, vs2, d2, ds2, p2, q2, rfl, rfl, rfl, h2, r2⟩ := trodAll_cons r1
  obtain ⟨rfl, rfl, rfl⟩ := trodAll_nil r2
  obtain rfl : args = #[v0, v1, v2] := by cases args; simp_all
  obtain ⟨rfl, rfl⟩ := trodVars_none hV
  obtain ⟨a0, len0, cap0, rfl⟩ := okWide_slice Tryz.underlying22 (hval 0 22 v0 rfl rfl)
  have k0 := h0
  have lt0 : ∀ x ∈ p0, x.block < W.heap.size := by obtain ⟨m, hm⟩ := k0; exact DataW.trod_lt m _ _ _ hm
  obtain ⟨fuel0, hf0⟩ := h0
  obtain ⟨x0, t0, n0, z0⟩ := open_nd hf0 (fun n hn => by have := List.all_eq_true.1 hsz n (DataW.weights_mem_each (j := 0) rfl rfl n hn); simpa using this)
  obtain ⟨x1, rfl, rfl, rfl, w1⟩ := open_int Tryz.underlying3 (hval 1 3 v1 rfl rfl) h1
  obtain ⟨x2, rfl, rfl, rfl, w2⟩ := open_int Tryz.underlying5 (hval 2 5 v2 rfl rfl) h2
  clear hA0 hval0
  obtain ⟨ea, hE⟩ := err_of hL
  have hK := kn_of hL
  have hP := pow_of hL
  obtain ⟨c, rfl⟩ : ∃ c : UInt8, (c.toNat : Int) = x2 := by
    have h1 : (decide (IntKind.u8.min ≤ x2) && decide (x2 ≤ IntKind.u8.max)) = true := w2
    rw [show IntKind.u8.min = 0 by decide, show IntKind.u8.max = 255 by decide, Bool.and_eq_true] at h1
    have h2 := of_decide_eq_true h1.1
    have h3 := of_decide_eq_true h1.2
    exact ⟨UInt8.ofNat x2.toNat, by rw [UInt8.toNat_ofNat']; omega⟩
  refine (cut_any _ x0 x1 c W ea hE hK hP t0 z0 (fun x hx => ⟨(n0 x hx).s, (n0 x hx).k.2⟩)).mono fun e W' ⟨he, bel⟩ => ?_
  subst he
  exact ⟨_, rfl, _, _, _, [], _, [], hW', trodAll_mk1 (shut_bool Tryz.underlying4 _), (trodAll_cons_mk (Below.trod laidOut3 (by kernel_rfl) (of_decide_eq_true (by kernel_rfl)) k0 bel lt0) (trodAll_cons_mk (shut_int Tryz.underlying3 w1) (trodAll_cons_mk (shut_int Tryz.underlying5 w2) trodAll_mk0))), rfl, bel.frame _, fun h => by cases h⟩

theorem said : Rows.SpellCutSaid :=
  OpenClaim.holds_of_wide 5 Tryz.f5 rfl rfl rfl rfl rfl rfl rfl ⟨rfl, rfl, rfl, rfl, rfl⟩ rfl rfl rfl rfl rfl (by kernel_rfl) Tryz.func5 (by kernel_rfl)
    (of_decide_eq_true (by kernel_rfl)) (by unfold Func.isWrapper; first | (rw [if_pos (by decide +kernel)]; kernel_rfl) | (rw [if_neg (by decide +kernel)]; exact ⟨rfl, rfl⟩))
    (fun os started H enc _ => lifted os started H enc)

theorem plain (f : FuncId) (fn : Func) (hf : Tryz.pinned.checked.prog.funcNamed Rows.spellCutRow.func = some f) (hfn : Tryz.pinned.checked.prog.funcs[f]? = some fn) :
    true = Tryz.pinned.checked.prog.looks [] ∧ ∀ (j : Nat) t, fn.params[j]? = some t → Tryz.pinned.checked.prog.wantsStandIn t = false := by
  obtain rfl : f = 5 := Option.some.inj ((show Tryz.prog.funcNamed Rows.spellCutRow.func = some 5 by kernel_rfl).symm.trans hf) |>.symm
  obtain rfl : fn = Tryz.f5 := (Option.some.inj (Tryz.func5.symm.trans hfn)).symm
  refine ⟨by kernel_rfl, fun j t ht => ?_⟩
  rw [Tryz.params5] at ht
  have hm : t ∈ [22, 3, 5] := by simpa using Array.mem_of_getElem? ht
  have hall : ([22, 3, 5].all fun u => !Tryz.prog.wantsStandIn u) = true := by kernel_rfl
  exact (show Tryz.prog.wantsStandIn t = false by simpa using List.all_eq_true.1 hall t hm)

theorem proved : Rows.SpellCutCardSaid :=
  Claim7.holds_tied_plain_at .later [] _ _ _ _ said (fun _ h => by cases h) (by kernel_rfl) (fun _ h => by cases h) spellCut_row_tie rfl ⟨rfl, rfl⟩ (by kernel_rfl) rfl plain (by kernel_rfl)
end Go.Proofs.YtaildeglikhkaaaGreatDoor.cardSpellCut
namespace Go.Proofs.YtaildeglikhkaaaGreatDoor
theorem spellCut_card : Rows.SpellCutCardSaid := cardSpellCut.proved
#print axioms spellCut_card
end Go.Proofs.YtaildeglikhkaaaGreatDoor
