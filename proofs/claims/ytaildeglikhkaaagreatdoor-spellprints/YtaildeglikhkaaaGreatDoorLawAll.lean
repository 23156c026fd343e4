/- The law SpellPrints, for a document's Check that answers fine only where the program's does. -/
import Derived.Test.YtaildeglikhkaaaGreatDoorFirstSp
import Derived.Test.YtaildeglikhkaaaGreatDoorRPrAll
import Derived.Test.YtaildeglikhkaaaGreatDoorRUnqAll
/-! The law SpellBack. -/
namespace Go.Proofs.YtaildeglikhkaaaGreatDoor
open Go.RowKit
attribute [local go_sem] Oper.semAt_some
theorem readOk_of (s : ByteArray) (l : List Nd) (h : readG s = (true, s.size, l)) : readOk s = true ∧ readN s = l := by
  unfold readOk readN
  rw [h]
  simp
theorem readG_of (s : ByteArray) (h : readOk s = true) : readG s = (true, s.size, readN s) := by
  unfold readOk at h
  unfold readN
  cases hr : readG s with
  | mk a b =>
    obtain ⟨b, c⟩ := b
    rw [hr] at h
    simp only [Bool.and_eq_true, beq_iff_eq] at h
    rw [h.1, h.2]
theorem sumS_mem (X : List Nd) (x : Nd) (h : x ∈ X) : x.s.length ≤ sumS X := by
  induction X with
  | nil => cases h
  | cons y X ih =>
    rw [sumS]
    rcases List.mem_cons.1 h with rfl | h
    · omega
    · have := ih h; omega
theorem light_parts (X : List Nd) (h : lightL X = true) : X.length ≤ 200 ∧ sumS X ≤ 9000 := by
  unfold lightL at h
  simp only [Bool.and_eq_true, decide_eq_true_eq] at h
  refine ⟨h.1, ?_⟩
  have := h.2
  rwa [List.take_of_length_le (by omega)] at this
theorem may_len (x : Nd) (a : Ak) (i : Nat) (h : mayB x a i = true) : x.s.length ≤ 2000 := by
  unfold mayB at h
  simp only [Bool.and_eq_true] at h
  obtain ⟨⟨⟨⟨_, _⟩, h3⟩, _⟩, _⟩ := h
  have hname : ∀ l : Txt, nameB l = true → l.length ≤ 2000 := by
    intro l hl
    cases l with
    | nil => simp
    | cons b l =>
      unfold nameB at hl
      simp only [Bool.and_eq_true, decide_eq_true_eq] at hl
      have := hl.1.1
      omega
  unfold strB at h3
  split at h3
  · simp only [Bool.and_eq_true, decide_eq_true_eq] at h3
    exact h3.1
  · split at h3
    · simp only [Bool.or_eq_true, beq_iff_eq] at h3
      rcases h3 with h3 | h3
      · rw [h3]; decide
      · exact hname _ h3
    · split at h3
      · exact hname _ h3
      · have : x.s = [] := by simpa using h3
        rw [this]; simp
theorem len_go (l : List Nd) : ∀ (f i : Nat) (A : List Ak), goC l f i A = .fine → i + f = l.length → A.length = l.length → ∀ (j : Nat) (x : Nd), i ≤ j → l[j]? = some x → x.s.length ≤ 2000
  | 0, i, A, _, hi, _, j, x, hj, hx => by
    have := (List.getElem?_eq_some_iff.1 hx).1
    omega
  | f + 1, i, A, h, hi, hA, j, x, hj, hx => by
    have h1 : i < l.length := by omega
    have h2 : i < A.length := by omega
    obtain ⟨g1, _, _, g4⟩ := goC_parts l f i A l[i] A[i] (List.getElem?_eq_getElem h1) (List.getElem?_eq_getElem h2) h
    by_cases e : i = j
    · subst e
      rw [List.getElem?_eq_getElem h1] at hx
      have : l[i] = x := by simpa using hx
      rw [← this]
      exact may_len _ _ _ g1
    · exact len_go l f (i + 1) _ g4 (by omega) (by rw [(askG_low l _ _ _ _ _ _ A).1, hA]) j x (by omega) hx
theorem len_fine (l : List Nd) (h : checkL l = .fine) : ∀ x ∈ l, x.s.length ≤ 2000 := by
  intro x hx
  obtain ⟨j, hj⟩ := List.mem_iff_getElem?.1 hx
  unfold checkL at h
  split at h
  · cases h
  · rename_i hl
    exact len_go l l.length 0 _ h (by omega) (aks_len _ (by omega)) j x (Nat.zero_le _) hj
theorem flat_len (d : Nat) : ∀ Ys : List (List Nd), (∀ Y ∈ Ys, Seg d Y) → Ys.length ≤ Ys.flatten.length
  | [], _ => by simp
  | Y :: Ys, h => by
    obtain ⟨_, _, _, h1⟩ := (h Y (by simp)).head
    have h2 := flat_len d Ys (fun Z hZ => h Z (by simp [hZ]))
    simp only [List.length_cons, List.flatten_cons, List.length_append]
    omega
theorem seg_k {d : Nat} {Y : List Nd} (h : Seg d Y) : ∀ x ∈ Y, x.k ≤ Y.length := by
  induction h with
  | mk d kind n s Ys hs ih =>
    intro x hx
    have hlen : (newN kind n s Ys).length = Ys.flatten.length + 1 := by simp [newN]
    rw [hlen]
    unfold newN at hx
    rcases List.mem_cons.1 hx with rfl | hx
    · have := flat_len d Ys hs
      simp only
      omega
    · obtain ⟨Y, hY, hxY⟩ := List.mem_flatten.1 hx
      have h1 := ih Y hY x hxY
      have h2 := (List.sublist_flatten_of_mem hY).length_le
      omega
theorem word_text (X : List Nd) (h : isWordL X = true) : ∃ t, printL X = 40 :: t := by
  have hd' := (fineB_iff _).1 h
  obtain ⟨g1, _, _⟩ := word_seg X hd'
  obtain ⟨t, ht⟩ := text_head 29 X g1
  refine ⟨t, ?_⟩
  unfold printL
  rw [h, Bool.or_true, if_pos rfl, show beginL = bgB from funext begin_bg, print_seg bgB 29 X g1, ht]
theorem bad_some {W : World} {ea : Nat → Addr} {s : ByteArray} {u : Value} (h : BadIs W ea s u) (hr : ¬ (readOk s = true ∧ checkL (readN s) = .fine)) : ∃ t p, u = .iface t p := by
  unfold BadIs at h
  cases ho : readOk s with
  | true =>
    rw [ho, if_pos rfl] at h
    exact err_some h (fun e => hr ⟨ho, e⟩)
  | false =>
    rw [ho, if_neg (by decide)] at h
    obtain ⟨q, rfl, _⟩ := h
    exact ⟨_, _, rfl⟩
set_option maxRecDepth 100000 in
set_option maxHeartbeats 2000000 in
theorem back_any (v : Value) (X : List Nd) (s : ByteArray) (W : World) (ea : Nat → Addr) (hE : Ers W ea) (hK : KnAt W) (hP : ∀ w', Below W.heap.size W w' → Pow w') (hN : NdAt W v X) (hl : X.length ≤ 140737488351232) (hok : ∀ x ∈ X, x.s.length ≤ 140737488351232 ∧ x.k ≤ 9223372036854775807) (hsl : s.size < 4611686018427387904) :
    Calls Tryz.prog 4 #[v, .string s] W fun e w' => e = .returned (.bool true) ∧ Below W.heap.size W w' := by
  have HE : Hid (∀ W', Below W.heap.size W W' → Ers W' ea) := fun W' hb => hE.below hb
  have HK : Hid (∀ W', Below W.heap.size W W' → KnAt W') := fun W' hb => KnAt.below hK hb
  have HP : Hid (∀ W', Below W.heap.size W W' → ∀ w', Below W'.heap.size W' w' → Pow w') := fun W' hb w' hb' => hP w' (hb.trans (hb'.mono hb.size))
  have HN : Hid (∀ W', Below W.heap.size W W' → NdAt W' v X) := fun W' hb => hN.below hb (Nat.le_refl _)
  have HF : Hid _ := first_any W ea hE hK hP
  obtain ⟨ad, cap, rfl⟩ := hN.form
  have HL : Hid (∀ W', Below W.heap.size W W' → Calls Tryz.prog 7 #[.slice ad X.length cap] W' fun e w' => e = .returned (.bool (lightL X)) ∧ w' = W') := fun W' hb => light_any _ X W' (HN.out W' hb) (fun x hx => (hok x hx).1) hl
  clear hE hK hP hN
  go_enter Tryz.func4, Tryz.ntmps4
  go_wp2_with fail
  refine Calls.mono HF.out ?_
  rintro e w1 ⟨rfl, hb1⟩
  clear HF
  have HL1 : Hid (Calls Tryz.prog 7 #[.slice ad X.length cap] w1 fun e w' => e = .returned (.bool (lightL X)) ∧ w' = w1) := HL.out _ hb1
  clear HL
  cases hlt : lightL X with
  | false =>
    rw [hlt] at HL1
    go_wp2_with fail
    refine Calls.mono HL1.out ?_
    rintro e w2 ⟨rfl, hw⟩
    have hw' := hw.symm
    subst hw'
    clear hw
    go_wp2_with fail
    go_ret
    exact ⟨rfl, hb1⟩
  | true =>
    rw [hlt] at HL1
    obtain ⟨hx1, hx2⟩ := light_parts X hlt
    have hxs := sumS_mem X
    go_wp2_with fail
    refine Calls.mono HL1.out ?_
    rintro e w2 ⟨rfl, hw⟩
    have hw' := hw.symm
    subst hw'
    clear hw HL1
    by_cases hs4 : 4000 < s.size
    · go_wp2_with fail
      go_ret
      exact ⟨rfl, hb1⟩
    · have HPA : Hid (∀ W', Below W.heap.size W W' → Calls Tryz.prog 15 #[.slice ad X.length cap] W' fun e w' => e = .returned (str (printL X)) ∧ Below W'.heap.size W' w') := fun W' hb =>
        print_any _ X W' ea (HE.out W' hb) (HK.out W' hb) (HP.out W' hb) (HN.out W' hb) (by omega) (fun x hx => ⟨⟨by have := hxs x hx; omega, (hok x hx).2⟩, by have := hxs x hx; omega⟩) (by omega)
      have HCK : Hid (Calls Tryz.prog 17 #[.slice ad X.length cap] w1 fun e w' => ∃ u, e = .returned u ∧ ErrIs w' ea u (checkL X) ∧ Below w1.heap.size w1 w') := check_any _ X w1 ea (HE.out w1 hb1) (HN.out w1 hb1) (by omega) (fun x hx => ⟨by have := hxs x hx; omega, (hok x hx).2⟩)
      go_wp2_with fail
      refine Calls.mono HCK.out ?_
      rintro e w2 ⟨u, rfl, hu, hb2⟩
      have hbw2 := hb1.trans (hb2.mono hb1.size)
      clear HCK hb2
      by_cases hf : checkL X = .fine
      · rw [hf] at hu
        obtain rfl : u = .nilIface := hu
        have hpl := print_len X hf
        have hpL : printL X = printG beginL X 0 [] := by unfold printL; rw [(fineB_iff _).2 hf, Bool.true_or, if_pos rfl]
        have hrd := readOk_of ⟨(printL X).toArray⟩ X (by have := printL_read X hf; simpa [ByteArray.size] using this)
        rw [← hpL] at hpl
        have HY : Hid (∀ W', Below W.heap.size W W' → Calls Tryz.prog 18 #[str (printL X)] W' fun e w' => ∃ v', e = .returned (.tuple #[v', .nilIface]) ∧ w'.ownsRow W'.heap.size 50 5 v' X.length (ndCs X) ∧ Below W'.heap.size W' w') := fun W' hb => by
          have := parse_yes (HK.out _ hb) ea (HE.out _ hb) ⟨(printL X).toArray⟩ (by simp only [ByteArray.size, List.size_toArray]; omega) hrd.1 (by rw [hrd.2]; exact hf)
          rw [hrd.2] at this
          exact this
        clear hrd hpL
        go_wp2_with fail
        refine Calls.mono (HPA.out _ hbw2) ?_
        rintro e w3 ⟨rfl, hb3⟩
        have hbw3 := hbw2.trans (hb3.mono hbw2.size)
        clear hb3
        go_wp2_with fail
        refine Calls.mono (HY.out _ hbw3) ?_
        rintro e w4 ⟨v4, rfl, ho4, hb4⟩
        have hbw4 := hbw3.trans (hb4.mono hbw3.size)
        have hn4 : NdAt w4 v4 X := NdAt.owned ho4
        have HS4 : Hid (Calls Tryz.prog 19 #[v4, .slice ad X.length cap] w4 fun e w' => e = .returned (.bool true) ∧ Below w4.heap.size w4 w') := by
          have := sameNodes_any v4 (.slice ad X.length cap) X X w4 hn4 (HN.out _ hbw4) (by omega)
          rw [sameNs_true rfl] at this
          exact this
        obtain ⟨ad4, cap4, rfl⟩ := hn4.form
        clear ho4 hn4 hb4 HY
        go_wp2_with fail
        refine Calls.mono HS4.out ?_
        rintro e wt ⟨rfl, hb5⟩
        have hbt := hbw4.trans (hb5.mono hbw4.size)
        clear HS4 hb5
        go_wp2_with fail
        by_cases hr : readOk s = true ∧ checkL (readN s) = .fine
        · have hlen := (seg_of_fine _ hr.2).2.2
          have hl2 := len_fine _ hr.2
          have hk2 := seg_k (seg_of_fine _ hr.2).1
          have hok2 : ∀ x ∈ readN s, NdOk x ∧ x.s.length < 8796093022208 := fun x hx => ⟨⟨by have := hl2 x hx; omega, by have := hk2 x hx; omega⟩, by have := hl2 x hx; omega⟩
          have hsum : sumS (readN s) ≤ 8796093022208 := by have := sumS_le 2000 _ hl2; omega
          have hpr : printL (readN s) = s.data.toList := read_printL s _ (readG_of s hr.1) hr.2
          refine (parse_yes (HK.out _ hbt) ea (HE.out _ hbt) s (by omega) hr.1 hr.2).mono ?_
          rintro e wa ⟨va, rfl, hoa, hba⟩
          have hbwa := hbt.trans (hba.mono hbt.size)
          have hna : NdAt wa va (readN s) := NdAt.owned hoa
          obtain ⟨ada, capa, rfl⟩ := hna.form
          have HPa : Hid (Calls Tryz.prog 15 #[.slice ada (readN s).length capa] wa fun e w' => e = .returned (.string s) ∧ Below wa.heap.size wa w') := by
            have := print_any _ (readN s) wa ea (HE.out _ hbwa) (HK.out _ hbwa) (HP.out _ hbwa) hna (by omega) hok2 hsum
            rw [hpr] at this
            exact this
          have HCa : Hid (∀ W', Below wa.heap.size wa W' → Calls Tryz.prog 17 #[.slice ada (readN s).length capa] W' fun e w' => e = .returned .nilIface ∧ Below W'.heap.size W' w') := fun W' hb => (check_any _ _ W' ea (HE.out _ (hbwa.trans (hb.mono hbwa.size))) (hna.below hb (Nat.le_refl _)) (by omega) (fun x hx => (hok2 x hx).1)).mono (by
            rintro e w' ⟨u, rfl, hu, hb⟩
            rw [hr.2] at hu
            obtain rfl : u = .nilIface := hu
            exact ⟨rfl, hb⟩)
          clear hoa hba hna
          go_wp2_with fail
          refine Calls.mono HPa.out ?_
          rintro e wb ⟨rfl, hbb⟩
          have HCb := HCa.out _ hbb
          have hbwb := hbwa.trans (hbb.mono hbwa.size)
          clear HPa HCa hbb
          go_wp2_with fail
          refine Calls.mono HCb ?_
          rintro e wc ⟨rfl, hbc⟩
          go_wp2_with fail
          go_ret
          exact ⟨rfl, hbwb.trans (hbc.mono hbwb.size)⟩
        · refine (parse_no (HK.out _ hbt) ea (HE.out _ hbt) s (by omega) hr).mono ?_
          rintro e wa ⟨ua, rfl, hua, hba⟩
          obtain ⟨ta, pa, rfl⟩ := bad_some hua hr
          have hbwa := hbt.trans (hba.mono hbt.size)
          clear hua hba
          go_wp2_with fail
          go_ret
          exact ⟨rfl, hbwa⟩
      · obtain ⟨tu, pu, rfl⟩ := err_some hu hf
        clear hu
        cases hd : isWordL X with
        | false =>
          have hpL : printL X = [] := by
            unfold printL
            rw [hd, Bool.or_false, if_neg]
            intro e
            exact hf ((fineB_iff _).1 e)
          rw [hpL] at HPA
          go_wp2_with fail
          refine Calls.mono (HPA.out _ hbw2) ?_
          rintro e wt ⟨rfl, hb3⟩
          have hbt := hbw2.trans (hb3.mono hbw2.size)
          clear hb3
          go_wp2_with fail
          by_cases hr : readOk s = true ∧ checkL (readN s) = .fine
          · have hlen := (seg_of_fine _ hr.2).2.2
            have hl2 := len_fine _ hr.2
            have hk2 := seg_k (seg_of_fine _ hr.2).1
            have hok2 : ∀ x ∈ readN s, NdOk x ∧ x.s.length < 8796093022208 := fun x hx => ⟨⟨by have := hl2 x hx; omega, by have := hk2 x hx; omega⟩, by have := hl2 x hx; omega⟩
            have hsum : sumS (readN s) ≤ 8796093022208 := by have := sumS_le 2000 _ hl2; omega
            have hpr : printL (readN s) = s.data.toList := read_printL s _ (readG_of s hr.1) hr.2
            refine (parse_yes (HK.out _ hbt) ea (HE.out _ hbt) s (by omega) hr.1 hr.2).mono ?_
            rintro e wa ⟨va, rfl, hoa, hba⟩
            have hbwa := hbt.trans (hba.mono hbt.size)
            have hna : NdAt wa va (readN s) := NdAt.owned hoa
            obtain ⟨ada, capa, rfl⟩ := hna.form
            have HPa : Hid (Calls Tryz.prog 15 #[.slice ada (readN s).length capa] wa fun e w' => e = .returned (.string s) ∧ Below wa.heap.size wa w') := by
              have := print_any _ (readN s) wa ea (HE.out _ hbwa) (HK.out _ hbwa) (HP.out _ hbwa) hna (by omega) hok2 hsum
              rw [hpr] at this
              exact this
            have HCa : Hid (∀ W', Below wa.heap.size wa W' → Calls Tryz.prog 17 #[.slice ada (readN s).length capa] W' fun e w' => e = .returned .nilIface ∧ Below W'.heap.size W' w') := fun W' hb => (check_any _ _ W' ea (HE.out _ (hbwa.trans (hb.mono hbwa.size))) (hna.below hb (Nat.le_refl _)) (by omega) (fun x hx => (hok2 x hx).1)).mono (by
              rintro e w' ⟨u, rfl, hu, hb⟩
              rw [hr.2] at hu
              obtain rfl : u = .nilIface := hu
              exact ⟨rfl, hb⟩)
            clear hoa hba hna
            go_wp2_with fail
            refine Calls.mono HPa.out ?_
            rintro e wb ⟨rfl, hbb⟩
            have HCb := HCa.out _ hbb
            have hbwb := hbwa.trans (hbb.mono hbwa.size)
            clear HPa HCa hbb
            go_wp2_with fail
            refine Calls.mono HCb ?_
            rintro e wc ⟨rfl, hbc⟩
            go_wp2_with fail
            go_ret
            exact ⟨rfl, hbwb.trans (hbc.mono hbwb.size)⟩
          · refine (parse_no (HK.out _ hbt) ea (HE.out _ hbt) s (by omega) hr).mono ?_
            rintro e wa ⟨ua, rfl, hua, hba⟩
            obtain ⟨ta, pa, rfl⟩ := bad_some hua hr
            have hbwa := hbt.trans (hba.mono hbt.size)
            clear hua hba
            go_wp2_with fail
            go_ret
            exact ⟨rfl, hbwa⟩
        | true =>
          obtain ⟨tl, htl⟩ := word_text X hd
          rw [htl] at HPA
          go_wp2_with fail
          refine Calls.mono (HPA.out _ hbw2) ?_
          rintro e w3 ⟨rfl, hb3⟩
          have hbw3 := hbw2.trans (hb3.mono hbw2.size)
          clear hb3
          go_wp2_with fail
          have hb4 : Below w3.heap.size w3 (w3.alloc (.cells #[.slice ad X.length cap] 22)) := (Below.refl _ w3).alloc (Nat.le_refl _) _
          have hbw4 := hbw3.trans (hb4.mono hbw3.size)
          have HKD : Hid (KdAt (w3.alloc (.cells #[.slice ad X.length cap] 22)) (.slice (some ⟨w3.heap.size, 0, none⟩) 1 1) [(.slice ad X.length cap, X)]) :=
            KdAt.of_cells (t := 22) rfl (Cel.new w3 22 _) (fun p hp => by rw [List.mem_singleton.1 hp]; exact HN.out _ hbw4) (Nat.le_refl _)
          have hkl : kidL [(.slice ad X.length cap, X)] = X := by simp [kidL]
          refine (new_own 22 0 [120] _ [(.slice ad X.length cap, X)] _ HKD.out (by simp) (by rw [hkl]; omega)).mono ?_
          rintro e w5 ⟨v5, rfl, ho5, hb5⟩
          have hbw5 := hbw4.trans (hb5.mono hbw4.size)
          have hd' := (fineB_iff _).1 hd
          have HC5 : Hid (Calls Tryz.prog 17 #[v5] w5 fun e w' => e = .returned .nilIface ∧ Below w5.heap.size w5 w') := (check_any v5 _ w5 ea (HE.out _ hbw5) ho5.at (by simp [newN]; omega) (fun x hx => by
            simp only [List.map_cons, List.map_nil, newN, List.flatten_cons, List.flatten_nil, List.append_nil, List.mem_cons] at hx
            rcases hx with rfl | hx
            · exact ⟨by simp, by simp⟩
            · exact ⟨by have := hxs x hx; omega, (hok x hx).2⟩)).mono (by
            rintro e w' ⟨u, rfl, hu, hb⟩
            rw [show checkL (newN 22 0 [120] ([(Value.slice ad X.length cap, X)].map Prod.snd)) = .fine from hd'] at hu
            obtain rfl : u = .nilIface := hu
            exact ⟨rfl, hb⟩)
          obtain ⟨ad5, cap5, rfl⟩ := ho5.at.form
          clear ho5 hb5 hb4 HKD hkl
          go_wp2_with fail
          refine Calls.mono HC5.out ?_
          rintro e wt ⟨rfl, hb6⟩
          have hbt := hbw5.trans (hb6.mono hbw5.size)
          clear HC5 hb6
          go_wp2_with fail
          by_cases hr : readOk s = true ∧ checkL (readN s) = .fine
          · have hlen := (seg_of_fine _ hr.2).2.2
            have hl2 := len_fine _ hr.2
            have hk2 := seg_k (seg_of_fine _ hr.2).1
            have hok2 : ∀ x ∈ readN s, NdOk x ∧ x.s.length < 8796093022208 := fun x hx => ⟨⟨by have := hl2 x hx; omega, by have := hk2 x hx; omega⟩, by have := hl2 x hx; omega⟩
            have hsum : sumS (readN s) ≤ 8796093022208 := by have := sumS_le 2000 _ hl2; omega
            have hpr : printL (readN s) = s.data.toList := read_printL s _ (readG_of s hr.1) hr.2
            refine (parse_yes (HK.out _ hbt) ea (HE.out _ hbt) s (by omega) hr.1 hr.2).mono ?_
            rintro e wa ⟨va, rfl, hoa, hba⟩
            have hbwa := hbt.trans (hba.mono hbt.size)
            have hna : NdAt wa va (readN s) := NdAt.owned hoa
            obtain ⟨ada, capa, rfl⟩ := hna.form
            have HPa : Hid (Calls Tryz.prog 15 #[.slice ada (readN s).length capa] wa fun e w' => e = .returned (.string s) ∧ Below wa.heap.size wa w') := by
              have := print_any _ (readN s) wa ea (HE.out _ hbwa) (HK.out _ hbwa) (HP.out _ hbwa) hna (by omega) hok2 hsum
              rw [hpr] at this
              exact this
            have HCa : Hid (∀ W', Below wa.heap.size wa W' → Calls Tryz.prog 17 #[.slice ada (readN s).length capa] W' fun e w' => e = .returned .nilIface ∧ Below W'.heap.size W' w') := fun W' hb => (check_any _ _ W' ea (HE.out _ (hbwa.trans (hb.mono hbwa.size))) (hna.below hb (Nat.le_refl _)) (by omega) (fun x hx => (hok2 x hx).1)).mono (by
              rintro e w' ⟨u, rfl, hu, hb⟩
              rw [hr.2] at hu
              obtain rfl : u = .nilIface := hu
              exact ⟨rfl, hb⟩)
            clear hoa hba hna
            go_wp2_with fail
            refine Calls.mono HPa.out ?_
            rintro e wb ⟨rfl, hbb⟩
            have HCb := HCa.out _ hbb
            have hbwb := hbwa.trans (hbb.mono hbwa.size)
            clear HPa HCa hbb
            go_wp2_with fail
            refine Calls.mono HCb ?_
            rintro e wc ⟨rfl, hbc⟩
            go_wp2_with fail
            go_ret
            exact ⟨rfl, hbwb.trans (hbc.mono hbwb.size)⟩
          · refine (parse_no (HK.out _ hbt) ea (HE.out _ hbt) s (by omega) hr).mono ?_
            rintro e wa ⟨ua, rfl, hua, hba⟩
            obtain ⟨ta, pa, rfl⟩ := bad_some hua hr
            have hbwa := hbt.trans (hba.mono hbt.size)
            clear hua hba
            go_wp2_with fail
            go_ret
            exact ⟨rfl, hbwa⟩
end Go.Proofs.YtaildeglikhkaaaGreatDoor
namespace Go.Proofs.YtaildeglikhkaaaGreatDoor
open Go.RowKit
attribute [local go_sem] Oper.semAt_some

theorem run_code (c : Int) (ad : Option Addr) (nn cp : Nat) (w : World) : (Instr.field 31 (.agg #[.int .i64 c, .slice ad nn cp]) 0).run Tryz.prog w = .ok (.int .i64 c) w := by kernel_rfl
set_option maxHeartbeats 4000000 in
set_option maxRecDepth 100000 in
theorem prints_of (v : Value) (X : List Nd) (s t : ByteArray) (kind : Int) (W : World) (ea : Nat → Addr) (hE : Ers W ea) (hK : KnAt W) (hP : ∀ w', Below W.heap.size W w' → Pow w') (hN : NdAt W v X) (hl : X.length ≤ 140737488351232) (hok : ∀ x ∈ X, x.s.length ≤ 140737488351232 ∧ x.k ≤ 9223372036854775807) (hnn : ∀ x ∈ X, -9223372036854775808 ≤ x.n ∧ x.n ≤ 9223372036854775807) (hs1 : s.size < 4611686018427387904) (ht1 : t.size < 4611686018427387904)
    (hR : X.length ≤ 200 → ∀ W', Below W.heap.size W W' → Calls Tryz.prog 14 #[v] W' fun e w' => ∃ c fa fn fc, e = .returned (.agg #[.int .i64 c, .slice fa fn fc]) ∧ (c = 0 → checkL X = .fine) ∧ Below W'.heap.size W' w') :
    Calls Tryz.prog 3 #[v, .string s, .string t, .int .i64 kind] W fun e w' => e = .returned (.bool true) ∧ Below W.heap.size W w' := by
  have HE : Hid (∀ W', Below W.heap.size W W' → Ers W' ea) := fun W' hb => hE.below hb
  have HK : Hid (∀ W', Below W.heap.size W W' → KnAt W') := fun W' hb => KnAt.below hK hb
  have HP : Hid (∀ W', Below W.heap.size W W' → ∀ w', Below W'.heap.size W' w' → Pow w') := fun W' hb w' hb' => hP w' (hb.trans (hb'.mono hb.size))
  have HN : Hid (∀ W', Below W.heap.size W W' → NdAt W' v X) := fun W' hb => hN.below hb (Nat.le_refl _)
  have HF : Hid _ := first_any W ea hE hK hP
  have HRC : Hid _ := hR
  obtain ⟨ad, cap, rfl⟩ := hN.form
  have HL : Hid (∀ W', Below W.heap.size W W' → Calls Tryz.prog 7 #[.slice ad X.length cap] W' fun e w' => e = .returned (.bool (lightL X)) ∧ w' = W') := fun W' hb => light_any _ X W' (HN.out W' hb) (fun x hx => (hok x hx).1) hl
  clear hE hK hP hN hR
  go_enter Tryz.func3, Tryz.ntmps3
  go_wp2_with fail
  refine Calls.mono HF.out ?_
  rintro e w1 ⟨rfl, hb1⟩
  clear HF
  have HL1 : Hid (Calls Tryz.prog 7 #[.slice ad X.length cap] w1 fun e w' => e = .returned (.bool (lightL X)) ∧ w' = w1) := HL.out _ hb1
  clear HL
  cases hlt : lightL X with
  | false =>
    rw [hlt] at HL1
    go_wp2_with fail
    refine Calls.mono HL1.out ?_
    rintro e w2 ⟨rfl, hw⟩
    have hw' := hw.symm
    subst hw'
    clear hw
    go_wp2_with fail
    go_ret
    exact ⟨rfl, hb1⟩
  | true =>
    rw [hlt] at HL1
    obtain ⟨hx1, hx2⟩ := light_parts X hlt
    have hxs := sumS_mem X
    go_wp2_with fail
    refine Calls.mono HL1.out ?_
    rintro e w2 ⟨rfl, hw⟩
    have hw' := hw.symm
    subst hw'
    clear hw HL1
    by_cases hs2 : 2000 < s.size
    · go_wp2_with fail
      go_ret
      exact ⟨rfl, hb1⟩
    by_cases ht2 : 2000 < t.size
    · go_wp2_with fail
      go_ret
      exact ⟨rfl, hb1⟩
    obtain ⟨u, j, huj⟩ : ∃ u j, quR t 0 = (u, j) := ⟨_, _, rfl⟩
    have HU8 : Hid (∀ W', Calls Tryz.prog 8 #[.string t] W' fun e w' => e = .returned (.tuple (unqV u j)) ∧ Below W'.heap.size W' w') := fun W' => by
      have := unquote_any t (by omega) W'
      rw [huj] at this
      exact this
    have HU9 : Hid (∀ W', Calls Tryz.prog 9 #[.string t] W' fun e w' => e = .returned (.tuple (unqV u j)) ∧ Below W'.heap.size W' w') := fun W' => by
      have := runquote_any t (by omega) W'
      rw [huj] at this
      exact this
    obtain ⟨q, hq⟩ : ∃ q : ByteArray, q = ⟨(quoteL s.data.toList).toArray⟩ := ⟨_, rfl⟩
    have hqs : q.size ≤ 7000 := by
      rw [hq, bs_size]
      have := quote_len s.data.toList
      have h2 : s.data.toList.length = s.size := by simp
      omega
    have HQ12 : Hid (∀ W', Calls Tryz.prog 12 #[.string s] W' fun e w' => e = .returned (.string q) ∧ Below W'.heap.size W' w') := fun W' => by rw [hq]; exact quote_any s (by omega) W'
    have HQ13 : Hid (∀ W', Calls Tryz.prog 13 #[.string s] W' fun e w' => e = .returned (.string q) ∧ Below W'.heap.size W' w') := fun W' => by rw [hq]; exact rquote_any s (by omega) W'
    have HU8q : Hid (∀ W', Calls Tryz.prog 8 #[.string (q ++ t)] W' fun e w' => e = .returned (.tuple #[.string s, .int .i64 (q.size : Nat), .bool true]) ∧ Below W'.heap.size W' w') := fun W' => by
      have h1 := unquote_any (q ++ t) (by rw [ByteArray.size_append]; omega) W'
      have h2 : quR (q ++ t) 0 = (some s.data.toList, q.size) := by
        rw [quote_back (q ++ t) 0 s.data.toList t.data.toList (by rw [ByteArray.data_append, hq]; simp), hq, bs_size, Nat.zero_add]
      rw [h2] at h1
      exact h1
    have HPA : Hid (∀ W', Below W.heap.size W W' → Calls Tryz.prog 15 #[.slice ad X.length cap] W' fun e w' => e = .returned (str (printL X)) ∧ Below W'.heap.size W' w') := fun W' hb =>
      print_any _ X W' ea (HE.out W' hb) (HK.out W' hb) (HP.out W' hb) (HN.out W' hb) (by omega) (fun x hx => ⟨⟨by have := hxs x hx; omega, (hok x hx).2⟩, by have := hxs x hx; omega⟩) (by omega)
    have HPR : Hid (checkL X = .fine → ∀ W', Below W.heap.size W W' → Calls Tryz.prog 16 #[.slice ad X.length cap] W' fun e w' => e = .returned (str (printL X)) ∧ Below W'.heap.size W' w') := fun hf W' hb => by
      have hg := (seg_of_fine X hf).1
      have hpl := print_len X hf
      have hpL : printL X = textL beginL 30 X := by unfold printL; rw [(fineB_iff _).2 hf, Bool.true_or, if_pos rfl, print_seg beginL 30 X hg]
      rw [print_seg beginL 30 X hg] at hpl
      rw [hpL]
      exact rprint_any hg _ W' (HN.out W' hb) (by omega) (fun x hx => ⟨by have := hxs x hx; omega, hnn x hx⟩) (by omega)
    have HKA : Hid (∀ W', Below W.heap.size W W' → Calls Tryz.prog 10 #[.int .i64 kind] W' fun e w' => e = .returned (str (kindN kind)) ∧ w' = W') := fun W' hb => kindName_any kind W' (HK.out W' hb)
    have HRC2 : Hid (∀ W', Below W.heap.size W W' → Calls Tryz.prog 14 #[.slice ad X.length cap] W' fun e w' => ∃ c fa fn fc, e = .returned (.agg #[.int .i64 c, .slice fa fn fc]) ∧ (c = 0 → checkL X = .fine) ∧ Below W'.heap.size W' w') := HRC.out hx1
    clear huj hq HRC
    cases u with
    | none =>
      rw [unqV_none] at HU8 HU9
      go_wp2_with fail
      refine (HU8.out _).mono ?_
      rintro e w2 ⟨rfl, hb2_⟩
      have hb2 : Below W.heap.size W w2 := hb1.trans (hb2_.mono hb1.size)
      go_wp2_with fail
      refine (HU9.out _).mono ?_
      rintro e w3 ⟨rfl, hb3_⟩
      have hb3 : Below W.heap.size W w3 := hb2.trans (hb3_.mono hb2.size)
      go_wp2_with fail
      refine (HKA.out _ hb3).mono ?_
      rintro e wx ⟨rfl, hwx⟩
      obtain rfl := hwx.symm
      go_wp2_with fail
      refine (rkind_any kind _).mono ?_
      rintro e w4 ⟨rfl, hb4_⟩
      have hb4 : Below W.heap.size W w4 := hb3.trans (hb4_.mono hb3.size)
      go_wp2_with fail
      refine (HQ12.out _).mono ?_
      rintro e w5 ⟨rfl, hb5_⟩
      have hb5 : Below W.heap.size W w5 := hb4.trans (hb5_.mono hb4.size)
      go_wp2_with fail
      refine (HQ13.out _).mono ?_
      rintro e w6 ⟨rfl, hb6_⟩
      have hb6 : Below W.heap.size W w6 := hb5.trans (hb6_.mono hb5.size)
      clear hb2_ hb3_ hb4_ hb5_ hb6_
      go_wp2_with fail
      refine (HQ12.out _).mono ?_
      rintro e w7 ⟨rfl, hb7_⟩
      have hb7 : Below W.heap.size W w7 := hb6.trans (hb7_.mono hb6.size)
      go_wp2_with fail
      refine (HU8q.out _).mono ?_
      rintro e w8 ⟨rfl, hb8_⟩
      have hb8 : Below W.heap.size W w8 := hb7.trans (hb8_.mono hb7.size)
      go_wp2_with fail
      refine (HQ12.out _).mono ?_
      rintro e w9 ⟨rfl, hb9_⟩
      have hb9 : Below W.heap.size W w9 := hb8.trans (hb9_.mono hb8.size)
      go_wp2_with fail
      refine (HRC2.out _ hb9).mono ?_
      rintro e wa ⟨c, fa, fn, fc, rfl, hc, hba_⟩
      have hba : Below W.heap.size W wa := hb9.trans (hba_.mono hb9.size)
      have hcode := run_code c fa fn fc wa
      by_cases hc0 : c = 0
      · have hf := hc hc0
        subst hc0
        go_wp2_with fail
        refine (HPA.out _ hba).mono ?_
        rintro e wb ⟨rfl, hbb_⟩
        have hbb : Below W.heap.size W wb := hba.trans (hbb_.mono hba.size)
        go_wp2_with fail
        refine (HPR.out hf _ hbb).mono ?_
        rintro e wc ⟨rfl, hbc_⟩
        have hbc : Below W.heap.size W wc := hbb.trans (hbc_.mono hbb.size)
        go_wp2_with fail
        go_ret
        exact ⟨by simp, hbc⟩
      · have hcn : (c != 0) = true := by simpa using hc0
        go_wp2_with fail
        go_ret
        exact ⟨rfl, hba⟩
    | some l =>
      rw [unqV_some] at HU8 HU9
      go_wp2_with fail
      refine (HU8.out _).mono ?_
      rintro e w2 ⟨rfl, hb2_⟩
      have hb2 : Below W.heap.size W w2 := hb1.trans (hb2_.mono hb1.size)
      go_wp2_with fail
      refine (HU9.out _).mono ?_
      rintro e w3 ⟨rfl, hb3_⟩
      have hb3 : Below W.heap.size W w3 := hb2.trans (hb3_.mono hb2.size)
      go_wp2_with fail
      refine (HKA.out _ hb3).mono ?_
      rintro e wx ⟨rfl, hwx⟩
      obtain rfl := hwx.symm
      go_wp2_with fail
      refine (rkind_any kind _).mono ?_
      rintro e w4 ⟨rfl, hb4_⟩
      have hb4 : Below W.heap.size W w4 := hb3.trans (hb4_.mono hb3.size)
      go_wp2_with fail
      refine (HQ12.out _).mono ?_
      rintro e w5 ⟨rfl, hb5_⟩
      have hb5 : Below W.heap.size W w5 := hb4.trans (hb5_.mono hb4.size)
      go_wp2_with fail
      refine (HQ13.out _).mono ?_
      rintro e w6 ⟨rfl, hb6_⟩
      have hb6 : Below W.heap.size W w6 := hb5.trans (hb6_.mono hb5.size)
      clear hb2_ hb3_ hb4_ hb5_ hb6_
      go_wp2_with fail
      refine (HQ12.out _).mono ?_
      rintro e w7 ⟨rfl, hb7_⟩
      have hb7 : Below W.heap.size W w7 := hb6.trans (hb7_.mono hb6.size)
      go_wp2_with fail
      refine (HU8q.out _).mono ?_
      rintro e w8 ⟨rfl, hb8_⟩
      have hb8 : Below W.heap.size W w8 := hb7.trans (hb8_.mono hb7.size)
      go_wp2_with fail
      refine (HQ12.out _).mono ?_
      rintro e w9 ⟨rfl, hb9_⟩
      have hb9 : Below W.heap.size W w9 := hb8.trans (hb9_.mono hb8.size)
      go_wp2_with fail
      refine (HRC2.out _ hb9).mono ?_
      rintro e wa ⟨c, fa, fn, fc, rfl, hc, hba_⟩
      have hba : Below W.heap.size W wa := hb9.trans (hba_.mono hb9.size)
      have hcode := run_code c fa fn fc wa
      by_cases hc0 : c = 0
      · have hf := hc hc0
        subst hc0
        go_wp2_with fail
        refine (HPA.out _ hba).mono ?_
        rintro e wb ⟨rfl, hbb_⟩
        have hbb : Below W.heap.size W wb := hba.trans (hbb_.mono hba.size)
        go_wp2_with fail
        refine (HPR.out hf _ hbb).mono ?_
        rintro e wc ⟨rfl, hbc_⟩
        have hbc : Below W.heap.size W wc := hbb.trans (hbc_.mono hbb.size)
        go_wp2_with fail
        go_ret
        exact ⟨by simp, hbc⟩
      · have hcn : (c != 0) = true := by simpa using hc0
        go_wp2_with fail
        go_ret
        exact ⟨rfl, hba⟩
end Go.Proofs.YtaildeglikhkaaaGreatDoor
