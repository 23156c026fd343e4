/- The document's own answers: two lists joined. -/
import Derived.Test.YtdajacodfnidfaaGreatDoorRLA
import Derived.Deep.Cut
namespace Go.Proofs.YtdajacodfnidfaaGreatDoor
open Go.RowKit Go.Shelf

theorem jt_item (A C : List (List UInt8)) (ha : 1 ≤ A.length) (hc : 1 ≤ C.length) (M : Nat) (hA : ∀ s ∈ A, s.length ≤ M) (hC : ∀ s ∈ C, s.length ≤ M) : ∀ s ∈ jtB A C, s.length ≤ M + M := by
  intro s hs
  unfold jtB at hs
  obtain ⟨i, hi, rfl⟩ := List.mem_map.1 hs
  have hi' := List.mem_range.1 hi
  have h1 := hA _ (atB_mem A i (joined_at _ _ _ hi' ha))
  have h2 := hC _ (atB_mem C i (joined_at' _ _ _ hi' hc))
  rw [List.length_append]
  omega
theorem jt_at (A C : List (List UInt8)) (i : Nat) (h : i < joinedN A.length C.length) : atB A i ++ atB C i ∈ jtB A C := List.mem_map.2 ⟨i, List.mem_range.2 h, rfl⟩
theorem jt_long (A C : List (List UInt8)) (i : Nat) (h : i < joinedN A.length C.length) (hl : 2000 < (atB A i).length ∨ 2000 < (atB C i).length) : bound (jtB A C) = none := by
  apply bound_no
  cases e : fitsB (jtB A C)
  · rfl
  · have := fits_mem _ e _ (jt_at A C i h)
    rw [List.length_append] at this
    omega
theorem atB_one {A : List (List UInt8)} (h : A.length = 1) (i : Nat) : A[0]? = some (atB A i) := by
  unfold atB
  rw [if_pos h]
  cases A with
  | nil => simp at h
  | cons a A => rfl
theorem atB_at {A : List (List UInt8)} {i : Nat} (h : A.length ≠ 1) (hi : i < A.length) : A[i]? = some (atB A i) := by
  unfold atB
  rw [if_neg h, List.getElem?_eq_getElem hi, List.getD_eq_getElem?_getD, List.getElem?_eq_getElem hi]
  rfl
set_option maxRecDepth 100000 in
set_option maxHeartbeats 4000000 in
theorem two_EE (A C J : List (List UInt8)) (w : World) (ada : Option Addr) (capa : Nat) (adc : Option Addr) (capc : Nat) (hLA : A.length = 1) (hLC : C.length = 1) (HCA : Hid (∀ W', Below ((w.alloc (.cells #[.string ⟨#[]⟩] 9)).alloc (.cells #[.string ⟨#[]⟩] 9)).heap.size ((w.alloc (.cells #[.string ⟨#[]⟩] 9)).alloc (.cells #[.string ⟨#[]⟩] 9)) W' → ∀ k p, A[k]? = some p → W'.cell? ⟨w.heap.size, 0 + k, none⟩ = some (.string ⟨p.toArray⟩))) (HCC : Hid (∀ W', Below ((w.alloc (.cells #[.string ⟨#[]⟩] 9)).alloc (.cells #[.string ⟨#[]⟩] 9)).heap.size ((w.alloc (.cells #[.string ⟨#[]⟩] 9)).alloc (.cells #[.string ⟨#[]⟩] 9)) W' → ∀ k p, C[k]? = some p → W'.cell? ⟨w.heap.size + 1, 0 + k, none⟩ = some (.string ⟨p.toArray⟩))) (HZA : Hid (∀ s ∈ A, s.length ≤ 60000)) (HZC : Hid (∀ s ∈ C, s.length ≤ 60000)) (HTK : Hid (∀ k, k < 1 → J.take (k + 1) = J.take k ++ [atB A k ++ atB C k])) (HLO : Hid (∀ k, k < 1 → 2000 < (atB A k).length ∨ 2000 < (atB C k).length → bound J = none)) (HJN : Hid (J.length = 1)) :
    Calls Tryz.prog 35 #[.slice ada 0 capa, .slice adc 0 capc] w fun e w' => RGot (bound J) e w' ∧ Below w.heap.size w w' := by
  obtain ⟨WE, hWE⟩ : ∃ WE, WE = ((w.alloc (.cells #[.string ⟨#[]⟩] 9)).alloc (.cells #[.string ⟨#[]⟩] 9)) := ⟨_, rfl⟩
  have HBE : Hid (Below w.heap.size w WE) := by
    unfold Hid
    rw [hWE]
    exact (below_new w _).alloc (below_new w _).size _
  have HCA' : Hid (∀ W', Below WE.heap.size WE W' → ∀ k p, A[k]? = some p → W'.cell? ⟨w.heap.size, 0 + k, none⟩ = some (.string ⟨p.toArray⟩)) := by rw [hWE]; exact HCA
  have HCC' : Hid (∀ W', Below WE.heap.size WE W' → ∀ k p, C[k]? = some p → W'.cell? ⟨w.heap.size + 1, 0 + k, none⟩ = some (.string ⟨p.toArray⟩)) := by rw [hWE]; exact HCC
  clear HCA HCC
  have HLA : Hid (A.length = 1) := hLA
  have HLC : Hid (C.length = 1) := hLC
  clear hLA hLC
  go_enter Tryz.func35, Tryz.ntmps35
  go_upto_region 9 with fail
  rw [← hWE]
  clear hWE
  go_wp2_with fail
  go_loopw [7, 8] (fun v7 v8 wr => ∃ (i : Nat) (O : List (List UInt8)), v8 = .int .i64 i ∧ i ≤ 1 ∧ i ≤ 101 ∧ Hid (O.length = i) ∧ Hid (O = J.take i) ∧ Hid (∀ s ∈ O, s.length ≤ 4000) ∧ Hid (wr.ownsRow WE.heap.size 9 1 v7 i (txV O)) ∧ Hid (Below WE.heap.size WE wr)) (fun _ v8 _ => 1 - (intOf v8).toNat)
  case atStart => exact ⟨0, [], rfl, Nat.zero_le _, by omega, rfl, by simp [Hid], fun s hs => by simp at hs, ⟨rfl, .inl ⟨rfl, rfl⟩⟩, Below.refl _ _⟩
  case round =>
    obtain ⟨i, O, rfl, hi, hi101, HOL, HO, HOZ, HW, HB⟩ := hrel
    obtain ⟨ad4, cap4, rfl⟩ := owns_slice HW.out
    by_cases hil : i < 1
    · by_cases h100 : i ≤ 100
      · obtain ⟨x, hx⟩ : ∃ x, atB A i = x := ⟨_, rfl⟩
        obtain ⟨y, hy⟩ : ∃ y, atB C i = y := ⟨_, rfl⟩
        have gA : A[0]? = some x := by
          rw [← hx]
          exact atB_one HLA.out i
        have eA := HCA'.out _ HB.out 0 x gA
        simp only [Nat.add_zero] at eA
        have mA := HZA.out x (List.mem_of_getElem? gA)
        clear gA
        have gC : C[0]? = some y := by
          rw [← hy]
          exact atB_one HLC.out i
        have eC := HCC'.out _ HB.out 0 y gC
        simp only [Nat.add_zero] at eC
        have mC := HZC.out y (List.mem_of_getElem? gC)
        clear gC
        have sx : (⟨x.toArray⟩ : ByteArray).size = x.length := str_size' x
        have sy : (⟨y.toArray⟩ : ByteArray).size = y.length := str_size' y
        have hxy := str_app2 x y
        have HLOi : Hid (2000 < x.length ∨ 2000 < y.length → bound J = none) := by
          unfold Hid
          rw [← hx, ← hy]
          exact HLO.out i hil
        obtain ⟨O2, hO2⟩ : ∃ O2, O2 = O ++ [x ++ y] := ⟨_, rfl⟩
        have HO2 : Hid (O2 = J.take (i + 1)) := by
          unfold Hid
          rw [HTK.out i hil, hO2, HO.out, hx, hy]
        have HO2L : Hid (O2.length = i + 1) := by
          unfold Hid
          rw [hO2, List.length_append, HOL.out]
          rfl
        have HEQ : Hid (O ++ [x ++ y] = O2) := hO2.symm
        have HB9 : Hid (Below w.heap.size w wr) := HBE.out.trans (HB.out.mono HBE.out.size)
        clear hx hy hO2
        by_cases hbx : 2000 < x.length
        · have H1 : Hid (bound J = none) := HLOi.out (.inl hbx)
          go_wp2_with fail
          go_ret2
          exact ⟨by rw [H1.out]; exact RGot.none _, HB9.out⟩
        by_cases hby : 2000 < y.length
        · have H1 : Hid (bound J = none) := HLOi.out (.inr hby)
          go_wp2_with fail
          go_ret2
          exact ⟨by rw [H1.out]; exact RGot.none _, HB9.out⟩
        have HOZ2 : Hid (∀ s ∈ O2, s.length ≤ 4000) := by
          unfold Hid
          rw [← HEQ.out]
          intro s hs
          rcases List.mem_append.1 hs with hs | hs
          · exact HOZ.out s hs
          · simp at hs
            subst hs
            rw [List.length_append]
            omega
        have HS : Hid (SrcT (wr.alloc (.cells #[.string ⟨(x ++ y).toArray⟩] 9)) (.slice (some ⟨wr.heap.size, 0, none⟩) 1 1) [x ++ y]) := (Tx.one wr (x ++ y)).src
        have hb3 := below_new wr (.cells #[.string ⟨(x ++ y).toArray⟩] 9)
        have HW2' : Hid ((wr.alloc (.cells #[.string ⟨(x ++ y).toArray⟩] 9)).ownsRow WE.heap.size 9 1 (.slice ad4 i cap4) O.length (txV O)) := by
          unfold Hid
          rw [HOL.out]
          exact owns_after HW.out hb3
        have HB2' : Hid (Below WE.heap.size WE (wr.alloc (.cells #[.string ⟨(x ++ y).toArray⟩] 9))) := HB.out.trans (hb3.mono HB.out.size)
        have HBS : Hid (WE.heap.size ≤ (wr.alloc (.cells #[.string ⟨(x ++ y).toArray⟩] 9)).heap.size) := HB2'.out.size
        have HSL : Hid (O.length + [x ++ y].length < 4294967296) := by
          unfold Hid
          rw [HOL.out]
          simp
          omega
        clear hb3
        go_wp2_with (at_builtin; refine wpList_srcT rfl _ _ rfl (v := .slice ad4 i cap4) (xv := .slice (some ⟨wr.heap.size, 0, none⟩) 1 1) (O := O) (L := [x ++ y]) rfl rfl HW2'.out HS.out HSL.out HBS.out ?_; intro v' w' ho hg; rw [HEQ.out, HO2L.out] at ho; obtain ⟨ad', cap', rfl⟩ := owns_slice ho; have HW2 : Hid (w'.ownsRow WE.heap.size 9 1 (.slice ad' (i + 1) cap') (i + 1) (txV O2)) := ho; have HB2 : Hid (Below WE.heap.size WE w') := grown_own HBS.out HB2'.out HW2'.out hg; clear ho hg)
        exact ⟨⟨i + 1, O2, by simp, by omega, by omega, HO2L.out, HO2.out, HOZ2.out, HW2.out, HB2.out⟩, by simp [intOf]; omega⟩
      · exact absurd hil (by omega)
    · obtain rfl : i = 1 := by omega
      have HR : Hid (bound J = bound O) := by
        unfold Hid
        rw [HO.out, List.take_of_length_le (by rw [HJN.out]; exact Nat.le_refl _)]
      have HB9 : Hid (Below w.heap.size w wr) := HBE.out.trans (HB.out.mono HBE.out.size)
      have HTO : Hid (Tx wr (.slice ad4 1 cap4) O) := Tx.owned (by rw [HOL.out]; exact HW.out)
      have HOZ4 : Hid (∀ s ∈ O, s.length < 4294967296) := fun s hs => Nat.lt_of_le_of_lt (HOZ.out s hs) (by decide)
      have HOL4 : Hid (O.length < 4294967296) := by
        unfold Hid
        rw [HOL.out]
        omega
      go_wp2_with fail
      refine (rfits_any _ O _ HTO.out HOZ4.out HOL4.out).mono ?_
      rintro e w3 ⟨⟨ad3, cap3, rfl, t3⟩, hw3⟩
      subst hw3
      have H3 : Hid (RGot (bound O) (.returned (.tuple #[.slice ad3 (resL (bound O)).length cap3, .bool (bound O).isSome])) w3) := ⟨_, _, rfl, t3⟩
      clear t3
      generalize (resL (bound O)).length = n3 at *
      generalize (bound O).isSome = b3 at *
      go_wp2_with fail
      go_ret2
      exact ⟨by rw [HR.out]; exact H3.out, HB9.out⟩
set_option maxRecDepth 100000 in
set_option maxHeartbeats 4000000 in
theorem two_ES (A C J : List (List UInt8)) (w : World) (ada : Option Addr) (capa : Nat) (gc oc capc : Nat) (hLA : A.length = 1) (hLC : C.length = 1) (_hcc : 1 ≤ capc) (HCA : Hid (∀ W', Below (w.alloc (.cells #[.string ⟨#[]⟩] 9)).heap.size (w.alloc (.cells #[.string ⟨#[]⟩] 9)) W' → ∀ k p, A[k]? = some p → W'.cell? ⟨w.heap.size, 0 + k, none⟩ = some (.string ⟨p.toArray⟩))) (HCC : Hid (∀ W', Below (w.alloc (.cells #[.string ⟨#[]⟩] 9)).heap.size (w.alloc (.cells #[.string ⟨#[]⟩] 9)) W' → ∀ k p, C[k]? = some p → W'.cell? ⟨gc, oc + k, none⟩ = some (.string ⟨p.toArray⟩))) (HZA : Hid (∀ s ∈ A, s.length ≤ 60000)) (HZC : Hid (∀ s ∈ C, s.length ≤ 60000)) (HTK : Hid (∀ k, k < 1 → J.take (k + 1) = J.take k ++ [atB A k ++ atB C k])) (HLO : Hid (∀ k, k < 1 → 2000 < (atB A k).length ∨ 2000 < (atB C k).length → bound J = none)) (HJN : Hid (J.length = 1)) :
    Calls Tryz.prog 35 #[.slice ada 0 capa, .slice (some ⟨gc, oc, none⟩) 1 capc] w fun e w' => RGot (bound J) e w' ∧ Below w.heap.size w w' := by
  obtain ⟨WE, hWE⟩ : ∃ WE, WE = (w.alloc (.cells #[.string ⟨#[]⟩] 9)) := ⟨_, rfl⟩
  have HBE : Hid (Below w.heap.size w WE) := by
    unfold Hid
    rw [hWE]
    exact below_new w _
  have HCA' : Hid (∀ W', Below WE.heap.size WE W' → ∀ k p, A[k]? = some p → W'.cell? ⟨w.heap.size, 0 + k, none⟩ = some (.string ⟨p.toArray⟩)) := by rw [hWE]; exact HCA
  have HCC' : Hid (∀ W', Below WE.heap.size WE W' → ∀ k p, C[k]? = some p → W'.cell? ⟨gc, oc + k, none⟩ = some (.string ⟨p.toArray⟩)) := by rw [hWE]; exact HCC
  clear HCA HCC
  have HLA : Hid (A.length = 1) := hLA
  have HLC : Hid (C.length = 1) := hLC
  clear hLA hLC
  go_enter Tryz.func35, Tryz.ntmps35
  go_upto_region 9 with fail
  rw [← hWE]
  clear hWE
  go_wp2_with fail
  go_loopw [7, 8] (fun v7 v8 wr => ∃ (i : Nat) (O : List (List UInt8)), v8 = .int .i64 i ∧ i ≤ 1 ∧ i ≤ 101 ∧ Hid (O.length = i) ∧ Hid (O = J.take i) ∧ Hid (∀ s ∈ O, s.length ≤ 4000) ∧ Hid (wr.ownsRow WE.heap.size 9 1 v7 i (txV O)) ∧ Hid (Below WE.heap.size WE wr)) (fun _ v8 _ => 1 - (intOf v8).toNat)
  case atStart => exact ⟨0, [], rfl, Nat.zero_le _, by omega, rfl, by simp [Hid], fun s hs => by simp at hs, ⟨rfl, .inl ⟨rfl, rfl⟩⟩, Below.refl _ _⟩
  case round =>
    obtain ⟨i, O, rfl, hi, hi101, HOL, HO, HOZ, HW, HB⟩ := hrel
    obtain ⟨ad4, cap4, rfl⟩ := owns_slice HW.out
    by_cases hil : i < 1
    · by_cases h100 : i ≤ 100
      · obtain ⟨x, hx⟩ : ∃ x, atB A i = x := ⟨_, rfl⟩
        obtain ⟨y, hy⟩ : ∃ y, atB C i = y := ⟨_, rfl⟩
        have gA : A[0]? = some x := by
          rw [← hx]
          exact atB_one HLA.out i
        have eA := HCA'.out _ HB.out 0 x gA
        simp only [Nat.add_zero] at eA
        have mA := HZA.out x (List.mem_of_getElem? gA)
        clear gA
        have gC : C[0]? = some y := by
          rw [← hy]
          exact atB_one HLC.out i
        have eC := HCC'.out _ HB.out 0 y gC
        simp only [Nat.add_zero] at eC
        have mC := HZC.out y (List.mem_of_getElem? gC)
        clear gC
        have sx : (⟨x.toArray⟩ : ByteArray).size = x.length := str_size' x
        have sy : (⟨y.toArray⟩ : ByteArray).size = y.length := str_size' y
        have hxy := str_app2 x y
        have HLOi : Hid (2000 < x.length ∨ 2000 < y.length → bound J = none) := by
          unfold Hid
          rw [← hx, ← hy]
          exact HLO.out i hil
        obtain ⟨O2, hO2⟩ : ∃ O2, O2 = O ++ [x ++ y] := ⟨_, rfl⟩
        have HO2 : Hid (O2 = J.take (i + 1)) := by
          unfold Hid
          rw [HTK.out i hil, hO2, HO.out, hx, hy]
        have HO2L : Hid (O2.length = i + 1) := by
          unfold Hid
          rw [hO2, List.length_append, HOL.out]
          rfl
        have HEQ : Hid (O ++ [x ++ y] = O2) := hO2.symm
        have HB9 : Hid (Below w.heap.size w wr) := HBE.out.trans (HB.out.mono HBE.out.size)
        clear hx hy hO2
        by_cases hbx : 2000 < x.length
        · have H1 : Hid (bound J = none) := HLOi.out (.inl hbx)
          go_wp2_with fail
          go_ret2
          exact ⟨by rw [H1.out]; exact RGot.none _, HB9.out⟩
        by_cases hby : 2000 < y.length
        · have H1 : Hid (bound J = none) := HLOi.out (.inr hby)
          go_wp2_with fail
          go_ret2
          exact ⟨by rw [H1.out]; exact RGot.none _, HB9.out⟩
        have HOZ2 : Hid (∀ s ∈ O2, s.length ≤ 4000) := by
          unfold Hid
          rw [← HEQ.out]
          intro s hs
          rcases List.mem_append.1 hs with hs | hs
          · exact HOZ.out s hs
          · simp at hs
            subst hs
            rw [List.length_append]
            omega
        have HS : Hid (SrcT (wr.alloc (.cells #[.string ⟨(x ++ y).toArray⟩] 9)) (.slice (some ⟨wr.heap.size, 0, none⟩) 1 1) [x ++ y]) := (Tx.one wr (x ++ y)).src
        have hb3 := below_new wr (.cells #[.string ⟨(x ++ y).toArray⟩] 9)
        have HW2' : Hid ((wr.alloc (.cells #[.string ⟨(x ++ y).toArray⟩] 9)).ownsRow WE.heap.size 9 1 (.slice ad4 i cap4) O.length (txV O)) := by
          unfold Hid
          rw [HOL.out]
          exact owns_after HW.out hb3
        have HB2' : Hid (Below WE.heap.size WE (wr.alloc (.cells #[.string ⟨(x ++ y).toArray⟩] 9))) := HB.out.trans (hb3.mono HB.out.size)
        have HBS : Hid (WE.heap.size ≤ (wr.alloc (.cells #[.string ⟨(x ++ y).toArray⟩] 9)).heap.size) := HB2'.out.size
        have HSL : Hid (O.length + [x ++ y].length < 4294967296) := by
          unfold Hid
          rw [HOL.out]
          simp
          omega
        clear hb3
        go_wp2_with (at_builtin; refine wpList_srcT rfl _ _ rfl (v := .slice ad4 i cap4) (xv := .slice (some ⟨wr.heap.size, 0, none⟩) 1 1) (O := O) (L := [x ++ y]) rfl rfl HW2'.out HS.out HSL.out HBS.out ?_; intro v' w' ho hg; rw [HEQ.out, HO2L.out] at ho; obtain ⟨ad', cap', rfl⟩ := owns_slice ho; have HW2 : Hid (w'.ownsRow WE.heap.size 9 1 (.slice ad' (i + 1) cap') (i + 1) (txV O2)) := ho; have HB2 : Hid (Below WE.heap.size WE w') := grown_own HBS.out HB2'.out HW2'.out hg; clear ho hg)
        exact ⟨⟨i + 1, O2, by simp, by omega, by omega, HO2L.out, HO2.out, HOZ2.out, HW2.out, HB2.out⟩, by simp [intOf]; omega⟩
      · exact absurd hil (by omega)
    · obtain rfl : i = 1 := by omega
      have HR : Hid (bound J = bound O) := by
        unfold Hid
        rw [HO.out, List.take_of_length_le (by rw [HJN.out]; exact Nat.le_refl _)]
      have HB9 : Hid (Below w.heap.size w wr) := HBE.out.trans (HB.out.mono HBE.out.size)
      have HTO : Hid (Tx wr (.slice ad4 1 cap4) O) := Tx.owned (by rw [HOL.out]; exact HW.out)
      have HOZ4 : Hid (∀ s ∈ O, s.length < 4294967296) := fun s hs => Nat.lt_of_le_of_lt (HOZ.out s hs) (by decide)
      have HOL4 : Hid (O.length < 4294967296) := by
        unfold Hid
        rw [HOL.out]
        omega
      go_wp2_with fail
      refine (rfits_any _ O _ HTO.out HOZ4.out HOL4.out).mono ?_
      rintro e w3 ⟨⟨ad3, cap3, rfl, t3⟩, hw3⟩
      subst hw3
      have H3 : Hid (RGot (bound O) (.returned (.tuple #[.slice ad3 (resL (bound O)).length cap3, .bool (bound O).isSome])) w3) := ⟨_, _, rfl, t3⟩
      clear t3
      generalize (resL (bound O)).length = n3 at *
      generalize (bound O).isSome = b3 at *
      go_wp2_with fail
      go_ret2
      exact ⟨by rw [HR.out]; exact H3.out, HB9.out⟩
set_option maxRecDepth 100000 in
set_option maxHeartbeats 4000000 in
theorem two_EM (A C J : List (List UInt8)) (w : World) (ada : Option Addr) (capa : Nat) (gc oc capc : Nat) (hLA : A.length = 1) (LC : Nat) (hLC : C.length = LC) (hLC2 : 2 ≤ LC) (hLCb : LC ≤ 60000) (_hcc : LC ≤ capc) (HCA : Hid (∀ W', Below (w.alloc (.cells #[.string ⟨#[]⟩] 9)).heap.size (w.alloc (.cells #[.string ⟨#[]⟩] 9)) W' → ∀ k p, A[k]? = some p → W'.cell? ⟨w.heap.size, 0 + k, none⟩ = some (.string ⟨p.toArray⟩))) (HCC : Hid (∀ W', Below (w.alloc (.cells #[.string ⟨#[]⟩] 9)).heap.size (w.alloc (.cells #[.string ⟨#[]⟩] 9)) W' → ∀ k p, C[k]? = some p → W'.cell? ⟨gc, oc + k, none⟩ = some (.string ⟨p.toArray⟩))) (HZA : Hid (∀ s ∈ A, s.length ≤ 60000)) (HZC : Hid (∀ s ∈ C, s.length ≤ 60000)) (HTK : Hid (∀ k, k < LC → J.take (k + 1) = J.take k ++ [atB A k ++ atB C k])) (HLO : Hid (∀ k, k < LC → 2000 < (atB A k).length ∨ 2000 < (atB C k).length → bound J = none)) (HJN : Hid (J.length = LC)) :
    Calls Tryz.prog 35 #[.slice ada 0 capa, .slice (some ⟨gc, oc, none⟩) LC capc] w fun e w' => RGot (bound J) e w' ∧ Below w.heap.size w w' := by
  obtain ⟨WE, hWE⟩ : ∃ WE, WE = (w.alloc (.cells #[.string ⟨#[]⟩] 9)) := ⟨_, rfl⟩
  have HBE : Hid (Below w.heap.size w WE) := by
    unfold Hid
    rw [hWE]
    exact below_new w _
  have HCA' : Hid (∀ W', Below WE.heap.size WE W' → ∀ k p, A[k]? = some p → W'.cell? ⟨w.heap.size, 0 + k, none⟩ = some (.string ⟨p.toArray⟩)) := by rw [hWE]; exact HCA
  have HCC' : Hid (∀ W', Below WE.heap.size WE W' → ∀ k p, C[k]? = some p → W'.cell? ⟨gc, oc + k, none⟩ = some (.string ⟨p.toArray⟩)) := by rw [hWE]; exact HCC
  clear HCA HCC
  have HC0 : Hid (∃ z, C[0]? = some z) := ⟨_, List.getElem?_eq_getElem (by omega)⟩
  have zLC : ((LC : Int) == 0) = false := beq_eq_false_iff_ne.2 (by omega)
  have yLC : ((LC : Int) == 1) = false := beq_eq_false_iff_ne.2 (by omega)
  have HLA : Hid (A.length = 1) := hLA
  have HLC : Hid (C.length = LC) := hLC
  clear hLA hLC
  go_enter Tryz.func35, Tryz.ntmps35
  go_upto_region 9 with fail
  rw [← hWE]
  clear hWE
  go_wp2_with fail
  go_loopw [7, 8] (fun v7 v8 wr => ∃ (i : Nat) (O : List (List UInt8)), v8 = .int .i64 i ∧ i ≤ LC ∧ i ≤ 101 ∧ Hid (O.length = i) ∧ Hid (O = J.take i) ∧ Hid (∀ s ∈ O, s.length ≤ 4000) ∧ Hid (wr.ownsRow WE.heap.size 9 1 v7 i (txV O)) ∧ Hid (Below WE.heap.size WE wr)) (fun _ v8 _ => LC - (intOf v8).toNat)
  case atStart => exact ⟨0, [], rfl, Nat.zero_le _, by omega, rfl, by simp [Hid], fun s hs => by simp at hs, ⟨rfl, .inl ⟨rfl, rfl⟩⟩, Below.refl _ _⟩
  case round =>
    obtain ⟨i, O, rfl, hi, hi101, HOL, HO, HOZ, HW, HB⟩ := hrel
    obtain ⟨ad4, cap4, rfl⟩ := owns_slice HW.out
    by_cases hil : i < LC
    · by_cases h100 : i ≤ 100
      · obtain ⟨x, hx⟩ : ∃ x, atB A i = x := ⟨_, rfl⟩
        obtain ⟨y, hy⟩ : ∃ y, atB C i = y := ⟨_, rfl⟩
        have gA : A[0]? = some x := by
          rw [← hx]
          exact atB_one HLA.out i
        have eA := HCA'.out _ HB.out 0 x gA
        simp only [Nat.add_zero] at eA
        have mA := HZA.out x (List.mem_of_getElem? gA)
        clear gA
        have gC : C[i]? = some y := by
          rw [← hy]
          exact atB_at (by rw [HLC.out]; omega) (by rw [HLC.out]; omega)
        have eC := HCC'.out _ HB.out i y gC
        obtain ⟨zC, hzC⟩ := HC0.out
        have fC := HCC'.out _ HB.out 0 zC hzC
        simp only [Nat.add_zero] at fC
        have iC : (i : Int) < (LC : Int) := by omega
        have mC := HZC.out y (List.mem_of_getElem? gC)
        clear hzC gC
        have sx : (⟨x.toArray⟩ : ByteArray).size = x.length := str_size' x
        have sy : (⟨y.toArray⟩ : ByteArray).size = y.length := str_size' y
        have hxy := str_app2 x y
        have HLOi : Hid (2000 < x.length ∨ 2000 < y.length → bound J = none) := by
          unfold Hid
          rw [← hx, ← hy]
          exact HLO.out i hil
        obtain ⟨O2, hO2⟩ : ∃ O2, O2 = O ++ [x ++ y] := ⟨_, rfl⟩
        have HO2 : Hid (O2 = J.take (i + 1)) := by
          unfold Hid
          rw [HTK.out i hil, hO2, HO.out, hx, hy]
        have HO2L : Hid (O2.length = i + 1) := by
          unfold Hid
          rw [hO2, List.length_append, HOL.out]
          rfl
        have HEQ : Hid (O ++ [x ++ y] = O2) := hO2.symm
        have HB9 : Hid (Below w.heap.size w wr) := HBE.out.trans (HB.out.mono HBE.out.size)
        clear hx hy hO2
        by_cases hbx : 2000 < x.length
        · have HLC : Hid (bound J = none) := HLOi.out (.inl hbx)
          go_wp2_with fail
          go_ret2
          exact ⟨by rw [HLC.out]; exact RGot.none _, HB9.out⟩
        by_cases hby : 2000 < y.length
        · have HLC : Hid (bound J = none) := HLOi.out (.inr hby)
          go_wp2_with fail
          go_ret2
          exact ⟨by rw [HLC.out]; exact RGot.none _, HB9.out⟩
        have HOZ2 : Hid (∀ s ∈ O2, s.length ≤ 4000) := by
          unfold Hid
          rw [← HEQ.out]
          intro s hs
          rcases List.mem_append.1 hs with hs | hs
          · exact HOZ.out s hs
          · simp at hs
            subst hs
            rw [List.length_append]
            omega
        have HS : Hid (SrcT (wr.alloc (.cells #[.string ⟨(x ++ y).toArray⟩] 9)) (.slice (some ⟨wr.heap.size, 0, none⟩) 1 1) [x ++ y]) := (Tx.one wr (x ++ y)).src
        have hb3 := below_new wr (.cells #[.string ⟨(x ++ y).toArray⟩] 9)
        have HW2' : Hid ((wr.alloc (.cells #[.string ⟨(x ++ y).toArray⟩] 9)).ownsRow WE.heap.size 9 1 (.slice ad4 i cap4) O.length (txV O)) := by
          unfold Hid
          rw [HOL.out]
          exact owns_after HW.out hb3
        have HB2' : Hid (Below WE.heap.size WE (wr.alloc (.cells #[.string ⟨(x ++ y).toArray⟩] 9))) := HB.out.trans (hb3.mono HB.out.size)
        have HBS : Hid (WE.heap.size ≤ (wr.alloc (.cells #[.string ⟨(x ++ y).toArray⟩] 9)).heap.size) := HB2'.out.size
        have HSL : Hid (O.length + [x ++ y].length < 4294967296) := by
          unfold Hid
          rw [HOL.out]
          simp
          omega
        clear hb3
        go_wp2_with (at_builtin; refine wpList_srcT rfl _ _ rfl (v := .slice ad4 i cap4) (xv := .slice (some ⟨wr.heap.size, 0, none⟩) 1 1) (O := O) (L := [x ++ y]) rfl rfl HW2'.out HS.out HSL.out HBS.out ?_; intro v' w' ho hg; rw [HEQ.out, HO2L.out] at ho; obtain ⟨ad', cap', rfl⟩ := owns_slice ho; have HW2 : Hid (w'.ownsRow WE.heap.size 9 1 (.slice ad' (i + 1) cap') (i + 1) (txV O2)) := ho; have HB2 : Hid (Below WE.heap.size WE w') := grown_own HBS.out HB2'.out HW2'.out hg; clear ho hg)
        exact ⟨⟨i + 1, O2, by simp, by omega, by omega, HO2L.out, HO2.out, HOZ2.out, HW2.out, HB2.out⟩, by simp [intOf]; omega⟩
      · obtain rfl : i = 101 := by omega
        have HR : Hid (bound J = bound O) := by
          unfold Hid
          rw [bound_no (fits_many (by rw [HJN.out]; omega)), bound_no (fits_many (by rw [HOL.out]; omega))]
        have hil' : (101 : Int) < (LC : Int) := by omega
        have HB9 : Hid (Below w.heap.size w wr) := HBE.out.trans (HB.out.mono HBE.out.size)
        have HTO : Hid (Tx wr (.slice ad4 101 cap4) O) := Tx.owned (by rw [HOL.out]; exact HW.out)
        have HOZ4 : Hid (∀ s ∈ O, s.length < 4294967296) := fun s hs => Nat.lt_of_le_of_lt (HOZ.out s hs) (by decide)
        have HOL4 : Hid (O.length < 4294967296) := by
          unfold Hid
          rw [HOL.out]
          omega
        go_wp2_with fail
        refine (rfits_any _ O _ HTO.out HOZ4.out HOL4.out).mono ?_
        rintro e w3 ⟨⟨ad3, cap3, rfl, t3⟩, hw3⟩
        subst hw3
        have H3 : Hid (RGot (bound O) (.returned (.tuple #[.slice ad3 (resL (bound O)).length cap3, .bool (bound O).isSome])) w3) := ⟨_, _, rfl, t3⟩
        clear t3
        generalize (resL (bound O)).length = n3 at *
        generalize (bound O).isSome = b3 at *
        go_wp2_with fail
        go_ret2
        exact ⟨by rw [HR.out]; exact H3.out, HB9.out⟩
    · obtain rfl : i = LC := by omega
      have HR : Hid (bound J = bound O) := by
        unfold Hid
        rw [HO.out, List.take_of_length_le (by rw [HJN.out]; exact Nat.le_refl _)]
      have HB9 : Hid (Below w.heap.size w wr) := HBE.out.trans (HB.out.mono HBE.out.size)
      have HTO : Hid (Tx wr (.slice ad4 i cap4) O) := Tx.owned (by rw [HOL.out]; exact HW.out)
      have HOZ4 : Hid (∀ s ∈ O, s.length < 4294967296) := fun s hs => Nat.lt_of_le_of_lt (HOZ.out s hs) (by decide)
      have HOL4 : Hid (O.length < 4294967296) := by
        unfold Hid
        rw [HOL.out]
        omega
      go_wp2_with fail
      refine (rfits_any _ O _ HTO.out HOZ4.out HOL4.out).mono ?_
      rintro e w3 ⟨⟨ad3, cap3, rfl, t3⟩, hw3⟩
      subst hw3
      have H3 : Hid (RGot (bound O) (.returned (.tuple #[.slice ad3 (resL (bound O)).length cap3, .bool (bound O).isSome])) w3) := ⟨_, _, rfl, t3⟩
      clear t3
      generalize (resL (bound O)).length = n3 at *
      generalize (bound O).isSome = b3 at *
      go_wp2_with fail
      go_ret2
      exact ⟨by rw [HR.out]; exact H3.out, HB9.out⟩
set_option maxRecDepth 100000 in
set_option maxHeartbeats 4000000 in
theorem two_SE (A C J : List (List UInt8)) (w : World) (ga oa capa : Nat) (adc : Option Addr) (capc : Nat) (hLA : A.length = 1) (hLC : C.length = 1) (_hca : 1 ≤ capa) (HCA : Hid (∀ W', Below (w.alloc (.cells #[.string ⟨#[]⟩] 9)).heap.size (w.alloc (.cells #[.string ⟨#[]⟩] 9)) W' → ∀ k p, A[k]? = some p → W'.cell? ⟨ga, oa + k, none⟩ = some (.string ⟨p.toArray⟩))) (HCC : Hid (∀ W', Below (w.alloc (.cells #[.string ⟨#[]⟩] 9)).heap.size (w.alloc (.cells #[.string ⟨#[]⟩] 9)) W' → ∀ k p, C[k]? = some p → W'.cell? ⟨w.heap.size, 0 + k, none⟩ = some (.string ⟨p.toArray⟩))) (HZA : Hid (∀ s ∈ A, s.length ≤ 60000)) (HZC : Hid (∀ s ∈ C, s.length ≤ 60000)) (HTK : Hid (∀ k, k < 1 → J.take (k + 1) = J.take k ++ [atB A k ++ atB C k])) (HLO : Hid (∀ k, k < 1 → 2000 < (atB A k).length ∨ 2000 < (atB C k).length → bound J = none)) (HJN : Hid (J.length = 1)) :
    Calls Tryz.prog 35 #[.slice (some ⟨ga, oa, none⟩) 1 capa, .slice adc 0 capc] w fun e w' => RGot (bound J) e w' ∧ Below w.heap.size w w' := by
  obtain ⟨WE, hWE⟩ : ∃ WE, WE = (w.alloc (.cells #[.string ⟨#[]⟩] 9)) := ⟨_, rfl⟩
  have HBE : Hid (Below w.heap.size w WE) := by
    unfold Hid
    rw [hWE]
    exact below_new w _
  have HCA' : Hid (∀ W', Below WE.heap.size WE W' → ∀ k p, A[k]? = some p → W'.cell? ⟨ga, oa + k, none⟩ = some (.string ⟨p.toArray⟩)) := by rw [hWE]; exact HCA
  have HCC' : Hid (∀ W', Below WE.heap.size WE W' → ∀ k p, C[k]? = some p → W'.cell? ⟨w.heap.size, 0 + k, none⟩ = some (.string ⟨p.toArray⟩)) := by rw [hWE]; exact HCC
  clear HCA HCC
  have HLA : Hid (A.length = 1) := hLA
  have HLC : Hid (C.length = 1) := hLC
  clear hLA hLC
  go_enter Tryz.func35, Tryz.ntmps35
  go_upto_region 9 with fail
  rw [← hWE]
  clear hWE
  go_wp2_with fail
  go_loopw [7, 8] (fun v7 v8 wr => ∃ (i : Nat) (O : List (List UInt8)), v8 = .int .i64 i ∧ i ≤ 1 ∧ i ≤ 101 ∧ Hid (O.length = i) ∧ Hid (O = J.take i) ∧ Hid (∀ s ∈ O, s.length ≤ 4000) ∧ Hid (wr.ownsRow WE.heap.size 9 1 v7 i (txV O)) ∧ Hid (Below WE.heap.size WE wr)) (fun _ v8 _ => 1 - (intOf v8).toNat)
  case atStart => exact ⟨0, [], rfl, Nat.zero_le _, by omega, rfl, by simp [Hid], fun s hs => by simp at hs, ⟨rfl, .inl ⟨rfl, rfl⟩⟩, Below.refl _ _⟩
  case round =>
    obtain ⟨i, O, rfl, hi, hi101, HOL, HO, HOZ, HW, HB⟩ := hrel
    obtain ⟨ad4, cap4, rfl⟩ := owns_slice HW.out
    by_cases hil : i < 1
    · by_cases h100 : i ≤ 100
      · obtain ⟨x, hx⟩ : ∃ x, atB A i = x := ⟨_, rfl⟩
        obtain ⟨y, hy⟩ : ∃ y, atB C i = y := ⟨_, rfl⟩
        have gA : A[0]? = some x := by
          rw [← hx]
          exact atB_one HLA.out i
        have eA := HCA'.out _ HB.out 0 x gA
        simp only [Nat.add_zero] at eA
        have mA := HZA.out x (List.mem_of_getElem? gA)
        clear gA
        have gC : C[0]? = some y := by
          rw [← hy]
          exact atB_one HLC.out i
        have eC := HCC'.out _ HB.out 0 y gC
        simp only [Nat.add_zero] at eC
        have mC := HZC.out y (List.mem_of_getElem? gC)
        clear gC
        have sx : (⟨x.toArray⟩ : ByteArray).size = x.length := str_size' x
        have sy : (⟨y.toArray⟩ : ByteArray).size = y.length := str_size' y
        have hxy := str_app2 x y
        have HLOi : Hid (2000 < x.length ∨ 2000 < y.length → bound J = none) := by
          unfold Hid
          rw [← hx, ← hy]
          exact HLO.out i hil
        obtain ⟨O2, hO2⟩ : ∃ O2, O2 = O ++ [x ++ y] := ⟨_, rfl⟩
        have HO2 : Hid (O2 = J.take (i + 1)) := by
          unfold Hid
          rw [HTK.out i hil, hO2, HO.out, hx, hy]
        have HO2L : Hid (O2.length = i + 1) := by
          unfold Hid
          rw [hO2, List.length_append, HOL.out]
          rfl
        have HEQ : Hid (O ++ [x ++ y] = O2) := hO2.symm
        have HB9 : Hid (Below w.heap.size w wr) := HBE.out.trans (HB.out.mono HBE.out.size)
        clear hx hy hO2
        by_cases hbx : 2000 < x.length
        · have H1 : Hid (bound J = none) := HLOi.out (.inl hbx)
          go_wp2_with fail
          go_ret2
          exact ⟨by rw [H1.out]; exact RGot.none _, HB9.out⟩
        by_cases hby : 2000 < y.length
        · have H1 : Hid (bound J = none) := HLOi.out (.inr hby)
          go_wp2_with fail
          go_ret2
          exact ⟨by rw [H1.out]; exact RGot.none _, HB9.out⟩
        have HOZ2 : Hid (∀ s ∈ O2, s.length ≤ 4000) := by
          unfold Hid
          rw [← HEQ.out]
          intro s hs
          rcases List.mem_append.1 hs with hs | hs
          · exact HOZ.out s hs
          · simp at hs
            subst hs
            rw [List.length_append]
            omega
        have HS : Hid (SrcT (wr.alloc (.cells #[.string ⟨(x ++ y).toArray⟩] 9)) (.slice (some ⟨wr.heap.size, 0, none⟩) 1 1) [x ++ y]) := (Tx.one wr (x ++ y)).src
        have hb3 := below_new wr (.cells #[.string ⟨(x ++ y).toArray⟩] 9)
        have HW2' : Hid ((wr.alloc (.cells #[.string ⟨(x ++ y).toArray⟩] 9)).ownsRow WE.heap.size 9 1 (.slice ad4 i cap4) O.length (txV O)) := by
          unfold Hid
          rw [HOL.out]
          exact owns_after HW.out hb3
        have HB2' : Hid (Below WE.heap.size WE (wr.alloc (.cells #[.string ⟨(x ++ y).toArray⟩] 9))) := HB.out.trans (hb3.mono HB.out.size)
        have HBS : Hid (WE.heap.size ≤ (wr.alloc (.cells #[.string ⟨(x ++ y).toArray⟩] 9)).heap.size) := HB2'.out.size
        have HSL : Hid (O.length + [x ++ y].length < 4294967296) := by
          unfold Hid
          rw [HOL.out]
          simp
          omega
        clear hb3
        go_wp2_with (at_builtin; refine wpList_srcT rfl _ _ rfl (v := .slice ad4 i cap4) (xv := .slice (some ⟨wr.heap.size, 0, none⟩) 1 1) (O := O) (L := [x ++ y]) rfl rfl HW2'.out HS.out HSL.out HBS.out ?_; intro v' w' ho hg; rw [HEQ.out, HO2L.out] at ho; obtain ⟨ad', cap', rfl⟩ := owns_slice ho; have HW2 : Hid (w'.ownsRow WE.heap.size 9 1 (.slice ad' (i + 1) cap') (i + 1) (txV O2)) := ho; have HB2 : Hid (Below WE.heap.size WE w') := grown_own HBS.out HB2'.out HW2'.out hg; clear ho hg)
        exact ⟨⟨i + 1, O2, by simp, by omega, by omega, HO2L.out, HO2.out, HOZ2.out, HW2.out, HB2.out⟩, by simp [intOf]; omega⟩
      · exact absurd hil (by omega)
    · obtain rfl : i = 1 := by omega
      have HR : Hid (bound J = bound O) := by
        unfold Hid
        rw [HO.out, List.take_of_length_le (by rw [HJN.out]; exact Nat.le_refl _)]
      have HB9 : Hid (Below w.heap.size w wr) := HBE.out.trans (HB.out.mono HBE.out.size)
      have HTO : Hid (Tx wr (.slice ad4 1 cap4) O) := Tx.owned (by rw [HOL.out]; exact HW.out)
      have HOZ4 : Hid (∀ s ∈ O, s.length < 4294967296) := fun s hs => Nat.lt_of_le_of_lt (HOZ.out s hs) (by decide)
      have HOL4 : Hid (O.length < 4294967296) := by
        unfold Hid
        rw [HOL.out]
        omega
      go_wp2_with fail
      refine (rfits_any _ O _ HTO.out HOZ4.out HOL4.out).mono ?_
      rintro e w3 ⟨⟨ad3, cap3, rfl, t3⟩, hw3⟩
      subst hw3
      have H3 : Hid (RGot (bound O) (.returned (.tuple #[.slice ad3 (resL (bound O)).length cap3, .bool (bound O).isSome])) w3) := ⟨_, _, rfl, t3⟩
      clear t3
      generalize (resL (bound O)).length = n3 at *
      generalize (bound O).isSome = b3 at *
      go_wp2_with fail
      go_ret2
      exact ⟨by rw [HR.out]; exact H3.out, HB9.out⟩
set_option maxRecDepth 100000 in
set_option maxHeartbeats 4000000 in
theorem two_SS (A C J : List (List UInt8)) (w : World) (ga oa capa : Nat) (gc oc capc : Nat) (hLA : A.length = 1) (hLC : C.length = 1) (_hca : 1 ≤ capa) (_hcc : 1 ≤ capc) (HCA : Hid (∀ W', Below w.heap.size w W' → ∀ k p, A[k]? = some p → W'.cell? ⟨ga, oa + k, none⟩ = some (.string ⟨p.toArray⟩))) (HCC : Hid (∀ W', Below w.heap.size w W' → ∀ k p, C[k]? = some p → W'.cell? ⟨gc, oc + k, none⟩ = some (.string ⟨p.toArray⟩))) (HZA : Hid (∀ s ∈ A, s.length ≤ 60000)) (HZC : Hid (∀ s ∈ C, s.length ≤ 60000)) (HTK : Hid (∀ k, k < 1 → J.take (k + 1) = J.take k ++ [atB A k ++ atB C k])) (HLO : Hid (∀ k, k < 1 → 2000 < (atB A k).length ∨ 2000 < (atB C k).length → bound J = none)) (HJN : Hid (J.length = 1)) :
    Calls Tryz.prog 35 #[.slice (some ⟨ga, oa, none⟩) 1 capa, .slice (some ⟨gc, oc, none⟩) 1 capc] w fun e w' => RGot (bound J) e w' ∧ Below w.heap.size w w' := by
  obtain ⟨WE, hWE⟩ : ∃ WE, WE = w := ⟨_, rfl⟩
  have HBE : Hid (Below w.heap.size w WE) := by
    unfold Hid
    rw [hWE]
    exact Below.refl _ _
  have HCA' : Hid (∀ W', Below WE.heap.size WE W' → ∀ k p, A[k]? = some p → W'.cell? ⟨ga, oa + k, none⟩ = some (.string ⟨p.toArray⟩)) := by rw [hWE]; exact HCA
  have HCC' : Hid (∀ W', Below WE.heap.size WE W' → ∀ k p, C[k]? = some p → W'.cell? ⟨gc, oc + k, none⟩ = some (.string ⟨p.toArray⟩)) := by rw [hWE]; exact HCC
  clear HCA HCC
  have HLA : Hid (A.length = 1) := hLA
  have HLC : Hid (C.length = 1) := hLC
  clear hLA hLC
  go_enter Tryz.func35, Tryz.ntmps35
  go_upto_region 9 with fail
  rw [← hWE]
  clear hWE
  go_wp2_with fail
  go_loopw [7, 8] (fun v7 v8 wr => ∃ (i : Nat) (O : List (List UInt8)), v8 = .int .i64 i ∧ i ≤ 1 ∧ i ≤ 101 ∧ Hid (O.length = i) ∧ Hid (O = J.take i) ∧ Hid (∀ s ∈ O, s.length ≤ 4000) ∧ Hid (wr.ownsRow WE.heap.size 9 1 v7 i (txV O)) ∧ Hid (Below WE.heap.size WE wr)) (fun _ v8 _ => 1 - (intOf v8).toNat)
  case atStart => exact ⟨0, [], rfl, Nat.zero_le _, by omega, rfl, by simp [Hid], fun s hs => by simp at hs, ⟨rfl, .inl ⟨rfl, rfl⟩⟩, Below.refl _ _⟩
  case round =>
    obtain ⟨i, O, rfl, hi, hi101, HOL, HO, HOZ, HW, HB⟩ := hrel
    obtain ⟨ad4, cap4, rfl⟩ := owns_slice HW.out
    by_cases hil : i < 1
    · by_cases h100 : i ≤ 100
      · obtain ⟨x, hx⟩ : ∃ x, atB A i = x := ⟨_, rfl⟩
        obtain ⟨y, hy⟩ : ∃ y, atB C i = y := ⟨_, rfl⟩
        have gA : A[0]? = some x := by
          rw [← hx]
          exact atB_one HLA.out i
        have eA := HCA'.out _ HB.out 0 x gA
        simp only [Nat.add_zero] at eA
        have mA := HZA.out x (List.mem_of_getElem? gA)
        clear gA
        have gC : C[0]? = some y := by
          rw [← hy]
          exact atB_one HLC.out i
        have eC := HCC'.out _ HB.out 0 y gC
        simp only [Nat.add_zero] at eC
        have mC := HZC.out y (List.mem_of_getElem? gC)
        clear gC
        have sx : (⟨x.toArray⟩ : ByteArray).size = x.length := str_size' x
        have sy : (⟨y.toArray⟩ : ByteArray).size = y.length := str_size' y
        have hxy := str_app2 x y
        have HLOi : Hid (2000 < x.length ∨ 2000 < y.length → bound J = none) := by
          unfold Hid
          rw [← hx, ← hy]
          exact HLO.out i hil
        obtain ⟨O2, hO2⟩ : ∃ O2, O2 = O ++ [x ++ y] := ⟨_, rfl⟩
        have HO2 : Hid (O2 = J.take (i + 1)) := by
          unfold Hid
          rw [HTK.out i hil, hO2, HO.out, hx, hy]
        have HO2L : Hid (O2.length = i + 1) := by
          unfold Hid
          rw [hO2, List.length_append, HOL.out]
          rfl
        have HEQ : Hid (O ++ [x ++ y] = O2) := hO2.symm
        have HB9 : Hid (Below w.heap.size w wr) := HBE.out.trans (HB.out.mono HBE.out.size)
        clear hx hy hO2
        by_cases hbx : 2000 < x.length
        · have H1 : Hid (bound J = none) := HLOi.out (.inl hbx)
          go_wp2_with fail
          go_ret2
          exact ⟨by rw [H1.out]; exact RGot.none _, HB9.out⟩
        by_cases hby : 2000 < y.length
        · have H1 : Hid (bound J = none) := HLOi.out (.inr hby)
          go_wp2_with fail
          go_ret2
          exact ⟨by rw [H1.out]; exact RGot.none _, HB9.out⟩
        have HOZ2 : Hid (∀ s ∈ O2, s.length ≤ 4000) := by
          unfold Hid
          rw [← HEQ.out]
          intro s hs
          rcases List.mem_append.1 hs with hs | hs
          · exact HOZ.out s hs
          · simp at hs
            subst hs
            rw [List.length_append]
            omega
        have HS : Hid (SrcT (wr.alloc (.cells #[.string ⟨(x ++ y).toArray⟩] 9)) (.slice (some ⟨wr.heap.size, 0, none⟩) 1 1) [x ++ y]) := (Tx.one wr (x ++ y)).src
        have hb3 := below_new wr (.cells #[.string ⟨(x ++ y).toArray⟩] 9)
        have HW2' : Hid ((wr.alloc (.cells #[.string ⟨(x ++ y).toArray⟩] 9)).ownsRow WE.heap.size 9 1 (.slice ad4 i cap4) O.length (txV O)) := by
          unfold Hid
          rw [HOL.out]
          exact owns_after HW.out hb3
        have HB2' : Hid (Below WE.heap.size WE (wr.alloc (.cells #[.string ⟨(x ++ y).toArray⟩] 9))) := HB.out.trans (hb3.mono HB.out.size)
        have HBS : Hid (WE.heap.size ≤ (wr.alloc (.cells #[.string ⟨(x ++ y).toArray⟩] 9)).heap.size) := HB2'.out.size
        have HSL : Hid (O.length + [x ++ y].length < 4294967296) := by
          unfold Hid
          rw [HOL.out]
          simp
          omega
        clear hb3
        go_wp2_with (at_builtin; refine wpList_srcT rfl _ _ rfl (v := .slice ad4 i cap4) (xv := .slice (some ⟨wr.heap.size, 0, none⟩) 1 1) (O := O) (L := [x ++ y]) rfl rfl HW2'.out HS.out HSL.out HBS.out ?_; intro v' w' ho hg; rw [HEQ.out, HO2L.out] at ho; obtain ⟨ad', cap', rfl⟩ := owns_slice ho; have HW2 : Hid (w'.ownsRow WE.heap.size 9 1 (.slice ad' (i + 1) cap') (i + 1) (txV O2)) := ho; have HB2 : Hid (Below WE.heap.size WE w') := grown_own HBS.out HB2'.out HW2'.out hg; clear ho hg)
        exact ⟨⟨i + 1, O2, by simp, by omega, by omega, HO2L.out, HO2.out, HOZ2.out, HW2.out, HB2.out⟩, by simp [intOf]; omega⟩
      · exact absurd hil (by omega)
    · obtain rfl : i = 1 := by omega
      have HR : Hid (bound J = bound O) := by
        unfold Hid
        rw [HO.out, List.take_of_length_le (by rw [HJN.out]; exact Nat.le_refl _)]
      have HB9 : Hid (Below w.heap.size w wr) := HBE.out.trans (HB.out.mono HBE.out.size)
      have HTO : Hid (Tx wr (.slice ad4 1 cap4) O) := Tx.owned (by rw [HOL.out]; exact HW.out)
      have HOZ4 : Hid (∀ s ∈ O, s.length < 4294967296) := fun s hs => Nat.lt_of_le_of_lt (HOZ.out s hs) (by decide)
      have HOL4 : Hid (O.length < 4294967296) := by
        unfold Hid
        rw [HOL.out]
        omega
      go_wp2_with fail
      refine (rfits_any _ O _ HTO.out HOZ4.out HOL4.out).mono ?_
      rintro e w3 ⟨⟨ad3, cap3, rfl, t3⟩, hw3⟩
      subst hw3
      have H3 : Hid (RGot (bound O) (.returned (.tuple #[.slice ad3 (resL (bound O)).length cap3, .bool (bound O).isSome])) w3) := ⟨_, _, rfl, t3⟩
      clear t3
      generalize (resL (bound O)).length = n3 at *
      generalize (bound O).isSome = b3 at *
      go_wp2_with fail
      go_ret2
      exact ⟨by rw [HR.out]; exact H3.out, HB9.out⟩
set_option maxRecDepth 100000 in
set_option maxHeartbeats 4000000 in
theorem two_SM (A C J : List (List UInt8)) (w : World) (ga oa capa : Nat) (gc oc capc : Nat) (hLA : A.length = 1) (LC : Nat) (hLC : C.length = LC) (hLC2 : 2 ≤ LC) (hLCb : LC ≤ 60000) (_hca : 1 ≤ capa) (_hcc : LC ≤ capc) (HCA : Hid (∀ W', Below w.heap.size w W' → ∀ k p, A[k]? = some p → W'.cell? ⟨ga, oa + k, none⟩ = some (.string ⟨p.toArray⟩))) (HCC : Hid (∀ W', Below w.heap.size w W' → ∀ k p, C[k]? = some p → W'.cell? ⟨gc, oc + k, none⟩ = some (.string ⟨p.toArray⟩))) (HZA : Hid (∀ s ∈ A, s.length ≤ 60000)) (HZC : Hid (∀ s ∈ C, s.length ≤ 60000)) (HTK : Hid (∀ k, k < LC → J.take (k + 1) = J.take k ++ [atB A k ++ atB C k])) (HLO : Hid (∀ k, k < LC → 2000 < (atB A k).length ∨ 2000 < (atB C k).length → bound J = none)) (HJN : Hid (J.length = LC)) :
    Calls Tryz.prog 35 #[.slice (some ⟨ga, oa, none⟩) 1 capa, .slice (some ⟨gc, oc, none⟩) LC capc] w fun e w' => RGot (bound J) e w' ∧ Below w.heap.size w w' := by
  obtain ⟨WE, hWE⟩ : ∃ WE, WE = w := ⟨_, rfl⟩
  have HBE : Hid (Below w.heap.size w WE) := by
    unfold Hid
    rw [hWE]
    exact Below.refl _ _
  have HCA' : Hid (∀ W', Below WE.heap.size WE W' → ∀ k p, A[k]? = some p → W'.cell? ⟨ga, oa + k, none⟩ = some (.string ⟨p.toArray⟩)) := by rw [hWE]; exact HCA
  have HCC' : Hid (∀ W', Below WE.heap.size WE W' → ∀ k p, C[k]? = some p → W'.cell? ⟨gc, oc + k, none⟩ = some (.string ⟨p.toArray⟩)) := by rw [hWE]; exact HCC
  clear HCA HCC
  have HC0 : Hid (∃ z, C[0]? = some z) := ⟨_, List.getElem?_eq_getElem (by omega)⟩
  have zLC : ((LC : Int) == 0) = false := beq_eq_false_iff_ne.2 (by omega)
  have yLC : ((LC : Int) == 1) = false := beq_eq_false_iff_ne.2 (by omega)
  have HLA : Hid (A.length = 1) := hLA
  have HLC : Hid (C.length = LC) := hLC
  clear hLA hLC
  go_enter Tryz.func35, Tryz.ntmps35
  go_upto_region 9 with fail
  rw [← hWE]
  clear hWE
  go_wp2_with fail
  go_loopw [7, 8] (fun v7 v8 wr => ∃ (i : Nat) (O : List (List UInt8)), v8 = .int .i64 i ∧ i ≤ LC ∧ i ≤ 101 ∧ Hid (O.length = i) ∧ Hid (O = J.take i) ∧ Hid (∀ s ∈ O, s.length ≤ 4000) ∧ Hid (wr.ownsRow WE.heap.size 9 1 v7 i (txV O)) ∧ Hid (Below WE.heap.size WE wr)) (fun _ v8 _ => LC - (intOf v8).toNat)
  case atStart => exact ⟨0, [], rfl, Nat.zero_le _, by omega, rfl, by simp [Hid], fun s hs => by simp at hs, ⟨rfl, .inl ⟨rfl, rfl⟩⟩, Below.refl _ _⟩
  case round =>
    obtain ⟨i, O, rfl, hi, hi101, HOL, HO, HOZ, HW, HB⟩ := hrel
    obtain ⟨ad4, cap4, rfl⟩ := owns_slice HW.out
    by_cases hil : i < LC
    · by_cases h100 : i ≤ 100
      · obtain ⟨x, hx⟩ : ∃ x, atB A i = x := ⟨_, rfl⟩
        obtain ⟨y, hy⟩ : ∃ y, atB C i = y := ⟨_, rfl⟩
        have gA : A[0]? = some x := by
          rw [← hx]
          exact atB_one HLA.out i
        have eA := HCA'.out _ HB.out 0 x gA
        simp only [Nat.add_zero] at eA
        have mA := HZA.out x (List.mem_of_getElem? gA)
        clear gA
        have gC : C[i]? = some y := by
          rw [← hy]
          exact atB_at (by rw [HLC.out]; omega) (by rw [HLC.out]; omega)
        have eC := HCC'.out _ HB.out i y gC
        obtain ⟨zC, hzC⟩ := HC0.out
        have fC := HCC'.out _ HB.out 0 zC hzC
        simp only [Nat.add_zero] at fC
        have iC : (i : Int) < (LC : Int) := by omega
        have mC := HZC.out y (List.mem_of_getElem? gC)
        clear hzC gC
        have sx : (⟨x.toArray⟩ : ByteArray).size = x.length := str_size' x
        have sy : (⟨y.toArray⟩ : ByteArray).size = y.length := str_size' y
        have hxy := str_app2 x y
        have HLOi : Hid (2000 < x.length ∨ 2000 < y.length → bound J = none) := by
          unfold Hid
          rw [← hx, ← hy]
          exact HLO.out i hil
        obtain ⟨O2, hO2⟩ : ∃ O2, O2 = O ++ [x ++ y] := ⟨_, rfl⟩
        have HO2 : Hid (O2 = J.take (i + 1)) := by
          unfold Hid
          rw [HTK.out i hil, hO2, HO.out, hx, hy]
        have HO2L : Hid (O2.length = i + 1) := by
          unfold Hid
          rw [hO2, List.length_append, HOL.out]
          rfl
        have HEQ : Hid (O ++ [x ++ y] = O2) := hO2.symm
        have HB9 : Hid (Below w.heap.size w wr) := HBE.out.trans (HB.out.mono HBE.out.size)
        clear hx hy hO2
        by_cases hbx : 2000 < x.length
        · have HLC : Hid (bound J = none) := HLOi.out (.inl hbx)
          go_wp2_with fail
          go_ret2
          exact ⟨by rw [HLC.out]; exact RGot.none _, HB9.out⟩
        by_cases hby : 2000 < y.length
        · have HLC : Hid (bound J = none) := HLOi.out (.inr hby)
          go_wp2_with fail
          go_ret2
          exact ⟨by rw [HLC.out]; exact RGot.none _, HB9.out⟩
        have HOZ2 : Hid (∀ s ∈ O2, s.length ≤ 4000) := by
          unfold Hid
          rw [← HEQ.out]
          intro s hs
          rcases List.mem_append.1 hs with hs | hs
          · exact HOZ.out s hs
          · simp at hs
            subst hs
            rw [List.length_append]
            omega
        have HS : Hid (SrcT (wr.alloc (.cells #[.string ⟨(x ++ y).toArray⟩] 9)) (.slice (some ⟨wr.heap.size, 0, none⟩) 1 1) [x ++ y]) := (Tx.one wr (x ++ y)).src
        have hb3 := below_new wr (.cells #[.string ⟨(x ++ y).toArray⟩] 9)
        have HW2' : Hid ((wr.alloc (.cells #[.string ⟨(x ++ y).toArray⟩] 9)).ownsRow WE.heap.size 9 1 (.slice ad4 i cap4) O.length (txV O)) := by
          unfold Hid
          rw [HOL.out]
          exact owns_after HW.out hb3
        have HB2' : Hid (Below WE.heap.size WE (wr.alloc (.cells #[.string ⟨(x ++ y).toArray⟩] 9))) := HB.out.trans (hb3.mono HB.out.size)
        have HBS : Hid (WE.heap.size ≤ (wr.alloc (.cells #[.string ⟨(x ++ y).toArray⟩] 9)).heap.size) := HB2'.out.size
        have HSL : Hid (O.length + [x ++ y].length < 4294967296) := by
          unfold Hid
          rw [HOL.out]
          simp
          omega
        clear hb3
        go_wp2_with (at_builtin; refine wpList_srcT rfl _ _ rfl (v := .slice ad4 i cap4) (xv := .slice (some ⟨wr.heap.size, 0, none⟩) 1 1) (O := O) (L := [x ++ y]) rfl rfl HW2'.out HS.out HSL.out HBS.out ?_; intro v' w' ho hg; rw [HEQ.out, HO2L.out] at ho; obtain ⟨ad', cap', rfl⟩ := owns_slice ho; have HW2 : Hid (w'.ownsRow WE.heap.size 9 1 (.slice ad' (i + 1) cap') (i + 1) (txV O2)) := ho; have HB2 : Hid (Below WE.heap.size WE w') := grown_own HBS.out HB2'.out HW2'.out hg; clear ho hg)
        exact ⟨⟨i + 1, O2, by simp, by omega, by omega, HO2L.out, HO2.out, HOZ2.out, HW2.out, HB2.out⟩, by simp [intOf]; omega⟩
      · obtain rfl : i = 101 := by omega
        have HR : Hid (bound J = bound O) := by
          unfold Hid
          rw [bound_no (fits_many (by rw [HJN.out]; omega)), bound_no (fits_many (by rw [HOL.out]; omega))]
        have hil' : (101 : Int) < (LC : Int) := by omega
        have HB9 : Hid (Below w.heap.size w wr) := HBE.out.trans (HB.out.mono HBE.out.size)
        have HTO : Hid (Tx wr (.slice ad4 101 cap4) O) := Tx.owned (by rw [HOL.out]; exact HW.out)
        have HOZ4 : Hid (∀ s ∈ O, s.length < 4294967296) := fun s hs => Nat.lt_of_le_of_lt (HOZ.out s hs) (by decide)
        have HOL4 : Hid (O.length < 4294967296) := by
          unfold Hid
          rw [HOL.out]
          omega
        go_wp2_with fail
        refine (rfits_any _ O _ HTO.out HOZ4.out HOL4.out).mono ?_
        rintro e w3 ⟨⟨ad3, cap3, rfl, t3⟩, hw3⟩
        subst hw3
        have H3 : Hid (RGot (bound O) (.returned (.tuple #[.slice ad3 (resL (bound O)).length cap3, .bool (bound O).isSome])) w3) := ⟨_, _, rfl, t3⟩
        clear t3
        generalize (resL (bound O)).length = n3 at *
        generalize (bound O).isSome = b3 at *
        go_wp2_with fail
        go_ret2
        exact ⟨by rw [HR.out]; exact H3.out, HB9.out⟩
    · obtain rfl : i = LC := by omega
      have HR : Hid (bound J = bound O) := by
        unfold Hid
        rw [HO.out, List.take_of_length_le (by rw [HJN.out]; exact Nat.le_refl _)]
      have HB9 : Hid (Below w.heap.size w wr) := HBE.out.trans (HB.out.mono HBE.out.size)
      have HTO : Hid (Tx wr (.slice ad4 i cap4) O) := Tx.owned (by rw [HOL.out]; exact HW.out)
      have HOZ4 : Hid (∀ s ∈ O, s.length < 4294967296) := fun s hs => Nat.lt_of_le_of_lt (HOZ.out s hs) (by decide)
      have HOL4 : Hid (O.length < 4294967296) := by
        unfold Hid
        rw [HOL.out]
        omega
      go_wp2_with fail
      refine (rfits_any _ O _ HTO.out HOZ4.out HOL4.out).mono ?_
      rintro e w3 ⟨⟨ad3, cap3, rfl, t3⟩, hw3⟩
      subst hw3
      have H3 : Hid (RGot (bound O) (.returned (.tuple #[.slice ad3 (resL (bound O)).length cap3, .bool (bound O).isSome])) w3) := ⟨_, _, rfl, t3⟩
      clear t3
      generalize (resL (bound O)).length = n3 at *
      generalize (bound O).isSome = b3 at *
      go_wp2_with fail
      go_ret2
      exact ⟨by rw [HR.out]; exact H3.out, HB9.out⟩
set_option maxRecDepth 100000 in
set_option maxHeartbeats 4000000 in
theorem two_ME (A C J : List (List UInt8)) (w : World) (ga oa capa : Nat) (adc : Option Addr) (capc : Nat) (LA : Nat) (hLA : A.length = LA) (hLA2 : 2 ≤ LA) (hLAb : LA ≤ 60000) (hLC : C.length = 1) (_hca : LA ≤ capa) (HCA : Hid (∀ W', Below (w.alloc (.cells #[.string ⟨#[]⟩] 9)).heap.size (w.alloc (.cells #[.string ⟨#[]⟩] 9)) W' → ∀ k p, A[k]? = some p → W'.cell? ⟨ga, oa + k, none⟩ = some (.string ⟨p.toArray⟩))) (HCC : Hid (∀ W', Below (w.alloc (.cells #[.string ⟨#[]⟩] 9)).heap.size (w.alloc (.cells #[.string ⟨#[]⟩] 9)) W' → ∀ k p, C[k]? = some p → W'.cell? ⟨w.heap.size, 0 + k, none⟩ = some (.string ⟨p.toArray⟩))) (HZA : Hid (∀ s ∈ A, s.length ≤ 60000)) (HZC : Hid (∀ s ∈ C, s.length ≤ 60000)) (HTK : Hid (∀ k, k < LA → J.take (k + 1) = J.take k ++ [atB A k ++ atB C k])) (HLO : Hid (∀ k, k < LA → 2000 < (atB A k).length ∨ 2000 < (atB C k).length → bound J = none)) (HJN : Hid (J.length = LA)) :
    Calls Tryz.prog 35 #[.slice (some ⟨ga, oa, none⟩) LA capa, .slice adc 0 capc] w fun e w' => RGot (bound J) e w' ∧ Below w.heap.size w w' := by
  obtain ⟨WE, hWE⟩ : ∃ WE, WE = (w.alloc (.cells #[.string ⟨#[]⟩] 9)) := ⟨_, rfl⟩
  have HBE : Hid (Below w.heap.size w WE) := by
    unfold Hid
    rw [hWE]
    exact below_new w _
  have HCA' : Hid (∀ W', Below WE.heap.size WE W' → ∀ k p, A[k]? = some p → W'.cell? ⟨ga, oa + k, none⟩ = some (.string ⟨p.toArray⟩)) := by rw [hWE]; exact HCA
  have HCC' : Hid (∀ W', Below WE.heap.size WE W' → ∀ k p, C[k]? = some p → W'.cell? ⟨w.heap.size, 0 + k, none⟩ = some (.string ⟨p.toArray⟩)) := by rw [hWE]; exact HCC
  clear HCA HCC
  have HA0 : Hid (∃ z, A[0]? = some z) := ⟨_, List.getElem?_eq_getElem (by omega)⟩
  have zLA : ((LA : Int) == 0) = false := beq_eq_false_iff_ne.2 (by omega)
  have yLA : ((LA : Int) == 1) = false := beq_eq_false_iff_ne.2 (by omega)
  have HLA : Hid (A.length = LA) := hLA
  have HLC : Hid (C.length = 1) := hLC
  clear hLA hLC
  go_enter Tryz.func35, Tryz.ntmps35
  go_upto_region 9 with fail
  rw [← hWE]
  clear hWE
  go_wp2_with fail
  go_loopw [7, 8] (fun v7 v8 wr => ∃ (i : Nat) (O : List (List UInt8)), v8 = .int .i64 i ∧ i ≤ LA ∧ i ≤ 101 ∧ Hid (O.length = i) ∧ Hid (O = J.take i) ∧ Hid (∀ s ∈ O, s.length ≤ 4000) ∧ Hid (wr.ownsRow WE.heap.size 9 1 v7 i (txV O)) ∧ Hid (Below WE.heap.size WE wr)) (fun _ v8 _ => LA - (intOf v8).toNat)
  case atStart => exact ⟨0, [], rfl, Nat.zero_le _, by omega, rfl, by simp [Hid], fun s hs => by simp at hs, ⟨rfl, .inl ⟨rfl, rfl⟩⟩, Below.refl _ _⟩
  case round =>
    obtain ⟨i, O, rfl, hi, hi101, HOL, HO, HOZ, HW, HB⟩ := hrel
    obtain ⟨ad4, cap4, rfl⟩ := owns_slice HW.out
    by_cases hil : i < LA
    · by_cases h100 : i ≤ 100
      · obtain ⟨x, hx⟩ : ∃ x, atB A i = x := ⟨_, rfl⟩
        obtain ⟨y, hy⟩ : ∃ y, atB C i = y := ⟨_, rfl⟩
        have gA : A[i]? = some x := by
          rw [← hx]
          exact atB_at (by rw [HLA.out]; omega) (by rw [HLA.out]; omega)
        have eA := HCA'.out _ HB.out i x gA
        obtain ⟨zA, hzA⟩ := HA0.out
        have fA := HCA'.out _ HB.out 0 zA hzA
        simp only [Nat.add_zero] at fA
        have iA : (i : Int) < (LA : Int) := by omega
        have mA := HZA.out x (List.mem_of_getElem? gA)
        clear hzA gA
        have gC : C[0]? = some y := by
          rw [← hy]
          exact atB_one HLC.out i
        have eC := HCC'.out _ HB.out 0 y gC
        simp only [Nat.add_zero] at eC
        have mC := HZC.out y (List.mem_of_getElem? gC)
        clear gC
        have sx : (⟨x.toArray⟩ : ByteArray).size = x.length := str_size' x
        have sy : (⟨y.toArray⟩ : ByteArray).size = y.length := str_size' y
        have hxy := str_app2 x y
        have HLOi : Hid (2000 < x.length ∨ 2000 < y.length → bound J = none) := by
          unfold Hid
          rw [← hx, ← hy]
          exact HLO.out i hil
        obtain ⟨O2, hO2⟩ : ∃ O2, O2 = O ++ [x ++ y] := ⟨_, rfl⟩
        have HO2 : Hid (O2 = J.take (i + 1)) := by
          unfold Hid
          rw [HTK.out i hil, hO2, HO.out, hx, hy]
        have HO2L : Hid (O2.length = i + 1) := by
          unfold Hid
          rw [hO2, List.length_append, HOL.out]
          rfl
        have HEQ : Hid (O ++ [x ++ y] = O2) := hO2.symm
        have HB9 : Hid (Below w.heap.size w wr) := HBE.out.trans (HB.out.mono HBE.out.size)
        clear hx hy hO2
        by_cases hbx : 2000 < x.length
        · have HLA : Hid (bound J = none) := HLOi.out (.inl hbx)
          go_wp2_with fail
          go_ret2
          exact ⟨by rw [HLA.out]; exact RGot.none _, HB9.out⟩
        by_cases hby : 2000 < y.length
        · have HLA : Hid (bound J = none) := HLOi.out (.inr hby)
          go_wp2_with fail
          go_ret2
          exact ⟨by rw [HLA.out]; exact RGot.none _, HB9.out⟩
        have HOZ2 : Hid (∀ s ∈ O2, s.length ≤ 4000) := by
          unfold Hid
          rw [← HEQ.out]
          intro s hs
          rcases List.mem_append.1 hs with hs | hs
          · exact HOZ.out s hs
          · simp at hs
            subst hs
            rw [List.length_append]
            omega
        have HS : Hid (SrcT (wr.alloc (.cells #[.string ⟨(x ++ y).toArray⟩] 9)) (.slice (some ⟨wr.heap.size, 0, none⟩) 1 1) [x ++ y]) := (Tx.one wr (x ++ y)).src
        have hb3 := below_new wr (.cells #[.string ⟨(x ++ y).toArray⟩] 9)
        have HW2' : Hid ((wr.alloc (.cells #[.string ⟨(x ++ y).toArray⟩] 9)).ownsRow WE.heap.size 9 1 (.slice ad4 i cap4) O.length (txV O)) := by
          unfold Hid
          rw [HOL.out]
          exact owns_after HW.out hb3
        have HB2' : Hid (Below WE.heap.size WE (wr.alloc (.cells #[.string ⟨(x ++ y).toArray⟩] 9))) := HB.out.trans (hb3.mono HB.out.size)
        have HBS : Hid (WE.heap.size ≤ (wr.alloc (.cells #[.string ⟨(x ++ y).toArray⟩] 9)).heap.size) := HB2'.out.size
        have HSL : Hid (O.length + [x ++ y].length < 4294967296) := by
          unfold Hid
          rw [HOL.out]
          simp
          omega
        clear hb3
        go_wp2_with (at_builtin; refine wpList_srcT rfl _ _ rfl (v := .slice ad4 i cap4) (xv := .slice (some ⟨wr.heap.size, 0, none⟩) 1 1) (O := O) (L := [x ++ y]) rfl rfl HW2'.out HS.out HSL.out HBS.out ?_; intro v' w' ho hg; rw [HEQ.out, HO2L.out] at ho; obtain ⟨ad', cap', rfl⟩ := owns_slice ho; have HW2 : Hid (w'.ownsRow WE.heap.size 9 1 (.slice ad' (i + 1) cap') (i + 1) (txV O2)) := ho; have HB2 : Hid (Below WE.heap.size WE w') := grown_own HBS.out HB2'.out HW2'.out hg; clear ho hg)
        exact ⟨⟨i + 1, O2, by simp, by omega, by omega, HO2L.out, HO2.out, HOZ2.out, HW2.out, HB2.out⟩, by simp [intOf]; omega⟩
      · obtain rfl : i = 101 := by omega
        have HR : Hid (bound J = bound O) := by
          unfold Hid
          rw [bound_no (fits_many (by rw [HJN.out]; omega)), bound_no (fits_many (by rw [HOL.out]; omega))]
        have hil' : (101 : Int) < (LA : Int) := by omega
        have HB9 : Hid (Below w.heap.size w wr) := HBE.out.trans (HB.out.mono HBE.out.size)
        have HTO : Hid (Tx wr (.slice ad4 101 cap4) O) := Tx.owned (by rw [HOL.out]; exact HW.out)
        have HOZ4 : Hid (∀ s ∈ O, s.length < 4294967296) := fun s hs => Nat.lt_of_le_of_lt (HOZ.out s hs) (by decide)
        have HOL4 : Hid (O.length < 4294967296) := by
          unfold Hid
          rw [HOL.out]
          omega
        go_wp2_with fail
        refine (rfits_any _ O _ HTO.out HOZ4.out HOL4.out).mono ?_
        rintro e w3 ⟨⟨ad3, cap3, rfl, t3⟩, hw3⟩
        subst hw3
        have H3 : Hid (RGot (bound O) (.returned (.tuple #[.slice ad3 (resL (bound O)).length cap3, .bool (bound O).isSome])) w3) := ⟨_, _, rfl, t3⟩
        clear t3
        generalize (resL (bound O)).length = n3 at *
        generalize (bound O).isSome = b3 at *
        go_wp2_with fail
        go_ret2
        exact ⟨by rw [HR.out]; exact H3.out, HB9.out⟩
    · obtain rfl : i = LA := by omega
      have HR : Hid (bound J = bound O) := by
        unfold Hid
        rw [HO.out, List.take_of_length_le (by rw [HJN.out]; exact Nat.le_refl _)]
      have HB9 : Hid (Below w.heap.size w wr) := HBE.out.trans (HB.out.mono HBE.out.size)
      have HTO : Hid (Tx wr (.slice ad4 i cap4) O) := Tx.owned (by rw [HOL.out]; exact HW.out)
      have HOZ4 : Hid (∀ s ∈ O, s.length < 4294967296) := fun s hs => Nat.lt_of_le_of_lt (HOZ.out s hs) (by decide)
      have HOL4 : Hid (O.length < 4294967296) := by
        unfold Hid
        rw [HOL.out]
        omega
      go_wp2_with fail
      refine (rfits_any _ O _ HTO.out HOZ4.out HOL4.out).mono ?_
      rintro e w3 ⟨⟨ad3, cap3, rfl, t3⟩, hw3⟩
      subst hw3
      have H3 : Hid (RGot (bound O) (.returned (.tuple #[.slice ad3 (resL (bound O)).length cap3, .bool (bound O).isSome])) w3) := ⟨_, _, rfl, t3⟩
      clear t3
      generalize (resL (bound O)).length = n3 at *
      generalize (bound O).isSome = b3 at *
      go_wp2_with fail
      go_ret2
      exact ⟨by rw [HR.out]; exact H3.out, HB9.out⟩
set_option maxRecDepth 100000 in
set_option maxHeartbeats 4000000 in
theorem two_MS (A C J : List (List UInt8)) (w : World) (ga oa capa : Nat) (gc oc capc : Nat) (LA : Nat) (hLA : A.length = LA) (hLA2 : 2 ≤ LA) (hLAb : LA ≤ 60000) (hLC : C.length = 1) (_hca : LA ≤ capa) (_hcc : 1 ≤ capc) (HCA : Hid (∀ W', Below w.heap.size w W' → ∀ k p, A[k]? = some p → W'.cell? ⟨ga, oa + k, none⟩ = some (.string ⟨p.toArray⟩))) (HCC : Hid (∀ W', Below w.heap.size w W' → ∀ k p, C[k]? = some p → W'.cell? ⟨gc, oc + k, none⟩ = some (.string ⟨p.toArray⟩))) (HZA : Hid (∀ s ∈ A, s.length ≤ 60000)) (HZC : Hid (∀ s ∈ C, s.length ≤ 60000)) (HTK : Hid (∀ k, k < LA → J.take (k + 1) = J.take k ++ [atB A k ++ atB C k])) (HLO : Hid (∀ k, k < LA → 2000 < (atB A k).length ∨ 2000 < (atB C k).length → bound J = none)) (HJN : Hid (J.length = LA)) :
    Calls Tryz.prog 35 #[.slice (some ⟨ga, oa, none⟩) LA capa, .slice (some ⟨gc, oc, none⟩) 1 capc] w fun e w' => RGot (bound J) e w' ∧ Below w.heap.size w w' := by
  obtain ⟨WE, hWE⟩ : ∃ WE, WE = w := ⟨_, rfl⟩
  have HBE : Hid (Below w.heap.size w WE) := by
    unfold Hid
    rw [hWE]
    exact Below.refl _ _
  have HCA' : Hid (∀ W', Below WE.heap.size WE W' → ∀ k p, A[k]? = some p → W'.cell? ⟨ga, oa + k, none⟩ = some (.string ⟨p.toArray⟩)) := by rw [hWE]; exact HCA
  have HCC' : Hid (∀ W', Below WE.heap.size WE W' → ∀ k p, C[k]? = some p → W'.cell? ⟨gc, oc + k, none⟩ = some (.string ⟨p.toArray⟩)) := by rw [hWE]; exact HCC
  clear HCA HCC
  have HA0 : Hid (∃ z, A[0]? = some z) := ⟨_, List.getElem?_eq_getElem (by omega)⟩
  have zLA : ((LA : Int) == 0) = false := beq_eq_false_iff_ne.2 (by omega)
  have yLA : ((LA : Int) == 1) = false := beq_eq_false_iff_ne.2 (by omega)
  have HLA : Hid (A.length = LA) := hLA
  have HLC : Hid (C.length = 1) := hLC
  clear hLA hLC
  go_enter Tryz.func35, Tryz.ntmps35
  go_upto_region 9 with fail
  rw [← hWE]
  clear hWE
  go_wp2_with fail
  go_loopw [7, 8] (fun v7 v8 wr => ∃ (i : Nat) (O : List (List UInt8)), v8 = .int .i64 i ∧ i ≤ LA ∧ i ≤ 101 ∧ Hid (O.length = i) ∧ Hid (O = J.take i) ∧ Hid (∀ s ∈ O, s.length ≤ 4000) ∧ Hid (wr.ownsRow WE.heap.size 9 1 v7 i (txV O)) ∧ Hid (Below WE.heap.size WE wr)) (fun _ v8 _ => LA - (intOf v8).toNat)
  case atStart => exact ⟨0, [], rfl, Nat.zero_le _, by omega, rfl, by simp [Hid], fun s hs => by simp at hs, ⟨rfl, .inl ⟨rfl, rfl⟩⟩, Below.refl _ _⟩
  case round =>
    obtain ⟨i, O, rfl, hi, hi101, HOL, HO, HOZ, HW, HB⟩ := hrel
    obtain ⟨ad4, cap4, rfl⟩ := owns_slice HW.out
    by_cases hil : i < LA
    · by_cases h100 : i ≤ 100
      · obtain ⟨x, hx⟩ : ∃ x, atB A i = x := ⟨_, rfl⟩
        obtain ⟨y, hy⟩ : ∃ y, atB C i = y := ⟨_, rfl⟩
        have gA : A[i]? = some x := by
          rw [← hx]
          exact atB_at (by rw [HLA.out]; omega) (by rw [HLA.out]; omega)
        have eA := HCA'.out _ HB.out i x gA
        obtain ⟨zA, hzA⟩ := HA0.out
        have fA := HCA'.out _ HB.out 0 zA hzA
        simp only [Nat.add_zero] at fA
        have iA : (i : Int) < (LA : Int) := by omega
        have mA := HZA.out x (List.mem_of_getElem? gA)
        clear hzA gA
        have gC : C[0]? = some y := by
          rw [← hy]
          exact atB_one HLC.out i
        have eC := HCC'.out _ HB.out 0 y gC
        simp only [Nat.add_zero] at eC
        have mC := HZC.out y (List.mem_of_getElem? gC)
        clear gC
        have sx : (⟨x.toArray⟩ : ByteArray).size = x.length := str_size' x
        have sy : (⟨y.toArray⟩ : ByteArray).size = y.length := str_size' y
        have hxy := str_app2 x y
        have HLOi : Hid (2000 < x.length ∨ 2000 < y.length → bound J = none) := by
          unfold Hid
          rw [← hx, ← hy]
          exact HLO.out i hil
        obtain ⟨O2, hO2⟩ : ∃ O2, O2 = O ++ [x ++ y] := ⟨_, rfl⟩
        have HO2 : Hid (O2 = J.take (i + 1)) := by
          unfold Hid
          rw [HTK.out i hil, hO2, HO.out, hx, hy]
        have HO2L : Hid (O2.length = i + 1) := by
          unfold Hid
          rw [hO2, List.length_append, HOL.out]
          rfl
        have HEQ : Hid (O ++ [x ++ y] = O2) := hO2.symm
        have HB9 : Hid (Below w.heap.size w wr) := HBE.out.trans (HB.out.mono HBE.out.size)
        clear hx hy hO2
        by_cases hbx : 2000 < x.length
        · have HLA : Hid (bound J = none) := HLOi.out (.inl hbx)
          go_wp2_with fail
          go_ret2
          exact ⟨by rw [HLA.out]; exact RGot.none _, HB9.out⟩
        by_cases hby : 2000 < y.length
        · have HLA : Hid (bound J = none) := HLOi.out (.inr hby)
          go_wp2_with fail
          go_ret2
          exact ⟨by rw [HLA.out]; exact RGot.none _, HB9.out⟩
        have HOZ2 : Hid (∀ s ∈ O2, s.length ≤ 4000) := by
          unfold Hid
          rw [← HEQ.out]
          intro s hs
          rcases List.mem_append.1 hs with hs | hs
          · exact HOZ.out s hs
          · simp at hs
            subst hs
            rw [List.length_append]
            omega
        have HS : Hid (SrcT (wr.alloc (.cells #[.string ⟨(x ++ y).toArray⟩] 9)) (.slice (some ⟨wr.heap.size, 0, none⟩) 1 1) [x ++ y]) := (Tx.one wr (x ++ y)).src
        have hb3 := below_new wr (.cells #[.string ⟨(x ++ y).toArray⟩] 9)
        have HW2' : Hid ((wr.alloc (.cells #[.string ⟨(x ++ y).toArray⟩] 9)).ownsRow WE.heap.size 9 1 (.slice ad4 i cap4) O.length (txV O)) := by
          unfold Hid
          rw [HOL.out]
          exact owns_after HW.out hb3
        have HB2' : Hid (Below WE.heap.size WE (wr.alloc (.cells #[.string ⟨(x ++ y).toArray⟩] 9))) := HB.out.trans (hb3.mono HB.out.size)
        have HBS : Hid (WE.heap.size ≤ (wr.alloc (.cells #[.string ⟨(x ++ y).toArray⟩] 9)).heap.size) := HB2'.out.size
        have HSL : Hid (O.length + [x ++ y].length < 4294967296) := by
          unfold Hid
          rw [HOL.out]
          simp
          omega
        clear hb3
        go_wp2_with (at_builtin; refine wpList_srcT rfl _ _ rfl (v := .slice ad4 i cap4) (xv := .slice (some ⟨wr.heap.size, 0, none⟩) 1 1) (O := O) (L := [x ++ y]) rfl rfl HW2'.out HS.out HSL.out HBS.out ?_; intro v' w' ho hg; rw [HEQ.out, HO2L.out] at ho; obtain ⟨ad', cap', rfl⟩ := owns_slice ho; have HW2 : Hid (w'.ownsRow WE.heap.size 9 1 (.slice ad' (i + 1) cap') (i + 1) (txV O2)) := ho; have HB2 : Hid (Below WE.heap.size WE w') := grown_own HBS.out HB2'.out HW2'.out hg; clear ho hg)
        exact ⟨⟨i + 1, O2, by simp, by omega, by omega, HO2L.out, HO2.out, HOZ2.out, HW2.out, HB2.out⟩, by simp [intOf]; omega⟩
      · obtain rfl : i = 101 := by omega
        have HR : Hid (bound J = bound O) := by
          unfold Hid
          rw [bound_no (fits_many (by rw [HJN.out]; omega)), bound_no (fits_many (by rw [HOL.out]; omega))]
        have hil' : (101 : Int) < (LA : Int) := by omega
        have HB9 : Hid (Below w.heap.size w wr) := HBE.out.trans (HB.out.mono HBE.out.size)
        have HTO : Hid (Tx wr (.slice ad4 101 cap4) O) := Tx.owned (by rw [HOL.out]; exact HW.out)
        have HOZ4 : Hid (∀ s ∈ O, s.length < 4294967296) := fun s hs => Nat.lt_of_le_of_lt (HOZ.out s hs) (by decide)
        have HOL4 : Hid (O.length < 4294967296) := by
          unfold Hid
          rw [HOL.out]
          omega
        go_wp2_with fail
        refine (rfits_any _ O _ HTO.out HOZ4.out HOL4.out).mono ?_
        rintro e w3 ⟨⟨ad3, cap3, rfl, t3⟩, hw3⟩
        subst hw3
        have H3 : Hid (RGot (bound O) (.returned (.tuple #[.slice ad3 (resL (bound O)).length cap3, .bool (bound O).isSome])) w3) := ⟨_, _, rfl, t3⟩
        clear t3
        generalize (resL (bound O)).length = n3 at *
        generalize (bound O).isSome = b3 at *
        go_wp2_with fail
        go_ret2
        exact ⟨by rw [HR.out]; exact H3.out, HB9.out⟩
    · obtain rfl : i = LA := by omega
      have HR : Hid (bound J = bound O) := by
        unfold Hid
        rw [HO.out, List.take_of_length_le (by rw [HJN.out]; exact Nat.le_refl _)]
      have HB9 : Hid (Below w.heap.size w wr) := HBE.out.trans (HB.out.mono HBE.out.size)
      have HTO : Hid (Tx wr (.slice ad4 i cap4) O) := Tx.owned (by rw [HOL.out]; exact HW.out)
      have HOZ4 : Hid (∀ s ∈ O, s.length < 4294967296) := fun s hs => Nat.lt_of_le_of_lt (HOZ.out s hs) (by decide)
      have HOL4 : Hid (O.length < 4294967296) := by
        unfold Hid
        rw [HOL.out]
        omega
      go_wp2_with fail
      refine (rfits_any _ O _ HTO.out HOZ4.out HOL4.out).mono ?_
      rintro e w3 ⟨⟨ad3, cap3, rfl, t3⟩, hw3⟩
      subst hw3
      have H3 : Hid (RGot (bound O) (.returned (.tuple #[.slice ad3 (resL (bound O)).length cap3, .bool (bound O).isSome])) w3) := ⟨_, _, rfl, t3⟩
      clear t3
      generalize (resL (bound O)).length = n3 at *
      generalize (bound O).isSome = b3 at *
      go_wp2_with fail
      go_ret2
      exact ⟨by rw [HR.out]; exact H3.out, HB9.out⟩
set_option maxRecDepth 100000 in
set_option maxHeartbeats 4000000 in
theorem two_MMl (A C J : List (List UInt8)) (w : World) (ga oa capa : Nat) (gc oc capc : Nat) (LA : Nat) (hLA : A.length = LA) (hLA2 : 2 ≤ LA) (hLAb : LA ≤ 60000) (LC : Nat) (hLC : C.length = LC) (hLC2 : 2 ≤ LC) (hLCb : LC ≤ 60000) (_hca : LA ≤ capa) (_hcc : LC ≤ capc) (hle : LA ≤ LC) (HCA : Hid (∀ W', Below w.heap.size w W' → ∀ k p, A[k]? = some p → W'.cell? ⟨ga, oa + k, none⟩ = some (.string ⟨p.toArray⟩))) (HCC : Hid (∀ W', Below w.heap.size w W' → ∀ k p, C[k]? = some p → W'.cell? ⟨gc, oc + k, none⟩ = some (.string ⟨p.toArray⟩))) (HZA : Hid (∀ s ∈ A, s.length ≤ 60000)) (HZC : Hid (∀ s ∈ C, s.length ≤ 60000)) (HTK : Hid (∀ k, k < LA → J.take (k + 1) = J.take k ++ [atB A k ++ atB C k])) (HLO : Hid (∀ k, k < LA → 2000 < (atB A k).length ∨ 2000 < (atB C k).length → bound J = none)) (HJN : Hid (J.length = LA)) :
    Calls Tryz.prog 35 #[.slice (some ⟨ga, oa, none⟩) LA capa, .slice (some ⟨gc, oc, none⟩) LC capc] w fun e w' => RGot (bound J) e w' ∧ Below w.heap.size w w' := by
  obtain ⟨WE, hWE⟩ : ∃ WE, WE = w := ⟨_, rfl⟩
  have HBE : Hid (Below w.heap.size w WE) := by
    unfold Hid
    rw [hWE]
    exact Below.refl _ _
  have HCA' : Hid (∀ W', Below WE.heap.size WE W' → ∀ k p, A[k]? = some p → W'.cell? ⟨ga, oa + k, none⟩ = some (.string ⟨p.toArray⟩)) := by rw [hWE]; exact HCA
  have HCC' : Hid (∀ W', Below WE.heap.size WE W' → ∀ k p, C[k]? = some p → W'.cell? ⟨gc, oc + k, none⟩ = some (.string ⟨p.toArray⟩)) := by rw [hWE]; exact HCC
  clear HCA HCC
  have HA0 : Hid (∃ z, A[0]? = some z) := ⟨_, List.getElem?_eq_getElem (by omega)⟩
  have HC0 : Hid (∃ z, C[0]? = some z) := ⟨_, List.getElem?_eq_getElem (by omega)⟩
  have zLA : ((LA : Int) == 0) = false := beq_eq_false_iff_ne.2 (by omega)
  have yLA : ((LA : Int) == 1) = false := beq_eq_false_iff_ne.2 (by omega)
  have zLC : ((LC : Int) == 0) = false := beq_eq_false_iff_ne.2 (by omega)
  have yLC : ((LC : Int) == 1) = false := beq_eq_false_iff_ne.2 (by omega)
  have HLA : Hid (A.length = LA) := hLA
  have HLC : Hid (C.length = LC) := hLC
  clear hLA hLC
  go_enter Tryz.func35, Tryz.ntmps35
  go_upto_region 9 with fail
  rw [← hWE]
  clear hWE
  go_wp2_with fail
  go_loopw [7, 8] (fun v7 v8 wr => ∃ (i : Nat) (O : List (List UInt8)), v8 = .int .i64 i ∧ i ≤ LA ∧ i ≤ 101 ∧ Hid (O.length = i) ∧ Hid (O = J.take i) ∧ Hid (∀ s ∈ O, s.length ≤ 4000) ∧ Hid (wr.ownsRow WE.heap.size 9 1 v7 i (txV O)) ∧ Hid (Below WE.heap.size WE wr)) (fun _ v8 _ => LA - (intOf v8).toNat)
  case atStart => exact ⟨0, [], rfl, Nat.zero_le _, by omega, rfl, by simp [Hid], fun s hs => by simp at hs, ⟨rfl, .inl ⟨rfl, rfl⟩⟩, Below.refl _ _⟩
  case round =>
    obtain ⟨i, O, rfl, hi, hi101, HOL, HO, HOZ, HW, HB⟩ := hrel
    obtain ⟨ad4, cap4, rfl⟩ := owns_slice HW.out
    by_cases hil : i < LA
    · by_cases h100 : i ≤ 100
      · obtain ⟨x, hx⟩ : ∃ x, atB A i = x := ⟨_, rfl⟩
        obtain ⟨y, hy⟩ : ∃ y, atB C i = y := ⟨_, rfl⟩
        have gA : A[i]? = some x := by
          rw [← hx]
          exact atB_at (by rw [HLA.out]; omega) (by rw [HLA.out]; omega)
        have eA := HCA'.out _ HB.out i x gA
        obtain ⟨zA, hzA⟩ := HA0.out
        have fA := HCA'.out _ HB.out 0 zA hzA
        simp only [Nat.add_zero] at fA
        have iA : (i : Int) < (LA : Int) := by omega
        have mA := HZA.out x (List.mem_of_getElem? gA)
        clear hzA gA
        have gC : C[i]? = some y := by
          rw [← hy]
          exact atB_at (by rw [HLC.out]; omega) (by rw [HLC.out]; omega)
        have eC := HCC'.out _ HB.out i y gC
        obtain ⟨zC, hzC⟩ := HC0.out
        have fC := HCC'.out _ HB.out 0 zC hzC
        simp only [Nat.add_zero] at fC
        have iC : (i : Int) < (LC : Int) := by omega
        have mC := HZC.out y (List.mem_of_getElem? gC)
        clear hzC gC
        have sx : (⟨x.toArray⟩ : ByteArray).size = x.length := str_size' x
        have sy : (⟨y.toArray⟩ : ByteArray).size = y.length := str_size' y
        have hxy := str_app2 x y
        have HLOi : Hid (2000 < x.length ∨ 2000 < y.length → bound J = none) := by
          unfold Hid
          rw [← hx, ← hy]
          exact HLO.out i hil
        obtain ⟨O2, hO2⟩ : ∃ O2, O2 = O ++ [x ++ y] := ⟨_, rfl⟩
        have HO2 : Hid (O2 = J.take (i + 1)) := by
          unfold Hid
          rw [HTK.out i hil, hO2, HO.out, hx, hy]
        have HO2L : Hid (O2.length = i + 1) := by
          unfold Hid
          rw [hO2, List.length_append, HOL.out]
          rfl
        have HEQ : Hid (O ++ [x ++ y] = O2) := hO2.symm
        have HB9 : Hid (Below w.heap.size w wr) := HBE.out.trans (HB.out.mono HBE.out.size)
        clear hx hy hO2
        by_cases hbx : 2000 < x.length
        · have HLA : Hid (bound J = none) := HLOi.out (.inl hbx)
          go_wp2_with fail
          go_ret2
          exact ⟨by rw [HLA.out]; exact RGot.none _, HB9.out⟩
        by_cases hby : 2000 < y.length
        · have HLA : Hid (bound J = none) := HLOi.out (.inr hby)
          go_wp2_with fail
          go_ret2
          exact ⟨by rw [HLA.out]; exact RGot.none _, HB9.out⟩
        have HOZ2 : Hid (∀ s ∈ O2, s.length ≤ 4000) := by
          unfold Hid
          rw [← HEQ.out]
          intro s hs
          rcases List.mem_append.1 hs with hs | hs
          · exact HOZ.out s hs
          · simp at hs
            subst hs
            rw [List.length_append]
            omega
        have HS : Hid (SrcT (wr.alloc (.cells #[.string ⟨(x ++ y).toArray⟩] 9)) (.slice (some ⟨wr.heap.size, 0, none⟩) 1 1) [x ++ y]) := (Tx.one wr (x ++ y)).src
        have hb3 := below_new wr (.cells #[.string ⟨(x ++ y).toArray⟩] 9)
        have HW2' : Hid ((wr.alloc (.cells #[.string ⟨(x ++ y).toArray⟩] 9)).ownsRow WE.heap.size 9 1 (.slice ad4 i cap4) O.length (txV O)) := by
          unfold Hid
          rw [HOL.out]
          exact owns_after HW.out hb3
        have HB2' : Hid (Below WE.heap.size WE (wr.alloc (.cells #[.string ⟨(x ++ y).toArray⟩] 9))) := HB.out.trans (hb3.mono HB.out.size)
        have HBS : Hid (WE.heap.size ≤ (wr.alloc (.cells #[.string ⟨(x ++ y).toArray⟩] 9)).heap.size) := HB2'.out.size
        have HSL : Hid (O.length + [x ++ y].length < 4294967296) := by
          unfold Hid
          rw [HOL.out]
          simp
          omega
        clear hb3
        go_wp2_with (at_builtin; refine wpList_srcT rfl _ _ rfl (v := .slice ad4 i cap4) (xv := .slice (some ⟨wr.heap.size, 0, none⟩) 1 1) (O := O) (L := [x ++ y]) rfl rfl HW2'.out HS.out HSL.out HBS.out ?_; intro v' w' ho hg; rw [HEQ.out, HO2L.out] at ho; obtain ⟨ad', cap', rfl⟩ := owns_slice ho; have HW2 : Hid (w'.ownsRow WE.heap.size 9 1 (.slice ad' (i + 1) cap') (i + 1) (txV O2)) := ho; have HB2 : Hid (Below WE.heap.size WE w') := grown_own HBS.out HB2'.out HW2'.out hg; clear ho hg)
        exact ⟨⟨i + 1, O2, by simp, by omega, by omega, HO2L.out, HO2.out, HOZ2.out, HW2.out, HB2.out⟩, by simp [intOf]; omega⟩
      · obtain rfl : i = 101 := by omega
        have HR : Hid (bound J = bound O) := by
          unfold Hid
          rw [bound_no (fits_many (by rw [HJN.out]; omega)), bound_no (fits_many (by rw [HOL.out]; omega))]
        have hil' : (101 : Int) < (LA : Int) := by omega
        have HB9 : Hid (Below w.heap.size w wr) := HBE.out.trans (HB.out.mono HBE.out.size)
        have HTO : Hid (Tx wr (.slice ad4 101 cap4) O) := Tx.owned (by rw [HOL.out]; exact HW.out)
        have HOZ4 : Hid (∀ s ∈ O, s.length < 4294967296) := fun s hs => Nat.lt_of_le_of_lt (HOZ.out s hs) (by decide)
        have HOL4 : Hid (O.length < 4294967296) := by
          unfold Hid
          rw [HOL.out]
          omega
        go_wp2_with fail
        refine (rfits_any _ O _ HTO.out HOZ4.out HOL4.out).mono ?_
        rintro e w3 ⟨⟨ad3, cap3, rfl, t3⟩, hw3⟩
        subst hw3
        have H3 : Hid (RGot (bound O) (.returned (.tuple #[.slice ad3 (resL (bound O)).length cap3, .bool (bound O).isSome])) w3) := ⟨_, _, rfl, t3⟩
        clear t3
        generalize (resL (bound O)).length = n3 at *
        generalize (bound O).isSome = b3 at *
        go_wp2_with fail
        go_ret2
        exact ⟨by rw [HR.out]; exact H3.out, HB9.out⟩
    · obtain rfl : i = LA := by omega
      have HR : Hid (bound J = bound O) := by
        unfold Hid
        rw [HO.out, List.take_of_length_le (by rw [HJN.out]; exact Nat.le_refl _)]
      have HB9 : Hid (Below w.heap.size w wr) := HBE.out.trans (HB.out.mono HBE.out.size)
      have HTO : Hid (Tx wr (.slice ad4 i cap4) O) := Tx.owned (by rw [HOL.out]; exact HW.out)
      have HOZ4 : Hid (∀ s ∈ O, s.length < 4294967296) := fun s hs => Nat.lt_of_le_of_lt (HOZ.out s hs) (by decide)
      have HOL4 : Hid (O.length < 4294967296) := by
        unfold Hid
        rw [HOL.out]
        omega
      go_wp2_with fail
      refine (rfits_any _ O _ HTO.out HOZ4.out HOL4.out).mono ?_
      rintro e w3 ⟨⟨ad3, cap3, rfl, t3⟩, hw3⟩
      subst hw3
      have H3 : Hid (RGot (bound O) (.returned (.tuple #[.slice ad3 (resL (bound O)).length cap3, .bool (bound O).isSome])) w3) := ⟨_, _, rfl, t3⟩
      clear t3
      generalize (resL (bound O)).length = n3 at *
      generalize (bound O).isSome = b3 at *
      go_wp2_with fail
      go_ret2
      exact ⟨by rw [HR.out]; exact H3.out, HB9.out⟩
set_option maxRecDepth 100000 in
set_option maxHeartbeats 4000000 in
theorem two_MMg (A C J : List (List UInt8)) (w : World) (ga oa capa : Nat) (gc oc capc : Nat) (LA : Nat) (hLA : A.length = LA) (hLA2 : 2 ≤ LA) (hLAb : LA ≤ 60000) (LC : Nat) (hLC : C.length = LC) (hLC2 : 2 ≤ LC) (hLCb : LC ≤ 60000) (_hca : LA ≤ capa) (_hcc : LC ≤ capc) (hle : LC < LA) (HCA : Hid (∀ W', Below w.heap.size w W' → ∀ k p, A[k]? = some p → W'.cell? ⟨ga, oa + k, none⟩ = some (.string ⟨p.toArray⟩))) (HCC : Hid (∀ W', Below w.heap.size w W' → ∀ k p, C[k]? = some p → W'.cell? ⟨gc, oc + k, none⟩ = some (.string ⟨p.toArray⟩))) (HZA : Hid (∀ s ∈ A, s.length ≤ 60000)) (HZC : Hid (∀ s ∈ C, s.length ≤ 60000)) (HTK : Hid (∀ k, k < LC → J.take (k + 1) = J.take k ++ [atB A k ++ atB C k])) (HLO : Hid (∀ k, k < LC → 2000 < (atB A k).length ∨ 2000 < (atB C k).length → bound J = none)) (HJN : Hid (J.length = LC)) :
    Calls Tryz.prog 35 #[.slice (some ⟨ga, oa, none⟩) LA capa, .slice (some ⟨gc, oc, none⟩) LC capc] w fun e w' => RGot (bound J) e w' ∧ Below w.heap.size w w' := by
  obtain ⟨WE, hWE⟩ : ∃ WE, WE = w := ⟨_, rfl⟩
  have HBE : Hid (Below w.heap.size w WE) := by
    unfold Hid
    rw [hWE]
    exact Below.refl _ _
  have HCA' : Hid (∀ W', Below WE.heap.size WE W' → ∀ k p, A[k]? = some p → W'.cell? ⟨ga, oa + k, none⟩ = some (.string ⟨p.toArray⟩)) := by rw [hWE]; exact HCA
  have HCC' : Hid (∀ W', Below WE.heap.size WE W' → ∀ k p, C[k]? = some p → W'.cell? ⟨gc, oc + k, none⟩ = some (.string ⟨p.toArray⟩)) := by rw [hWE]; exact HCC
  clear HCA HCC
  have HA0 : Hid (∃ z, A[0]? = some z) := ⟨_, List.getElem?_eq_getElem (by omega)⟩
  have HC0 : Hid (∃ z, C[0]? = some z) := ⟨_, List.getElem?_eq_getElem (by omega)⟩
  have zLA : ((LA : Int) == 0) = false := beq_eq_false_iff_ne.2 (by omega)
  have yLA : ((LA : Int) == 1) = false := beq_eq_false_iff_ne.2 (by omega)
  have zLC : ((LC : Int) == 0) = false := beq_eq_false_iff_ne.2 (by omega)
  have yLC : ((LC : Int) == 1) = false := beq_eq_false_iff_ne.2 (by omega)
  have HLA : Hid (A.length = LA) := hLA
  have HLC : Hid (C.length = LC) := hLC
  clear hLA hLC
  go_enter Tryz.func35, Tryz.ntmps35
  go_upto_region 9 with fail
  rw [← hWE]
  clear hWE
  go_wp2_with fail
  go_loopw [7, 8] (fun v7 v8 wr => ∃ (i : Nat) (O : List (List UInt8)), v8 = .int .i64 i ∧ i ≤ LC ∧ i ≤ 101 ∧ Hid (O.length = i) ∧ Hid (O = J.take i) ∧ Hid (∀ s ∈ O, s.length ≤ 4000) ∧ Hid (wr.ownsRow WE.heap.size 9 1 v7 i (txV O)) ∧ Hid (Below WE.heap.size WE wr)) (fun _ v8 _ => LC - (intOf v8).toNat)
  case atStart => exact ⟨0, [], rfl, Nat.zero_le _, by omega, rfl, by simp [Hid], fun s hs => by simp at hs, ⟨rfl, .inl ⟨rfl, rfl⟩⟩, Below.refl _ _⟩
  case round =>
    obtain ⟨i, O, rfl, hi, hi101, HOL, HO, HOZ, HW, HB⟩ := hrel
    obtain ⟨ad4, cap4, rfl⟩ := owns_slice HW.out
    by_cases hil : i < LC
    · by_cases h100 : i ≤ 100
      · obtain ⟨x, hx⟩ : ∃ x, atB A i = x := ⟨_, rfl⟩
        obtain ⟨y, hy⟩ : ∃ y, atB C i = y := ⟨_, rfl⟩
        have gA : A[i]? = some x := by
          rw [← hx]
          exact atB_at (by rw [HLA.out]; omega) (by rw [HLA.out]; omega)
        have eA := HCA'.out _ HB.out i x gA
        obtain ⟨zA, hzA⟩ := HA0.out
        have fA := HCA'.out _ HB.out 0 zA hzA
        simp only [Nat.add_zero] at fA
        have iA : (i : Int) < (LA : Int) := by omega
        have mA := HZA.out x (List.mem_of_getElem? gA)
        clear hzA gA
        have gC : C[i]? = some y := by
          rw [← hy]
          exact atB_at (by rw [HLC.out]; omega) (by rw [HLC.out]; omega)
        have eC := HCC'.out _ HB.out i y gC
        obtain ⟨zC, hzC⟩ := HC0.out
        have fC := HCC'.out _ HB.out 0 zC hzC
        simp only [Nat.add_zero] at fC
        have iC : (i : Int) < (LC : Int) := by omega
        have mC := HZC.out y (List.mem_of_getElem? gC)
        clear hzC gC
        have sx : (⟨x.toArray⟩ : ByteArray).size = x.length := str_size' x
        have sy : (⟨y.toArray⟩ : ByteArray).size = y.length := str_size' y
        have hxy := str_app2 x y
        have HLOi : Hid (2000 < x.length ∨ 2000 < y.length → bound J = none) := by
          unfold Hid
          rw [← hx, ← hy]
          exact HLO.out i hil
        obtain ⟨O2, hO2⟩ : ∃ O2, O2 = O ++ [x ++ y] := ⟨_, rfl⟩
        have HO2 : Hid (O2 = J.take (i + 1)) := by
          unfold Hid
          rw [HTK.out i hil, hO2, HO.out, hx, hy]
        have HO2L : Hid (O2.length = i + 1) := by
          unfold Hid
          rw [hO2, List.length_append, HOL.out]
          rfl
        have HEQ : Hid (O ++ [x ++ y] = O2) := hO2.symm
        have HB9 : Hid (Below w.heap.size w wr) := HBE.out.trans (HB.out.mono HBE.out.size)
        clear hx hy hO2
        by_cases hbx : 2000 < x.length
        · have HLC : Hid (bound J = none) := HLOi.out (.inl hbx)
          go_wp2_with fail
          go_ret2
          exact ⟨by rw [HLC.out]; exact RGot.none _, HB9.out⟩
        by_cases hby : 2000 < y.length
        · have HLC : Hid (bound J = none) := HLOi.out (.inr hby)
          go_wp2_with fail
          go_ret2
          exact ⟨by rw [HLC.out]; exact RGot.none _, HB9.out⟩
        have HOZ2 : Hid (∀ s ∈ O2, s.length ≤ 4000) := by
          unfold Hid
          rw [← HEQ.out]
          intro s hs
          rcases List.mem_append.1 hs with hs | hs
          · exact HOZ.out s hs
          · simp at hs
            subst hs
            rw [List.length_append]
            omega
        have HS : Hid (SrcT (wr.alloc (.cells #[.string ⟨(x ++ y).toArray⟩] 9)) (.slice (some ⟨wr.heap.size, 0, none⟩) 1 1) [x ++ y]) := (Tx.one wr (x ++ y)).src
        have hb3 := below_new wr (.cells #[.string ⟨(x ++ y).toArray⟩] 9)
        have HW2' : Hid ((wr.alloc (.cells #[.string ⟨(x ++ y).toArray⟩] 9)).ownsRow WE.heap.size 9 1 (.slice ad4 i cap4) O.length (txV O)) := by
          unfold Hid
          rw [HOL.out]
          exact owns_after HW.out hb3
        have HB2' : Hid (Below WE.heap.size WE (wr.alloc (.cells #[.string ⟨(x ++ y).toArray⟩] 9))) := HB.out.trans (hb3.mono HB.out.size)
        have HBS : Hid (WE.heap.size ≤ (wr.alloc (.cells #[.string ⟨(x ++ y).toArray⟩] 9)).heap.size) := HB2'.out.size
        have HSL : Hid (O.length + [x ++ y].length < 4294967296) := by
          unfold Hid
          rw [HOL.out]
          simp
          omega
        clear hb3
        go_wp2_with (at_builtin; refine wpList_srcT rfl _ _ rfl (v := .slice ad4 i cap4) (xv := .slice (some ⟨wr.heap.size, 0, none⟩) 1 1) (O := O) (L := [x ++ y]) rfl rfl HW2'.out HS.out HSL.out HBS.out ?_; intro v' w' ho hg; rw [HEQ.out, HO2L.out] at ho; obtain ⟨ad', cap', rfl⟩ := owns_slice ho; have HW2 : Hid (w'.ownsRow WE.heap.size 9 1 (.slice ad' (i + 1) cap') (i + 1) (txV O2)) := ho; have HB2 : Hid (Below WE.heap.size WE w') := grown_own HBS.out HB2'.out HW2'.out hg; clear ho hg)
        exact ⟨⟨i + 1, O2, by simp, by omega, by omega, HO2L.out, HO2.out, HOZ2.out, HW2.out, HB2.out⟩, by simp [intOf]; omega⟩
      · obtain rfl : i = 101 := by omega
        have HR : Hid (bound J = bound O) := by
          unfold Hid
          rw [bound_no (fits_many (by rw [HJN.out]; omega)), bound_no (fits_many (by rw [HOL.out]; omega))]
        have hil' : (101 : Int) < (LC : Int) := by omega
        have HB9 : Hid (Below w.heap.size w wr) := HBE.out.trans (HB.out.mono HBE.out.size)
        have HTO : Hid (Tx wr (.slice ad4 101 cap4) O) := Tx.owned (by rw [HOL.out]; exact HW.out)
        have HOZ4 : Hid (∀ s ∈ O, s.length < 4294967296) := fun s hs => Nat.lt_of_le_of_lt (HOZ.out s hs) (by decide)
        have HOL4 : Hid (O.length < 4294967296) := by
          unfold Hid
          rw [HOL.out]
          omega
        go_wp2_with fail
        refine (rfits_any _ O _ HTO.out HOZ4.out HOL4.out).mono ?_
        rintro e w3 ⟨⟨ad3, cap3, rfl, t3⟩, hw3⟩
        subst hw3
        have H3 : Hid (RGot (bound O) (.returned (.tuple #[.slice ad3 (resL (bound O)).length cap3, .bool (bound O).isSome])) w3) := ⟨_, _, rfl, t3⟩
        clear t3
        generalize (resL (bound O)).length = n3 at *
        generalize (bound O).isSome = b3 at *
        go_wp2_with fail
        go_ret2
        exact ⟨by rw [HR.out]; exact H3.out, HB9.out⟩
    · obtain rfl : i = LC := by omega
      have HR : Hid (bound J = bound O) := by
        unfold Hid
        rw [HO.out, List.take_of_length_le (by rw [HJN.out]; exact Nat.le_refl _)]
      have HB9 : Hid (Below w.heap.size w wr) := HBE.out.trans (HB.out.mono HBE.out.size)
      have HTO : Hid (Tx wr (.slice ad4 i cap4) O) := Tx.owned (by rw [HOL.out]; exact HW.out)
      have HOZ4 : Hid (∀ s ∈ O, s.length < 4294967296) := fun s hs => Nat.lt_of_le_of_lt (HOZ.out s hs) (by decide)
      have HOL4 : Hid (O.length < 4294967296) := by
        unfold Hid
        rw [HOL.out]
        omega
      go_wp2_with fail
      refine (rfits_any _ O _ HTO.out HOZ4.out HOL4.out).mono ?_
      rintro e w3 ⟨⟨ad3, cap3, rfl, t3⟩, hw3⟩
      subst hw3
      have H3 : Hid (RGot (bound O) (.returned (.tuple #[.slice ad3 (resL (bound O)).length cap3, .bool (bound O).isSome])) w3) := ⟨_, _, rfl, t3⟩
      clear t3
      generalize (resL (bound O)).length = n3 at *
      generalize (bound O).isSome = b3 at *
      go_wp2_with fail
      go_ret2
      exact ⟨by rw [HR.out]; exact H3.out, HB9.out⟩
end Go.Proofs.YtdajacodfnidfaaGreatDoor
