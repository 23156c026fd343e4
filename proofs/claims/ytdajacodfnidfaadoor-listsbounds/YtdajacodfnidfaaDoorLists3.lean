/- oneAtLeast, joined, at, joinTwo. -/
import Derived.Test.YtdajacodfnidfaaDoorLists2
namespace Go.Proofs.YtdajacodfnidfaaDoor
open Go.RowKit Go.Shelf

set_option maxHeartbeats 1000000 in
theorem one_any (v : Value) (ns : List (List UInt8)) (w : World) (h : Tx w v ns) :
    Calls Tryd.prog 28 #[v] w fun e w' => ∃ v', e = .returned v' ∧ Tx w' v' (oneB ns) ∧ Below w.heap.size w w' := by
  have HT : Hid (Tx w v ns) := h
  obtain ⟨ad, cap, rfl⟩ := h.form
  clear h
  by_cases h0 : ns.length = 0
  · have e0 : ns = [] := List.eq_nil_of_length_eq_zero h0
    subst e0
    clear h0
    go_enter Tryd.func28, Tryd.ntmps28
    go_wp2_with fail
    go_ret
    exact ⟨_, rfl, Tx.one w [], (Below.refl _ w).alloc (Nat.le_refl _) _⟩
  · have e1 : oneB ns = ns := by unfold oneB; rw [if_neg h0]
    rw [e1]
    have h1 : ¬ (ns.length : Int) = 0 := by omega
    have h2 : ((ns.length : Int) == 0) = false := beq_eq_false_iff_ne.2 h1
    go_enter Tryd.func28, Tryd.ntmps28
    go_wp2_with fail
    go_ret
    exact ⟨_, rfl, HT.out, Below.refl _ _⟩

theorem ret_int {a b : Int} (h : a = b) : Ending.returned (.int .i64 a) = .returned (.int .i64 b) := by rw [h]
set_option maxHeartbeats 1000000 in
theorem joined_any (a b : Nat) (w : World) (ha : a < 4294967296) (hb : b < 4294967296) :
    Calls Tryd.prog 42 #[.int .i64 a, .int .i64 b] w fun e w' => e = .returned (.int .i64 (joinedN a b : Nat)) ∧ w' = w := by
  by_cases h1 : a = 1
  · subst h1
    go_enter Tryd.func42, Tryd.ntmps42
    go_wp2_with fail
    go_ret
    exact ⟨ret_int (by unfold joinedN; rw [if_pos (Or.inl rfl)]; omega), rfl⟩
  · by_cases h2 : b = 1
    · subst h2
      have e1 : ((a : Int) == 1) = false := by simp; omega
      go_enter Tryd.func42, Tryd.ntmps42
      go_wp2_with fail
      go_ret
      exact ⟨ret_int (by unfold joinedN; rw [if_pos (Or.inr rfl)]; omega), rfl⟩
    · have e1 : ((a : Int) == 1) = false := by simp; omega
      have e2 : ((b : Int) == 1) = false := by simp; omega
      go_enter Tryd.func42, Tryd.ntmps42
      go_wp2_with fail
      go_ret
      exact ⟨ret_int (by unfold joinedN; rw [if_neg (by omega)]; omega), rfl⟩

set_option maxHeartbeats 1000000 in
theorem at_any (v : Value) (ns : List (List UInt8)) (i : Nat) (w : World) (h : Tx w v ns) (hl : ns.length < 4294967296) (hi : ns.length = 1 ∨ i < ns.length) :
    Calls Tryd.prog 43 #[v, .int .i64 i] w fun e w' => e = .returned (.string ⟨(atB ns i).toArray⟩) ∧ w' = w := by
  have hne : ns ≠ [] := fun e => by rw [e] at hi; simp at hi
  obtain ⟨g, o, cap, rfl, h1, h2, h3⟩ := h.inRow hne
  clear hne h
  · by_cases h0 : ns.length = 1
    · obtain ⟨n, rfl⟩ := List.length_eq_one_iff.1 h0
      have c0 := h3 0 n rfl
      have e1 : atB [n] i = n := rfl
      rw [e1]
      clear h0 h3 h2 hi
      simp only [Nat.add_zero] at c0
      go_enter Tryd.func43, Tryd.ntmps43
      go_wp2_with fail
      go_ret
      exact ⟨rfl, rfl⟩
    · have hil : i < ns.length := by omega
      have c0 := h3 i ns[i] (List.getElem?_eq_getElem hil)
      have e1 : atB ns i = ns[i] := by
        unfold atB
        rw [if_neg h0, List.getD_eq_getElem?_getD, List.getElem?_eq_getElem hil]
        rfl
      rw [e1]
      generalize ns[i] = x at c0
      have e2 : ((ns.length : Int) == 1) = false := by simp; omega
      clear h3 h2 hi e1
      go_enter Tryd.func43, Tryd.ntmps43
      go_wp2_with fail
      go_ret
      exact ⟨rfl, rfl⟩

theorem bytes_app (x y : List UInt8) : (⟨x.toArray⟩ : ByteArray) ++ ⟨y.toArray⟩ = ⟨(x ++ y).toArray⟩ := by
  apply ByteArray.ext
  rw [ByteArray.data_append]
  simp
theorem atB_mem (l : List (List UInt8)) (i : Nat) (h : l.length = 1 ∨ i < l.length) : atB l i ∈ l := by
  unfold atB
  split
  · next h1 =>
    obtain ⟨n, rfl⟩ := List.length_eq_one_iff.1 h1
    simp
  · next h1 =>
    have hi : i < l.length := by omega
    rw [List.getD_eq_getElem?_getD, List.getElem?_eq_getElem hi]
    simp

set_option maxRecDepth 100000 in
set_option maxHeartbeats 4000000 in
theorem joinTwo_any (va vb : Value) (A C : List (List UInt8)) (w : World) (a : Addr) (ha : Tx w va A) (hc : Tx w vb C) (hA : 1 ≤ A.length) (hC : 1 ≤ C.length) (hAl : A.length < 4294967296) (hCl : C.length < 4294967296)
    (hAz : ∀ s ∈ A, s.length < 4294967296) (hCz : ∀ s ∈ C, s.length < 4294967296) (hE : Eb w a) :
    Calls Tryd.prog 29 #[va, vb] w fun e w' => GotL w.heap.size a (bound (jtB A C)) e w' ∧ Below w.heap.size w w' := by
  have HE : Hid (Eb w a) := hE
  have HA : Hid (Tx w va A) := ha
  have HC : Hid (Tx w vb C) := hc
  have HAZ : Hid (∀ s ∈ A, s.length < 4294967296) := hAz
  have HCZ : Hid (∀ s ∈ C, s.length < 4294967296) := hCz
  obtain ⟨ada, capa, rfl⟩ := ha.form
  obtain ⟨adc, capc, rfl⟩ := hc.form
  clear ha hc hE hAz hCz
  have hjl := joined_le A.length C.length
  have hJ : ∃ N, N = joinedN A.length C.length := ⟨_, rfl⟩
  obtain ⟨N, hN⟩ := hJ
  have HN : Hid (N = joinedN A.length C.length) := hN
  have hN32 : N < 4294967296 := by omega
  clear hN hjl
  go_enter Tryd.func29, Tryd.ntmps29
  go_wp2_with fail
  refine (joined_any A.length C.length _ hAl hCl).mono ?_
  rintro e w1 ⟨rfl, hw1⟩
  obtain rfl := hw1.symm
  rw [← HN.out]
  go_wp2_with fail
  go_loopw [6, 14] (fun v6 v14 wr => ∃ k : Nat, v14 = .int .i64 k ∧ k ≤ N ∧ Hid (fitsB ((jtB A C).take k) = true) ∧ Hid (wr.ownsRow w.heap.size 9 1 v6 ((jtB A C).take k).length (txV ((jtB A C).take k))) ∧ Below w.heap.size w wr) (fun _ v14 _ => N - (intOf v14).toNat)
  case atStart => exact ⟨0, rfl, by omega, fits_nil, ⟨rfl, .inl ⟨rfl, rfl⟩⟩, Below.refl _ _⟩
  case round =>
    obtain ⟨k, rfl, hk, HF, HO, hbr⟩ := hrel
    by_cases hkl : k < N
    · have hkj : k < joinedN A.length C.length := by rw [← HN.out]; exact hkl
      have HS : Hid ((jtB A C).take (k + 1) = (jtB A C).take k ++ [atB A k ++ atB C k]) := jt_take A C k hkj
      have ja := joined_at _ _ k hkj hA
      have jc := joined_at' _ _ k hkj hC
      have HMA : Hid _ := at_any _ A k wr (HA.out.below hbr (Nat.le_refl _)) hAl ja
      have HMC : Hid _ := at_any _ C k wr (HC.out.below hbr (Nat.le_refl _)) hCl jc
      have hsa := HAZ.out _ (atB_mem A k ja)
      have hsc := HCZ.out _ (atB_mem C k jc)
      clear hkj ja jc
      generalize atB A k = x at HS HMA hsa
      generalize atB C k = y at HS HMC hsc
      have hzx : (⟨x.toArray⟩ : ByteArray).size < 4294967296 := by rw [str_size']; exact hsa
      have hzy : (⟨y.toArray⟩ : ByteArray).size < 4294967296 := by rw [str_size']; exact hsc
      go_wp2_with fail
      refine Calls.mono HMA.out ?_
      rintro e w2 ⟨rfl, hw2⟩
      obtain rfl := hw2.symm
      go_wp2_with fail
      refine Calls.mono HMC.out ?_
      rintro e w3 ⟨rfl, hw3⟩
      obtain rfl := hw3.symm
      go_wp2_with fail
      rw [bytes_app]
      have hba : Below w.heap.size w (wr.alloc (.cells #[.string ⟨(x ++ y).toArray⟩] 9)) := hbr.alloc hbr.size _
      cases hq : fitsB ((jtB A C).take k ++ [x ++ y])
      · refine (add_no _ _ ((jtB A C).take k) [x ++ y] _ a (own_form HO.out) (Tx.one wr (x ++ y)) (by simp) HF.out hq (Eb.below HE.out hba (Eb.pos HE.out))).mono ?_
        rintro e w4 ⟨rfl, hb4⟩
        go_wp2_with fail
        go_ret2
        have hno : bound (jtB A C) = none := by
          unfold bound
          rw [fits_take _ (k + 1) (by rw [HS.out]; exact hq)]
          rfl
        rw [hno]
        exact ⟨rfl, hba.trans (hb4.mono hba.size)⟩
      · refine (add_yes w.heap.size _ _ ((jtB A C).take k) [x ++ y] _ hba.size (HO.out.alloc _) (Tx.one wr (x ++ y)) HF.out hq).mono ?_
        rintro e w4 ⟨v4, rfl, ho4, hb4⟩
        have HO4 : Hid _ := ho4
        have HQ : Hid _ := hq
        clear ho4 hq
        go_wp2_with fail
        exact ⟨⟨k + 1, by simp, by omega, by rw [HS.out]; exact HQ.out, by rw [HS.out]; exact HO4.out, hba.trans hb4⟩, by simp [intOf]; omega⟩
    · have hkz : k = N := by omega
      subst hkz
      have hall : (jtB A C).take k = jtB A C := List.take_of_length_le (by rw [jt_length, ← HN.out]; exact Nat.le_refl _)
      rw [hall] at HF HO
      go_wp2_with fail
      go_ret2
      have hyes : bound (jtB A C) = some (jtB A C) := by
        unfold bound
        rw [HF.out]
        rfl
      rw [hyes]
      exact ⟨⟨_, rfl, HO.out⟩, hbr⟩
end Go.Proofs.YtdajacodfnidfaaDoor
