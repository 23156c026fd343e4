/- The statement on many nodes, walked. -/
import Derived.Test.YtgabodcbhjcmiaaDoorKd
import Derived.Laws.BitsLemmas
import Derived.BigQuiet
namespace Go.Proofs.YtgabodcbhjcmiaaDoor
open Go.RowKit
attribute [local go_sem] Oper.semAt_some

theorem i64_and15 (n : Int) : bits .and .i64 n 15 = n % 16 := by
  have h7 : (BitVec.ofInt 64 15).toNat = 2 ^ 4 - 1 := by decide
  have key : (BitVec.ofInt 64 n &&& BitVec.ofInt 64 15).toNat = (n % ((2 ^ 64 : Nat) : Int)).toNat % 2 ^ 4 := by
    rw [BitVec.toNat_and, BitVec.toNat_ofInt, h7, Nat.and_two_pow_sub_one_eq_mod]
  show IntKind.i64.wrap ((BitVec.ofInt 64 n &&& BitVec.ofInt 64 15).toNat : Nat) = n % 16
  rw [key, IntKind.wrap_i64]
  omega
theorem and15 (n : Int) : ∃ j : Nat, j ≤ 15 ∧ bits .and .i64 n 15 = (j : Int) := by
  refine ⟨(n % 16).toNat, by omega, ?_⟩
  rw [i64_and15]
  omega
theorem nops_flat (m : Nat) : (List.replicate m [nopN]).flatten = List.replicate m nopN := by
  induction m with
  | zero => rfl
  | succ m ih => rw [List.replicate_succ, List.flatten_cons, ih, List.replicate_succ]; rfl
theorem leaf_may (y : Nd) (fin : Int) (i : Nat) (last word : Bool) (hk : y.k = 0) (hs : y.size = 1) (hl : last = true → fin - i = 1) (hr : 1 ≤ fin - i) (h : isOneB y.kind word = true) (h1 : numB y.kind y.n = true) (h2 : strB y.kind y.n y.s = true) (h3 : cntB y.kind 0 = true) : mayB y ⟨fin, 2, last, word⟩ i = true := by
  unfold mayB
  simp only [h, h1, h2, hk, h3, hs, Bool.true_and]
  unfold sizB
  rw [if_neg (by simp)]
  cases last with
  | true => rw [if_pos rfl, hl rfl]; rfl
  | false => rw [if_neg (by simp)]; simp; omega
/-- So many that do nothing, one behind the other. -/
theorem check_nops (m : Nat) (h2 : 2 ≤ m) : checkL (newN 23 0 [] (List.replicate m [nopN])) = if m + 1 ≤ 3000 then .fine else .many := by
  by_cases hm : m + 1 ≤ 3000
  · rw [if_pos hm]
    unfold newN
    rw [nops_flat]
    refine (check_flat _ _ (by simp) (by simp) (fun y hy => by rw [List.eq_of_mem_replicate hy]; exact ⟨rfl, rfl⟩) (by simpa using hm)).2 ⟨?_, fun j y hj => ?_⟩
    · simp [mayB, isOneB, cmdK, numB, strB, cntB, sizB]
      omega
    · have hy : y = nopN := List.eq_of_mem_replicate (List.mem_of_getElem? hj)
      have hlt := (List.getElem?_eq_some_iff.1 hj).1
      simp only [List.length_replicate] at hlt
      subst hy
      have hw : wordAtB 23 (m : Int) (j : Int) = false := by simp [wordAtB, wordK]
      simp only [List.length_replicate, hw]
      refine leaf_may nopN _ _ _ _ rfl rfl (fun h => ?_) (by omega) (by decide) (by decide) (by decide) (by decide)
      have := of_decide_eq_true h
      omega
  · rw [if_neg hm]
    unfold checkL
    rw [if_pos (Or.inr ?_)]
    simp [newN]
    omega
theorem rep_snoc (m : Nat) (a : List Nd) : List.replicate m a ++ [a] = List.replicate (m + 1) a := by
  rw [List.replicate_succ']

set_option maxRecDepth 100000 in
set_option maxHeartbeats 4000000 in
theorem many_any (n : Int) (W : World) (ea : Nat → Addr) (hE : Ers W ea) : Calls Tryd.prog 5 #[.int .i64 n] W fun e w' => e = .returned (.bool true) ∧ Below W.heap.size W w' := by
  obtain ⟨i0, hi0, hz0, hz1, hz2⟩ := info_parts info25
  have HE : Hid (∀ W', Below W.heap.size W W' → Ers W' ea) := fun W' hb => hE.below hb
  clear hE
  obtain ⟨j, hj, hjn⟩ := and15 n
  go_enter Tryd.func5, Tryd.ntmps5
  go_wp2_with fail
  refine (first_any W ea (HE.out _ (Below.refl _ _))).mono ?_
  rintro e w1 ⟨rfl, hb1⟩
  go_wp2_with fail
  obtain ⟨N, hN⟩ : ∃ N : Nat, (2995 : Int) + (j : Int) = N := ⟨2995 + j, by simp⟩
  have hN1 : 2995 ≤ N := by omega
  have hN2 : N ≤ 3010 := by omega
  rw [hN]
  clear hjn hN hj
  go_loopw [4, 5] (fun v4 v5 wr => ∃ (k : Nat) (K : List (Value × List Nd)), v5 = .int .i64 (k + 1 : Nat) ∧ k + 1 ≤ N ∧ K.length = k ∧ K.map Prod.snd = List.replicate k [nopN] ∧ Hid (KdOwn wr w1.heap.size v4 K) ∧ Below w1.heap.size w1 wr) (fun _ v5 _ => N - (intOf v5).toNat)
  case atStart => exact ⟨0, [], rfl, by omega, rfl, rfl, KdOwn.nil _ _, Below.refl _ _⟩
  case round =>
    obtain ⟨k, K, rfl, hk, hKl, hKs, HK, hbr⟩ := hrel
    subst hKl
    have HKS : Hid (K.map Prod.snd = List.replicate K.length [nopN]) := hKs
    clear hKs
    obtain ⟨adk, capk, rfl⟩ := owns_slice HK.out.1
    by_cases hkl : K.length + 1 < N
    · have hkl' : ((K.length : Int) + 1) < (N : Int) := by omega
      go_wp2_with fail
      refine (new_leaf 20 0 [] _).mono ?_
      rintro e w2 ⟨v2, rfl, ho2, hb2⟩
      obtain ⟨ad2, cap2, rfl⟩ := owns_slice ho2
      have HO2 : Hid (NdOwn w2 wr.heap.size (.slice ad2 1 cap2) [nopN]) := ho2
      have hB : w1.heap.size ≤ wr.heap.size := hbr.size
      have HK3 : Hid (∀ o, (w2.alloc o).ownsRow w1.heap.size 25 1 (.slice adk K.length capk) K.length (K.map Prod.fst)) := fun o => (HK.out.below (hb2.alloc hb2.size o)).1
      have hB3 : w1.heap.size ≤ (w2.alloc (.cells #[.slice ad2 1 cap2] 25)).heap.size := Nat.le_trans hB (Nat.le_trans hb2.size (below_new _ _).size)
      clear ho2
      go_wp2_with (at_builtin; refine wpList_append_own_at _ rfl _ _ 22 rfl w1.heap.size 25 i0 _ 1 24 Tryd.underlying22 hi0 hz0 hz1 hz2 rfl (by decide) _ _ _ rfl (HK3.out _) ⟨w2.heap.size, 0, none⟩ 1 1 [.slice ad2 1 cap2] rfl rfl (cells_new w2 _ 25) (slice_one _ ⟨_, _, _, rfl⟩) (by have := maxLen_big; omega) (by omega) hB3 ?_; intro v4 w4 hown4 hgrow4 _ _)
      have hfin := KdOwn.snoc HK.out hb2 hB hB HO2.out hown4 hgrow4
      refine ⟨⟨K.length + 1, K ++ [(Value.slice ad2 1 cap2, [nopN])], by simp, by omega, by simp, ?_, hfin.1, hbr.trans hfin.2⟩, by simp [intOf]; omega⟩
      rw [List.map_append, HKS.out]
      exact rep_snoc K.length [nopN]
    · have hkz : N = K.length + 1 := by omega
      subst hkz
      have hk2 : 2 ≤ K.length := by omega
      have hkid : kidL K = List.replicate K.length nopN := by unfold kidL; rw [HKS.out, nops_flat]
      have HSQ : Hid (Calls Tryd.prog 15 #[.slice adk K.length capk] wr fun e w' => ∃ v', e = .returned v' ∧ NdOwn w' wr.heap.size v' (newN 23 0 [] (List.replicate K.length [nopN])) ∧ Below wr.heap.size wr w') := by
        have := seq_many _ K wr HK.out.at hk2 (by omega) (by rw [hkid]; simp; omega)
        rw [HKS.out] at this
        exact this
      have hbw := hb1.trans (hbr.mono hb1.size)
      go_wp2_with fail
      refine Calls.mono HSQ.out ?_
      rintro e w2 ⟨v2, rfl, ho2, hb2⟩
      obtain ⟨X, hX⟩ : ∃ X, X = newN 23 0 [] (List.replicate K.length [nopN]) := ⟨_, rfl⟩
      rw [← hX] at ho2
      have hXl : X.length < 4294967296 := by rw [hX]; simp [newN]; omega
      have hXo : ∀ x ∈ X, NdOk x := by
        intro x hx
        rw [hX] at hx
        simp only [newN, nops_flat, List.mem_cons] at hx
        rcases hx with rfl | hx
        · exact ok_small _ (by simp) (by simp; omega)
        · rw [List.eq_of_mem_replicate hx]; exact ok_small _ (by simp [nopN]) (by simp [nopN])
      have HXC : Hid (checkL X = if K.length + 1 ≤ 3000 then .fine else .many) := by unfold Hid; rw [hX]; exact check_nops K.length (by omega)
      obtain ⟨ad2, cap2, hv2⟩ := owns_slice ho2
      have hbw2 := hbw.trans (hb2.mono hbw.size)
      subst hv2
      have HC : Hid (Calls Tryd.prog 17 #[.slice ad2 X.length cap2] w2 fun e w' => ∃ u, e = .returned u ∧ ErrIs w' ea u (checkL X) ∧ Below w2.heap.size w2 w') := check_any _ X _ ea (HE.out _ hbw2) (NdOwn.at ho2) hXl hXo
      clear ho2 HSQ hkid hX hXo
      go_wp2_with fail
      refine Calls.mono HC.out ?_
      rintro e w3 ⟨u3, rfl, hu3, hb3⟩
      rw [HXC.out] at hu3
      have hbw3 := hbw2.trans (hb3.mono hbw2.size)
      have c0 := (HE.out _ hbw3).cell 0 (by omega)
      have hes := err_same (ea 0)
      have HCN : Hid (∀ W', Below W.heap.size W W' → Calls Tryd.prog 17 #[.slice none 0 0] W' fun e w' => e = .returned (errV (ea 0)) ∧ w' = W') := fun W' hb => check_nil W' ea (HE.out _ hb)
      by_cases hk3 : K.length + 1 ≤ 3000
      · rw [if_pos hk3] at hu3
        obtain rfl := hu3
        have hk3' : ((K.length : Int) + 1) ≤ 3000 := by omega
        go_wp2_with fail
        go_quiet (first | (go_at_call 17; exact Calls.quiet_of_same (HCN.out _ ⟨hbw3.os, hbw3.tape, hbw3.output, hbw3.size, hbw3.block⟩)))
        go_wp2_with fail
        go_ret
        exact ⟨rfl, hbw3.os, hbw3.tape, hbw3.output, hbw3.size, hbw3.block⟩
      · rw [if_neg hk3] at hu3
        obtain rfl := hu3
        have hk3' : ¬ ((K.length : Int) + 1) ≤ 3000 := by omega
        go_wp2_with fail
        go_quiet (first | (go_at_call 17; exact Calls.quiet_of_same (HCN.out _ ⟨hbw3.os, hbw3.tape, hbw3.output, hbw3.size, hbw3.block⟩)))
        go_wp2_with fail
        go_ret
        refine ⟨?_, hbw3.os, hbw3.tape, hbw3.output, hbw3.size, hbw3.block⟩
        show Ending.returned (.bool (!decide ((K.length : Int) + 1 ≤ 3000))) = _
        rw [decide_eq_false (show ¬ (K.length : Int) + 1 ≤ 3000 by omega)]
        rfl
end Go.Proofs.YtgabodcbhjcmiaaDoor
