/- The statement on kinds, walked. -/
import Derived.Test.YtgabodcbhjcmiaaDoorKindsPlain
import Derived.Deep.CutBlock
namespace Go.Proofs.YtgabodcbhjcmiaaDoor
open Go.RowKit
attribute [local go_sem] Oper.semAt_some

theorem i64_and7 (n : Int) : bits .and .i64 n 7 = n % 8 := by
  have h7 : (BitVec.ofInt 64 7).toNat = 2 ^ 3 - 1 := by decide
  have key : (BitVec.ofInt 64 n &&& BitVec.ofInt 64 7).toNat = (n % ((2 ^ 64 : Nat) : Int)).toNat % 2 ^ 3 := by
    rw [BitVec.toNat_and, BitVec.toNat_ofInt, h7, Nat.and_two_pow_sub_one_eq_mod]
  show IntKind.i64.wrap ((BitVec.ofInt 64 n &&& BitVec.ofInt 64 7).toNat : Nat) = n % 8
  rw [key, IntKind.wrap_i64]
  omega
theorem and7 (n : Int) : ∃ j : Nat, j ≤ 7 ∧ bits .and .i64 n 7 = (j : Int) := by
  refine ⟨(n % 8).toNat, by omega, ?_⟩
  rw [i64_and7]
  omega
def bitM (mask : Int) (i : Nat) : Bool := decide (bits .and .i64 (mask / 2 ^ i) 1 = 1)
def bitsM (mask : Int) (n : Nat) : List Bool := (List.range n).map (bitM mask)
theorem bitsM_len (mask : Int) (n : Nat) : (bitsM mask n).length = n := by simp [bitsM]
theorem bitsM_succ (mask : Int) (n : Nat) : bitsM mask (n + 1) = bitsM mask n ++ [bitM mask n] := by simp [bitsM, List.range_succ]
theorem cmds_snoc (bs : List Bool) (b : Bool) : cmdsOf (bs ++ [b]) = cmdsOf bs + (if b then 1 else 0) := by
  unfold cmdsOf
  rw [List.filter_append, List.length_append]
  cases b <;> rfl
theorem cmds_le (bs : List Bool) : cmdsOf bs ≤ bs.length := List.length_filter_le _ _
set_option maxRecDepth 100000 in
set_option maxHeartbeats 4000000 in
theorem kinds_any (kind k mask : Int) (name : Bool) (W : World) (ea : Nat → Addr) (hE : Ers W ea) : Calls Tryd.prog 7 #[.int .i64 kind, .int .i64 k, .int .i64 mask, .bool name] W fun e w' => e = .returned (.bool true) ∧ Below W.heap.size W w' := by
  obtain ⟨i0, hi0, hz0, hz1, hz2⟩ := info_parts info25
  have HE : Hid (∀ W', Below W.heap.size W W' → Ers W' ea) := fun W' hb => hE.below hb
  clear hE
  obtain ⟨n, hn, hnk⟩ := and7 k
  obtain ⟨r, hr⟩ : ∃ r, kind.tmod 18 = r := ⟨_, rfl⟩
  have hr1 : -18 < r := by rw [← hr]; exact Int.lt_tmod_of_pos _ (by decide)
  have hr2 : r < 18 := by rw [← hr]; exact Int.tmod_lt_of_pos _ (by decide)
  obtain ⟨q, hq, hq2⟩ : ∃ q : Nat, (r + 18).tmod 18 = (q : Int) ∧ q < 18 := by
    have h1 := Int.tmod_nonneg (a := r + 18) 18 (by omega)
    have h2 := Int.tmod_lt_of_pos (r + 18) (b := 18) (by decide)
    exact ⟨((r + 18).tmod 18).toNat, by omega, by omega⟩
  go_enter Tryd.func7, Tryd.ntmps7
  go_wp2_with fail
  refine (first_any W ea (HE.out _ (Below.refl _ _))).mono ?_
  rintro e w1 ⟨rfl, hb1⟩
  go_wp2_with fail
  clear hr hq hr1 hr2
  go_loopw [10, 11, 12] (fun v10 v11 v12 wr => ∃ (i : Nat) (K : List (Value × List Nd)), v12 = .int .i64 i ∧ i ≤ n ∧ v11 = .int .i64 (cmdsOf (bitsM mask i) : Nat) ∧ K.length = i ∧ Hid (K.map Prod.snd = (bitsM mask i).map fun b => [kidN b]) ∧ Hid (KdOwn wr w1.heap.size v10 K) ∧ Below w1.heap.size w1 wr) (fun _ _ v12 _ => n - (intOf v12).toNat)
  case atStart => exact ⟨0, [], rfl, by omega, rfl, rfl, rfl, KdOwn.nil _ _, Below.refl _ _⟩
  case round =>
    obtain ⟨i, K, rfl, hi, rfl, hKl, HKS, HK, hbr⟩ := hrel
    subst hKl
    obtain ⟨adk, capk, rfl⟩ := owns_slice HK.out.1
    have hB : w1.heap.size ≤ wr.heap.size := hbr.size
    have hcle : cmdsOf (bitsM mask K.length) ≤ 7 := by have := cmds_le (bitsM mask K.length); rw [bitsM_len] at this; omega
    obtain ⟨c, hc⟩ : ∃ c, cmdsOf (bitsM mask K.length) = c := ⟨_, rfl⟩
    have HC : Hid (cmdsOf (bitsM mask K.length) = c) := hc
    rw [hc] at hcle
    by_cases hlt : K.length < n
    · simp only [hc]
      clear hc
      by_cases hbt : bits .and .i64 (mask / 2 ^ K.length) 1 = 1
      · have hbm : bitM mask K.length = true := decide_eq_true hbt
        have HB1 : Hid (bitsM mask (K.length + 1) = bitsM mask K.length ++ [true]) := by unfold Hid; rw [bitsM_succ, hbm]
        clear hbm
        go_wp2_with fail
        refine (new_leaf 20 0 [] _).mono ?_
        rintro e w2 ⟨v2, rfl, ho2, hb2⟩
        obtain ⟨ad2, cap2, rfl⟩ := owns_slice ho2
        have HO2 : Hid (NdOwn w2 wr.heap.size (.slice ad2 1 cap2) [nopN]) := ho2
        have HK3 : Hid (∀ o, (w2.alloc o).ownsRow w1.heap.size 25 1 (.slice adk K.length capk) K.length (K.map Prod.fst)) := fun o => (HK.out.below (hb2.alloc hb2.size o)).1
        have hB3 : w1.heap.size ≤ (w2.alloc (.cells #[.slice ad2 1 cap2] 25)).heap.size := Nat.le_trans hB (Nat.le_trans hb2.size (below_new _ _).size)
        clear ho2
        go_wp2_with (at_builtin; refine wpList_append_own_at _ rfl _ _ 22 rfl w1.heap.size 25 i0 _ 1 24 Tryd.underlying22 hi0 hz0 hz1 hz2 rfl (by decide) _ _ _ rfl (HK3.out _) ⟨w2.heap.size, 0, none⟩ 1 1 [.slice ad2 1 cap2] rfl rfl (cells_new w2 _ 25) (slice_one _ ⟨_, _, _, rfl⟩) (by have := maxLen_big; omega) (by omega) hB3 ?_; intro v4 w4 hown4 hgrow4 _ _)
        have hfin := KdOwn.snoc HK.out hb2 hB hB HO2.out hown4 hgrow4
        refine ⟨⟨K.length + 1, K ++ [(Value.slice ad2 1 cap2, [nopN])], by simp, by omega, ?_, by simp, ?_, hfin.1, hbr.trans hfin.2⟩, by simp [intOf]; omega⟩
        · rw [HB1.out, cmds_snoc, HC.out]; simp
        · unfold Hid
          rw [HB1.out, List.map_append, List.map_append, HKS.out]
          rfl
      · have hbm : bitM mask K.length = false := decide_eq_false hbt
        have HB1 : Hid (bitsM mask (K.length + 1) = bitsM mask K.length ++ [false]) := by unfold Hid; rw [bitsM_succ, hbm]
        clear hbm
        go_wp2_with fail
        refine (lit_any _ _).mono ?_
        rintro e w2 ⟨v2, rfl, ho2, hb2⟩
        obtain ⟨ad2, cap2, rfl⟩ := owns_slice ho2
        have HO2 : Hid (NdOwn w2 wr.heap.size (.slice ad2 1 cap2) [litN [97]]) := ho2
        have HK3 : Hid (∀ o, (w2.alloc o).ownsRow w1.heap.size 25 1 (.slice adk K.length capk) K.length (K.map Prod.fst)) := fun o => (HK.out.below (hb2.alloc hb2.size o)).1
        have hB3 : w1.heap.size ≤ (w2.alloc (.cells #[.slice ad2 1 cap2] 25)).heap.size := Nat.le_trans hB (Nat.le_trans hb2.size (below_new _ _).size)
        clear ho2
        go_wp2_with (at_builtin; refine wpList_append_own_at _ rfl _ _ 22 rfl w1.heap.size 25 i0 _ 1 24 Tryd.underlying22 hi0 hz0 hz1 hz2 rfl (by decide) _ _ _ rfl (HK3.out _) ⟨w2.heap.size, 0, none⟩ 1 1 [.slice ad2 1 cap2] rfl rfl (cells_new w2 _ 25) (slice_one _ ⟨_, _, _, rfl⟩) (by have := maxLen_big; omega) (by omega) hB3 ?_; intro v4 w4 hown4 hgrow4 _ _)
        have hfin := KdOwn.snoc HK.out hb2 hB hB HO2.out hown4 hgrow4
        refine ⟨⟨K.length + 1, K ++ [(Value.slice ad2 1 cap2, [litN [97]])], by simp, by omega, ?_, by simp, ?_, hfin.1, hbr.trans hfin.2⟩, by simp [intOf]; omega⟩
        · rw [HB1.out, cmds_snoc, HC.out]; simp
        · unfold Hid
          rw [HB1.out, List.map_append, List.map_append, HKS.out]
          rfl
    · have hkz : n = K.length := by omega
      subst hkz
      simp only [hc]
      clear hc
      obtain ⟨bs, hbs⟩ : ∃ bs, bs = bitsM mask K.length := ⟨_, rfl⟩
      have hbl : bs.length = K.length := by rw [hbs, bitsM_len]
      rw [← hbs] at HKS HC
      have HBS : Hid (bs = bitsM mask K.length) := hbs
      have HBL : Hid (bs.length = K.length) := hbl
      clear hbs hbl
      go_upto_if 49 with fail
      go_cut [13] from 49 to 49 (fun v13 wx => v13 = str (if name then [120] else []) ∧ wr = wx)
      case first => as_aux_lemma =>
        cases name
        all_goals
          go_wp2_with fail
          go_meet
          exact ⟨rfl, rfl⟩
      case rest =>
        obtain ⟨rfl, hwx⟩ := hcut
        subst hwx
        obtain ⟨sn, hsn⟩ : ∃ sn : Txt, sn = (if name then [120] else []) := ⟨_, rfl⟩
        rw [← hsn]
        have HSN : Hid (sn = (if name then [120] else [])) := hsn
        clear hsn
        go_upto_if 51 with fail
        go_cut [14] from 50 to 51 (fun v14 wx => v14 = .int .i64 (if (q : Int) + 20 = 33 then 2 else 0) ∧ wr = wx)
        case first => as_aux_lemma =>
          by_cases h33 : (q : Int) + 20 = 33
          · go_wp2_with fail
            go_meet
            exact ⟨by rw [if_pos h33], rfl⟩
          · go_wp2_with fail
            go_meet
            exact ⟨by rw [if_neg h33], rfl⟩
        case rest =>
          obtain ⟨rfl, hwx⟩ := hcut
          subst hwx
          obtain ⟨nn, hnn⟩ : ∃ nn : Int, nn = (if (q : Int) + 20 = 33 then 2 else 0) := ⟨_, rfl⟩
          rw [← hnn]
          have HNN : Hid (nn = (if (q : Int) + 20 = 33 then 2 else 0)) := hnn
          clear hnn
          go_upto_region 19 with fail
          go_cut [15] from 52 to 62 (fun v15 wx => v15 = .bool (lastOf bs) ∧ wr = wx)
          case first => as_aux_lemma =>
            rcases Nat.eq_zero_or_pos K.length with h0 | h0
            · have hb0 : bs = [] := List.eq_nil_of_length_eq_zero (HBL.out.trans h0)
              have HB0 : Hid (lastOf bs = false) := by unfold Hid; rw [hb0]; rfl
              have h0' : ¬ (0 : Int) < (K.length : Int) := by omega
              clear hb0 h0
              go_wp2_with fail
              go_meet
              exact ⟨by rw [HB0.out], rfl⟩
            · obtain ⟨m, hm⟩ : ∃ m, K.length = m + 1 := ⟨K.length - 1, by omega⟩
              have HL : Hid (lastOf bs = decide (bits .and .i64 (mask / 2 ^ m) 1 = 1)) := by
                unfold Hid
                rw [HBS.out, hm, bitsM_succ]
                unfold lastOf
                rw [List.getLast?_append]
                rfl
              go_wp2_with fail
              go_meet
              exact ⟨by rw [HL.out]; rfl, rfl⟩
          case rest =>
            obtain ⟨rfl, hwx⟩ := hcut
            subst hwx
            obtain ⟨la, hla⟩ : ∃ la, la = lastOf bs := ⟨_, rfl⟩
            rw [← hla]
            have HLA : Hid (la = lastOf bs) := hla
            clear hla
            go_upto_region 21 with fail
            go_cut [17] from 63 to 76 (fun v17 wx => v17 = .bool (namedK ((q : Int) + 20)) ∧ wr = wx)
            case first => as_aux_lemma =>
              by_cases g1 : (q : Int) + 20 = 22
              · go_wp2_with fail
                go_meet
                exact ⟨congrArg Value.bool (by simp [namedK, g1]), rfl⟩
              by_cases g2 : (q : Int) + 20 = 29
              · go_wp2_with fail
                go_meet
                exact ⟨congrArg Value.bool (by simp [namedK, g2]), rfl⟩
              by_cases g3 : (q : Int) + 20 = 31
              · go_wp2_with fail
                go_meet
                exact ⟨congrArg Value.bool (by simp [namedK, g3]), rfl⟩
              go_wp2_with fail
              go_meet
              exact ⟨congrArg Value.bool (Bool.eq_iff_iff.2 (by simp [namedK, g1, g2, g3])), rfl⟩
            case rest =>
              obtain ⟨rfl, hwx⟩ := hcut
              subst hwx
              obtain ⟨nk, hnk⟩ : ∃ nk, nk = namedK ((q : Int) + 20) := ⟨_, rfl⟩
              rw [← hnk]
              have HNK : Hid (nk = namedK ((q : Int) + 20)) := hnk
              clear hnk
              obtain ⟨kd, hkd⟩ : ∃ kd : Int, kd = (q : Int) + 20 := ⟨_, rfl⟩
              rw [← hkd]
              have HKD : Hid (kd = (q : Int) + 20) := hkd
              clear hkd
              go_upto_block 2 with fail
              go_cut [16] from 78 to 187 (fun v16 wx => v16 = .bool (tabB kd bs) ∧ wr = wx)
              case first => as_aux_lemma =>
                have hqs : q = 0 ∨ q = 1 ∨ q = 2 ∨ q = 3 ∨ q = 4 ∨ q = 5 ∨ q = 6 ∨ q = 7 ∨ q = 8 ∨ q = 9 ∨ q = 10 ∨ q = 11 ∨ q = 12 ∨ q = 13 ∨ q = 14 ∨ q = 15 ∨ q = 16 ∨ q = 17 := by omega
                clear HNN HNK
                rcases hqs with hq0 | hq0 | hq0 | hq0 | hq0 | hq0 | hq0 | hq0 | hq0 | hq0 | hq0 | hq0 | hq0 | hq0 | hq0 | hq0 | hq0 | hq0
                · obtain rfl : kd = 20 := by have := HKD.out; omega
                  clear hq0
                  go_wp2_with fail
                  go_meet
                  exact ⟨congrArg Value.bool (Bool.eq_iff_iff.2 (by simp [tabB, HBL.out])), rfl⟩
                · obtain rfl : kd = 21 := by have := HKD.out; omega
                  clear hq0
                  by_cases hy : (1 : Int) ≤ (K.length : Int)
                  · have HP0 : Hid ((1 : Int) ≤ (K.length : Int)) := hy
                    go_wp2_with fail
                    go_meet
                    exact ⟨congrArg Value.bool (Bool.eq_iff_iff.2 (by have := HP0.out; simp [tabB, HBL.out, HC.out] <;> omega)), rfl⟩
                  · have HP0 : Hid (¬ ((1 : Int) ≤ (K.length : Int))) := hy
                    go_wp2_with fail
                    go_meet
                    exact ⟨congrArg Value.bool (Bool.eq_iff_iff.2 (by have := HP0.out; simp [tabB, HBL.out, HC.out] <;> omega)), rfl⟩
                · obtain rfl : kd = 22 := by have := HKD.out; omega
                  clear hq0
                  by_cases hy : (K.length : Int) = 1
                  · have HP0 : Hid ((K.length : Int) = 1) := hy
                    have hz0 : ((K.length : Int) == 1) = true := by simpa using hy
                    clear hy
                    go_wp2_with fail
                    go_meet
                    exact ⟨congrArg Value.bool (Bool.eq_iff_iff.2 (by have := HP0.out; simp [tabB, HBL.out, HC.out] <;> omega)), rfl⟩
                  · have HP0 : Hid (¬ ((K.length : Int) = 1)) := hy
                    have hz0 : ((K.length : Int) == 1) = false := by simpa using hy
                    clear hy
                    go_wp2_with fail
                    go_meet
                    exact ⟨congrArg Value.bool (Bool.eq_iff_iff.2 (by have := HP0.out; simp [tabB, HBL.out, HC.out] <;> omega)), rfl⟩
                · obtain rfl : kd = 23 := by have := HKD.out; omega
                  clear hq0
                  by_cases hy : (2 : Int) ≤ (K.length : Int)
                  · have HP0 : Hid ((2 : Int) ≤ (K.length : Int)) := hy
                    go_wp2_with fail
                    go_meet
                    exact ⟨congrArg Value.bool (Bool.eq_iff_iff.2 (by have := HP0.out; simp [tabB, HBL.out, HC.out] <;> omega)), rfl⟩
                  · have HP0 : Hid (¬ ((2 : Int) ≤ (K.length : Int))) := hy
                    go_wp2_with fail
                    go_meet
                    exact ⟨congrArg Value.bool (Bool.eq_iff_iff.2 (by have := HP0.out; simp [tabB, HBL.out, HC.out] <;> omega)), rfl⟩
                · obtain rfl : kd = 24 := by have := HKD.out; omega
                  clear hq0
                  by_cases hy : (K.length : Int) = 3
                  · have HP0 : Hid ((K.length : Int) = 3) := hy
                    have hz0 : ((K.length : Int) == 3) = true := by simpa using hy
                    clear hy
                    go_wp2_with fail
                    go_meet
                    exact ⟨congrArg Value.bool (Bool.eq_iff_iff.2 (by have := HP0.out; simp [tabB, HBL.out, HC.out] <;> omega)), rfl⟩
                  · have HP0 : Hid (¬ ((K.length : Int) = 3)) := hy
                    have hz0 : ((K.length : Int) == 3) = false := by simpa using hy
                    clear hy
                    go_wp2_with fail
                    go_meet
                    exact ⟨congrArg Value.bool (Bool.eq_iff_iff.2 (by have := HP0.out; simp [tabB, HBL.out, HC.out] <;> omega)), rfl⟩
                · obtain rfl : kd = 25 := by have := HKD.out; omega
                  clear hq0
                  by_cases hy : (K.length : Int) = 2
                  · have HP0 : Hid ((K.length : Int) = 2) := hy
                    have hz0 : ((K.length : Int) == 2) = true := by simpa using hy
                    clear hy
                    go_wp2_with fail
                    go_meet
                    exact ⟨congrArg Value.bool (Bool.eq_iff_iff.2 (by have := HP0.out; simp [tabB, HBL.out, HC.out] <;> omega)), rfl⟩
                  · have HP0 : Hid (¬ ((K.length : Int) = 2)) := hy
                    have hz0 : ((K.length : Int) == 2) = false := by simpa using hy
                    clear hy
                    go_wp2_with fail
                    go_meet
                    exact ⟨congrArg Value.bool (Bool.eq_iff_iff.2 (by have := HP0.out; simp [tabB, HBL.out, HC.out] <;> omega)), rfl⟩
                · obtain rfl : kd = 26 := by have := HKD.out; omega
                  clear hq0
                  by_cases hy : (K.length : Int) = 2
                  · have HP0 : Hid ((K.length : Int) = 2) := hy
                    have hz0 : ((K.length : Int) == 2) = true := by simpa using hy
                    clear hy
                    go_wp2_with fail
                    go_meet
                    exact ⟨congrArg Value.bool (Bool.eq_iff_iff.2 (by have := HP0.out; simp [tabB, HBL.out, HC.out] <;> omega)), rfl⟩
                  · have HP0 : Hid (¬ ((K.length : Int) = 2)) := hy
                    have hz0 : ((K.length : Int) == 2) = false := by simpa using hy
                    clear hy
                    go_wp2_with fail
                    go_meet
                    exact ⟨congrArg Value.bool (Bool.eq_iff_iff.2 (by have := HP0.out; simp [tabB, HBL.out, HC.out] <;> omega)), rfl⟩
                · obtain rfl : kd = 27 := by have := HKD.out; omega
                  clear hq0
                  by_cases hy : (K.length : Int) = 1
                  · have HP0 : Hid ((K.length : Int) = 1) := hy
                    have hz0 : ((K.length : Int) == 1) = true := by simpa using hy
                    clear hy
                    go_wp2_with fail
                    go_meet
                    exact ⟨congrArg Value.bool (Bool.eq_iff_iff.2 (by have := HP0.out; simp [tabB, HBL.out, HC.out] <;> omega)), rfl⟩
                  · have HP0 : Hid (¬ ((K.length : Int) = 1)) := hy
                    have hz0 : ((K.length : Int) == 1) = false := by simpa using hy
                    clear hy
                    go_wp2_with fail
                    go_meet
                    exact ⟨congrArg Value.bool (Bool.eq_iff_iff.2 (by have := HP0.out; simp [tabB, HBL.out, HC.out] <;> omega)), rfl⟩
                · obtain rfl : kd = 28 := by have := HKD.out; omega
                  clear hq0
                  by_cases hy : (K.length : Int) = 2
                  · have HP0 : Hid ((K.length : Int) = 2) := hy
                    have hz0 : ((K.length : Int) == 2) = true := by simpa using hy
                    clear hy
                    go_wp2_with fail
                    go_meet
                    exact ⟨congrArg Value.bool (Bool.eq_iff_iff.2 (by have := HP0.out; simp [tabB, HBL.out, HC.out] <;> omega)), rfl⟩
                  · have HP0 : Hid (¬ ((K.length : Int) = 2)) := hy
                    have hz0 : ((K.length : Int) == 2) = false := by simpa using hy
                    clear hy
                    go_wp2_with fail
                    go_meet
                    exact ⟨congrArg Value.bool (Bool.eq_iff_iff.2 (by have := HP0.out; simp [tabB, HBL.out, HC.out] <;> omega)), rfl⟩
                · obtain rfl : kd = 29 := by have := HKD.out; omega
                  clear hq0
                  by_cases hy : (K.length : Int) = 2
                  · have HP0 : Hid ((K.length : Int) = 2) := hy
                    have hz0 : ((K.length : Int) == 2) = true := by simpa using hy
                    clear hy
                    by_cases hy : (c : Int) = 1
                    · have HP1 : Hid ((c : Int) = 1) := hy
                      have hz1 : ((c : Int) == 1) = true := by simpa using hy
                      clear hy
                      go_wp2_with fail
                      go_meet
                      exact ⟨congrArg Value.bool (Bool.eq_iff_iff.2 (by have := HP0.out; have := HP1.out; cases la <;> simp [tabB, HBL.out, HC.out, ← HLA.out] <;> omega)), rfl⟩
                    · have HP1 : Hid (¬ ((c : Int) = 1)) := hy
                      have hz1 : ((c : Int) == 1) = false := by simpa using hy
                      clear hy
                      go_wp2_with fail
                      go_meet
                      exact ⟨congrArg Value.bool (Bool.eq_iff_iff.2 (by have := HP0.out; have := HP1.out; cases la <;> simp [tabB, HBL.out, HC.out, ← HLA.out] <;> omega)), rfl⟩
                  · have HP0 : Hid (¬ ((K.length : Int) = 2)) := hy
                    have hz0 : ((K.length : Int) == 2) = false := by simpa using hy
                    clear hy
                    by_cases hy : (c : Int) = 1
                    · have HP1 : Hid ((c : Int) = 1) := hy
                      have hz1 : ((c : Int) == 1) = true := by simpa using hy
                      clear hy
                      go_wp2_with fail
                      go_meet
                      exact ⟨congrArg Value.bool (Bool.eq_iff_iff.2 (by have := HP0.out; have := HP1.out; cases la <;> simp [tabB, HBL.out, HC.out, ← HLA.out] <;> omega)), rfl⟩
                    · have HP1 : Hid (¬ ((c : Int) = 1)) := hy
                      have hz1 : ((c : Int) == 1) = false := by simpa using hy
                      clear hy
                      go_wp2_with fail
                      go_meet
                      exact ⟨congrArg Value.bool (Bool.eq_iff_iff.2 (by have := HP0.out; have := HP1.out; cases la <;> simp [tabB, HBL.out, HC.out, ← HLA.out] <;> omega)), rfl⟩
                · obtain rfl : kd = 30 := by have := HKD.out; omega
                  clear hq0
                  have HT : Hid (tabB 30 bs = (decide (K.length % 2 = 1) && caseB 0 bs)) := by unfold Hid; simp [tabB, HBL.out]
                  go_wp2_with fail
                  go_loopw [16, 18] (fun v16 v18 wx => ∃ (i : Nat) (cur : Bool), v18 = .int .i64 i ∧ i ≤ K.length ∧ v16 = .bool cur ∧ Hid ((cur && caseB i (bs.drop i)) = tabB 30 bs) ∧ wr = wx) (fun _ v18 _ => K.length - (intOf v18).toNat)
                  case atStart =>
                    refine ⟨0, decide (K.length % 2 = 1), rfl, by omega, ?_, ?_, rfl⟩
                    · exact congrArg Value.bool (Bool.eq_iff_iff.2 (by simp <;> omega))
                    · unfold Hid
                      rw [HT.out, List.drop_zero]
                  case round =>
                    obtain ⟨i, cur, rfl, hi, rfl, HCU, hwx⟩ := hrel
                    subst hwx
                    by_cases hil : i < K.length
                    · have hbi : bs.drop i = bitM mask i :: bs.drop (i + 1) := by
                        rw [List.drop_eq_getElem_cons (by rw [HBL.out]; exact hil)]
                        congr 1
                        simp [HBS.out, bitsM]
                      have HS : Hid (tabB 30 bs = (cur && ((bitM mask i == (decide (0 < i) && decide (i % 2 = 0))) && caseB (i + 1) (bs.drop (i + 1))))) := by
                        unfold Hid
                        rw [← HCU.out, hbi]
                        rfl
                      clear hbi
                      cases cur with
                      | false =>
                        go_wp2_with fail
                        exact ⟨⟨i + 1, false, by simp, by omega, rfl, by unfold Hid; rw [HS.out]; rfl, trivial⟩, by simp [intOf]; omega⟩
                      | true =>
                        by_cases h0 : (0 : Int) < (i : Int)
                        · go_wp2_with fail
                          refine ⟨⟨i + 1, bitM mask i == (decide (0 < i) && decide (i % 2 = 0)), by simp, by omega, ?_, by unfold Hid; rw [HS.out]; rfl, trivial⟩, by simp [intOf]; omega⟩
                          have e1 : ((i : Int) % 2 == 0) = (decide (0 < i) && decide (i % 2 = 0)) := Bool.eq_iff_iff.2 (by simp; omega)
                          rw [← e1]
                          rfl
                        · go_wp2_with fail
                          refine ⟨⟨i + 1, bitM mask i == (decide (0 < i) && decide (i % 2 = 0)), by simp, by omega, ?_, by unfold Hid; rw [HS.out]; rfl, trivial⟩, by simp [intOf]; omega⟩
                          have e1 : (decide (0 < i) && decide (i % 2 = 0)) = false := by simp; omega
                          rw [e1]
                          exact congrArg Value.bool (by show (!bitM mask i) = (bitM mask i == false); cases bitM mask i <;> rfl)
                    · have hiz : i = K.length := by omega
                      have HF : Hid (cur = tabB 30 bs) := by
                        unfold Hid
                        rw [← HCU.out, List.drop_of_length_le (by rw [HBL.out]; omega)]
                        cases cur <;> rfl
                      clear hiz
                      go_wp2_with fail
                      go_meet
                      exact ⟨by rw [HF.out], rfl⟩
                · obtain rfl : kd = 31 := by have := HKD.out; omega
                  clear hq0
                  by_cases hy : (K.length : Int) = 1
                  · have HP0 : Hid ((K.length : Int) = 1) := hy
                    have hz0 : ((K.length : Int) == 1) = true := by simpa using hy
                    clear hy
                    go_wp2_with fail
                    go_meet
                    exact ⟨congrArg Value.bool (Bool.eq_iff_iff.2 (by have := HP0.out; simp [tabB, HBL.out, HC.out] <;> omega)), rfl⟩
                  · have HP0 : Hid (¬ ((K.length : Int) = 1)) := hy
                    have hz0 : ((K.length : Int) == 1) = false := by simpa using hy
                    clear hy
                    go_wp2_with fail
                    go_meet
                    exact ⟨congrArg Value.bool (Bool.eq_iff_iff.2 (by have := HP0.out; simp [tabB, HBL.out, HC.out] <;> omega)), rfl⟩
                · obtain rfl : kd = 32 := by have := HKD.out; omega
                  clear hq0
                  by_cases hy : (2 : Int) ≤ (K.length : Int)
                  · have HP0 : Hid ((2 : Int) ≤ (K.length : Int)) := hy
                    go_wp2_with fail
                    go_meet
                    exact ⟨congrArg Value.bool (Bool.eq_iff_iff.2 (by have := HP0.out; simp [tabB, HBL.out, HC.out] <;> omega)), rfl⟩
                  · have HP0 : Hid (¬ ((2 : Int) ≤ (K.length : Int))) := hy
                    go_wp2_with fail
                    go_meet
                    exact ⟨congrArg Value.bool (Bool.eq_iff_iff.2 (by have := HP0.out; simp [tabB, HBL.out, HC.out] <;> omega)), rfl⟩
                · obtain rfl : kd = 33 := by have := HKD.out; omega
                  clear hq0
                  by_cases hy : (K.length : Int) = 2
                  · have HP0 : Hid ((K.length : Int) = 2) := hy
                    have hz0 : ((K.length : Int) == 2) = true := by simpa using hy
                    clear hy
                    by_cases hy : (c : Int) = 1
                    · have HP1 : Hid ((c : Int) = 1) := hy
                      have hz1 : ((c : Int) == 1) = true := by simpa using hy
                      clear hy
                      go_wp2_with fail
                      go_meet
                      exact ⟨congrArg Value.bool (Bool.eq_iff_iff.2 (by have := HP0.out; have := HP1.out; cases la <;> simp [tabB, HBL.out, HC.out, ← HLA.out] <;> omega)), rfl⟩
                    · have HP1 : Hid (¬ ((c : Int) = 1)) := hy
                      have hz1 : ((c : Int) == 1) = false := by simpa using hy
                      clear hy
                      go_wp2_with fail
                      go_meet
                      exact ⟨congrArg Value.bool (Bool.eq_iff_iff.2 (by have := HP0.out; have := HP1.out; cases la <;> simp [tabB, HBL.out, HC.out, ← HLA.out] <;> omega)), rfl⟩
                  · have HP0 : Hid (¬ ((K.length : Int) = 2)) := hy
                    have hz0 : ((K.length : Int) == 2) = false := by simpa using hy
                    clear hy
                    by_cases hy : (c : Int) = 1
                    · have HP1 : Hid ((c : Int) = 1) := hy
                      have hz1 : ((c : Int) == 1) = true := by simpa using hy
                      clear hy
                      go_wp2_with fail
                      go_meet
                      exact ⟨congrArg Value.bool (Bool.eq_iff_iff.2 (by have := HP0.out; have := HP1.out; cases la <;> simp [tabB, HBL.out, HC.out, ← HLA.out] <;> omega)), rfl⟩
                    · have HP1 : Hid (¬ ((c : Int) = 1)) := hy
                      have hz1 : ((c : Int) == 1) = false := by simpa using hy
                      clear hy
                      go_wp2_with fail
                      go_meet
                      exact ⟨congrArg Value.bool (Bool.eq_iff_iff.2 (by have := HP0.out; have := HP1.out; cases la <;> simp [tabB, HBL.out, HC.out, ← HLA.out] <;> omega)), rfl⟩
                · obtain rfl : kd = 34 := by have := HKD.out; omega
                  clear hq0
                  by_cases hy : (K.length : Int) = 2
                  · have HP0 : Hid ((K.length : Int) = 2) := hy
                    have hz0 : ((K.length : Int) == 2) = true := by simpa using hy
                    clear hy
                    by_cases hy : (c : Int) = 1
                    · have HP1 : Hid ((c : Int) = 1) := hy
                      have hz1 : ((c : Int) == 1) = true := by simpa using hy
                      clear hy
                      go_wp2_with fail
                      go_meet
                      exact ⟨congrArg Value.bool (Bool.eq_iff_iff.2 (by have := HP0.out; have := HP1.out; cases la <;> simp [tabB, HBL.out, HC.out, ← HLA.out] <;> omega)), rfl⟩
                    · have HP1 : Hid (¬ ((c : Int) = 1)) := hy
                      have hz1 : ((c : Int) == 1) = false := by simpa using hy
                      clear hy
                      go_wp2_with fail
                      go_meet
                      exact ⟨congrArg Value.bool (Bool.eq_iff_iff.2 (by have := HP0.out; have := HP1.out; cases la <;> simp [tabB, HBL.out, HC.out, ← HLA.out] <;> omega)), rfl⟩
                  · have HP0 : Hid (¬ ((K.length : Int) = 2)) := hy
                    have hz0 : ((K.length : Int) == 2) = false := by simpa using hy
                    clear hy
                    by_cases hy : (c : Int) = 1
                    · have HP1 : Hid ((c : Int) = 1) := hy
                      have hz1 : ((c : Int) == 1) = true := by simpa using hy
                      clear hy
                      go_wp2_with fail
                      go_meet
                      exact ⟨congrArg Value.bool (Bool.eq_iff_iff.2 (by have := HP0.out; have := HP1.out; cases la <;> simp [tabB, HBL.out, HC.out, ← HLA.out] <;> omega)), rfl⟩
                    · have HP1 : Hid (¬ ((c : Int) = 1)) := hy
                      have hz1 : ((c : Int) == 1) = false := by simpa using hy
                      clear hy
                      go_wp2_with fail
                      go_meet
                      exact ⟨congrArg Value.bool (Bool.eq_iff_iff.2 (by have := HP0.out; have := HP1.out; cases la <;> simp [tabB, HBL.out, HC.out, ← HLA.out] <;> omega)), rfl⟩
                · obtain rfl : kd = 35 := by have := HKD.out; omega
                  clear hq0
                  by_cases hy : (K.length : Int) = 2
                  · have HP0 : Hid ((K.length : Int) = 2) := hy
                    have hz0 : ((K.length : Int) == 2) = true := by simpa using hy
                    clear hy
                    by_cases hy : (c : Int) = 1
                    · have HP1 : Hid ((c : Int) = 1) := hy
                      have hz1 : ((c : Int) == 1) = true := by simpa using hy
                      clear hy
                      go_wp2_with fail
                      go_meet
                      exact ⟨congrArg Value.bool (Bool.eq_iff_iff.2 (by have := HP0.out; have := HP1.out; cases la <;> simp [tabB, HBL.out, HC.out, ← HLA.out] <;> omega)), rfl⟩
                    · have HP1 : Hid (¬ ((c : Int) = 1)) := hy
                      have hz1 : ((c : Int) == 1) = false := by simpa using hy
                      clear hy
                      go_wp2_with fail
                      go_meet
                      exact ⟨congrArg Value.bool (Bool.eq_iff_iff.2 (by have := HP0.out; have := HP1.out; cases la <;> simp [tabB, HBL.out, HC.out, ← HLA.out] <;> omega)), rfl⟩
                  · have HP0 : Hid (¬ ((K.length : Int) = 2)) := hy
                    have hz0 : ((K.length : Int) == 2) = false := by simpa using hy
                    clear hy
                    by_cases hy : (c : Int) = 1
                    · have HP1 : Hid ((c : Int) = 1) := hy
                      have hz1 : ((c : Int) == 1) = true := by simpa using hy
                      clear hy
                      go_wp2_with fail
                      go_meet
                      exact ⟨congrArg Value.bool (Bool.eq_iff_iff.2 (by have := HP0.out; have := HP1.out; cases la <;> simp [tabB, HBL.out, HC.out, ← HLA.out] <;> omega)), rfl⟩
                    · have HP1 : Hid (¬ ((c : Int) = 1)) := hy
                      have hz1 : ((c : Int) == 1) = false := by simpa using hy
                      clear hy
                      go_wp2_with fail
                      go_meet
                      exact ⟨congrArg Value.bool (Bool.eq_iff_iff.2 (by have := HP0.out; have := HP1.out; cases la <;> simp [tabB, HBL.out, HC.out, ← HLA.out] <;> omega)), rfl⟩
                · obtain rfl : kd = 36 := by have := HKD.out; omega
                  clear hq0
                  by_cases hy : (K.length : Int) = 1
                  · have HP0 : Hid ((K.length : Int) = 1) := hy
                    have hz0 : ((K.length : Int) == 1) = true := by simpa using hy
                    clear hy
                    go_wp2_with fail
                    go_meet
                    exact ⟨congrArg Value.bool (Bool.eq_iff_iff.2 (by have := HP0.out; simp [tabB, HBL.out, HC.out] <;> omega)), rfl⟩
                  · have HP0 : Hid (¬ ((K.length : Int) = 1)) := hy
                    have hz0 : ((K.length : Int) == 1) = false := by simpa using hy
                    clear hy
                    go_wp2_with fail
                    go_meet
                    exact ⟨congrArg Value.bool (Bool.eq_iff_iff.2 (by have := HP0.out; simp [tabB, HBL.out, HC.out] <;> omega)), rfl⟩
                · obtain rfl : kd = 37 := by have := HKD.out; omega
                  clear hq0
                  by_cases hy : (1 : Int) ≤ (K.length : Int)
                  · have HP0 : Hid ((1 : Int) ≤ (K.length : Int)) := hy
                    by_cases hy : (c : Int) = 1
                    · have HP1 : Hid ((c : Int) = 1) := hy
                      have hz1 : ((c : Int) == 1) = true := by simpa using hy
                      clear hy
                      go_wp2_with fail
                      go_meet
                      exact ⟨congrArg Value.bool (Bool.eq_iff_iff.2 (by have := HP0.out; have := HP1.out; cases la <;> simp [tabB, HBL.out, HC.out, ← HLA.out] <;> omega)), rfl⟩
                    · have HP1 : Hid (¬ ((c : Int) = 1)) := hy
                      have hz1 : ((c : Int) == 1) = false := by simpa using hy
                      clear hy
                      go_wp2_with fail
                      go_meet
                      exact ⟨congrArg Value.bool (Bool.eq_iff_iff.2 (by have := HP0.out; have := HP1.out; cases la <;> simp [tabB, HBL.out, HC.out, ← HLA.out] <;> omega)), rfl⟩
                  · have HP0 : Hid (¬ ((1 : Int) ≤ (K.length : Int))) := hy
                    by_cases hy : (c : Int) = 1
                    · have HP1 : Hid ((c : Int) = 1) := hy
                      have hz1 : ((c : Int) == 1) = true := by simpa using hy
                      clear hy
                      go_wp2_with fail
                      go_meet
                      exact ⟨congrArg Value.bool (Bool.eq_iff_iff.2 (by have := HP0.out; have := HP1.out; cases la <;> simp [tabB, HBL.out, HC.out, ← HLA.out] <;> omega)), rfl⟩
                    · have HP1 : Hid (¬ ((c : Int) = 1)) := hy
                      have hz1 : ((c : Int) == 1) = false := by simpa using hy
                      clear hy
                      go_wp2_with fail
                      go_meet
                      exact ⟨congrArg Value.bool (Bool.eq_iff_iff.2 (by have := HP0.out; have := HP1.out; cases la <;> simp [tabB, HBL.out, HC.out, ← HLA.out] <;> omega)), rfl⟩
              case rest =>
                obtain ⟨rfl, hwx⟩ := hcut
                subst hwx
                obtain ⟨tb, htb⟩ : ∃ tb, tb = tabB kd bs := ⟨_, rfl⟩
                rw [← htb]
                have hfl : ∀ l : List Bool, (l.map fun b => [kidN b]).flatten = l.map kidN := fun l => by
                  induction l with
                  | nil => rfl
                  | cons b l ih => rw [List.map_cons, List.flatten_cons, ih]; rfl
                have hkid : (kidL K).length = K.length := by
                  unfold kidL
                  rw [HKS.out, hfl, List.length_map, HBL.out]
                obtain ⟨X, hX⟩ : ∃ X, X = newN kd nn sn (K.map Prod.snd) := ⟨_, rfl⟩
                have hXe : X = headN kd bs name :: bs.map kidN := by
                  rw [hX, HKS.out]
                  unfold newN headN
                  rw [hfl, List.length_map, List.length_map, HSN.out, HNN.out, HKD.out]
                have hfk : checkL X = .fine ↔ (tb && (nk == name)) = true := by
                  rw [hXe, htb, HNK.out, HKD.out]
                  exact fine_kinds q hq2 bs (by rw [HBL.out]; omega) name
                have hXl : X.length < 4294967296 := by rw [hXe, List.length_cons, List.length_map, HBL.out]; omega
                have hXo : ∀ x ∈ X, NdOk x := by
                  intro x hx
                  rw [hXe] at hx
                  rcases List.mem_cons.1 hx with rfl | hx
                  · refine ok_small _ ?_ ?_
                    · show (if name then [120] else [] : Txt).length ≤ 300; cases name <;> decide
                    · show (bs.length : Int) ≤ _; rw [HBL.out]; omega
                  · obtain ⟨b, _, rfl⟩ := List.mem_map.1 hx
                    cases b <;> exact ok_small _ (by decide) (by decide)
                have HN : Hid (Calls Tryd.prog 11 #[.int .i64 kd, .int .i64 nn, str sn, .slice adk K.length capk] wr fun e w' => ∃ v', e = .returned v' ∧ NdOwn w' wr.heap.size v' X ∧ Below wr.heap.size wr w') := by
                  rw [hX]
                  exact new_own kd nn sn _ K wr HK.out.at (by omega) (by omega)
                have hbw := hb1.trans (hbr.mono hb1.size)
                clear hX hXe htb hkid hfl
                go_wp2_with fail
                refine Calls.mono HN.out ?_
                rintro e w2 ⟨v2, rfl, ho2, hb2⟩
                obtain ⟨ad2, cap2, hv2⟩ := owns_slice ho2
                subst hv2
                have hbw2 := hbw.trans (hb2.mono hbw.size)
                have HCK : Hid (Calls Tryd.prog 17 #[.slice ad2 X.length cap2] w2 fun e w' => ∃ u, e = .returned u ∧ ErrIs w' ea u (checkL X) ∧ Below w2.heap.size w2 w') := check_any _ X _ ea (HE.out _ hbw2) (NdOwn.at ho2) hXl hXo
                clear ho2 hXo
                go_wp2_with fail
                refine Calls.mono HCK.out ?_
                rintro e w3 ⟨u3, rfl, hu3, hb3⟩
                have hbw3 := hbw2.trans (hb3.mono hbw2.size)
                by_cases hf : checkL X = .fine
                · rw [hf] at hu3
                  obtain rfl := hu3
                  have hb := hfk.1 hf
                  obtain ⟨rfl, h2⟩ := (Bool.and_eq_true _ _).mp hb
                  obtain rfl : nk = name := by simpa using h2
                  clear hf hfk hb h2 HNK
                  cases nk
                  all_goals
                    go_wp2_with fail
                    go_ret
                    exact ⟨rfl, hbw3⟩
                · obtain ⟨ty, pv, rfl⟩ : ∃ ty pv, u3 = .iface ty pv := by
                    cases hr : checkL X with
                    | fine => exact absurd hr hf
                    | many => rw [hr] at hu3; exact ⟨_, _, hu3⟩
                    | node i => rw [hr] at hu3; obtain ⟨_, h, _⟩ := hu3; exact ⟨_, _, h⟩
                    | nest i => rw [hr] at hu3; obtain ⟨_, h, _⟩ := hu3; exact ⟨_, _, h⟩
                  have hb : ¬ (tb && (nk == name)) = true := fun h => hf (hfk.2 h)
                  clear hf hfk hu3
                  cases tb with
                  | false =>
                    go_wp2_with fail
                    go_ret
                    exact ⟨rfl, hbw3⟩
                  | true =>
                    have hx : (nk == name) = false := by simpa using hb
                    clear hb HNK
                    cases nk <;> cases name
                    all_goals first | (exfalso; revert hx; decide) | skip
                    all_goals
                      clear hx
                      go_wp2_with fail
                      go_ret
                      exact ⟨rfl, hbw3⟩
end Go.Proofs.YtgabodcbhjcmiaaDoor
