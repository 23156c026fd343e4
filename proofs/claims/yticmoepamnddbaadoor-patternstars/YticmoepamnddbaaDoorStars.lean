/- The statement on stars between patterns, walked. -/
import Derived.Test.YticmoepamnddbaaDoorEscapes
namespace Go.Proofs.YticmoepamnddbaaDoor
open Go.RowKit Go.Shelf

def partedB (A B : Nat → Bool) (i : Nat) : Bool := (List.range i).any fun j => A j && B j
def innerB (A B : Nat → Bool) (i k : Nat) : Bool := (List.range k).any fun j => decide (i ≤ j) && (A i && B j)
def starB (A B : Nat → Bool) (n i : Nat) : Bool := (List.range i).any fun j => innerB A B j (n + 1)
theorem partedB_succ (A B : Nat → Bool) (i : Nat) : partedB A B (i + 1) = (partedB A B i || (A i && B i)) := by simp [partedB, List.range_succ]
theorem starB_succ (A B : Nat → Bool) (n i : Nat) : starB A B n (i + 1) = (starB A B n i || innerB A B i (n + 1)) := by simp [starB, List.range_succ]
theorem innerB_succ (A B : Nat → Bool) (i k : Nat) (h : i ≤ k) : innerB A B i (k + 1) = (innerB A B i k || (A i && B k)) := by simp [innerB, List.range_succ, h]
theorem innerB_start (A B : Nat → Bool) (i : Nat) : innerB A B i i = false := by
  unfold innerB
  rw [List.any_eq_false]
  intro j hj
  have := List.mem_range.1 hj
  simp; omega
theorem parted_all (P Q S : List UInt8) (hc : cl P = true) (ho : 91 ∉ P) : matchL (P ++ Q) S = partedB (fun i => matchL P (S.take i)) (fun i => matchL Q (S.drop i)) (S.length + 1) := by
  unfold matchL partedB
  rw [letts_append P Q hc, pcs_append _ _ (no_open P ho), Bool.eq_iff_iff, mt_append, List.any_eq_true]
  constructor
  · rintro ⟨i, hi, h1, h2⟩; exact ⟨i, List.mem_range.2 (by omega), by simp [h1, h2]⟩
  · rintro ⟨i, hi, h⟩
    have := List.mem_range.1 hi
    simp at h
    exact ⟨i, by omega, h.1, h.2⟩
theorem star_all (P Q S : List UInt8) (hc : cl P = true) (ho : 91 ∉ P) : matchL (P ++ 42 :: Q) S = starB (fun i => matchL P (S.take i)) (fun i => matchL Q (S.drop i)) S.length (S.length + 1) := by
  have hl : letts (42 :: Q) = (42, true) :: letts Q := by rw [← chunks_snd, chunks_cons 42 Q (by decide), List.map_cons, chunks_snd]
  have hp : pcs ((42, true) :: letts Q) = (true, setNo) :: pcs (letts Q) := by rw [pcs]; simp [isL]
  unfold matchL starB innerB
  rw [letts_append P _ hc, hl, pcs_append _ _ (no_open P ho), hp, Bool.eq_iff_iff, mt_star_mid, List.any_eq_true]
  constructor
  · rintro ⟨i, k, hik, hk, h1, h2⟩
    refine ⟨i, List.mem_range.2 (by omega), List.any_eq_true.2 ⟨k, List.mem_range.2 (by omega), by simp [h1, h2, hik]⟩⟩
  · rintro ⟨i, hi, h⟩
    obtain ⟨k, hk, h⟩ := List.any_eq_true.1 h
    have := List.mem_range.1 hk
    simp at h
    exact ⟨i, k, h.1, by omega, h.2.1, h.2.2⟩

theorem ext_take (s : ByteArray) (i : Nat) : (s.extract 0 i).data.toList = s.data.toList.take i := by rw [Lib.extract_data]; simp
theorem ba_append (a b : ByteArray) : (a ++ b).data.toList = a.data.toList ++ b.data.toList := by simp

set_option maxRecDepth 100000 in
set_option maxHeartbeats 4000000 in
theorem stars_any (p q s : ByteArray) (w : World) :
    Calls Tryd.prog 5 #[.string p, .string q, .string s] w fun e w' => e = .returned (.bool true) ∧ Below w.heap.size w w' := by
  by_cases h1 : p.size > 12
  · go_enter Tryd.func5, Tryd.ntmps5
    go_wp2_with fail
    refine (first_any _).mono ?_
    rintro e w1 ⟨rfl, hb1⟩
    go_wp2_with fail
    go_ret
    exact ⟨rfl, hb1⟩
  by_cases h2 : q.size > 12
  · go_enter Tryd.func5, Tryd.ntmps5
    go_wp2_with fail
    refine (first_any _).mono ?_
    rintro e w1 ⟨rfl, hb1⟩
    go_wp2_with fail
    go_ret
    exact ⟨rfl, hb1⟩
  by_cases h3 : s.size > 12
  · go_enter Tryd.func5, Tryd.ntmps5
    go_wp2_with fail
    refine (first_any _).mono ?_
    rintro e w1 ⟨rfl, hb1⟩
    go_wp2_with fail
    go_ret
    exact ⟨rfl, hb1⟩
  cases hcl : closedL p.data.toList
  · go_enter Tryd.func5, Tryd.ntmps5
    go_wp2_with fail
    refine (first_any _).mono ?_
    rintro e w1 ⟨rfl, hb1⟩
    go_wp2_with fail
    refine (closed_any _ (by omega) _).mono ?_
    rintro e w2 ⟨rfl, hw2⟩
    obtain rfl := hw2.symm
    rw [hcl]
    go_wp2_with fail
    go_ret
    exact ⟨rfl, hb1⟩
  have HCL : Hid (cl p.data.toList = true) := by rw [← closed_cl]; exact hcl
  go_enter Tryd.func5, Tryd.ntmps5
  go_wp2_with fail
  refine (first_any _).mono ?_
  rintro e w1 ⟨rfl, hb1⟩
  go_wp2_with fail
  refine (closed_any _ (by omega) _).mono ?_
  rintro e w2 ⟨rfl, hw2⟩
  obtain rfl := hw2.symm
  rw [hcl]
  clear hcl
  go_wp2_with fail
  go_loopw [8] (fun v8 wr => ∃ k : Nat, v8 = .int .i64 k ∧ k ≤ p.size ∧ Hid (∀ j x, j < k → p.data.toList[j]? = some x → x ≠ 91) ∧ wr = w1) (fun v8 _ => p.size - (intOf v8).toNat)
  case atStart => exact ⟨0, rfl, by omega, fun j x hj => absurd hj (by omega), rfl⟩
  case round =>
    obtain ⟨k, rfl, hk, hh, rfl⟩ := hrel
    by_cases hlt : k < p.size
    · have hget := s_get p k hlt
      have HG : Hid _ := hget
      clear hget
      cases hq : (p[k] == 91)
      · have hq' : (((p[k]).toNat : Int) == 91) = false := by have := beq_u8 p[k] 91; rw [hq] at this; exact this
        go_wp2_with fail
        refine ⟨⟨k + 1, by simp, by omega, ?_, by first | rfl | trivial⟩, by simp [intOf]; omega⟩
        intro j x hj hx
        by_cases hjk : j < k
        · exact hh.out j x hjk hx
        · rw [show j = k by omega, HG.out] at hx
          cases hx
          simpa using hq
      · have hq' : (((p[k]).toNat : Int) == 91) = true := by have := beq_u8 p[k] 91; rw [hq] at this; exact this
        go_wp2_with fail
        go_ret
        exact ⟨rfl, hb1⟩
    · have hno : 91 ∉ p.data.toList := by
        intro hm
        obtain ⟨j, hj⟩ := List.getElem?_of_mem hm
        have hjl := (List.getElem?_eq_some_iff.1 hj).1
        exact hh.out j 91 (by simp at hjl; omega) hj rfl
      have HPA : Hid _ := parted_all p.data.toList q.data.toList s.data.toList HCL.out hno
      have HSA : Hid _ := star_all p.data.toList q.data.toList s.data.toList HCL.out hno
      have hsl : s.data.toList.length = s.size := by simp
      rw [hsl] at HPA HSA
      clear hsl hno hh HCL
      obtain ⟨A, hA⟩ : ∃ A : Nat → Bool, (fun i => matchL p.data.toList (s.data.toList.take i)) = A := ⟨_, rfl⟩
      obtain ⟨B, hB⟩ : ∃ B : Nat → Bool, (fun i => matchL q.data.toList (s.data.toList.drop i)) = B := ⟨_, rfl⟩
      rw [hA, hB] at HPA HSA
      have HA : Hid (∀ i, matchL p.data.toList (s.extract 0 i).data.toList = A i) := by intro i; rw [ext_take, ← hA]
      have HB : Hid (∀ i, matchL q.data.toList (s.extract i s.size).data.toList = B i) := by intro i; rw [extract_tail, ← hB]
      clear hA hB
      have hp32 : p.size < 4294967296 := by omega
      have hq32 : q.size < 4294967296 := by omega
      have HE0 : Hid (∀ i, (s.extract 0 i).size < 4294967296) := by intro i; rw [ByteArray.size_extract]; omega
      have HE1 : Hid (∀ i, (s.extract i s.size).size < 4294967296) := by intro i; rw [ByteArray.size_extract]; omega
      go_wp2_with fail
      go_loopw [9, 10, 11, 12] (fun v9 v10 v11 _ wr => ∃ i : Nat, v11 = .int .i64 i ∧ i ≤ s.size + 1 ∧ v9 = .bool (partedB A B i) ∧ v10 = .bool (starB A B s.size i) ∧ Below w.heap.size w wr) (fun _ _ v11 _ _ => s.size + 1 - (intOf v11).toNat)
      case atStart => exact ⟨0, rfl, by omega, rfl, rfl, hb1⟩
      case round =>
        obtain ⟨i, rfl, hi, rfl, rfl, hb⟩ := hrel
        by_cases hle : i ≤ s.size
        · have HPS := partedB_succ A B i
          have HSS := starB_succ A B s.size i
          obtain ⟨pa, hpa⟩ : ∃ pa, partedB A B i = pa := ⟨_, rfl⟩
          obtain ⟨sa, hsa⟩ : ∃ sa, starB A B s.size i = sa := ⟨_, rfl⟩
          rw [hpa] at HPS ⊢
          rw [hsa] at HSS ⊢
          have HPS1 : Hid _ := HPS
          have HSS1 : Hid _ := HSS
          clear HPS HSS hpa hsa
          have hex0 : (s.extract 0 i).size < 4294967296 := HE0.out i
          have HX0 : Hid _ := hex0
          clear hex0
          go_upto_region 14 with fail
          go_cut [9] from 53 to 67 (fun v wx => v = .bool (partedB A B (i + 1)) ∧ Below w.heap.size w wx)
          case first => as_aux_lemma =>
            cases pa
            · cases hA : A i
              · go_wp2_with fail
                refine (match_any p (s.extract 0 i) hp32 HX0.out _).mono ?_
                rintro e w4 ⟨rfl, hb4⟩
                rw [HA.out, hA]
                go_wp2_with fail
                go_meet
                case rel => exact ⟨by rw [HPS1.out, hA]; rfl, hb.trans (hb4.mono hb.size)⟩
              · go_wp2_with fail
                refine (match_any p (s.extract 0 i) hp32 HX0.out _).mono ?_
                rintro e w4 ⟨rfl, hb4⟩
                rw [HA.out, hA]
                go_wp2_with fail
                refine (match_any q (s.extract i s.size) hq32 (HE1.out i) _).mono ?_
                rintro e w5 ⟨rfl, hb5⟩
                rw [HB.out]
                go_wp2_with fail
                go_meet
                case rel => exact ⟨by rw [HPS1.out, hA]; simp, (hb.trans (hb4.mono hb.size)).trans (hb5.mono (Nat.le_trans hb.size hb4.size))⟩
            · go_wp2_with fail
              go_meet
              case rel => exact ⟨by rw [HPS1.out]; rfl, hb⟩
          case rest =>
            obtain ⟨rfl, hbc⟩ := hcut
            go_wp2_with fail
            go_loopw [10, 12] (fun v10 v12 wx => ∃ k : Nat, v12 = .int .i64 k ∧ i ≤ k ∧ k ≤ s.size + 1 ∧ v10 = .bool (sa || innerB A B i k) ∧ Below w.heap.size w wx) (fun _ v12 _ => s.size + 1 - (intOf v12).toNat)
            case atStart => exact ⟨i, rfl, Nat.le_refl _, hi, by rw [innerB_start]; simp, hbc⟩
            case round =>
              obtain ⟨k, rfl, hik, hk, rfl, hb2⟩ := hrel
              by_cases hkl : k ≤ s.size
              · have HIS := innerB_succ A B i k hik
                obtain ⟨ia, hia⟩ : ∃ ia, (sa || innerB A B i k) = ia := ⟨_, rfl⟩
                have HIS1 : Hid ((sa || innerB A B i (k + 1)) = (ia || (A i && B k))) := by unfold Hid; rw [HIS, ← Bool.or_assoc, hia]
                rw [hia]
                clear HIS hia
                cases ia
                · cases hA : A i
                  · go_wp2_with fail
                    refine (match_any p (s.extract 0 i) hp32 HX0.out _).mono ?_
                    rintro e w4 ⟨rfl, hb4⟩
                    rw [HA.out, hA]
                    go_wp2_with fail
                    refine ⟨⟨k + 1, by simp, by omega, by omega, by rw [HIS1.out, hA]; rfl, hb2.trans (hb4.mono hb2.size)⟩, by simp [intOf]; omega⟩
                  · go_wp2_with fail
                    refine (match_any p (s.extract 0 i) hp32 HX0.out _).mono ?_
                    rintro e w4 ⟨rfl, hb4⟩
                    rw [HA.out, hA]
                    go_wp2_with fail
                    refine (match_any q (s.extract k s.size) hq32 (HE1.out k) _).mono ?_
                    rintro e w5 ⟨rfl, hb5⟩
                    rw [HB.out]
                    go_wp2_with fail
                    refine ⟨⟨k + 1, by simp, by omega, by omega, by rw [HIS1.out, hA]; simp, (hb2.trans (hb4.mono hb2.size)).trans (hb5.mono (Nat.le_trans hb2.size hb4.size))⟩, by simp [intOf]; omega⟩
                · go_wp2_with fail
                  refine ⟨⟨k + 1, by simp, by omega, by omega, by rw [HIS1.out]; rfl, hb2⟩, by simp [intOf]; omega⟩
              · have hks : k = s.size + 1 := by omega
                have hend : (sa || innerB A B i k) = starB A B s.size (i + 1) := by rw [hks, HSS1.out]
                rw [hend]
                go_wp2_with fail
                refine ⟨⟨i + 1, by simp, by omega, rfl, rfl, hb2⟩, by simp [intOf]; omega⟩
        · have his : i = s.size + 1 := by omega
          have hpq : (p ++ q).size < 4294967296 := by rw [ByteArray.size_append]; omega
          have hpsq : (p ++ (⟨#[42]⟩ : ByteArray) ++ q).size < 4294967296 := by rw [ByteArray.size_append, ByteArray.size_append]; have : (⟨#[42]⟩ : ByteArray).size = 1 := rfl; omega
          have HPQ : Hid _ := hpq
          have HPSQ : Hid _ := hpsq
          have HD : Hid ((p ++ q).data.toList = p.data.toList ++ q.data.toList) := ba_append p q
          have HD2 : Hid ((p ++ (⟨#[42]⟩ : ByteArray) ++ q).data.toList = p.data.toList ++ 42 :: q.data.toList) := by
            unfold Hid
            rw [ba_append, ba_append, List.append_assoc]
            rfl
          clear hpq hpsq
          have hs32 : s.size < 4294967296 := by omega
          rw [his]
          go_wp2_with fail
          refine (match_any (p ++ q) s HPQ.out hs32 _).mono ?_
          rintro e w6 ⟨rfl, hb6⟩
          rw [HD.out, HPA.out]
          go_wp2_with fail
          refine (match_any (p ++ (⟨#[42]⟩ : ByteArray) ++ q) s HPSQ.out hs32 _).mono ?_
          rintro e w7 ⟨rfl, hb7⟩
          rw [HD2.out, HSA.out]
          go_wp2_with fail
          go_ret
          have b6 := hb.trans (hb6.mono hb.size)
          exact ⟨ret_bool (by simp), b6.trans (hb7.mono b6.size)⟩
end Go.Proofs.YticmoepamnddbaaDoor
