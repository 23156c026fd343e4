/- The law of the dollar brackets. -/
import Derived.Test.YtlbdecohmjpgaaaDoorQuotes
import Derived.Test.YtlbdecohmjpgaaaDoorPureS
import Derived.Laws.BitsLemmas
import Derived.Deep.Cut
import Derived.Deep.CutRange
import Derived.Deep.CutBlock
namespace Go.Proofs.YtlbdecohmjpgaaaDoor
open Go.RowKit
attribute [local go_sem] Oper.semAt_some

theorem i64_and7 (n : Int) : bits .and .i64 n 7 = n % 8 := by
  have h7 : (BitVec.ofInt 64 7).toNat = 2 ^ 3 - 1 := by decide
  have key : (BitVec.ofInt 64 n &&& BitVec.ofInt 64 7).toNat = (n % ((2 ^ 64 : Nat) : Int)).toNat % 2 ^ 3 := by
    rw [BitVec.toNat_and, BitVec.toNat_ofInt, h7, Nat.and_two_pow_sub_one_eq_mod]
  show IntKind.i64.wrap ((BitVec.ofInt 64 n &&& BitVec.ofInt 64 7).toNat : Nat) = n % 8
  rw [key, IntKind.wrap_i64]
  omega
theorem and7 (n : Int) : ∃ j : Nat, j ≤ 7 ∧ bits .and .i64 n 7 = (j : Int) := by
  refine ⟨(n % 8).toNat, by omega, ?_⟩
  rw [i64_and7]
  omega
theorem str_data (s : ByteArray) : str s.data.toList = .string s := by cases s; rfl
theorem ba_len (a : ByteArray) : a.data.toList.length = a.size := by rw [Array.length_toList]; rfl
theorem ext_list (z : ByteArray) (n : Nat) : (z.extract 0 n).data.toList = z.data.toList.take n := by
  rw [Lib.extract_eq]
  simp
abbrev subT0 (p : ByteArray) : ByteArray := ⟨#[36, 40]⟩ ++ p ++ ⟨#[41]⟩
abbrev subT1 (p : ByteArray) : ByteArray := ⟨#[34]⟩ ++ (⟨#[36, 40]⟩ ++ p ++ ⟨#[41]⟩) ++ ⟨#[34]⟩
theorem subT0_list (p : ByteArray) : (subT0 p).data.toList = 36 :: 40 :: (p.data.toList ++ [41]) := by simp [subT0]
theorem subT1_list (p : ByteArray) : (subT1 p).data.toList = 34 :: 36 :: 40 :: (p.data.toList ++ [41, 34]) := by simp [subT1]
theorem subT0_size (p : ByteArray) : (subT0 p).size = p.size + 2 + 1 := by
  have h := ba_len p
  rw [← ba_len, subT0_list, List.length_cons, List.length_cons, List.length_append, h]
  simp
theorem subT1_size (p : ByteArray) : (subT1 p).size = p.size + 3 + 2 := by
  have h := ba_len p
  rw [← ba_len, subT1_list, List.length_cons, List.length_cons, List.length_cons, List.length_append, h]
  simp
theorem sub_size {s p : ByteArray} {j : Nat} (hs : s.size ≤ 300) (hj : j ≤ 7) (h : p.data.toList = subN s.data.toList j) : p.size ≤ 1300 := by
  have h1 := subN_len s.data.toList j
  rw [← h, ba_len, ba_len] at h1
  omega
theorem sub1_size {s p : ByteArray} {k : Nat} (hs : s.size ≤ 300) (h : p.data.toList = 39 :: escS (s.data.toList.take k)) : p.size ≤ 1201 := by
  have h1 := escS_len (s.data.toList.take k)
  have h2 := congrArg List.length h
  rw [ba_len, List.length_cons] at h2
  have h3 : (s.data.toList.take k).length ≤ s.size := by rw [List.length_take, ba_len]; exact Nat.min_le_right _ _
  omega
theorem lexT0 {s p : ByteArray} {j : Nat} (h : p.data.toList = subN s.data.toList j) : lexL (subT0 p ++ ⟨#[32, 99]⟩).data.toList = .ok [⟨13, 0, [⟨4, 0, 0, false, p.data.toList⟩]⟩, ⟨13, p.size + 4, [⟨1, p.size + 4, 0, false, [99]⟩]⟩, ⟨0, p.size + 5, []⟩] := by
  have e : (subT0 p ++ ⟨#[32, 99]⟩).data.toList = 36 :: 40 :: (p.data.toList ++ 41 :: subR) := by simp [subR, subT0]
  rw [e, ← ba_len p, h]
  exact sub_bare _ (balN _ _)
theorem lexT1 {s p : ByteArray} {j : Nat} (h : p.data.toList = subN s.data.toList j) : lexL (subT1 p ++ ⟨#[32, 99]⟩).data.toList = .ok [⟨13, 0, [⟨2, 0, 0, false, []⟩, ⟨4, 1, 0, true, p.data.toList⟩]⟩, ⟨13, p.size + 6, [⟨1, p.size + 6, 0, false, [99]⟩]⟩, ⟨0, p.size + 7, []⟩] := by
  have e : (subT1 p ++ ⟨#[32, 99]⟩).data.toList = 34 :: 36 :: 40 :: (p.data.toList ++ 41 :: 34 :: subR) := by simp [subR, subT1]
  rw [e, ← ba_len p, h]
  exact sub_quot _ (balN _ _)
theorem lexE0 {s p : ByteArray} {j : Nat} (h : p.data.toList = subN s.data.toList j) : lexL ((subT0 p).extract 0 (p.size + 2)).data.toList = .error ⟨1, 0⟩ := by
  have e : ((subT0 p).extract 0 (p.size + 2)).data.toList = 36 :: 40 :: p.data.toList := by
    rw [ext_list, subT0_list, ← ba_len p]
    simp
  rw [e, h]
  exact sub_bare_no _ (balN _ _)
theorem lexE1 {s p : ByteArray} {j : Nat} (h : p.data.toList = subN s.data.toList j) : lexL ((subT1 p).extract 0 (p.size + 3)).data.toList = .error ⟨1, 1⟩ := by
  have e : ((subT1 p).extract 0 (p.size + 3)).data.toList = 34 :: 36 :: 40 :: p.data.toList := by
    rw [ext_list, subT1_list, ← ba_len p]
    simp
  rw [e, h]
  exact sub_quot_no _ (balN _ _)
theorem wrap_even {p : ByteArray} {T : List UInt8} {i : Nat} (h : p.data.toList = T) (hi : i % 2 = 0) : (⟨#[98, 32, 36, 40]⟩ ++ p ++ ⟨#[41]⟩ : ByteArray).data.toList = wrapS i T := by
  rw [wrapS, if_pos hi, ← h]
  simp
theorem wrap_odd {p : ByteArray} {T : List UInt8} {i : Nat} (h : p.data.toList = T) (hi : ¬ i % 2 = 0) : (⟨#[98, 32, 34, 36, 40]⟩ ++ p ++ ⟨#[41, 34]⟩ : ByteArray).data.toList = wrapS i T := by
  rw [wrapS, if_neg hi, ← h]
  simp
theorem tmod_nat (i : Nat) : ((i : Int).tmod 2) = ((i % 2 : Nat) : Int) := (Int.ofNat_tmod i 2).symm
set_option maxRecDepth 100000 in
set_option maxHeartbeats 4000000 in
theorem subs_over (s : ByteArray) (n : Int) (q : Bool) (W : World) (ea : Nat → Addr) (hE : Env W ea) (hW : (ea 64).block ≤ W.heap.size) (hs : 300 < s.size) :
    Calls Tryd.prog 6 #[.string s, .int .i64 n, .bool q] W fun e w' => e = .returned (.bool true) ∧ Below W.heap.size W w' := by
  have HF : Hid _ := first_any W ea hE hW
  have hs' : (300 : Int) < (s.size : Int) := by omega
  clear hE
  go_enter Tryd.func6, Tryd.ntmps6
  go_wp2_with fail
  refine Calls.mono HF.out ?_
  rintro e w1 ⟨rfl, hb1⟩
  have HB1 : Hid (Below W.heap.size W w1) := hb1
  clear hb1 HF
  go_wp2_with fail
  go_ret
  exact ⟨rfl, HB1.out⟩
set_option maxRecDepth 100000 in
set_option maxHeartbeats 8000000 in
theorem subs_false (s : ByteArray) (n : Int) (W : World) (ea : Nat → Addr) (hE : Env W ea) (hW : (ea 64).block ≤ W.heap.size) (hs : s.size ≤ 300) :
    Calls Tryd.prog 6 #[.string s, .int .i64 n, .bool false] W fun e w' => e = .returned (.bool true) ∧ Below W.heap.size W w' := by
  have HF : Hid _ := first_any W ea hE hW
  have hd1 : decide ((300 : Int) < (s.size : Int)) = false := by simp; omega
  have HE : Hid (∀ w, Below W.heap.size W w → Env w ea) := fun w hb => hE.below hb
  obtain ⟨j, hj, hbj⟩ := and7 n
  have HL1 : Hid (∀ p : ByteArray, p.data.toList = subN s.data.toList j → ∀ w, Below W.heap.size W w → Calls Tryd.prog 9 #[.string (subT0 p ++ ⟨#[32, 99]⟩)] w fun e w' => ∃ v ev, e = .returned (.tuple #[v, ev]) ∧ LexV w ea (.ok [⟨13, 0, [⟨4, 0, 0, false, p.data.toList⟩]⟩, ⟨13, p.size + 4, [⟨1, p.size + 4, 0, false, [99]⟩]⟩, ⟨0, p.size + 5, []⟩]) v ev w' ∧ Below w.heap.size w w') := fun p hp w hb => by
    have := lex_any (subT0 p ++ ⟨#[32, 99]⟩) w ea (hE.below hb) (Nat.le_trans hW hb.size) (by
      have h1 := sub_size hs hj hp
      have h2 := subT0_size p
      rw [ByteArray.size_append, h2]
      have h3 : (⟨#[32, 99]⟩ : ByteArray).size = 2 := rfl
      omega)
    rwa [lexT0 hp] at this
  have HL2 : Hid (∀ p : ByteArray, p.data.toList = subN s.data.toList j → ∀ w, Below W.heap.size W w → Calls Tryd.prog 9 #[.string ((subT0 p).extract 0 (p.size + 2))] w fun e w' => ∃ v ev, e = .returned (.tuple #[v, ev]) ∧ LexV w ea (.error ⟨1, 0⟩) v ev w' ∧ Below w.heap.size w w') := fun p hp w hb => by
    have := lex_any ((subT0 p).extract 0 (p.size + 2)) w ea (hE.below hb) (Nat.le_trans hW hb.size) (by
      have h1 := sub_size hs hj hp
      have h2 := subT0_size p
      rw [ByteArray.size_extract, h2]
      omega)
    rwa [lexE0 hp] at this
  have HSZ : Hid (∀ p : ByteArray, p.data.toList = subN s.data.toList j → p.size ≤ 1300) := fun p hp => sub_size hs hj hp
  clear hE
  go_enter Tryd.func6, Tryd.ntmps6
  go_wp2_with fail
  refine Calls.mono HF.out ?_
  rintro e w1 ⟨rfl, hb1⟩
  have HB1 : Hid (Below W.heap.size W w1) := hb1
  clear hb1 HF
  go_wp2_with fail
  go_loop [8, 9] (fun v8 v9 => ∃ (k : Nat) (p : ByteArray), v8 = .string p ∧ v9 = .int .i64 k ∧ k ≤ s.size ∧ Hid (p.data.toList = 39 :: escS (s.data.toList.take k))) (fun _ v9 => s.size - (intOf v9).toNat)
  case atStart => exact ⟨0, ⟨#[39]⟩, rfl, rfl, Nat.zero_le _, rfl⟩
  case round =>
    obtain ⟨k, p, rfl, rfl, hk, HP⟩ := hrel
    have hpz := sub1_size hs HP.out
    by_cases hlt : k < s.size
    · by_cases hc : s[k] = 39
      · have hc' : (((s[k]).toNat : Int) == 39) = true := by rw [hc]; rfl
        have HN : Hid ((p ++ ⟨#[39, 92, 39, 39]⟩).data.toList = 39 :: escS (s.data.toList.take (k + 1))) := by
          unfold Hid
          rw [take_one s k hlt, escS_app, hc]
          simp [HP.out, escS]
        clear HP hc
        go_wp2_with fail
        exact ⟨⟨k + 1, _, rfl, by simp, by omega, HN.out⟩, by simp [intOf]; omega⟩
      · have hc' : (((s[k]).toNat : Int) == 39) = false := byte_ne s[k] 39 hc
        have HN : Hid ((p ++ s.extract k (k + 1)).data.toList = 39 :: escS (s.data.toList.take (k + 1))) := by
          unfold Hid
          rw [take_one s k hlt, escS_app, one_eq s k hlt]
          simp [HP.out, escS, hc]
        clear HP hc
        go_wp2_with fail
        exact ⟨⟨k + 1, _, rfl, by simp, by omega, HN.out⟩, by simp [intOf]; omega⟩
    · have hlt' : ¬ (k : Int) < (s.size : Int) := by omega
      have HS0 : Hid ((⟨#[97, 32]⟩ ++ p ++ ⟨#[39]⟩ : ByteArray).data.toList = subN s.data.toList 0) := by
        have h := HP.out
        rw [List.take_of_length_le (by rw [ba_len]; omega)] at h
        unfold Hid
        simp [h, subN, sub0]
      clear HP hlt
      go_wp2_with fail
      go_loop [8, 10] (fun v8 v10 => ∃ (i : Nat) (p : ByteArray), v8 = .string p ∧ v10 = .int .i64 i ∧ i ≤ j ∧ Hid (p.data.toList = subN s.data.toList i)) (fun _ v10 => j - (intOf v10).toNat)
      case atStart => exact ⟨0, _, rfl, rfl, Nat.zero_le _, HS0.out⟩
      case round =>
        obtain ⟨i, p, rfl, rfl, hi, HP⟩ := hrel
        have hpz := sub_size hs (Nat.le_trans hi hj) HP.out
        by_cases hlt : i < j
        · have hlt1 : (i : Int) < (j : Int) := by omega
          have ht := tmod_nat i
          by_cases hm : i % 2 = 0
          · rw [hm] at ht
            have HN : Hid _ := wrap_even HP.out hm
            clear HP hm
            go_wp2_with fail
            exact ⟨⟨i + 1, _, rfl, by simp, by omega, HN.out⟩, by simp [intOf]; omega⟩
          · rw [show i % 2 = 1 by omega] at ht
            have HN : Hid _ := wrap_odd HP.out hm
            clear HP hm
            go_wp2_with fail
            exact ⟨⟨i + 1, _, rfl, by simp, by omega, HN.out⟩, by simp [intOf]; omega⟩
        · have hlt1 : ¬ (i : Int) < (j : Int) := by omega
          obtain rfl : i = j := by omega
          clear hlt HS0
          have H1 : Hid _ := HL1.out p HP.out
          have H2 : Hid _ := HL2.out p HP.out
          have hps := HSZ.out p HP.out
          have HZ : Hid _ := subT0_size p
          clear HL1 HL2 HSZ HP
          go_wp2_with fail
          refine Calls.mono (H1.out _ HB1.out) ?_
          rintro e w2 ⟨v2, ev2, rfl, ⟨rfl, K, hK, hO⟩, hb2⟩
          obtain ⟨va, vb, vc, rfl⟩ := map_three hK
          obtain ⟨g2, c2, rfl, hg2⟩ := hO.get (by simp)
          obtain ⟨pa, ca, rfl, hga⟩ := (show PtOwn w2 _ va [⟨4, 0, 0, false, p.data.toList⟩] from hO.parts (va, ⟨13, 0, [⟨4, 0, 0, false, p.data.toList⟩]⟩) (by simp)).get (by simp)
          have HB2 : Hid (Below W.heap.size W w2) := HB1.out.trans (Below.mono hb2 HB1.out.size)
          have t2 : w2.cell? ⟨g2, 2, none⟩ = some (.slice (some ⟨pa, 0, none⟩) 1 ca) := hg2 0 _ rfl 2 _ rfl
          have d0 : w2.cell? ⟨pa, 0, none⟩ = some (.int .i64 4) := hga 0 _ rfl 0 _ rfl
          have d1 : w2.cell? ⟨pa, 1, none⟩ = some (.int .i64 0) := hga 0 _ rfl 1 _ rfl
          have d2 : w2.cell? ⟨pa, 2, none⟩ = some (.int .i64 0) := hga 0 _ rfl 2 _ rfl
          have d3 : w2.cell? ⟨pa, 3, none⟩ = some (.bool false) := hga 0 _ rfl 3 _ rfl
          have d4 : w2.cell? ⟨pa, 4, none⟩ = some (.string p) := (hga 0 _ rfl 4 _ rfl).trans (congrArg some (str_data p))
          clear hK hO hg2 hga hb2 H1 HB1
          obtain ⟨z, hz⟩ : ∃ z : ByteArray, z = ⟨#[36, 40]⟩ ++ p ++ ⟨#[41]⟩ := ⟨_, rfl⟩
          have hzs : z.size = p.size + 2 + (0 + 1) := by rw [hz]; exact HZ.out
          have H2' : Hid (∀ w, Below W.heap.size W w → Calls Tryd.prog 9 #[.string (z.extract 0 (p.size + 2))] w fun e w' => ∃ v ev, e = .returned (.tuple #[v, ev]) ∧ LexV w ea (.error ⟨1, 0⟩) v ev w' ∧ Below w.heap.size w w') := by rw [hz]; exact H2.out
          rw [← hz]
          clear hz H2 HZ
          simp only [List.length_cons, List.length_nil, Nat.zero_add, Nat.reduceAdd]
          go_upto_region 28 with fail
          obtain ⟨W3, hW3⟩ : ∃ W3, W3 = w2.alloc (.cells #[.int .i64 4, .int .i64 0, .int .i64 0, .bool false, .string p] 49) := ⟨_, rfl⟩
          rw [← hW3]
          obtain ⟨gp, hgp⟩ : ∃ gp, gp = w2.heap.size := ⟨_, rfl⟩
          rw [← hgp]
          have HB3 : Hid (Below W.heap.size W W3) := by rw [hW3]; exact HB2.out.alloc HB2.out.size _
          have HC3 : Hid (Cel W3 gp 49 #[.int .i64 4, .int .i64 0, .int .i64 0, .bool false, .string p]) := by rw [hW3, hgp]; exact Cel.new w2 _ _
          clear hW3 hgp t2 d0 d1 d2 d3 d4 HB2
          have hz1 : (z.size : Int) - 1 = ((p.size + 2 : Nat) : Int) := by omega
          go_wp2_with fail
          refine Calls.mono (H2'.out _ HB3.out) ?_
          rintro e w4 ⟨v4, ev4, rfl, ⟨rfl, q4, rfl, hx4⟩, hb4⟩
          have HB4 : Hid (Below W.heap.size W w4) := HB3.out.trans (Below.mono hb4 HB3.out.size)
          have HC4 : Hid (Cel w4 gp 49 #[.int .i64 4, .int .i64 0, .int .i64 0, .bool false, .string p]) := HC3.out.below hb4 HC3.out.lt
          have HFA : Hid _ := Fault_at w4 ea (HE.out _ HB4.out) 3 (by omega) (ea (gOf 1)) rfl q4 0 hx4
          clear hx4 hb4 H2' HB3 HC3
          go_wp2_with fail
          refine Calls.mono HFA.out ?_
          rintro e w5 ⟨fb, rfl, hfb, hfb2, hb5⟩
          have HB5 : Hid (Below W.heap.size W w5) := HB4.out.trans (Below.mono hb5 HB4.out.size)
          have hc5 := HC4.out.below hb5 HC4.out.lt
          have e0 : w5.cell? ⟨gp, 0, none⟩ = some (.int .i64 4) := hc5.cell 0
          have e1 : w5.cell? ⟨gp, 1, none⟩ = some (.int .i64 0) := hc5.cell 1
          have e3 : w5.cell? ⟨gp, 3, none⟩ = some (.bool false) := hc5.cell 3
          have e4 : w5.cell? ⟨gp, 4, none⟩ = some (.string p) := hc5.cell 4
          have f0 : w5.cell? ⟨fb, 0, none⟩ = some (.int .i64 0) := hfb.cell 0
          have hl1 : gp < w5.heap.size := hc5.lt
          have hl2 : fb < w5.heap.size := hfb.lt
          clear hfb hfb2 hb5 HFA HB4 HC4 hc5
          go_wp2_with fail
          go_ret
          exact ⟨rfl, HB5.out.alloc HB5.out.size _⟩
set_option maxRecDepth 100000 in
set_option maxHeartbeats 8000000 in
theorem subs_true (s : ByteArray) (n : Int) (W : World) (ea : Nat → Addr) (hE : Env W ea) (hW : (ea 64).block ≤ W.heap.size) (hs : s.size ≤ 300) :
    Calls Tryd.prog 6 #[.string s, .int .i64 n, .bool true] W fun e w' => e = .returned (.bool true) ∧ Below W.heap.size W w' := by
  have HF : Hid _ := first_any W ea hE hW
  have hd1 : decide ((300 : Int) < (s.size : Int)) = false := by simp; omega
  have HE : Hid (∀ w, Below W.heap.size W w → Env w ea) := fun w hb => hE.below hb
  obtain ⟨j, hj, hbj⟩ := and7 n
  have HL1 : Hid (∀ p : ByteArray, p.data.toList = subN s.data.toList j → ∀ w, Below W.heap.size W w → Calls Tryd.prog 9 #[.string (subT1 p ++ ⟨#[32, 99]⟩)] w fun e w' => ∃ v ev, e = .returned (.tuple #[v, ev]) ∧ LexV w ea (.ok [⟨13, 0, [⟨2, 0, 0, false, []⟩, ⟨4, 1, 0, true, p.data.toList⟩]⟩, ⟨13, p.size + 6, [⟨1, p.size + 6, 0, false, [99]⟩]⟩, ⟨0, p.size + 7, []⟩]) v ev w' ∧ Below w.heap.size w w') := fun p hp w hb => by
    have := lex_any (subT1 p ++ ⟨#[32, 99]⟩) w ea (hE.below hb) (Nat.le_trans hW hb.size) (by
      have h1 := sub_size hs hj hp
      have h2 := subT1_size p
      rw [ByteArray.size_append, h2]
      have h3 : (⟨#[32, 99]⟩ : ByteArray).size = 2 := rfl
      omega)
    rwa [lexT1 hp] at this
  have HL2 : Hid (∀ p : ByteArray, p.data.toList = subN s.data.toList j → ∀ w, Below W.heap.size W w → Calls Tryd.prog 9 #[.string ((subT1 p).extract 0 (p.size + 3))] w fun e w' => ∃ v ev, e = .returned (.tuple #[v, ev]) ∧ LexV w ea (.error ⟨1, 1⟩) v ev w' ∧ Below w.heap.size w w') := fun p hp w hb => by
    have := lex_any ((subT1 p).extract 0 (p.size + 3)) w ea (hE.below hb) (Nat.le_trans hW hb.size) (by
      have h1 := sub_size hs hj hp
      have h2 := subT1_size p
      rw [ByteArray.size_extract, h2]
      omega)
    rwa [lexE1 hp] at this
  have HSZ : Hid (∀ p : ByteArray, p.data.toList = subN s.data.toList j → p.size ≤ 1300) := fun p hp => sub_size hs hj hp
  clear hE
  go_enter Tryd.func6, Tryd.ntmps6
  go_wp2_with fail
  refine Calls.mono HF.out ?_
  rintro e w1 ⟨rfl, hb1⟩
  have HB1 : Hid (Below W.heap.size W w1) := hb1
  clear hb1 HF
  go_wp2_with fail
  go_loop [8, 9] (fun v8 v9 => ∃ (k : Nat) (p : ByteArray), v8 = .string p ∧ v9 = .int .i64 k ∧ k ≤ s.size ∧ Hid (p.data.toList = 39 :: escS (s.data.toList.take k))) (fun _ v9 => s.size - (intOf v9).toNat)
  case atStart => exact ⟨0, ⟨#[39]⟩, rfl, rfl, Nat.zero_le _, rfl⟩
  case round =>
    obtain ⟨k, p, rfl, rfl, hk, HP⟩ := hrel
    have hpz := sub1_size hs HP.out
    by_cases hlt : k < s.size
    · by_cases hc : s[k] = 39
      · have hc' : (((s[k]).toNat : Int) == 39) = true := by rw [hc]; rfl
        have HN : Hid ((p ++ ⟨#[39, 92, 39, 39]⟩).data.toList = 39 :: escS (s.data.toList.take (k + 1))) := by
          unfold Hid
          rw [take_one s k hlt, escS_app, hc]
          simp [HP.out, escS]
        clear HP hc
        go_wp2_with fail
        exact ⟨⟨k + 1, _, rfl, by simp, by omega, HN.out⟩, by simp [intOf]; omega⟩
      · have hc' : (((s[k]).toNat : Int) == 39) = false := byte_ne s[k] 39 hc
        have HN : Hid ((p ++ s.extract k (k + 1)).data.toList = 39 :: escS (s.data.toList.take (k + 1))) := by
          unfold Hid
          rw [take_one s k hlt, escS_app, one_eq s k hlt]
          simp [HP.out, escS, hc]
        clear HP hc
        go_wp2_with fail
        exact ⟨⟨k + 1, _, rfl, by simp, by omega, HN.out⟩, by simp [intOf]; omega⟩
    · have hlt' : ¬ (k : Int) < (s.size : Int) := by omega
      have HS0 : Hid ((⟨#[97, 32]⟩ ++ p ++ ⟨#[39]⟩ : ByteArray).data.toList = subN s.data.toList 0) := by
        have h := HP.out
        rw [List.take_of_length_le (by rw [ba_len]; omega)] at h
        unfold Hid
        simp [h, subN, sub0]
      clear HP hlt
      go_wp2_with fail
      go_loop [8, 10] (fun v8 v10 => ∃ (i : Nat) (p : ByteArray), v8 = .string p ∧ v10 = .int .i64 i ∧ i ≤ j ∧ Hid (p.data.toList = subN s.data.toList i)) (fun _ v10 => j - (intOf v10).toNat)
      case atStart => exact ⟨0, _, rfl, rfl, Nat.zero_le _, HS0.out⟩
      case round =>
        obtain ⟨i, p, rfl, rfl, hi, HP⟩ := hrel
        have hpz := sub_size hs (Nat.le_trans hi hj) HP.out
        by_cases hlt : i < j
        · have hlt1 : (i : Int) < (j : Int) := by omega
          have ht := tmod_nat i
          by_cases hm : i % 2 = 0
          · rw [hm] at ht
            have HN : Hid _ := wrap_even HP.out hm
            clear HP hm
            go_wp2_with fail
            exact ⟨⟨i + 1, _, rfl, by simp, by omega, HN.out⟩, by simp [intOf]; omega⟩
          · rw [show i % 2 = 1 by omega] at ht
            have HN : Hid _ := wrap_odd HP.out hm
            clear HP hm
            go_wp2_with fail
            exact ⟨⟨i + 1, _, rfl, by simp, by omega, HN.out⟩, by simp [intOf]; omega⟩
        · have hlt1 : ¬ (i : Int) < (j : Int) := by omega
          obtain rfl : i = j := by omega
          clear hlt HS0
          have H1 : Hid _ := HL1.out p HP.out
          have H2 : Hid _ := HL2.out p HP.out
          have hps := HSZ.out p HP.out
          have HZ : Hid _ := subT1_size p
          clear HL1 HL2 HSZ HP
          go_wp2_with fail
          refine Calls.mono (H1.out _ HB1.out) ?_
          rintro e w2 ⟨v2, ev2, rfl, ⟨rfl, K, hK, hO⟩, hb2⟩
          obtain ⟨va, vb, vc, rfl⟩ := map_three hK
          obtain ⟨g2, c2, rfl, hg2⟩ := hO.get (by simp)
          obtain ⟨pa, ca, rfl, hga⟩ := (show PtOwn w2 _ va [⟨2, 0, 0, false, []⟩, ⟨4, 1, 0, true, p.data.toList⟩] from hO.parts (va, ⟨13, 0, [⟨2, 0, 0, false, []⟩, ⟨4, 1, 0, true, p.data.toList⟩]⟩) (by simp)).get (by simp)
          have HB2 : Hid (Below W.heap.size W w2) := HB1.out.trans (Below.mono hb2 HB1.out.size)
          have t2 : w2.cell? ⟨g2, 2, none⟩ = some (.slice (some ⟨pa, 0, none⟩) 2 ca) := hg2 0 _ rfl 2 _ rfl
          have d0 : w2.cell? ⟨pa, 5, none⟩ = some (.int .i64 4) := hga 1 _ rfl 0 _ rfl
          have d1 : w2.cell? ⟨pa, 6, none⟩ = some (.int .i64 1) := hga 1 _ rfl 1 _ rfl
          have d2 : w2.cell? ⟨pa, 7, none⟩ = some (.int .i64 0) := hga 1 _ rfl 2 _ rfl
          have d3 : w2.cell? ⟨pa, 8, none⟩ = some (.bool true) := hga 1 _ rfl 3 _ rfl
          have d4 : w2.cell? ⟨pa, 9, none⟩ = some (.string p) := (hga 1 _ rfl 4 _ rfl).trans (congrArg some (str_data p))
          clear hK hO hg2 hga hb2 H1 HB1
          obtain ⟨z, hz⟩ : ∃ z : ByteArray, z = ⟨#[34]⟩ ++ (⟨#[36, 40]⟩ ++ p ++ ⟨#[41]⟩) ++ ⟨#[34]⟩ := ⟨_, rfl⟩
          have hzs : z.size = p.size + 3 + (1 + 1) := by rw [hz]; exact HZ.out
          have H2' : Hid (∀ w, Below W.heap.size W w → Calls Tryd.prog 9 #[.string (z.extract 0 (p.size + 3))] w fun e w' => ∃ v ev, e = .returned (.tuple #[v, ev]) ∧ LexV w ea (.error ⟨1, 1⟩) v ev w' ∧ Below w.heap.size w w') := by rw [hz]; exact H2.out
          rw [← hz]
          clear hz H2 HZ
          simp only [List.length_cons, List.length_nil, Nat.zero_add, Nat.reduceAdd]
          go_upto_region 28 with fail
          obtain ⟨W3, hW3⟩ : ∃ W3, W3 = w2.alloc (.cells #[.int .i64 4, .int .i64 1, .int .i64 0, .bool true, .string p] 49) := ⟨_, rfl⟩
          rw [← hW3]
          obtain ⟨gp, hgp⟩ : ∃ gp, gp = w2.heap.size := ⟨_, rfl⟩
          rw [← hgp]
          have HB3 : Hid (Below W.heap.size W W3) := by rw [hW3]; exact HB2.out.alloc HB2.out.size _
          have HC3 : Hid (Cel W3 gp 49 #[.int .i64 4, .int .i64 1, .int .i64 0, .bool true, .string p]) := by rw [hW3, hgp]; exact Cel.new w2 _ _
          clear hW3 hgp t2 d0 d1 d2 d3 d4 HB2
          have hz1 : (z.size : Int) - 1 - 1 = ((p.size + 3 : Nat) : Int) := by omega
          go_wp2_with fail
          refine Calls.mono (H2'.out _ HB3.out) ?_
          rintro e w4 ⟨v4, ev4, rfl, ⟨rfl, q4, rfl, hx4⟩, hb4⟩
          have HB4 : Hid (Below W.heap.size W w4) := HB3.out.trans (Below.mono hb4 HB3.out.size)
          have HC4 : Hid (Cel w4 gp 49 #[.int .i64 4, .int .i64 1, .int .i64 0, .bool true, .string p]) := HC3.out.below hb4 HC3.out.lt
          have HFA : Hid _ := Fault_at w4 ea (HE.out _ HB4.out) 3 (by omega) (ea (gOf 1)) rfl q4 1 hx4
          clear hx4 hb4 H2' HB3 HC3
          go_wp2_with fail
          refine Calls.mono HFA.out ?_
          rintro e w5 ⟨fb, rfl, hfb, hfb2, hb5⟩
          have HB5 : Hid (Below W.heap.size W w5) := HB4.out.trans (Below.mono hb5 HB4.out.size)
          have hc5 := HC4.out.below hb5 HC4.out.lt
          have e0 : w5.cell? ⟨gp, 0, none⟩ = some (.int .i64 4) := hc5.cell 0
          have e1 : w5.cell? ⟨gp, 1, none⟩ = some (.int .i64 1) := hc5.cell 1
          have e3 : w5.cell? ⟨gp, 3, none⟩ = some (.bool true) := hc5.cell 3
          have e4 : w5.cell? ⟨gp, 4, none⟩ = some (.string p) := hc5.cell 4
          have f0 : w5.cell? ⟨fb, 0, none⟩ = some (.int .i64 1) := hfb.cell 0
          have hl1 : gp < w5.heap.size := hc5.lt
          have hl2 : fb < w5.heap.size := hfb.lt
          clear hfb hfb2 hb5 HFA HB4 HC4 hc5
          go_wp2_with fail
          go_ret
          exact ⟨rfl, HB5.out.alloc HB5.out.size _⟩
theorem subs_any (s : ByteArray) (n : Int) (q : Bool) (W : World) (ea : Nat → Addr) (hE : Env W ea) (hW : (ea 64).block ≤ W.heap.size) :
    Calls Tryd.prog 6 #[.string s, .int .i64 n, .bool q] W fun e w' => e = .returned (.bool true) ∧ Below W.heap.size W w' := by
  by_cases hs : 300 < s.size
  · exact subs_over s n q W ea hE hW hs
  · cases q with
    | false => exact subs_false s n W ea hE hW (by omega)
    | true => exact subs_true s n W ea hE hW (by omega)
end Go.Proofs.YtlbdecohmjpgaaaDoor
