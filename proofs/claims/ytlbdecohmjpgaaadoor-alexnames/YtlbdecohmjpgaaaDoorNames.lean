/- The law of the names. -/
import Derived.Test.YtlbdecohmjpgaaaDoorFirst
import Derived.Test.YtlbdecohmjpgaaaDoorRefNm
import Derived.Test.YtlbdecohmjpgaaaDoorPureN
namespace Go.Proofs.YtlbdecohmjpgaaaDoor
open Go.RowKit
attribute [local go_sem] Oper.semAt_some

abbrev srcN1 (s : ByteArray) : ByteArray := ⟨#[36]⟩ ++ s ++ ⟨#[45]⟩
abbrev srcN2 (s : ByteArray) : ByteArray := ⟨#[120, 36, 123]⟩ ++ s ++ ⟨#[125, 121]⟩
theorem srcN1_list (s : ByteArray) : (srcN1 s).data.toList = 36 :: (s.data.toList ++ [45]) := by simp [srcN1]
theorem srcN2_list (s : ByteArray) : (srcN2 s).data.toList = 120 :: 36 :: 123 :: (s.data.toList ++ [125, 121]) := by simp [srcN2]
theorem str_list (s : ByteArray) : str s.data.toList = .string s := by cases s; rfl
theorem srcN1_size (s : ByteArray) (h : s.size ≤ 40) : (srcN1 s).size ≤ 8192 := by
  have : (srcN1 s).size = (srcN1 s).data.toList.length := by rw [Array.length_toList]; rfl
  have hl : s.data.toList.length = s.size := by simp
  rw [this, srcN1_list, List.length_cons, List.length_append, List.length_cons, List.length_nil]; omega
theorem srcN2_size (s : ByteArray) (h : s.size ≤ 40) : (srcN2 s).size ≤ 8192 := by
  have : (srcN2 s).size = (srcN2 s).data.toList.length := by rw [Array.length_toList]; rfl
  have hl : s.data.toList.length = s.size := by simp
  rw [this, srcN2_list, List.length_cons, List.length_cons, List.length_cons, List.length_append, List.length_cons, List.length_cons, List.length_nil]; omega
theorem list_head (s : ByteArray) (h : 0 < s.size) : s.data.toList = s[0] :: s.data.toList.drop 1 := by
  have := drop_cons s 0 h
  rwa [List.drop_zero] at this
theorem lexN1 (s : ByteArray) (h0 : 0 < s.size) (hst : start8 s[0] = true) (hc : allCont s.data.toList = true) :
    lexL (srcN1 s).data.toList = if nameB s.data.toList then .ok [⟨13, 0, [⟨3, 0, 0, false, s.data.toList⟩, ⟨1, s.size + 1, 0, false, [45]⟩]⟩, ⟨0, s.size + 2, []⟩] else .error ⟨0, 0⟩ := by
  have hl : s.data.toList.length = s.size := by simp
  rw [srcN1_list, ← hl]
  rw [list_head s h0] at hc ⊢
  exact names_dollar hst hc
theorem lexN2 (s : ByteArray) (h0 : 0 < s.size) (hc : allCont s.data.toList = true) :
    lexL (srcN2 s).data.toList = if nameB s.data.toList then .ok [⟨13, 0, [⟨1, 0, 0, false, [120]⟩, ⟨3, 1, 0, false, s.data.toList⟩, ⟨1, s.size + 4, 0, false, [121]⟩]⟩, ⟨0, s.size + 5, []⟩] else .error ⟨0, 1⟩ := by
  have hl : s.data.toList.length = s.size := by simp
  rw [srcN2_list, ← hl]
  rw [list_head s h0] at hc ⊢
  exact names_brace hc
theorem cont_at (s : ByteArray) (h : allCont s.data.toList = true) (k : Nat) (hk : k < s.size) : contB ((s[k]).toNat : Int) = true := by
  rw [allCont, List.all_eq_true] at h
  exact h _ (List.mem_of_getElem? (s_get s k hk))
theorem allCont_of (s : ByteArray) (h : ∀ k (hk : k < s.size), contB ((s[k]).toNat : Int) = true) : allCont s.data.toList = true := by
  rw [allCont, List.all_eq_true]
  intro x hx
  obtain ⟨k, hk⟩ := List.getElem?_of_mem hx
  have hlt : k < s.size := by have := (List.getElem?_eq_some_iff.1 hk).1; simpa using this
  rw [s_get s k hlt] at hk
  cases hk
  exact h k hlt
theorem start_two {c : Int} (h : startB c = true) : c < 48 ∨ 57 < c := by
  simp only [startB, decide_eq_true_eq] at h
  omega
set_option maxRecDepth 100000 in
set_option maxHeartbeats 4000000 in
theorem names_over (s : ByteArray) (W : World) (ea : Nat → Addr) (hE : Env W ea) (hW : (ea 64).block ≤ W.heap.size) (hs : 40 < s.size) :
    Calls Tryd.prog 7 #[.string s] W fun e w' => e = .returned (.bool true) ∧ Below W.heap.size W w' := by
  have HF : Hid _ := first_any W ea hE hW
  have hs' : (40 : Int) < (s.size : Int) := by omega
  clear hE
  go_enter Tryd.func7, Tryd.ntmps7
  go_wp2_with fail
  refine Calls.mono HF.out ?_
  rintro e w1 ⟨rfl, hb1⟩
  have HB1 : Hid (Below W.heap.size W w1) := hb1
  clear hb1 HF
  go_wp2_with fail
  go_ret
  exact ⟨rfl, HB1.out⟩
set_option maxRecDepth 100000 in
set_option maxHeartbeats 4000000 in
theorem names_none (s : ByteArray) (W : World) (ea : Nat → Addr) (hE : Env W ea) (hW : (ea 64).block ≤ W.heap.size) (hs : s.size ≤ 20) (hn : nameB s.data.toList = false) :
    Calls Tryd.prog 7 #[.string s] W fun e w' => e = .returned (.bool true) ∧ Below W.heap.size W w' := by
  have HF : Hid _ := first_any W ea hE hW
  have HN : Hid (∀ w, Calls Tryd.prog 17 #[.string s] w fun e w' => e = .returned (.bool false) ∧ w' = w) := fun w => by rw [← hn]; exact rname_any s w
  have hd1 : decide ((40 : Int) < (s.size : Int)) = false := by simp; omega
  have hs' : (s.size : Int) ≤ 20 := by omega
  clear hE hn
  go_enter Tryd.func7, Tryd.ntmps7
  go_wp2_with fail
  refine Calls.mono HF.out ?_
  rintro e w1 ⟨rfl, hb1⟩
  have HB1 : Hid (Below W.heap.size W w1) := hb1
  clear hb1 HF
  go_wp2_with fail
  refine Calls.mono (HN.out _) ?_
  rintro e w2 ⟨rfl, hw⟩
  obtain rfl := hw.symm
  clear hw
  go_wp2_with fail
  go_ret
  exact ⟨rfl, HB1.out⟩
set_option maxRecDepth 100000 in
set_option maxHeartbeats 8000000 in
theorem names_good (s : ByteArray) (W : World) (ea : Nat → Addr) (hE : Env W ea) (hW : (ea 64).block ≤ W.heap.size) (h0 : 0 < s.size) (hs : s.size ≤ 20) (hst : startB ((s[0]).toNat : Int) = true) (hc : allCont s.data.toList = true) (hn : nameB s.data.toList = true) :
    Calls Tryd.prog 7 #[.string s] W fun e w' => e = .returned (.bool true) ∧ Below W.heap.size W w' := by
  have HF : Hid _ := first_any W ea hE hW
  have HN : Hid (∀ w, Calls Tryd.prog 17 #[.string s] w fun e w' => e = .returned (.bool true) ∧ w' = w) := fun w => by rw [← hn]; exact rname_any s w
  have HC : Hid (∀ k (hk : k < s.size), contB ((s[k]).toNat : Int) = true) := fun k hk => cont_at s hc k hk
  have HL1 : Hid (∀ w, Below W.heap.size W w → Calls Tryd.prog 9 #[.string (srcN1 s)] w fun e w' => ∃ v ev, e = .returned (.tuple #[v, ev]) ∧ LexV w ea (.ok [⟨13, 0, [⟨3, 0, 0, false, s.data.toList⟩, ⟨1, s.size + 1, 0, false, [45]⟩]⟩, ⟨0, s.size + 2, []⟩]) v ev w' ∧ Below w.heap.size w w') := fun w hb => by
    have := lex_any (srcN1 s) w ea (hE.below hb) (Nat.le_trans hW hb.size) (srcN1_size s (by omega))
    rwa [lexN1 s h0 hst hc, if_pos hn] at this
  have HL2 : Hid (∀ w, Below W.heap.size W w → Calls Tryd.prog 9 #[.string (srcN2 s)] w fun e w' => ∃ v ev, e = .returned (.tuple #[v, ev]) ∧ LexV w ea (.ok [⟨13, 0, [⟨1, 0, 0, false, [120]⟩, ⟨3, 1, 0, false, s.data.toList⟩, ⟨1, s.size + 4, 0, false, [121]⟩]⟩, ⟨0, s.size + 5, []⟩]) v ev w' ∧ Below w.heap.size w w') := fun w hb => by
    have := lex_any (srcN2 s) w ea (hE.below hb) (Nat.le_trans hW hb.size) (srcN2_size s (by omega))
    rwa [lexN2 s h0 hc, if_pos hn] at this
  have HST : Hid (((s[0]).toNat : Int) < 48 ∨ 57 < ((s[0]).toNat : Int)) := start_two hst
  have hne : s.toList.isEmpty = false := nonempty_of s h0
  have hd1 : decide ((40 : Int) < (s.size : Int)) = false := by simp; omega
  have hd2 : decide ((20 : Int) < (s.size : Int)) = false := by simp; omega
  clear hE hn hc hst
  go_enter Tryd.func7, Tryd.ntmps7
  go_wp2_with fail
  refine Calls.mono HF.out ?_
  rintro e w1 ⟨rfl, hb1⟩
  have HB1 : Hid (Below W.heap.size W w1) := hb1
  clear hb1 HF
  go_wp2_with fail
  refine Calls.mono (HN.out _) ?_
  rintro e w2 ⟨rfl, hw⟩
  obtain rfl := hw.symm
  clear hw
  go_wp2_with fail
  clear hne
  go_loop [2, 4] (fun v2 v4 => ∃ k : Nat, v2 = .bool false ∧ v4 = .int .i64 k ∧ k ≤ s.size) (fun _ v4 => s.size - (intOf v4).toNat)
  case atStart => exact ⟨0, rfl, rfl, Nat.zero_le _⟩
  case round =>
    obtain ⟨k, rfl, rfl, hk⟩ := hrel
    by_cases hlt : k < s.size
    · have HCB : Hid _ := HC.out k hlt
      by_cases hk0 : k = 0
      · subst hk0
        rcases HST.out with h48 | h57
        · have d3 : decide (48 ≤ ((s[0]).toNat : Int)) = false := decide_eq_false (by omega)
          go_wp2_with fail
          refine (letter_any _ _).mono ?_
          rintro e w2 ⟨rfl, hw⟩
          obtain rfl := hw.symm
          clear hw
          rw [HCB.out]
          go_wp2_with fail
          exact ⟨⟨1, rfl, by simp, by omega⟩, by simp [intOf]; omega⟩
        · have d3 : 48 ≤ ((s[0]).toNat : Int) := by omega
          have d4 : decide (((s[0]).toNat : Int) ≤ 57) = false := decide_eq_false (by omega)
          go_wp2_with fail
          refine (letter_any _ _).mono ?_
          rintro e w2 ⟨rfl, hw⟩
          obtain rfl := hw.symm
          clear hw
          rw [HCB.out]
          go_wp2_with fail
          exact ⟨⟨1, rfl, by simp, by omega⟩, by simp [intOf]; omega⟩
      · have hk1 : ((k : Int) == 0) = false := by rw [beq_eq_false_iff_ne]; omega
        go_wp2_with fail
        refine (letter_any _ _).mono ?_
        rintro e w2 ⟨rfl, hw⟩
        obtain rfl := hw.symm
        clear hw
        rw [HCB.out]
        go_wp2_with fail
        exact ⟨⟨k + 1, rfl, by simp, by omega⟩, by simp [intOf]; omega⟩
    · have hlt' : ¬ (k : Int) < (s.size : Int) := by omega
      clear hlt HC HST
      go_wp2_with fail
      refine Calls.mono (HL1.out _ HB1.out) ?_
      rintro e w2 ⟨v2, ev2, rfl, ⟨rfl, K2, hK2, hO2⟩, hb2⟩
      obtain ⟨ua, ub, rfl⟩ := map_two hK2
      obtain ⟨g2, c2, rfl, hg2⟩ := hO2.get (by simp)
      obtain ⟨pa, ca, rfl, hga⟩ := (show PtOwn w2 _ ua [⟨3, 0, 0, false, s.data.toList⟩, ⟨1, s.size + 1, 0, false, [45]⟩] from hO2.parts (ua, ⟨13, 0, [⟨3, 0, 0, false, s.data.toList⟩, ⟨1, s.size + 1, 0, false, [45]⟩]⟩) (by simp)).get (by simp)
      have HB2 : Hid (Below W.heap.size W w2) := HB1.out.trans (Below.mono hb2 HB1.out.size)
      have a0 : w2.cell? ⟨g2, 2, none⟩ = some (.slice (some ⟨pa, 0, none⟩) 2 ca) := hg2 0 _ rfl 2 _ rfl
      have a1 : w2.cell? ⟨pa, 0, none⟩ = some (.int .i64 3) := hga 0 _ rfl 0 _ rfl
      have a2 : w2.cell? ⟨pa, 4, none⟩ = some (.string s) := (hga 0 _ rfl 4 _ rfl).trans (congrArg some (str_list s))
      have HA : Hid (∀ w, Below w2.heap.size w2 w → w.cell? ⟨g2, 2, none⟩ = some (.slice (some ⟨pa, 0, none⟩) 2 ca) ∧ w.cell? ⟨pa, 0, none⟩ = some (.int .i64 3) ∧ w.cell? ⟨pa, 4, none⟩ = some (.string s)) := fun w hb =>
        ⟨(hb.cell (p := ⟨g2, 2, none⟩) (World.block_lt_of_cell? w2 _ a0)).trans a0, (hb.cell (p := ⟨pa, 0, none⟩) (World.block_lt_of_cell? w2 _ a1)).trans a1, (hb.cell (p := ⟨pa, 4, none⟩) (World.block_lt_of_cell? w2 _ a2)).trans a2⟩
      clear hK2 hO2 hg2 hga a0 a1 a2 hb2
      simp only [List.length_cons, List.length_nil, Nat.zero_add, Nat.reduceAdd]
      go_wp2_with fail
      refine Calls.mono (HL2.out _ HB2.out) ?_
      rintro e w3 ⟨v3, ev3, rfl, ⟨rfl, K3, hK3, hO3⟩, hb3⟩
      obtain ⟨va, vb, rfl⟩ := map_two hK3
      obtain ⟨g3, c3, rfl, hg3⟩ := hO3.get (by simp)
      obtain ⟨pb, cb, rfl, hgb⟩ := (show PtOwn w3 _ va [⟨1, 0, 0, false, [120]⟩, ⟨3, 1, 0, false, s.data.toList⟩, ⟨1, s.size + 4, 0, false, [121]⟩] from hO3.parts (va, ⟨13, 0, [⟨1, 0, 0, false, [120]⟩, ⟨3, 1, 0, false, s.data.toList⟩, ⟨1, s.size + 4, 0, false, [121]⟩]⟩) (by simp)).get (by simp)
      have HB3 : Hid (Below W.heap.size W w3) := HB2.out.trans (Below.mono hb3 HB2.out.size)
      obtain ⟨a0, a1, a2⟩ := HA.out w3 hb3
      have b0 : w3.cell? ⟨g3, 2, none⟩ = some (.slice (some ⟨pb, 0, none⟩) 3 cb) := hg3 0 _ rfl 2 _ rfl
      have b1 : w3.cell? ⟨pb, 9, none⟩ = some (.string s) := (hgb 1 _ rfl 4 _ rfl).trans (congrArg some (str_list s))
      have b2 : w3.cell? ⟨pb, 14, none⟩ = some (.string ⟨#[121]⟩) := hgb 2 _ rfl 4 _ rfl
      clear hK3 hO3 hg3 hgb hb3 HA HB2 HB1 HL1 HL2
      simp only [List.length_cons, List.length_nil, Nat.zero_add, Nat.reduceAdd]
      go_wp2_with fail
      go_ret
      exact ⟨rfl, HB3.out⟩
end Go.Proofs.YtlbdecohmjpgaaaDoor
