/- The document's own lexer: its small functions. -/
import Derived.Test.YtlbdecohmjpgaaaDoorRf1
import Derived.Test.YtlbdecohmjpgaaaDoorSee
namespace Go.Proofs.YtlbdecohmjpgaaaDoor
open Go.RowKit
attribute [local go_sem] Oper.semAt_some

/-- The document's lexer in memory. -/
abbrev lx (s : ByteArray) (i : Nat) (code : Int) (av : Value) : Array Value := #[.string s, .int .i64 (i : Nat), .int .i64 code, av]
abbrev Lx (W : World) (b : Nat) (s : ByteArray) (i : Nat) (code : Int) (av : Value) : Prop := Cel W b 65 (lx s i code av)
theorem blank_any (c : UInt8) (w : World) : Calls Tryd.prog 36 #[.int .u8 (c.toNat : Nat)] w fun e w' => e = .returned (.bool (c == 32 || c == 9 || c == 10)) ∧ w' = w := by
  by_cases c1 : c = 32
  · have q1 : ((c.toNat : Int) == 32) = true := by rw [c1]; rfl
    go_enter Tryd.func36, Tryd.ntmps36
    go_wp2_with fail
    go_ret
    exact ⟨ret_bool (by simp [c1]), rfl⟩
  · have q1 : ((c.toNat : Int) == 32) = false := byte_ne c 32 c1
    by_cases c2 : c = 9
    · have q2 : ((c.toNat : Int) == 9) = true := by rw [c2]; rfl
      go_enter Tryd.func36, Tryd.ntmps36
      go_wp2_with fail
      go_ret
      exact ⟨ret_bool (by simp [c2]), rfl⟩
    · have q2 : ((c.toNat : Int) == 9) = false := byte_ne c 9 c2
      by_cases c3 : c = 10
      · have q3 : ((c.toNat : Int) == 10) = true := by rw [c3]; rfl
        go_enter Tryd.func36, Tryd.ntmps36
        go_wp2_with fail
        go_ret
        exact ⟨ret_bool (by simp [c3]), rfl⟩
      · have q3 : ((c.toNat : Int) == 10) = false := byte_ne c 10 c3
        go_enter Tryd.func36, Tryd.ntmps36
        go_wp2_with fail
        go_ret
        exact ⟨ret_bool (by simp [c1, c2, c3]), rfl⟩
theorem byte_is (c d : UInt8) (b : Bool) (h : (c == d) = b) : ((c.toNat : Int) == (d.toNat : Int)) = b := by
  cases b with
  | false => exact byte_ne c d (by simpa using h)
  | true => rw [show c = d by simpa using h]; exact beq_self_eq_true _
theorem wEnd_eq (c : UInt8) : wEnd c = ((c == 32 || c == 9 || c == 10) || c == 59 || c == 38 || c == 124 || c == 40 || c == 41 || c == 60 || c == 62) := by
  simp only [wEnd, List.contains_cons, List.contains_nil, Bool.or_false, Bool.or_assoc]
set_option maxHeartbeats 2000000 in
theorem ends_any (c : UInt8) (w : World) : Calls Tryd.prog 25 #[.int .u8 (c.toNat : Nat)] w fun e w' => e = .returned (.bool (wEnd c)) ∧ w' = w := by
  have HB : Hid _ := blank_any c w
  rw [wEnd_eq]
  generalize (c == 32 || c == 9 || c == 10) = bb at HB
  cases bb with
  | true =>
    go_enter Tryd.func25, Tryd.ntmps25
    go_wp2_with fail
    refine Calls.mono HB.out ?_
    rintro e w1 ⟨rfl, hw⟩
    obtain rfl := hw.symm
    clear hw
    go_wp2_with fail
    go_ret
    exact ⟨ret_bool (by simp), rfl⟩
  | false =>
    have q1 := byte_is c 59
    have q2 := byte_is c 38
    have q3 := byte_is c 124
    have q4 := byte_is c 40
    have q5 := byte_is c 41
    have q6 := byte_is c 60
    have q7 := byte_is c 62
    generalize (c == 59) = b1 at q1
    generalize (c == 38) = b2 at q2
    generalize (c == 124) = b3 at q3
    generalize (c == 40) = b4 at q4
    generalize (c == 41) = b5 at q5
    generalize (c == 60) = b6 at q6
    generalize (c == 62) = b7 at q7
    replace q1 : ((c.toNat : Int) == 59) = b1 := q1 b1 rfl
    replace q2 : ((c.toNat : Int) == 38) = b2 := q2 b2 rfl
    replace q3 : ((c.toNat : Int) == 124) = b3 := q3 b3 rfl
    replace q4 : ((c.toNat : Int) == 40) = b4 := q4 b4 rfl
    replace q5 : ((c.toNat : Int) == 41) = b5 := q5 b5 rfl
    replace q6 : ((c.toNat : Int) == 60) = b6 := q6 b6 rfl
    replace q7 : ((c.toNat : Int) == 62) = b7 := q7 b7 rfl
    cases b1 with
    | true =>
      clear q2 q3 q4 q5 q6 q7
      go_enter Tryd.func25, Tryd.ntmps25
      go_wp2_with fail
      refine Calls.mono HB.out ?_
      rintro e w1 ⟨rfl, hw⟩
      obtain rfl := hw.symm
      clear hw
      go_wp2_with fail
      go_ret
      exact ⟨ret_bool (by simp), rfl⟩
    | false =>
    cases b2 with
    | true =>
      clear q3 q4 q5 q6 q7
      go_enter Tryd.func25, Tryd.ntmps25
      go_wp2_with fail
      refine Calls.mono HB.out ?_
      rintro e w1 ⟨rfl, hw⟩
      obtain rfl := hw.symm
      clear hw
      go_wp2_with fail
      go_ret
      exact ⟨ret_bool (by simp), rfl⟩
    | false =>
    cases b3 with
    | true =>
      clear q4 q5 q6 q7
      go_enter Tryd.func25, Tryd.ntmps25
      go_wp2_with fail
      refine Calls.mono HB.out ?_
      rintro e w1 ⟨rfl, hw⟩
      obtain rfl := hw.symm
      clear hw
      go_wp2_with fail
      go_ret
      exact ⟨ret_bool (by simp), rfl⟩
    | false =>
    cases b4 with
    | true =>
      clear q5 q6 q7
      go_enter Tryd.func25, Tryd.ntmps25
      go_wp2_with fail
      refine Calls.mono HB.out ?_
      rintro e w1 ⟨rfl, hw⟩
      obtain rfl := hw.symm
      clear hw
      go_wp2_with fail
      go_ret
      exact ⟨ret_bool (by simp), rfl⟩
    | false =>
    cases b5 with
    | true =>
      clear q6 q7
      go_enter Tryd.func25, Tryd.ntmps25
      go_wp2_with fail
      refine Calls.mono HB.out ?_
      rintro e w1 ⟨rfl, hw⟩
      obtain rfl := hw.symm
      clear hw
      go_wp2_with fail
      go_ret
      exact ⟨ret_bool (by simp), rfl⟩
    | false =>
    cases b6 with
    | true =>
      clear q7
      go_enter Tryd.func25, Tryd.ntmps25
      go_wp2_with fail
      refine Calls.mono HB.out ?_
      rintro e w1 ⟨rfl, hw⟩
      obtain rfl := hw.symm
      clear hw
      go_wp2_with fail
      go_ret
      exact ⟨ret_bool (by simp), rfl⟩
    | false =>
      go_enter Tryd.func25, Tryd.ntmps25
      go_wp2_with fail
      refine Calls.mono HB.out ?_
      rintro e w1 ⟨rfl, hw⟩
      obtain rfl := hw.symm
      clear hw
      go_wp2_with fail
      go_ret
      exact ⟨ret_bool (by simp), rfl⟩
/-! ### has -/
theorem pre_yes (s t : ByteArray) (i : Nat) : ((s.extract i (i + t.size)).toList == t.toList) = t.data.toList.isPrefixOf (s.data.toList.drop i) := by
  rw [ByteArray.toList_eq, ByteArray.toList_eq, Lib.extract_eq, Bool.eq_iff_iff, beq_iff_eq, List.isPrefixOf_iff_prefix, List.prefix_iff_eq_take]
  have hl : t.data.toList.length = t.size := by rw [Array.length_toList]; rfl
  rw [hl, show i + t.size - i = t.size by omega]
  exact eq_comm
theorem pre_nay (s t : ByteArray) (i : Nat) (h : ¬ i + t.size ≤ s.size) (h0 : 0 < t.size) : t.data.toList.isPrefixOf (s.data.toList.drop i) = false := by
  rw [Bool.eq_false_iff, ne_eq, List.isPrefixOf_iff_prefix]
  intro hp
  have := hp.length_le
  have hl : t.data.toList.length = t.size := by rw [Array.length_toList]; rfl
  rw [hl, len_drop'] at this
  omega
set_option maxHeartbeats 1000000 in
theorem hasR_any (b : Nat) (s t : ByteArray) (i : Nat) (W : World) (h0 : W.cell? ⟨b, 0, none⟩ = some (.string s)) (h1 : W.cell? ⟨b, 1, none⟩ = some (.int .i64 (i : Nat))) (hs : s.size < 1099511627776) (hi : i ≤ s.size) (ht : t.size < 100) (ht0 : 0 < t.size) :
    Calls Tryd.prog 24 #[.pointer (some ⟨b, 0, none⟩), .string t] W fun e w' => e = .returned (.bool (t.data.toList.isPrefixOf (s.data.toList.drop i))) ∧ ∃ m, w' = W.drewN m := by
  by_cases hk : i + t.size ≤ s.size
  · have hk' : (i : Int) + (t.size : Int) ≤ (s.size : Int) := by omega
    have HE : Hid _ := pre_yes s t i
    go_enter Tryd.func24, Tryd.ntmps24
    go_wp2_with fail
    go_quiet (fail)
    go_wp2_with fail
    go_ret
    exact ⟨ret_bool HE.out, _, rfl⟩
  · have hk' : decide ((i : Int) + (t.size : Int) ≤ (s.size : Int)) = false := decide_eq_false (by omega)
    have HE : Hid _ := pre_nay s t i hk ht0
    rw [HE.out]
    go_enter Tryd.func24, Tryd.ntmps24
    go_wp2_with fail
    go_quiet (fail)
    go_wp2_with fail
    go_ret
    exact ⟨rfl, _, rfl⟩
/-! ### Run -/
theorem nrun_lets (s : ByteArray) (i : Nat) (hi : i < s.size) (h1 : contB ((s[i]).toNat : Int) = true) (h2 : ((s[i]).toNat : Int) < 48 ∨ 57 < ((s[i]).toNat : Int)) : nrun (s.data.toList.drop i) = (s.data.toList.drop i).takeWhile cont8 :=
  nrun_yes _ s[i] (by rw [drop_head, text_at s i hi]) (by show startB _ = true; rw [start_eq, h1, show digitB ((s[i]).toNat : Int) = false from decide_eq_false (by omega)]; rfl)
set_option maxHeartbeats 2000000 in
theorem run_yes (s : ByteArray) (i : Nat) (w : World) (hs : s.size < 1099511627776) (hi : i < s.size) (h1 : contB ((s[i]).toNat : Int) = true) (h2 : ((s[i]).toNat : Int) < 48 ∨ 57 < ((s[i]).toNat : Int)) :
    Calls Tryd.prog 47 #[.string s, .int .i64 (i : Nat)] w fun e w' => e = .returned (.int .i64 ((i + (nrun (s.data.toList.drop i)).length : Nat) : Int)) ∧ w' = w := by
  obtain ⟨r, HR⟩ : ∃ r, Hid (i + (nrun (s.data.toList.drop i)).length = r) := ⟨_, rfl⟩
  have HE : Hid ((s.data.toList.drop i).takeWhile cont8 = nrun (s.data.toList.drop i)) := (nrun_lets s i hi h1 h2).symm
  rw [HR.out]
  have hi' : (i : Int) < (s.size : Int) := by omega
  have hn : ¬ (i : Int) < 0 := by omega
  have hge : decide ((s.size : Int) ≤ (i : Int)) = false := decide_eq_false (by omega)
  have hge1 : decide (s.size ≤ i) = false := decide_eq_false (by omega)
  have hge2 : ¬ (s.size : Int) ≤ (i : Int) := by omega
  have HL : Hid (Calls Tryd.prog 18 #[.int .u8 ((s[i]).toNat : Nat)] w fun e w' => e = .returned (.bool true) ∧ w' = w) := by
    have := letter_any ((s[i]).toNat : Nat) w
    rwa [h1] at this
  have HAL : Hid (∀ k (hk : k < s.size), Calls Tryd.prog 18 #[.int .u8 ((s[k]).toNat : Nat)] w fun e w' => e = .returned (.bool (contB ((s[k]).toNat : Int))) ∧ w' = w) := fun k hk => letter_any _ w
  have hlo : decide (48 ≤ ((s[i]).toNat : Int)) = false ∨ (decide (48 ≤ ((s[i]).toNat : Int)) = true ∧ decide (((s[i]).toNat : Int) ≤ 57) = false) := by
    rcases h2 with h2 | h2
    · exact Or.inl (decide_eq_false (by omega))
    · exact Or.inr ⟨decide_eq_true (by omega), decide_eq_false (by omega)⟩
  clear h1 h2
  go_enter Tryd.func47, Tryd.ntmps47
  rcases hlo with d1 | ⟨d1, d2⟩
  all_goals
    go_wp2_with fail
    refine Calls.mono HL.out ?_
    rintro e w1 ⟨rfl, hw⟩
    obtain rfl := hw.symm
    clear hw
    go_wp2_with fail
    go_loop [5] (fun v5 => ∃ k : Nat, i ≤ k ∧ k ≤ s.size ∧ v5 = .int .i64 k ∧ Hid ((s.data.toList.drop i).takeWhile cont8 = (s.data.toList.drop i).take (k - i) ++ (s.data.toList.drop k).takeWhile cont8)) (fun v5 => s.size - (intOf v5).toNat)
    case atStart => exact ⟨i, Nat.le_refl _, by omega, rfl, by simp [Hid]⟩
    case round =>
      obtain ⟨k, hk1, hk2, rfl, HH⟩ := hrel
      have hdl : ((s.data.toList.drop i).take (k - i)).length = k - i := by rw [List.length_take, len_drop']; omega
      by_cases hlt : k < s.size
      · have hlt' : (k : Int) < (s.size : Int) := by omega
        have HLK : Hid _ := HAL.out k hlt
        cases hcb : contB ((s[k]).toNat : Int) with
        | true =>
          have HM : Hid _ := run_more s i k hk1 hlt hcb HH.out
          have HC : Hid _ := hcb
          clear hcb HH hdl
          go_wp2_with fail
          refine Calls.mono HLK.out ?_
          rintro e w1 ⟨rfl, hw⟩
          obtain rfl := hw.symm
          clear hw
          rw [HC.out]
          go_wp2_with fail
          exact ⟨⟨k + 1, by omega, by omega, by simp, HM.out⟩, by simp [intOf]; omega⟩
        | false =>
          have HRK : Hid (r = k) := by
            have e1 := HH.out
            rw [drop_cons s k hlt, List.takeWhile_cons, show cont8 s[k] = false from hcb] at e1
            have e2 := congrArg List.length e1
            rw [HE.out] at e2
            simp only [Bool.false_eq_true, if_false, List.append_nil, hdl] at e2
            have := HR.out
            unfold Hid
            omega
          have HC : Hid _ := hcb
          clear hcb HH hdl
          go_wp2_with fail
          refine Calls.mono HLK.out ?_
          rintro e w1 ⟨rfl, hw⟩
          obtain rfl := hw.symm
          clear hw
          rw [HC.out]
          go_wp2_with fail
          go_ret
          exact ⟨ret_int (by rw [HRK.out]), rfl⟩
      · have hlt' : ¬ (k : Int) < (s.size : Int) := by omega
        have HRK : Hid (r = k) := by
          have e1 := HH.out
          rw [drop_out s k (by omega)] at e1
          have e2 := congrArg List.length e1
          rw [HE.out] at e2
          simp only [List.takeWhile_nil, List.append_nil, hdl] at e2
          have := HR.out
          unfold Hid
          omega
        clear HH hdl
        go_wp2_with fail
        go_ret
        exact ⟨ret_int (by rw [HRK.out]), rfl⟩
/-- No name begins here. -/
theorem run_no (s : ByteArray) (i : Nat) (w : World) (hn : nrun (s.data.toList.drop i) = []) :
    Calls Tryd.prog 47 #[.string s, .int .i64 (i : Nat)] w fun e w' => e = .returned (.int .i64 (i : Nat)) ∧ w' = w := by
  have hn0 : ¬ (i : Int) < 0 := by omega
  by_cases hi : i < s.size
  · have hi' : (i : Int) < (s.size : Int) := by omega
    have hge : decide ((s.size : Int) ≤ (i : Int)) = false := decide_eq_false (by omega)
    have hst : startB ((s[i]).toNat : Int) = false := by
      cases h : startB ((s[i]).toNat : Int) with
      | false => rfl
      | true =>
        have h2 : start8 s[i] = true := h
        rw [drop_cons s i hi, nrun, if_pos h2, List.takeWhile_cons, show cont8 s[i] = true by show contB _ = true; rw [contB, h]; rfl] at hn
        simp at hn
    have HL : Hid (Calls Tryd.prog 18 #[.int .u8 ((s[i]).toNat : Nat)] w fun e w' => e = .returned (.bool (contB ((s[i]).toNat : Int))) ∧ w' = w) := letter_any _ w
    rw [start_eq] at hst
    cases hc : contB ((s[i]).toNat : Int) with
    | false =>
      rw [hc] at HL
      clear hst hc hn
      go_enter Tryd.func47, Tryd.ntmps47
      go_wp2_with fail
      refine Calls.mono HL.out ?_
      rintro e w1 ⟨rfl, hw⟩
      obtain rfl := hw.symm
      clear hw
      go_wp2_with fail
      go_ret
      exact ⟨rfl, rfl⟩
    | true =>
      rw [hc] at HL hst
      have hd : digitB ((s[i]).toNat : Int) = true := by simpa using hst
      have hd2 : 48 ≤ ((s[i]).toNat : Int) ∧ ((s[i]).toNat : Int) ≤ 57 := of_decide_eq_true hd
      have hd3 := hd2.1
      have hd4 := hd2.2
      clear hst hc hn hd hd2
      go_enter Tryd.func47, Tryd.ntmps47
      go_wp2_with fail
      refine Calls.mono HL.out ?_
      rintro e w1 ⟨rfl, hw⟩
      obtain rfl := hw.symm
      clear hw
      go_wp2_with fail
      go_ret
      exact ⟨rfl, rfl⟩
  · have hge : decide ((s.size : Int) ≤ (i : Int)) = true := decide_eq_true (by omega)
    clear hn
    go_enter Tryd.func47, Tryd.ntmps47
    go_wp2_with fail
    go_ret
    exact ⟨rfl, rfl⟩
/-! ### fail -/
/-- The document's number of an error. -/
def codE : Nat → Int
  | 0 => 106
  | 1 => 104
  | 2 => 103
  | _ => 107
/-- The document's lexer met an error. -/
def Flt (W : World) (b : Nat) (s : ByteArray) (x : Er) (w' : World) : Prop := ∃ i fb, Lx w' b s i (codE x.code) (.slice (some ⟨fb, 0, none⟩) 1 1) ∧ Cel w' fb 3 #[.int .i64 (x.pos : Nat)] ∧ W.heap.size ≤ fb ∧ Turn (fun g => g = b) W w'
set_option maxRecDepth 100000 in
set_option maxHeartbeats 1000000 in
theorem fail_any {W : World} {b : Nat} {s : ByteArray} {i : Nat} {av : Value} (h : Lx W b s i 0 av) (x : Er) :
    Calls Tryd.prog 37 #[.pointer (some ⟨b, 0, none⟩), .int .i64 (codE x.code), .int .i64 (x.pos : Nat)] W fun e w' => e = .returned (.tuple #[]) ∧ Flt W b s x w' := by
  obtain ⟨c, hc⟩ : ∃ c, c = codE x.code := ⟨_, rfl⟩
  have hc0 : ¬ c = 0 := by rw [hc]; unfold codE; split <;> decide
  have HLX : Hid (Lx W b s i 0 av) := h
  have l2 : W.cell? ⟨b, 2, none⟩ = some (.int .i64 0) := h.cell 2
  have hlb := h.lt
  have HPL : Hid _ := placed_any c (x.pos : Nat) hc0 W
  rw [← hc]
  have HC : Hid (c = codE x.code) := hc
  clear h hc
  go_enter Tryd.func37, Tryd.ntmps37
  go_wp2_with fail
  refine Calls.mono HPL.out ?_
  rintro e w1 ⟨fb, rfl, hf, hfb, hb1⟩
  have HF : Hid (Cel w1 fb 3 #[.int .i64 (x.pos : Nat)]) := hf
  have HB : Hid (Below W.heap.size W w1) := hb1
  have h1 : Lx w1 b s i 0 av := HLX.out.below hb1 HLX.out.lt
  have HL1 : Hid (Lx w1 b s i 0 av) := h1
  have m2 : w1.cell? ⟨b, 2, none⟩ = some (.int .i64 0) := h1.cell 2
  have m3 : w1.cell? ⟨b, 3, none⟩ = some av := h1.cell 3
  have f2 := h1.frozen 2
  have f3 := h1.frozen 3
  clear h1 hf hb1 l2 HPL HLX
  go_wp2_with fail
  go_end0
  refine ⟨rfl, i, fb, ?_, ?_, hfb, ?_⟩
  · rw [← HC.out]; exact (HL1.out.set (j := 2) (.int .i64 c)).set (j := 3) (.slice (some ⟨fb, 0, none⟩) 1 1)
  · exact (HF.out.other (by omega) _).other (by omega) _
  · exact Turn.setCell (S := fun g => g = b) (p := ⟨b, 3, none⟩) (Turn.setCell (S := fun g => g = b) (p := ⟨b, 2, none⟩) (Turn.ofBelow HB.out) (fun _ => rfl) _) (fun _ => rfl) _
/-! ### the operators -/
def opsT : List (List UInt8) := [[60, 60, 60], [59, 59], [38, 38], [124, 124], [62, 62], [10], [59], [124], [40], [41], [60], [62]]
def opsK : List Nat := [12, 3, 4, 5, 11, 1, 2, 6, 7, 8, 9, 10]
abbrev opsTV : Array Value := #[str [60, 60, 60], str [59, 59], str [38, 38], str [124, 124], str [62, 62], str [10], str [59], str [124], str [40], str [41], str [60], str [62]]
abbrev opsKV : Array Value := #[.int .i64 12, .int .i64 3, .int .i64 4, .int .i64 5, .int .i64 11, .int .i64 1, .int .i64 2, .int .i64 6, .int .i64 7, .int .i64 8, .int .i64 9, .int .i64 10]
theorem operators_any (W : World) : Calls Tryd.prog 23 #[] W fun e w' => e = .returned (.tuple #[.slice (some ⟨W.heap.size, 0, none⟩) 12 12, .slice (some ⟨W.heap.size + 1, 0, none⟩) 12 12]) ∧ w' = (W.alloc (.cells opsTV 9)).alloc (.cells opsKV 3) := by
  go_enter Tryd.func23, Tryd.ntmps23
  go_wp2_with fail
  go_ret2
  exact ⟨rfl, rfl⟩
end Go.Proofs.YtlbdecohmjpgaaaDoor
