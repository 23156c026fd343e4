/- The document's scanner: its small functions. -/
import Derived.Test.YtlihkblllakhmaaGreatDoorRg2
import Derived.Test.YtlihkblllakhmaaGreatDoorSee
import Derived.Deep.DeepCutAuto
namespace Go.Proofs.YtlihkblllakhmaaGreatDoor
open Go.RowKit
attribute [local go_sem] Oper.semAt_some

theorem parts9 (c : Int) : c < 48 ∨ (48 ≤ c ∧ c ≤ 57) ∨ (57 < c ∧ c < 65) ∨ (65 ≤ c ∧ c ≤ 90) ∨ (90 < c ∧ c < 95) ∨ c = 95 ∨ c = 96 ∨ (97 ≤ c ∧ c ≤ 122) ∨ 122 < c := by omega
theorem cont_t {c : Int} (h : (97 ≤ c ∧ c ≤ 122) ∨ (65 ≤ c ∧ c ≤ 90) ∨ c = 95 ∨ (48 ≤ c ∧ c ≤ 57)) : contB c = true := by
  unfold contB startB digitB; simp; omega
theorem cont_f {c : Int} (h : ¬ ((97 ≤ c ∧ c ≤ 122) ∨ (65 ≤ c ∧ c ≤ 90) ∨ c = 95 ∨ (48 ≤ c ∧ c ≤ 57))) : contB c = false := by
  unfold contB startB digitB; simp; omega
set_option maxHeartbeats 1000000 in
theorem letter_any (c : Int) (w : World) :
    Calls Tryz.prog 69 #[.int .u8 c] w fun e w' => e = .returned (.bool (contB c)) ∧ w' = w := by
  rcases parts9 c with hq | hq | hq | hq | hq | hq | hq | hq | hq
  all_goals
    try have hq5 : (c == 95) = false := beq_eq_false_iff_ne.2 (by omega)
    try have hq6 : decide (c ≤ 90) = false := decide_eq_false (by omega)
    try have hq7 : decide (c ≤ 122) = false := decide_eq_false (by omega)
    try have hq8 : decide (c ≤ 57) = false := decide_eq_false (by omega)
    go_enter Tryz.func69, Tryz.ntmps69
    go_wp2
    go_ret
    exact ⟨ret_bool (by first | exact (cont_t (by omega)).symm | exact (cont_f (by omega)).symm), rfl⟩
theorem start_eq (c : Int) : startB c = (contB c && !digitB c) := by
  unfold contB startB digitB
  rw [Bool.eq_iff_iff]; simp; omega
/-- The document's scanner in memory. -/
abbrev lx (s : ByteArray) (i : Nat) (code : Int) (av : Value) : Array Value := #[.string s, .int .i64 (i : Nat), .int .i64 code, av]
abbrev Lx (W : World) (b : Nat) (s : ByteArray) (i : Nat) (code : Int) (av : Value) : Prop := Cel W b 73 (lx s i code av)
theorem q_blank (c : UInt8) : blk c = (c == 32 || c == 9) := by
  simp only [blk, blkS, List.contains_cons, List.contains_nil, Bool.or_false]
theorem dblank_any (c : UInt8) (w : World) : Calls Tryz.prog 23 #[.int .u8 (c.toNat : Nat)] w fun e w' => e = .returned (.bool (blk c)) ∧ w' = w := by
  rw [q_blank]
  by_cases c1 : c = 32
  · have q1 : ((c.toNat : Int) == 32) = true := by rw [c1]; rfl
    go_enter Tryz.func23, Tryz.ntmps23
    go_wp2_with fail
    go_ret
    exact ⟨ret_bool (by simp [c1]), rfl⟩
  · have q1 : ((c.toNat : Int) == 32) = false := byte_ne c 32 c1
    by_cases c2 : c = 9
    · have q2 : ((c.toNat : Int) == 9) = true := by rw [c2]; rfl
      go_enter Tryz.func23, Tryz.ntmps23
      go_wp2_with fail
      go_ret
      exact ⟨ret_bool (by simp [c2]), rfl⟩
    · have q2 : ((c.toNat : Int) == 9) = false := byte_ne c 9 c2
      go_enter Tryz.func23, Tryz.ntmps23
      go_wp2_with fail
      go_ret
      exact ⟨ret_bool (by simp [c1, c2]), rfl⟩
theorem byte_is (c d : UInt8) (b : Bool) (h : (c == d) = b) : ((c.toNat : Int) == (d.toNat : Int)) = b := by
  cases b with
  | false => exact byte_ne c d (by simpa using h)
  | true => rw [show c = d by simpa using h]; exact beq_self_eq_true _
theorem ends_eq (c : UInt8) : endS.contains c = (blk c || c == 10 || c == 59) := by
  rw [q_blank]
  simp only [endS, List.contains_cons, List.contains_nil, Bool.or_false, Bool.or_assoc]
set_option maxHeartbeats 2000000 in
theorem dends_any (c : UInt8) (w : World) : Calls Tryz.prog 41 #[.int .u8 (c.toNat : Nat)] w fun e w' => e = .returned (.bool (endS.contains c)) ∧ w' = w := by
  have HB : Hid _ := dblank_any c w
  rw [ends_eq]
  generalize blk c = bb at HB
  cases bb with
  | true =>
    go_enter Tryz.func41, Tryz.ntmps41
    go_wp2_with fail
    refine Calls.mono HB.out ?_
    rintro e w1 ⟨rfl, hw⟩
    obtain rfl := hw.symm
    clear hw
    go_wp2_with fail
    go_ret
    exact ⟨ret_bool (by simp), rfl⟩
  | false =>
    have q1 := byte_is c 10
    have q2 := byte_is c 59
    generalize (c == 10) = b1 at q1
    generalize (c == 59) = b2 at q2
    replace q1 : ((c.toNat : Int) == 10) = b1 := q1 b1 rfl
    replace q2 : ((c.toNat : Int) == 59) = b2 := q2 b2 rfl
    cases b1 with
    | true =>
      clear q2
      go_enter Tryz.func41, Tryz.ntmps41
      go_wp2_with fail
      refine Calls.mono HB.out ?_
      rintro e w1 ⟨rfl, hw⟩
      obtain rfl := hw.symm
      clear hw
      go_wp2_with fail
      go_ret
      exact ⟨ret_bool (by simp), rfl⟩
    | false =>
      go_enter Tryz.func41, Tryz.ntmps41
      go_wp2_with fail
      refine Calls.mono HB.out ?_
      rintro e w1 ⟨rfl, hw⟩
      obtain rfl := hw.symm
      clear hw
      go_wp2_with fail
      go_ret
      exact ⟨ret_bool (by simp), rfl⟩
/-! ### Run -/
theorem nrun_lets (s : ByteArray) (i : Nat) (hi : i < s.size) (h1 : contB ((s[i]).toNat : Int) = true) (h2 : ((s[i]).toNat : Int) < 48 ∨ 57 < ((s[i]).toNat : Int)) : nrun (s.data.toList.drop i) = (s.data.toList.drop i).takeWhile cont8 :=
  nrun_yes _ s[i] (by rw [drop_head, text_at s i hi]) (by show startB _ = true; rw [start_eq, h1, show digitB ((s[i]).toNat : Int) = false from decide_eq_false (by omega)]; rfl)
set_option maxHeartbeats 2000000 in
theorem run_yes (s : ByteArray) (i : Nat) (w : World) (hs : s.size < 1099511627776) (hi : i < s.size) (h1 : contB ((s[i]).toNat : Int) = true) (h2 : ((s[i]).toNat : Int) < 48 ∨ 57 < ((s[i]).toNat : Int)) :
    Calls Tryz.prog 55 #[.string s, .int .i64 (i : Nat)] w fun e w' => e = .returned (.int .i64 ((i + (nrun (s.data.toList.drop i)).length : Nat) : Int)) ∧ w' = w := by
  obtain ⟨r, HR⟩ : ∃ r, Hid (i + (nrun (s.data.toList.drop i)).length = r) := ⟨_, rfl⟩
  have HE : Hid ((s.data.toList.drop i).takeWhile cont8 = nrun (s.data.toList.drop i)) := (nrun_lets s i hi h1 h2).symm
  rw [HR.out]
  have hi' : (i : Int) < (s.size : Int) := by omega
  have hn : ¬ (i : Int) < 0 := by omega
  have hge : decide ((s.size : Int) ≤ (i : Int)) = false := decide_eq_false (by omega)
  have hge1 : decide (s.size ≤ i) = false := decide_eq_false (by omega)
  have hge2 : ¬ (s.size : Int) ≤ (i : Int) := by omega
  have HL : Hid (Calls Tryz.prog 69 #[.int .u8 ((s[i]).toNat : Nat)] w fun e w' => e = .returned (.bool true) ∧ w' = w) := by
    have := letter_any ((s[i]).toNat : Nat) w
    rwa [h1] at this
  have HAL : Hid (∀ k (hk : k < s.size), Calls Tryz.prog 69 #[.int .u8 ((s[k]).toNat : Nat)] w fun e w' => e = .returned (.bool (contB ((s[k]).toNat : Int))) ∧ w' = w) := fun k hk => letter_any _ w
  have hlo : decide (48 ≤ ((s[i]).toNat : Int)) = false ∨ (decide (48 ≤ ((s[i]).toNat : Int)) = true ∧ decide (((s[i]).toNat : Int) ≤ 57) = false) := by
    rcases h2 with h2 | h2
    · exact Or.inl (decide_eq_false (by omega))
    · exact Or.inr ⟨decide_eq_true (by omega), decide_eq_false (by omega)⟩
  clear h1 h2
  go_enter Tryz.func55, Tryz.ntmps55
  rcases hlo with d1 | ⟨d1, d2⟩
  all_goals
    go_wp2_with fail
    refine Calls.mono HL.out ?_
    rintro e w1 ⟨rfl, hw⟩
    obtain rfl := hw.symm
    clear hw
    go_wp2_with fail
    go_loop [5] (fun v5 => ∃ k : Nat, i ≤ k ∧ k ≤ s.size ∧ v5 = .int .i64 k ∧ Hid ((s.data.toList.drop i).takeWhile cont8 = (s.data.toList.drop i).take (k - i) ++ (s.data.toList.drop k).takeWhile cont8)) (fun v5 => s.size - (intOf v5).toNat)
    case atStart => exact ⟨i, Nat.le_refl _, by omega, rfl, by simp [Hid]⟩
    case round =>
      obtain ⟨k, hk1, hk2, rfl, HH⟩ := hrel
      have hdl : ((s.data.toList.drop i).take (k - i)).length = k - i := by rw [List.length_take, len_drop]; omega
      by_cases hlt : k < s.size
      · have hlt' : (k : Int) < (s.size : Int) := by omega
        have HLK : Hid _ := HAL.out k hlt
        cases hcb : contB ((s[k]).toNat : Int) with
        | true =>
          have HM : Hid _ := run_more s i k hk1 hlt hcb HH.out
          have HC : Hid _ := hcb
          clear hcb HH hdl
          go_wp2_with fail
          refine Calls.mono HLK.out ?_
          rintro e w1 ⟨rfl, hw⟩
          obtain rfl := hw.symm
          clear hw
          rw [HC.out]
          go_wp2_with fail
          exact ⟨⟨k + 1, by omega, by omega, by simp, HM.out⟩, by simp [intOf]; omega⟩
        | false =>
          have HRK : Hid (r = k) := by
            have e1 := HH.out
            rw [drop_cons s k hlt, List.takeWhile_cons, show cont8 s[k] = false from hcb] at e1
            have e2 := congrArg List.length e1
            rw [HE.out] at e2
            simp only [Bool.false_eq_true, if_false, List.append_nil, hdl] at e2
            have := HR.out
            unfold Hid
            omega
          have HC : Hid _ := hcb
          clear hcb HH hdl
          go_wp2_with fail
          refine Calls.mono HLK.out ?_
          rintro e w1 ⟨rfl, hw⟩
          obtain rfl := hw.symm
          clear hw
          rw [HC.out]
          go_wp2_with fail
          go_ret
          exact ⟨ret_int (by rw [HRK.out]), rfl⟩
      · have hlt' : ¬ (k : Int) < (s.size : Int) := by omega
        have HRK : Hid (r = k) := by
          have e1 := HH.out
          rw [drop_none s k (by omega)] at e1
          have e2 := congrArg List.length e1
          rw [HE.out] at e2
          simp only [List.takeWhile_nil, List.append_nil, hdl] at e2
          have := HR.out
          unfold Hid
          omega
        clear HH hdl
        go_wp2_with fail
        go_ret
        exact ⟨ret_int (by rw [HRK.out]), rfl⟩
/-- No name begins here. -/
theorem run_no (s : ByteArray) (i : Nat) (w : World) (hn : nrun (s.data.toList.drop i) = []) :
    Calls Tryz.prog 55 #[.string s, .int .i64 (i : Nat)] w fun e w' => e = .returned (.int .i64 (i : Nat)) ∧ w' = w := by
  have hn0 : ¬ (i : Int) < 0 := by omega
  by_cases hi : i < s.size
  · have hi' : (i : Int) < (s.size : Int) := by omega
    have hge : decide ((s.size : Int) ≤ (i : Int)) = false := decide_eq_false (by omega)
    have hst : startB ((s[i]).toNat : Int) = false := by
      cases h : startB ((s[i]).toNat : Int) with
      | false => rfl
      | true =>
        have h2 : start8 s[i] = true := h
        rw [drop_cons s i hi, nrun, if_pos h2, List.takeWhile_cons, show cont8 s[i] = true by show contB _ = true; rw [contB, h]; rfl] at hn
        simp at hn
    have HL : Hid (Calls Tryz.prog 69 #[.int .u8 ((s[i]).toNat : Nat)] w fun e w' => e = .returned (.bool (contB ((s[i]).toNat : Int))) ∧ w' = w) := letter_any _ w
    rw [start_eq] at hst
    cases hc : contB ((s[i]).toNat : Int) with
    | false =>
      rw [hc] at HL
      clear hst hc hn
      go_enter Tryz.func55, Tryz.ntmps55
      go_wp2_with fail
      refine Calls.mono HL.out ?_
      rintro e w1 ⟨rfl, hw⟩
      obtain rfl := hw.symm
      clear hw
      go_wp2_with fail
      go_ret
      exact ⟨rfl, rfl⟩
    | true =>
      rw [hc] at HL hst
      have hd : digitB ((s[i]).toNat : Int) = true := by simpa using hst
      have hd2 : 48 ≤ ((s[i]).toNat : Int) ∧ ((s[i]).toNat : Int) ≤ 57 := of_decide_eq_true hd
      have hd3 := hd2.1
      have hd4 := hd2.2
      clear hst hc hn hd hd2
      go_enter Tryz.func55, Tryz.ntmps55
      go_wp2_with fail
      refine Calls.mono HL.out ?_
      rintro e w1 ⟨rfl, hw⟩
      obtain rfl := hw.symm
      clear hw
      go_wp2_with fail
      go_ret
      exact ⟨rfl, rfl⟩
  · have hge : decide ((s.size : Int) ≤ (i : Int)) = true := decide_eq_true (by omega)
    clear hn
    go_enter Tryz.func55, Tryz.ntmps55
    go_wp2_with fail
    go_ret
    exact ⟨rfl, rfl⟩
/-! ### fail -/
/-- The document's number of an error. -/
def codE : Nat → Int
  | 0 => 106
  | 1 => 104
  | 2 => 103
  | 3 => 107
  | _ => 105
/-- The document's lexer met an error. -/
def Flt (W : World) (b : Nat) (s : ByteArray) (x : Er) (w' : World) : Prop := ∃ i fb, Lx w' b s i (codE x.code) (.slice (some ⟨fb, 0, none⟩) 1 1) ∧ Cel w' fb 3 #[.int .i64 (x.pos : Nat)] ∧ W.heap.size ≤ fb ∧ Turn (fun g => g = b) W w'
set_option maxRecDepth 100000 in
set_option maxHeartbeats 1000000 in
theorem fail_any {W : World} {b : Nat} {s : ByteArray} {i : Nat} {av : Value} (h : Lx W b s i 0 av) (x : Er) :
    Calls Tryz.prog 39 #[.pointer (some ⟨b, 0, none⟩), .int .i64 (codE x.code), .int .i64 (x.pos : Nat)] W fun e w' => e = .returned (.tuple #[]) ∧ Flt W b s x w' := by
  obtain ⟨c, hc⟩ : ∃ c, c = codE x.code := ⟨_, rfl⟩
  have hc0 : ¬ c = 0 := by rw [hc]; unfold codE; split <;> decide
  have HLX : Hid (Lx W b s i 0 av) := h
  have l2 : W.cell? ⟨b, 2, none⟩ = some (.int .i64 0) := h.cell 2
  have hlb := h.lt
  have HPL : Hid _ := placed_any c (x.pos : Nat) hc0 W
  rw [← hc]
  have HC : Hid (c = codE x.code) := hc
  clear h hc
  go_enter Tryz.func39, Tryz.ntmps39
  go_wp2_with fail
  refine Calls.mono HPL.out ?_
  rintro e w1 ⟨fb, rfl, hf, hfb, hb1⟩
  have HF : Hid (Cel w1 fb 3 #[.int .i64 (x.pos : Nat)]) := hf
  have HB : Hid (Below W.heap.size W w1) := hb1
  have h1 : Lx w1 b s i 0 av := HLX.out.below hb1 HLX.out.lt
  have HL1 : Hid (Lx w1 b s i 0 av) := h1
  have m2 : w1.cell? ⟨b, 2, none⟩ = some (.int .i64 0) := h1.cell 2
  have m3 : w1.cell? ⟨b, 3, none⟩ = some av := h1.cell 3
  have f2 := h1.frozen 2
  have f3 := h1.frozen 3
  clear h1 hf hb1 l2 HPL HLX
  go_wp2_with fail
  go_end0
  refine ⟨rfl, i, fb, ?_, ?_, hfb, ?_⟩
  · rw [← HC.out]; exact (HL1.out.set (j := 2) (.int .i64 c)).set (j := 3) (.slice (some ⟨fb, 0, none⟩) 1 1)
  · exact (HF.out.other (by omega) _).other (by omega) _
  · exact Turn.setCell (S := fun g => g = b) (p := ⟨b, 3, none⟩) (Turn.setCell (S := fun g => g = b) (p := ⟨b, 2, none⟩) (Turn.ofBelow HB.out) (fun _ => rfl) _) (fun _ => rfl) _
end Go.Proofs.YtlihkblllakhmaaGreatDoor
