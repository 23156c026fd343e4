/- The document's own lexer: its small functions. -/
import Derived.Test.YtddekcohfbnmbaaDoorSee
import Derived.Test.YtddekcohfbnmbaaDoorRd6
import Derived.Test.YtddekcohfbnmbaaDoorPureO
import Derived.Deep.DeepCutAuto
namespace Go.Proofs.YtddekcohfbnmbaaDoor
open Go.RowKit
attribute [local go_sem] Oper.semAt_some

theorem parts9 (c : Int) : c < 48 ∨ (48 ≤ c ∧ c ≤ 57) ∨ (57 < c ∧ c < 65) ∨ (65 ≤ c ∧ c ≤ 90) ∨ (90 < c ∧ c < 95) ∨ c = 95 ∨ c = 96 ∨ (97 ≤ c ∧ c ≤ 122) ∨ 122 < c := by omega
theorem cont_t {c : Int} (h : (97 ≤ c ∧ c ≤ 122) ∨ (65 ≤ c ∧ c ≤ 90) ∨ c = 95 ∨ (48 ≤ c ∧ c ≤ 57)) : contB c = true := by
  unfold contB startB digitB; simp; omega
theorem cont_f {c : Int} (h : ¬ ((97 ≤ c ∧ c ≤ 122) ∨ (65 ≤ c ∧ c ≤ 90) ∨ c = 95 ∨ (48 ≤ c ∧ c ≤ 57))) : contB c = false := by
  unfold contB startB digitB; simp; omega
set_option maxHeartbeats 1000000 in
theorem letter_any (c : Int) (w : World) :
    Calls Tryd.prog 34 #[.int .u8 c] w fun e w' => e = .returned (.bool (contB c)) ∧ w' = w := by
  rcases parts9 c with hq | hq | hq | hq | hq | hq | hq | hq | hq
  all_goals
    try have hq5 : (c == 95) = false := beq_eq_false_iff_ne.2 (by omega)
    try have hq6 : decide (c ≤ 90) = false := decide_eq_false (by omega)
    try have hq7 : decide (c ≤ 122) = false := decide_eq_false (by omega)
    try have hq8 : decide (c ≤ 57) = false := decide_eq_false (by omega)
    go_enter Tryd.func34, Tryd.ntmps34
    go_wp2
    go_ret
    exact ⟨ret_bool (by first | exact (cont_t (by omega)).symm | exact (cont_f (by omega)).symm), rfl⟩
theorem start_eq (c : Int) : startB c = (contB c && !digitB c) := by
  unfold contB startB digitB
  rw [Bool.eq_iff_iff]; simp; omega
theorem rblank_any (c : UInt8) (w : World) : Calls Tryd.prog 35 #[.int .u8 (c.toNat : Nat)] w fun e w' => e = .returned (.bool (c == 32 || c == 9 || c == 10)) ∧ w' = w := by
  by_cases c1 : c = 32
  · have q1 : ((c.toNat : Int) == 32) = true := by rw [c1]; rfl
    go_enter Tryd.func35, Tryd.ntmps35
    go_wp2_with fail
    go_ret
    exact ⟨ret_bool (by simp [c1]), rfl⟩
  · have q1 : ((c.toNat : Int) == 32) = false := byte_ne c 32 c1
    by_cases c2 : c = 9
    · have q2 : ((c.toNat : Int) == 9) = true := by rw [c2]; rfl
      go_enter Tryd.func35, Tryd.ntmps35
      go_wp2_with fail
      go_ret
      exact ⟨ret_bool (by simp [c2]), rfl⟩
    · have q2 : ((c.toNat : Int) == 9) = false := byte_ne c 9 c2
      by_cases c3 : c = 10
      · have q3 : ((c.toNat : Int) == 10) = true := by rw [c3]; rfl
        go_enter Tryd.func35, Tryd.ntmps35
        go_wp2_with fail
        go_ret
        exact ⟨ret_bool (by simp [c3]), rfl⟩
      · have q3 : ((c.toNat : Int) == 10) = false := byte_ne c 10 c3
        go_enter Tryd.func35, Tryd.ntmps35
        go_wp2_with fail
        go_ret
        exact ⟨ret_bool (by simp [c1, c2, c3]), rfl⟩
theorem byte_is (c d : UInt8) (b : Bool) (h : (c == d) = b) : ((c.toNat : Int) == (d.toNat : Int)) = b := by
  cases b with
  | false => exact byte_ne c d (by simpa using h)
  | true => rw [show c = d by simpa using h]; exact beq_self_eq_true _
theorem len_drop' (s : ByteArray) (k : Nat) : (s.data.toList.drop k).length = s.size - k := by rw [List.length_drop]; simp
theorem drop_out (s : ByteArray) (k : Nat) (h : s.size ≤ k) : s.data.toList.drop k = [] := drop_none s k (by omega)
/-! ### InWord -/
abbrev spec : List UInt8 := [59, 38, 124, 40, 41, 123, 125, 60, 62, 94, 61, 33, 36, 96, 39, 35]
theorem spec_none (c : UInt8) (k : Nat) (h : (spec.take k).contains c = false) (hk : k < 16) (hc : (spec[k]?).getD 0 ≠ c) : (spec.take (k + 1)).contains c = false := by
  rw [List.take_add_one, List.contains_eq_any_beq, List.any_append, ← List.contains_eq_any_beq, h]
  have : spec[k]? = some (spec[k]'hk) := List.getElem?_eq_getElem _
  rw [this] at hc ⊢
  simpa using fun e => hc e.symm
theorem spec_yes (c : UInt8) (k : Nat) (hk : k < 16) (hc : (spec[k]?).getD 0 = c) : spec.contains c = true := by
  have : spec[k]? = some (spec[k]'hk) := List.getElem?_eq_getElem _
  rw [this] at hc
  rw [← show spec[k]'hk = c from hc]
  simp only [List.contains_iff_mem]
  exact List.getElem_mem _
abbrev specA : ByteArray := ⟨#[59, 38, 124, 40, 41, 123, 125, 60, 62, 94, 61, 33, 36, 96, 39, 35]⟩
set_option maxRecDepth 100000 in
set_option maxHeartbeats 2000000 in
theorem inWordR_any (c : UInt8) (w : World) : Calls Tryd.prog 21 #[.int .u8 (c.toNat : Nat)] w fun e w' => e = .returned (.bool (inW c)) ∧ w' = w := by
  have HB : Hid _ := rblank_any c w
  cases hbl : (c == 32 || c == 9 || c == 10) with
  | true =>
    rw [hbl] at HB
    have HE : Hid (inW c = false) := by unfold Hid inW; rw [hbl]; rfl
    rw [HE.out]
    clear hbl HE
    go_enter Tryd.func21, Tryd.ntmps21
    go_wp2_with fail
    refine Calls.mono HB.out ?_
    rintro e w1 ⟨rfl, hw⟩
    obtain rfl := hw.symm
    clear hw
    go_wp2_with fail
    go_ret
    exact ⟨rfl, rfl⟩
  | false =>
    rw [hbl] at HB
    have HE : Hid (inW c = !(spec.contains c)) := by unfold Hid inW; rw [hbl]; rfl
    rw [HE.out]
    obtain ⟨r, HR⟩ : ∃ r, Hid (spec.contains c = r) := ⟨_, rfl⟩
    rw [HR.out]
    clear hbl HE
    go_enter Tryd.func21, Tryd.ntmps21
    go_wp2_with fail
    refine Calls.mono HB.out ?_
    rintro e w1 ⟨rfl, hw⟩
    obtain rfl := hw.symm
    clear hw
    go_wp2_with fail
    generalize hz0 : (⟨#[59, 38, 124, 40, 41, 123, 125, 60, 62, 94, 61, 33, 36, 96, 39, 35]⟩ : ByteArray) = z
    have HZ : Hid (z.data.toList = spec) := by rw [← hz0]; rfl
    have hz : z.size = 16 := by rw [← hz0]; rfl
    clear hz0
    go_loop [4] (fun v4 => ∃ (k : Nat), v4 = .int .i64 (k : Nat) ∧ k ≤ 16 ∧ Hid ((spec.take k).contains c = false)) (fun v4 => 16 - (intOf v4).toNat)
    case atStart => exact ⟨0, rfl, by omega, rfl⟩
    case round =>
      obtain ⟨k, rfl, hk, HN⟩ := hrel
      by_cases hlt : k < 16
      · have hlt' : (k : Int) < 16 := by omega
        have hlz : k < z.size := by omega
        have hzk : (spec[k]?).getD 0 = z[k] := by rw [← HZ.out, text_at z k hlz]; rfl
        by_cases hc : z[k] = c
        · have q1 : (((z[k]).toNat : Int) == (c.toNat : Int)) = true := by rw [hc]; exact beq_self_eq_true _
          have HRR : Hid (r = true) := by rw [← HR.out]; exact spec_yes c k hlt (hzk.trans hc)
          clear hc hzk
          have hz' : ((z.size : Nat) : Int) = 16 := by omega
          go_wp2_with fail
          go_ret
          exact ⟨ret_bool (by rw [HRR.out]; rfl), rfl⟩
        · have q1 : (((z[k]).toNat : Int) == (c.toNat : Int)) = false := byte_ne _ _ hc
          have HN2 : Hid ((spec.take (k + 1)).contains c = false) := spec_none c k HN.out hlt (by rw [hzk]; exact hc)
          clear hc hzk HN
          have hz' : ((z.size : Nat) : Int) = 16 := by omega
          go_wp2_with fail
          exact ⟨⟨k + 1, by simp, by omega, HN2.out⟩, by simp [intOf]; omega⟩
      · have hlt' : ¬ (k : Int) < 16 := by omega
        have HRR : Hid (r = false) := by
          have := HN.out
          rw [List.take_of_length_le (by show 16 ≤ k; omega)] at this
          rw [← HR.out]; exact this
        have hz' : ((z.size : Nat) : Int) = 16 := by omega
        clear HN
        go_wp2_with fail
        go_ret
        exact ⟨ret_bool (by rw [HRR.out]; rfl), rfl⟩
/-! ### operators -/
theorem pre_yes (s t : ByteArray) (i : Nat) : ((s.extract i (i + t.size)).toList == t.toList) = t.data.toList.isPrefixOf (s.data.toList.drop i) := by
  rw [ByteArray.toList_eq, ByteArray.toList_eq, Lib.extract_eq, Bool.eq_iff_iff, beq_iff_eq, List.isPrefixOf_iff_prefix, List.prefix_iff_eq_take]
  have hl : t.data.toList.length = t.size := by rw [Array.length_toList]; rfl
  rw [hl, show i + t.size - i = t.size by omega]
  exact eq_comm
theorem pre_nay (s t : ByteArray) (i : Nat) (h : ¬ i + t.size ≤ s.size) (h0 : 0 < t.size) : t.data.toList.isPrefixOf (s.data.toList.drop i) = false := by
  rw [Bool.eq_false_iff, ne_eq, List.isPrefixOf_iff_prefix]
  intro hp
  have := hp.length_le
  have hl : t.data.toList.length = t.size := by rw [Array.length_toList]; rfl
  rw [hl, len_drop'] at this
  omega
/-! ### Run -/
theorem nrun_lets (s : ByteArray) (i : Nat) (hi : i < s.size) (h1 : contB ((s[i]).toNat : Int) = true) (h2 : ((s[i]).toNat : Int) < 48 ∨ 57 < ((s[i]).toNat : Int)) : nrun (s.data.toList.drop i) = (s.data.toList.drop i).takeWhile cont8 :=
  nrun_yes _ s[i] (by rw [drop_head, text_at s i hi]) (by show startB _ = true; rw [start_eq, h1, show digitB ((s[i]).toNat : Int) = false from decide_eq_false (by omega)]; rfl)
set_option maxHeartbeats 2000000 in
theorem run_yes (s : ByteArray) (i : Nat) (w : World) (hs : s.size < 1099511627776) (hi : i < s.size) (h1 : contB ((s[i]).toNat : Int) = true) (h2 : ((s[i]).toNat : Int) < 48 ∨ 57 < ((s[i]).toNat : Int)) :
    Calls Tryd.prog 20 #[.string s, .int .i64 (i : Nat)] w fun e w' => e = .returned (.int .i64 ((i + (nrun (s.data.toList.drop i)).length : Nat) : Int)) ∧ w' = w := by
  obtain ⟨r, HR⟩ : ∃ r, Hid (i + (nrun (s.data.toList.drop i)).length = r) := ⟨_, rfl⟩
  have HE : Hid ((s.data.toList.drop i).takeWhile cont8 = nrun (s.data.toList.drop i)) := (nrun_lets s i hi h1 h2).symm
  rw [HR.out]
  have hi' : (i : Int) < (s.size : Int) := by omega
  have hn : ¬ (i : Int) < 0 := by omega
  have hge : decide ((s.size : Int) ≤ (i : Int)) = false := decide_eq_false (by omega)
  have hge1 : decide (s.size ≤ i) = false := decide_eq_false (by omega)
  have hge2 : ¬ (s.size : Int) ≤ (i : Int) := by omega
  have HL : Hid (Calls Tryd.prog 34 #[.int .u8 ((s[i]).toNat : Nat)] w fun e w' => e = .returned (.bool true) ∧ w' = w) := by
    have := letter_any ((s[i]).toNat : Nat) w
    rwa [h1] at this
  have HAL : Hid (∀ k (hk : k < s.size), Calls Tryd.prog 34 #[.int .u8 ((s[k]).toNat : Nat)] w fun e w' => e = .returned (.bool (contB ((s[k]).toNat : Int))) ∧ w' = w) := fun k hk => letter_any _ w
  have hlo : decide (48 ≤ ((s[i]).toNat : Int)) = false ∨ (decide (48 ≤ ((s[i]).toNat : Int)) = true ∧ decide (((s[i]).toNat : Int) ≤ 57) = false) := by
    rcases h2 with h2 | h2
    · exact Or.inl (decide_eq_false (by omega))
    · exact Or.inr ⟨decide_eq_true (by omega), decide_eq_false (by omega)⟩
  clear h1 h2
  go_enter Tryd.func20, Tryd.ntmps20
  rcases hlo with d1 | ⟨d1, d2⟩
  all_goals
    go_wp2_with fail
    refine Calls.mono HL.out ?_
    rintro e w1 ⟨rfl, hw⟩
    obtain rfl := hw.symm
    clear hw
    go_wp2_with fail
    go_loop [5] (fun v5 => ∃ k : Nat, i ≤ k ∧ k ≤ s.size ∧ v5 = .int .i64 k ∧ Hid ((s.data.toList.drop i).takeWhile cont8 = (s.data.toList.drop i).take (k - i) ++ (s.data.toList.drop k).takeWhile cont8)) (fun v5 => s.size - (intOf v5).toNat)
    case atStart => exact ⟨i, Nat.le_refl _, by omega, rfl, by simp [Hid]⟩
    case round =>
      obtain ⟨k, hk1, hk2, rfl, HH⟩ := hrel
      have hdl : ((s.data.toList.drop i).take (k - i)).length = k - i := by rw [List.length_take, len_drop']; omega
      by_cases hlt : k < s.size
      · have hlt' : (k : Int) < (s.size : Int) := by omega
        have HLK : Hid _ := HAL.out k hlt
        cases hcb : contB ((s[k]).toNat : Int) with
        | true =>
          have HM : Hid _ := run_more s i k hk1 hlt hcb HH.out
          have HC : Hid _ := hcb
          clear hcb HH hdl
          go_wp2_with fail
          refine Calls.mono HLK.out ?_
          rintro e w1 ⟨rfl, hw⟩
          obtain rfl := hw.symm
          clear hw
          rw [HC.out]
          go_wp2_with fail
          exact ⟨⟨k + 1, by omega, by omega, by simp, HM.out⟩, by simp [intOf]; omega⟩
        | false =>
          have HRK : Hid (r = k) := by
            have e1 := HH.out
            rw [drop_cons s k hlt, List.takeWhile_cons, show cont8 s[k] = false from hcb] at e1
            have e2 := congrArg List.length e1
            rw [HE.out] at e2
            simp only [Bool.false_eq_true, if_false, List.append_nil, hdl] at e2
            have := HR.out
            unfold Hid
            omega
          have HC : Hid _ := hcb
          clear hcb HH hdl
          go_wp2_with fail
          refine Calls.mono HLK.out ?_
          rintro e w1 ⟨rfl, hw⟩
          obtain rfl := hw.symm
          clear hw
          rw [HC.out]
          go_wp2_with fail
          go_ret
          exact ⟨ret_int (by rw [HRK.out]), rfl⟩
      · have hlt' : ¬ (k : Int) < (s.size : Int) := by omega
        have HRK : Hid (r = k) := by
          have e1 := HH.out
          rw [drop_out s k (by omega)] at e1
          have e2 := congrArg List.length e1
          rw [HE.out] at e2
          simp only [List.takeWhile_nil, List.append_nil, hdl] at e2
          have := HR.out
          unfold Hid
          omega
        clear HH hdl
        go_wp2_with fail
        go_ret
        exact ⟨ret_int (by rw [HRK.out]), rfl⟩
/-- No name begins here. -/
theorem run_no (s : ByteArray) (i : Nat) (w : World) (hn : nrun (s.data.toList.drop i) = []) :
    Calls Tryd.prog 20 #[.string s, .int .i64 (i : Nat)] w fun e w' => e = .returned (.int .i64 (i : Nat)) ∧ w' = w := by
  have hn0 : ¬ (i : Int) < 0 := by omega
  by_cases hi : i < s.size
  · have hi' : (i : Int) < (s.size : Int) := by omega
    have hge : decide ((s.size : Int) ≤ (i : Int)) = false := decide_eq_false (by omega)
    have hst : startB ((s[i]).toNat : Int) = false := by
      cases h : startB ((s[i]).toNat : Int) with
      | false => rfl
      | true =>
        have h2 : start8 s[i] = true := h
        rw [drop_cons s i hi, nrun, if_pos h2, List.takeWhile_cons, show cont8 s[i] = true by show contB _ = true; rw [contB, h]; rfl] at hn
        simp at hn
    have HL : Hid (Calls Tryd.prog 34 #[.int .u8 ((s[i]).toNat : Nat)] w fun e w' => e = .returned (.bool (contB ((s[i]).toNat : Int))) ∧ w' = w) := letter_any _ w
    rw [start_eq] at hst
    cases hc : contB ((s[i]).toNat : Int) with
    | false =>
      rw [hc] at HL
      clear hst hc hn
      go_enter Tryd.func20, Tryd.ntmps20
      go_wp2_with fail
      refine Calls.mono HL.out ?_
      rintro e w1 ⟨rfl, hw⟩
      obtain rfl := hw.symm
      clear hw
      go_wp2_with fail
      go_ret
      exact ⟨rfl, rfl⟩
    | true =>
      rw [hc] at HL hst
      have hd : digitB ((s[i]).toNat : Int) = true := by simpa using hst
      have hd2 : 48 ≤ ((s[i]).toNat : Int) ∧ ((s[i]).toNat : Int) ≤ 57 := of_decide_eq_true hd
      have hd3 := hd2.1
      have hd4 := hd2.2
      clear hst hc hn hd hd2
      go_enter Tryd.func20, Tryd.ntmps20
      go_wp2_with fail
      refine Calls.mono HL.out ?_
      rintro e w1 ⟨rfl, hw⟩
      obtain rfl := hw.symm
      clear hw
      go_wp2_with fail
      go_ret
      exact ⟨rfl, rfl⟩
  · have hge : decide ((s.size : Int) ≤ (i : Int)) = true := decide_eq_true (by omega)
    clear hn
    go_enter Tryd.func20, Tryd.ntmps20
    go_wp2_with fail
    go_ret
    exact ⟨rfl, rfl⟩
/-- The document's number of an error. -/
def codE : Nat → Int
  | 0 => 106
  | 1 => 104
  | 2 => 103
  | _ => 107
abbrev opsTV : Array Value := #[str [60, 60, 60], str [38, 38], str [124, 124], str [62, 62], str [96, 123], str [10], str [59], str [124], str [40], str [41], str [123], str [125], str [60], str [62], str [94], str [61], str [33]]
abbrev opsKV : Array Value := #[.int .i64 14, .int .i64 3, .int .i64 4, .int .i64 13, .int .i64 10, .int .i64 1, .int .i64 2, .int .i64 5, .int .i64 6, .int .i64 7, .int .i64 8, .int .i64 9, .int .i64 11, .int .i64 12, .int .i64 15, .int .i64 16, .int .i64 17]
set_option maxRecDepth 100000 in
theorem operators_any (W : World) : Calls Tryd.prog 19 #[] W fun e w' => e = .returned (.tuple #[.slice (some ⟨W.heap.size, 0, none⟩) 17 17, .slice (some ⟨W.heap.size + 1, 0, none⟩) 17 17]) ∧ w' = (W.alloc (.cells opsTV 9)).alloc (.cells opsKV 3) := by
  go_enter Tryd.func19, Tryd.ntmps19
  go_wp2_with fail
  go_ret2
  exact ⟨rfl, rfl⟩
theorem ops_at (k : Nat) (hk : k < 17) : opsTV[k]? = some (str ((opsT[k]?).getD [])) ∧ opsKV[k]? = some (.int .i64 (((opsK[k]?).getD 0 : Nat) : Int)) := by
  match k, hk with
  | 0, _ => exact ⟨rfl, rfl⟩
  | 1, _ => exact ⟨rfl, rfl⟩
  | 2, _ => exact ⟨rfl, rfl⟩
  | 3, _ => exact ⟨rfl, rfl⟩
  | 4, _ => exact ⟨rfl, rfl⟩
  | 5, _ => exact ⟨rfl, rfl⟩
  | 6, _ => exact ⟨rfl, rfl⟩
  | 7, _ => exact ⟨rfl, rfl⟩
  | 8, _ => exact ⟨rfl, rfl⟩
  | 9, _ => exact ⟨rfl, rfl⟩
  | 10, _ => exact ⟨rfl, rfl⟩
  | 11, _ => exact ⟨rfl, rfl⟩
  | 12, _ => exact ⟨rfl, rfl⟩
  | 13, _ => exact ⟨rfl, rfl⟩
  | 14, _ => exact ⟨rfl, rfl⟩
  | 15, _ => exact ⟨rfl, rfl⟩
  | 16, _ => exact ⟨rfl, rfl⟩
  | _ + 17, h => exact absurd h (by omega)
end Go.Proofs.YtddekcohfbnmbaaDoor
