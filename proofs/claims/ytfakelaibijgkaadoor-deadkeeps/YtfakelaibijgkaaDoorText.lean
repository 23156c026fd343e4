/- Names, closed texts, and which text a node may have. -/
import Derived.Test.YtfakelaibijgkaaDoorLeaf
namespace Go.Proofs.YtfakelaibijgkaaDoor
open Go.RowKit
attribute [local go_sem] Oper.semAt_some

theorem ret_bool {a b : Bool} (h : a = b) : Ending.returned (.bool a) = .returned (.bool b) := by rw [h]
theorem digit_any (c : Int) (w : World) : Calls Tryd.prog 72 #[.int .u8 c] w fun e w' => e = .returned (.bool (digitB c)) ∧ w' = w := by
  by_cases h1 : 48 ≤ c
  all_goals
    go_enter Tryd.func72, Tryd.ntmps72
    go_wp2_with fail
    go_ret
    exact ⟨ret_b (by simp [digitB]; omega), rfl⟩
theorem start_any (c : Int) (w : World) : Calls Tryd.prog 65 #[.int .u8 c] w fun e w' => e = .returned (.bool (startB c)) ∧ w' = w := by
  by_cases h1 : 97 ≤ c <;> by_cases h2 : c ≤ 122 <;> by_cases h3 : 65 ≤ c <;> by_cases h4 : c ≤ 90
  all_goals first | (exfalso; omega) | skip
  all_goals
    go_enter Tryd.func65, Tryd.ntmps65
    go_wp2_with fail
    go_ret
    exact ⟨ret_b (by simp [startB]; try omega), rfl⟩
theorem cont_any (c : Int) (w : World) : Calls Tryd.prog 66 #[.int .u8 c] w fun e w' => e = .returned (.bool (contB c)) ∧ w' = w := by
  cases h : startB c with
  | true =>
    go_enter Tryd.func66, Tryd.ntmps66
    go_wp2_with fail
    refine (start_any _ _).mono ?_
    rintro e w1 ⟨rfl, rfl⟩
    rw [h]
    go_wp2_with fail
    go_ret
    exact ⟨ret_bool (by simp [contB, h]), rfl⟩
  | false =>
    go_enter Tryd.func66, Tryd.ntmps66
    go_wp2_with fail
    refine (start_any _ _).mono ?_
    rintro e w1 ⟨rfl, rfl⟩
    rw [h]
    go_wp2_with fail
    refine (digit_any _ _).mono ?_
    rintro e w1 ⟨rfl, rfl⟩
    go_wp2_with fail
    go_ret
    exact ⟨ret_bool (by simp [contB, h]), rfl⟩
theorem s_get (s : ByteArray) (k : Nat) (h : k < s.size) : s.data.toList[k]? = some s[k] := by
  rw [List.getElem?_eq_getElem (by simpa using h)]
  rfl
theorem drop_cons (s : ByteArray) (k : Nat) (h : k < s.size) : s.data.toList.drop k = s[k] :: s.data.toList.drop (k + 1) := by
  rw [List.drop_eq_getElem_cons (by simpa using h)]
  rfl
theorem nonempty_of (s : ByteArray) (h : 0 < s.size) : s.toList.isEmpty = false := by
  rw [ByteArray.toList_eq]
  have hl : s.data.toList.length = s.size := by simp
  match he : s.data.toList with
  | [] => rw [he] at hl; simp at hl; omega
  | _ :: _ => rfl
theorem empty_of (s : ByteArray) (h : s.size = 0) : s = ⟨#[]⟩ := by
  obtain ⟨⟨l⟩⟩ := s
  have : l = [] := List.eq_nil_of_length_eq_zero h
  rw [this]
def allCont (l : List UInt8) : Bool := l.all cont8
theorem nameB_long (s : ByteArray) (h : 20 < s.size) : nameB s.data.toList = false := by
  have hl : s.data.toList.length = s.size := by simp
  cases hs : s.data.toList with
  | nil => rfl
  | cons b r =>
    rw [hs] at hl
    unfold nameB
    simp only [hl, decide_eq_false (show ¬ s.size ≤ 20 by omega), Bool.false_and]
theorem nameB_of (s : ByteArray) (h0 : 0 < s.size) (h : s.size ≤ 20) : nameB s.data.toList = (startB ((s[0]).toNat : Int) && allCont s.data.toList) := by
  have hl : s.data.toList.length = s.size := by simp
  have hd := drop_cons s 0 h0
  rw [List.drop_zero] at hd
  rw [hd] at hl ⊢
  unfold nameB
  simp only [hl, decide_eq_true h, Bool.true_and]
  rfl
theorem name_empty (w : World) : Calls Tryd.prog 57 #[.string ⟨#[]⟩] w fun e w' => e = .returned (.bool false) ∧ w' = w := by
  go_enter Tryd.func57, Tryd.ntmps57
  go_wp2_with fail
  go_ret
  exact ⟨rfl, rfl⟩
theorem name_long (s : ByteArray) (w : World) (h : 20 < s.size) (hne : s.toList.isEmpty = false) : Calls Tryd.prog 57 #[.string s] w fun e w' => e = .returned (.bool false) ∧ w' = w := by
  go_enter Tryd.func57, Tryd.ntmps57
  go_wp2_with fail
  go_ret
  exact ⟨rfl, rfl⟩
theorem name_other (s : ByteArray) (w : World) (h0 : 0 < s.size) (h : s.size ≤ 20) (hne : s.toList.isEmpty = false) (hst : startB ((s[0]).toNat : Int) = false) : Calls Tryd.prog 57 #[.string s] w fun e w' => e = .returned (.bool false) ∧ w' = w := by
  have HST : Hid (startB ((s[0]).toNat : Int) = false) := hst
  clear hst
  go_enter Tryd.func57, Tryd.ntmps57
  go_wp2_with fail
  refine (start_any _ _).mono ?_
  rintro e w' ⟨rfl, rfl⟩
  rw [HST.out]
  go_wp2_with fail
  go_ret
  exact ⟨rfl, rfl⟩
theorem name_start (s : ByteArray) (w : World) (h0 : 0 < s.size) (h : s.size ≤ 20) (hne : s.toList.isEmpty = false) (hst : startB ((s[0]).toNat : Int) = true) : Calls Tryd.prog 57 #[.string s] w fun e w' => e = .returned (.bool (allCont s.data.toList)) ∧ w' = w := by
  have HST : Hid (startB ((s[0]).toNat : Int) = true) := hst
  clear hst
  go_enter Tryd.func57, Tryd.ntmps57
  go_wp2_with fail
  refine (start_any _ _).mono ?_
  rintro e w' ⟨rfl, rfl⟩
  rw [HST.out]
  go_wp2_with fail
  go_loop [19] (fun v => ∃ k : Nat, k ≤ s.size ∧ v = .int .i64 k ∧ Hid (allCont s.data.toList = allCont (s.data.toList.drop k))) (fun v => s.size - (intOf v).toNat)
  case atStart => exact ⟨0, by omega, rfl, by simp [Hid]⟩
  case round =>
    obtain ⟨k, hk, rfl, hh⟩ := hrel
    by_cases hlt : k < s.size
    · have hd := drop_cons s k hlt
      cases hcb : contB ((s[k]).toNat : Int)
      · have hf : allCont s.data.toList = false := by
          rw [hh.out, hd, allCont, List.all_cons, show cont8 s[k] = false from hcb]; rfl
        have HF : Hid (allCont s.data.toList = false) := hf
        have HCB : Hid (contB ((s[k]).toNat : Int) = false) := hcb
        clear hf hcb hd hh
        go_wp2_with fail
        refine (cont_any _ _).mono ?_
        rintro e w' ⟨rfl, rfl⟩
        rw [HCB.out]
        go_wp2_with fail
        go_ret
        exact ⟨ret_bool HF.out.symm, rfl⟩
      · have hf : allCont s.data.toList = allCont (s.data.toList.drop (k + 1)) := by
          rw [hh.out, hd, allCont, List.all_cons, show cont8 s[k] = true from hcb]; rfl
        have HF : Hid (allCont s.data.toList = allCont (s.data.toList.drop (k + 1))) := hf
        have HCB : Hid (contB ((s[k]).toNat : Int) = true) := hcb
        clear hf hcb hd hh
        go_wp2_with fail
        refine (cont_any _ _).mono ?_
        rintro e w' ⟨rfl, rfl⟩
        rw [HCB.out]
        go_wp2_with fail
        exact ⟨⟨k + 1, by omega, by simp, HF.out⟩, by simp [intOf]; omega⟩
    · have hf : allCont s.data.toList = true := by
        rw [hh.out, List.drop_of_length_le (by simp; omega)]; rfl
      have HF : Hid (allCont s.data.toList = true) := hf
      clear hf hh
      go_wp2_with fail
      go_ret
      exact ⟨ret_bool HF.out.symm, rfl⟩
theorem name_any (s : ByteArray) (w : World) : Calls Tryd.prog 57 #[.string s] w fun e w' => e = .returned (.bool (nameB s.data.toList)) ∧ w' = w := by
  by_cases h0 : s.size = 0
  · rw [empty_of s h0]; exact name_empty w
  · have h1 : 0 < s.size := by omega
    have hne := nonempty_of s h1
    by_cases h : s.size ≤ 20
    · rw [nameB_of s h1 h]
      cases hst : startB ((s[0]).toNat : Int)
      · exact name_other s w h1 h hne hst
      · exact name_start s w h1 h hne hst
    · rw [nameB_long s (by omega)]
      exact name_long s w (by omega) hne

/-! ### closed texts -/
def tail92 (l : List UInt8) : Nat := (l.reverse.takeWhile (· == 92)).length
theorem tail92_le (l : List UInt8) : tail92 l ≤ l.length := by
  unfold tail92
  have := (List.takeWhile_sublist (l := l.reverse) (· == 92)).length_le
  simpa using this
theorem tail92_snoc (l : List UInt8) (c : UInt8) : tail92 (l ++ [c]) = if c = 92 then tail92 l + 1 else 0 := by
  unfold tail92
  rw [List.reverse_append, List.reverse_singleton, List.singleton_append, List.takeWhile_cons]
  by_cases h : c = 92 <;> simp [h]
theorem take_snoc (s : ByteArray) (k : Nat) (h : k < s.size) : s.data.toList.take (k + 1) = s.data.toList.take k ++ [s[k]] := by
  rw [List.take_add_one, s_get s k h]
  rfl
theorem extract_z (s : ByteArray) (k : Nat) (h : k ≤ s.size) : (s.extract 0 k).size = k := by rw [ByteArray.size_extract]; omega
theorem extract_at (s : ByteArray) (k j : Nat) (h : k ≤ s.size) (hj : j < k) : (s.extract 0 k)[j]'(by rw [extract_z s k h]; exact hj) = s[j]'(by omega) := by
  simp [ByteArray.getElem_extract]
theorem extract_two (s : ByteArray) (k j : Nat) (hj : j ≤ k) : (s.extract 0 k).extract 0 j = s.extract 0 j := by
  rw [ByteArray.extract_extract]
  congr 1 <;> omega
set_option maxHeartbeats 400000 in
theorem trim_byte (s : ByteArray) (hs : s.size < 4611686018427387904) (w : World) : Calls Tryd.prog 68 #[.string s, .int .u8 92] w fun e w' => e = .returned (.string (s.extract 0 (s.size - tail92 s.data.toList))) ∧ w' = w := by
  have e0 : s = s.extract 0 s.size := by simp
  have hle : tail92 s.data.toList ≤ s.size := by have := tail92_le s.data.toList; simpa using this
  go_enter Tryd.func68, Tryd.ntmps68
  go_wp2_with fail
  go_loop [0] (fun v => ∃ k : Nat, k ≤ s.size ∧ v = .string (s.extract 0 k) ∧ Hid (tail92 s.data.toList = tail92 (s.data.toList.take k) + (s.size - k))) (fun v => match v with | .string t => t.size | _ => 0)
  case atStart => exact ⟨s.size, by omega, by rw [← e0], by rw [List.take_of_length_le (by simp)]; simp [Hid]⟩
  case round =>
    obtain ⟨k, hk, rfl, hh⟩ := hrel
    clear e0
    have hz := extract_z s k hk
    by_cases h0 : 0 < k
    · obtain ⟨j, rfl⟩ : ∃ j, k = j + 1 := ⟨k - 1, by omega⟩
      have hx := extract_at s (j + 1) j hk (by omega)
      have HT : Hid (tail92 (s.data.toList.take (j + 1)) = if s[j] = 92 then tail92 (s.data.toList.take j) + 1 else 0) := by rw [take_snoc s j (by omega)]; exact tail92_snoc _ _
      have hxe : (s.extract 0 (j + 1)).extract 0 j = s.extract 0 j := extract_two s (j + 1) j (by omega)
      by_cases hc : s[j] = 92
      · go_wp2_with fail
        refine ⟨⟨j, by omega, rfl, ?_⟩, ?_⟩
        · have := HT.out
          rw [if_pos hc] at this
          have h1 := hh.out
          show tail92 s.data.toList = _
          omega
        · show (s.extract 0 j).size < (s.extract 0 (j + 1)).size
          rw [hz, extract_z s j (by omega)]
          omega
      · have hcn : ¬ ((s[j]).toNat : Int) = 92 := by intro h; apply hc; apply UInt8.toNat_inj.1; have : (92 : UInt8).toNat = 92 := rfl; omega
        go_wp2_with fail
        go_ret
        refine ⟨?_, rfl⟩
        have h1 := hh.out
        have := HT.out
        rw [if_neg hc] at this
        show Ending.returned (.string (s.extract 0 (j + 1))) = _
        rw [show s.size - tail92 s.data.toList = j + 1 by omega]
    · obtain rfl : k = 0 := by omega
      have h1 := hh.out
      have h2 : tail92 (s.data.toList.take 0) = 0 := rfl
      have h3 : s.size - tail92 s.data.toList = 0 := by omega
      have H3 : Hid (s.size - tail92 s.data.toList = 0) := h3
      clear h1 h2 h3 hh
      go_wp2_with fail
      go_ret
      refine ⟨?_, rfl⟩
      rw [H3.out]
      simp
set_option maxRecDepth 100000 in
theorem trimRight_any (s : ByteArray) (hs : s.size < 4611686018427387904) (w : World) : Calls Tryd.prog 64 #[.string s, .string ⟨#[92]⟩] w fun e w' => e = .returned (.string (s.extract 0 (s.size - tail92 s.data.toList))) ∧ w' = w := by
  by_cases h0 : s.size = 0
  · obtain rfl := empty_of s h0
    clear h0 hs
    go_enter Tryd.func64, Tryd.ntmps64
    go_wp2_with fail
    go_ret
    exact ⟨rfl, rfl⟩
  · have hne := nonempty_of s (by omega)
    go_enter Tryd.func64, Tryd.ntmps64
    go_wp2_with fail
    refine (trim_byte s hs _).mono ?_
    rintro e w1 ⟨rfl, rfl⟩
    go_wp2_with fail
    go_ret
    exact ⟨rfl, rfl⟩
theorem closed_any (s : ByteArray) (hs : s.size < 4611686018427387904) (w : World) : Calls Tryd.prog 56 #[.string s] w fun e w' => e = .returned (.bool (closedL s.data.toList)) ∧ w' = w := by
  have hle : tail92 s.data.toList ≤ s.size := by have := tail92_le s.data.toList; simpa using this
  have hz := extract_z s (s.size - tail92 s.data.toList) (by omega)
  have hcl : closedL s.data.toList = decide (tail92 s.data.toList % 2 = 0) := rfl
  rw [hcl]
  have hT := trimRight_any s hs
  obtain ⟨m, hm⟩ : ∃ m, tail92 s.data.toList = m := ⟨_, rfl⟩
  rw [hm] at hle hz ⊢
  have HT : Hid (∀ w : World, Calls Tryd.prog 64 #[.string s, .string ⟨#[92]⟩] w fun e w' => e = .returned (.string (s.extract 0 (s.size - m))) ∧ w' = w) := by rw [hm] at hT; exact hT
  clear hT hm hcl
  go_enter Tryd.func56, Tryd.ntmps56
  go_wp2_with fail
  refine (HT.out _).mono ?_
  rintro e w1 ⟨rfl, rfl⟩
  go_wp2_with fail
  go_ret
  exact ⟨ret_b (by simp; omega), rfl⟩
theorem str_size (s : Txt) : (⟨s.toArray⟩ : ByteArray).size = s.length := by simp [ByteArray.size]
theorem string_any (x : Nd) (hs : x.s.length < 4611686018427387904) (w : World) : Calls Tryd.prog 36 #[ndV x] w fun e w' => e = .returned (.bool (strB x.kind x.n x.s)) ∧ Below w.heap.size w w' := by
  obtain ⟨kd, n, k, sz, s⟩ := x
  have hz := str_size s
  have HS : Hid (s.length < 4611686018427387904) := hs
  clear hs
  by_cases h1 : kd = 1
  · subst h1
    by_cases hl : s.length ≤ 2000
    · by_cases hn : n = 0
      · subst hn
        go_enter Tryd.func36, Tryd.ntmps36
        go_wp2_with fail
        go_ret
        exact ⟨ret_b (by simp [strB, hl]), below_new _ _⟩
      · go_enter Tryd.func36, Tryd.ntmps36
        go_wp2_with fail
        refine (closed_any _ (by rw [hz]; exact HS.out) _).mono ?_
        rintro e w1 ⟨rfl, hw1⟩
        subst hw1
        go_wp2_with fail
        go_ret
        exact ⟨ret_b (by simp [strB, hl, hn]), below_new _ _⟩
    · go_enter Tryd.func36, Tryd.ntmps36
      go_wp2_with fail
      go_ret
      exact ⟨ret_b (by simp [strB, hl]), below_new _ _⟩
  by_cases h2 : kd = 2
  · subst h2
    by_cases he : s = [42]
    · subst he
      go_enter Tryd.func36, Tryd.ntmps36
      go_wp2_with fail
      go_ret
      exact ⟨ret_b (by simp [strB]), below_new _ _⟩
    · go_enter Tryd.func36, Tryd.ntmps36
      go_wp2_with fail
      refine (name_any _ _).mono ?_
      rintro e w1 ⟨rfl, hw1⟩
      subst hw1
      go_wp2_with fail
      go_ret
      exact ⟨ret_b (by simp [strB, he]), below_new _ _⟩
  by_cases h3 : kd = 22 ∨ kd = 29 ∨ kd = 35 ∨ kd = 31
  · rcases h3 with rfl | rfl | rfl | rfl
    all_goals
      go_enter Tryd.func36, Tryd.ntmps36
      go_wp2_with fail
      refine (name_any _ _).mono ?_
      rintro e w1 ⟨rfl, hw1⟩
      subst hw1
      go_wp2_with fail
      go_ret
      exact ⟨ret_b (by simp [strB]), below_new _ _⟩
  simp only [not_or] at h3
  obtain ⟨a1, a2, a3, a4⟩ := h3
  go_enter Tryd.func36, Tryd.ntmps36
  go_wp2_with fail
  go_ret
  exact ⟨ret_b (by simp [strB, h1, h2, a1, a2, a3, a4]), below_new _ _⟩
end Go.Proofs.YtfakelaibijgkaaDoor
