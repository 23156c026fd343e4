/- What Slice, Has, the two Names and Parse answer, and what they leave of the world. -/
import Derived.Test.YtnapmbemoppfbaaDoorPlace
namespace Go.Proofs.YtnapmbemoppfbaaDoor
open Go.RowKit

theorem ret_str {a b : ByteArray} (h : a = b) : Ending.returned (.string a) = .returned (.string b) := by rw [h]

set_option maxHeartbeats 400000 in
theorem slice_any (b : Nat) (s : ByteArray) (i j : Int) (w : World) (hc : w.cell? ⟨b, 0, none⟩ = some (.string s)) :
    Calls Tryd.prog 16 #[.pointer (some ⟨b, 0, none⟩), .int .i64 i, .int .i64 j] w fun e w' => e = .returned (.string (sliceOf s i j)) ∧ w' = w := by
  have e0 : sliceOf s i j = s.extract (min (max i 0) s.size).toNat (min (max j 0) s.size).toNat := rfl
  have h1 : 0 ≤ min (max i 0) (s.size : Int) ∧ min (max i 0) (s.size : Int) ≤ s.size := by omega
  have h2 : 0 ≤ min (max j 0) (s.size : Int) ∧ min (max j 0) (s.size : Int) ≤ s.size := by omega
  obtain ⟨a, ha⟩ := Int.eq_ofNat_of_zero_le h1.1
  obtain ⟨c, hd⟩ := Int.eq_ofNat_of_zero_le h2.1
  rw [ha] at h1; rw [hd] at h2
  rw [e0, ha, hd]
  have HA : Hid _ := ha
  have HD : Hid _ := hd
  clear ha hd e0
  simp only [Int.toNat_natCast]
  by_cases h : c ≤ a
  all_goals
    go_enter Tryd.func16, Tryd.ntmps16
    go_wp2_with (first | (go_at_call 31; refine (within_any _ _ _ _ hc).mono ?_; rintro e w' ⟨rfl, rfl⟩; first | rw [HA.out] | rw [HD.out]))
    go_ret
    first | exact ⟨rfl, rfl⟩ | exact ⟨ret_str (extract_none _ _ _ h).symm, rfl⟩

set_option maxHeartbeats 400000 in
theorem prefix_any (s p : ByteArray) (w : World) :
    Calls Tryd.prog 39 #[.string s, .string p] w fun e w' => e = .returned (.bool (Lib.hasPrefix s.data.toList p.data.toList)) ∧ w' = w := by
  rw [← Lib.hasPrefix_raw]
  by_cases h : p.size ≤ s.size
  all_goals
    go_enter Tryd.func39, Tryd.ntmps39
    go_wp2
    go_ret
    exact ⟨ret_bool (by simp [h]), rfl⟩

set_option maxHeartbeats 400000 in
theorem hasPrefix_any (s p : ByteArray) (w : World) :
    Calls Tryd.prog 32 #[.string s, .string p] w fun e w' => e = .returned (.bool (Lib.hasPrefix s.data.toList p.data.toList)) ∧ w' = w := by
  go_enter Tryd.func32, Tryd.ntmps32
  go_wp2_with (go_at_call 39; refine (prefix_any _ _ _).mono ?_; rintro e w' ⟨rfl, rfl⟩)
  go_ret
  exact ⟨rfl, rfl⟩

set_option maxHeartbeats 400000 in
theorem has_yes (b : Nat) (s t : ByteArray) (k : Nat) (w : World) (hc : w.cell? ⟨b, 0, none⟩ = some (.string s)) (hk : k ≤ s.size) :
    Calls Tryd.prog 17 #[.pointer (some ⟨b, 0, none⟩), .int .i64 k, .string t] w fun e w' => e = .returned (.bool (Lib.hasPrefix (s.data.toList.drop k) t.data.toList)) ∧ w' = w := by
  go_enter Tryd.func17, Tryd.ntmps17
  go_wp2_with (first | (go_at_call 27; refine (isPlace_yes _ _ _ _ hc (by omega) (by omega)).mono ?_; rintro e w' ⟨rfl, rfl⟩) | (go_at_call 32; refine (hasPrefix_any _ _ _).mono ?_; rintro e w' ⟨rfl, rfl⟩))
  go_ret
  exact ⟨ret_bool (by rw [List.take_of_length_le (by simp)]), rfl⟩

set_option maxHeartbeats 400000 in
theorem has_no (b : Nat) (s t : ByteArray) (i : Int) (w : World) (hc : w.cell? ⟨b, 0, none⟩ = some (.string s)) (hk : ¬ (0 ≤ i ∧ i ≤ s.size)) :
    Calls Tryd.prog 17 #[.pointer (some ⟨b, 0, none⟩), .int .i64 i, .string t] w fun e w' => e = .returned (.bool false) ∧ w' = w := by
  have HK : Hid _ := hk
  clear hk
  go_enter Tryd.func17, Tryd.ntmps17
  go_wp2_with (go_at_call 27; refine (isPlace_no _ _ _ _ hc HK.out).mono ?_; rintro e w' ⟨rfl, rfl⟩)
  go_ret
  exact ⟨rfl, rfl⟩

set_option maxHeartbeats 400000 in
theorem sname_no (b : Nat) (s : ByteArray) (i : Int) (w : World) (hc : w.cell? ⟨b, 0, none⟩ = some (.string s)) (hk : ¬ (0 ≤ i ∧ i < s.size)) :
    Calls Tryd.prog 19 #[.pointer (some ⟨b, 0, none⟩), .int .i64 i] w fun e w' => e = .returned (.string ⟨#[]⟩) ∧ w' = w := by
  have HK : Hid _ := hk
  clear hk
  go_enter Tryd.func19, Tryd.ntmps19
  go_wp2_with (go_at_call 10; refine (byte_no _ _ _ _ hc HK.out).mono ?_; rintro e w' ⟨rfl, rfl⟩)
  go_ret
  exact ⟨rfl, rfl⟩

set_option maxHeartbeats 400000 in
theorem sname_other (b : Nat) (s : ByteArray) (a : Nat) (w : World) (hc : w.cell? ⟨b, 0, none⟩ = some (.string s)) (hk : a < s.size) (hst : startB ((s[a]).toNat : Int) = false) :
    Calls Tryd.prog 19 #[.pointer (some ⟨b, 0, none⟩), .int .i64 a] w fun e w' => e = .returned (.string ⟨#[]⟩) ∧ w' = w := by
  have HST : Hid _ := hst
  clear hst
  go_enter Tryd.func19, Tryd.ntmps19
  go_wp2_with (first | (go_at_call 10; refine (byte_yes _ _ _ _ hc hk).mono ?_; rintro e w' ⟨rfl, rfl⟩) | (go_at_call 33; refine (start_any _ _).mono ?_; rintro e w' ⟨rfl, rfl⟩; rw [HST.out]))
  go_ret
  exact ⟨rfl, rfl⟩

set_option maxHeartbeats 1000000 in
theorem sname_yes (b : Nat) (s : ByteArray) (a : Nat) (w : World) (hc : w.cell? ⟨b, 0, none⟩ = some (.string s)) (hk : a < s.size) (hz : s.size < 4611686018427387904) (hst : startB ((s[a]).toNat : Int) = true) :
    Calls Tryd.prog 19 #[.pointer (some ⟨b, 0, none⟩), .int .i64 a] w fun e w' => e = .returned (.string ⟨(runAt s a).toArray⟩) ∧ w' = w := by
  have HST : Hid _ := hst
  clear hst
  go_enter Tryd.func19, Tryd.ntmps19
  go_wp2_with (first | (go_at_call 10; refine (byte_yes _ _ _ _ hc hk).mono ?_; rintro e w' ⟨rfl, rfl⟩) | (go_at_call 33; refine (start_any _ _).mono ?_; rintro e w' ⟨rfl, rfl⟩; rw [HST.out]))
  go_loop [5, 6, 7] (fun v5 v6 v7 => ∃ k : Nat, a ≤ k ∧ k ≤ s.size ∧ v7 = .int .i64 k ∧ (∀ h : k < s.size, v5 = .int .u8 ((s[k]'h).toNat : Int) ∧ v6 = .bool true) ∧ (k = s.size → v5 = .int .u8 0 ∧ v6 = .bool false) ∧ Hid (runAt s a = (s.data.toList.drop a).take (k - a) ++ runAt s k)) (fun _ _ v7 => s.size - (intOf v7).toNat)
  case atStart => exact ⟨a, Nat.le_refl _, by omega, rfl, fun _ => ⟨rfl, rfl⟩, fun h => absurd h (by omega), by simp [Hid]⟩
  case round =>
    obtain ⟨k, hak, hks, rfl, hin, hout, hh⟩ := hrel
    by_cases hlt : k < s.size
    · obtain ⟨rfl, rfl⟩ := hin hlt
      clear hin hout
      cases hcb : contB ((s[k]).toNat : Int)
      · have hstop := runAt_stop s k hlt hcb
        have HCB : Hid _ := hcb
        have HS : Hid _ := hstop
        clear hcb hstop
        go_wp2_with (first | (go_at_call 34; refine (cont_any _ _).mono ?_; rintro e w' ⟨rfl, rfl⟩; rw [HCB.out]) | (go_at_call 16; refine (slice_any _ _ _ _ _ hc).mono ?_; rintro e w' ⟨rfl, rfl⟩))
        go_ret
        refine ⟨ret_str ?_, rfl⟩
        rw [sliceOf_nat s a k (by omega) (by omega), Lib.extract_eq, hh.out, HS.out, List.append_nil]
      · have hmore := runAt_more s k hlt hcb
        have hseg := seg_snoc s a k hlt hak
        have hh2 : runAt s a = (s.data.toList.drop a).take (k + 1 - a) ++ runAt s (k + 1) := by rw [hseg, hh.out, hmore]; simp
        have HCB : Hid _ := hcb
        have HH2 : Hid _ := hh2
        clear hcb hmore hseg hh2 hh
        by_cases hlt2 : k + 1 < s.size
        · go_wp2_with (first | (go_at_call 34; refine (cont_any _ _).mono ?_; rintro e w' ⟨rfl, rfl⟩; rw [HCB.out]) | (go_at_call 10; rw [show ((k : Int) + 1) = ((k + 1 : Nat) : Int) from by omega]; refine (byte_yes _ _ _ _ hc hlt2).mono ?_; rintro e w' ⟨rfl, rfl⟩))
          go_round
          case rel => exact ⟨k + 1, by omega, by omega, by go_num, fun _ => ⟨rfl, rfl⟩, fun h => absurd h (by omega), HH2.out⟩
          case measure => simp [intOf]; omega
        · go_wp2_with (first | (go_at_call 34; refine (cont_any _ _).mono ?_; rintro e w' ⟨rfl, rfl⟩; rw [HCB.out]) | (go_at_call 10; refine (byte_no _ _ _ _ hc (by omega)).mono ?_; rintro e w' ⟨rfl, rfl⟩))
          go_round
          case rel => exact ⟨k + 1, by omega, by omega, by go_num, fun h => absurd h (by omega), fun _ => ⟨rfl, rfl⟩, HH2.out⟩
          case measure => simp [intOf]; omega
    · have hk2 : k = s.size := by omega
      obtain ⟨rfl, rfl⟩ := hout hk2
      have hend := runAt_end s
      rw [← hk2] at hend
      have HE : Hid _ := hend
      clear hin hout hend
      have HK2 : Hid _ := hk2
      clear hk2
      go_wp2_with (first | (go_at_call 16; refine (slice_any _ _ _ _ _ hc).mono ?_; rintro e w' ⟨rfl, rfl⟩))
      go_ret
      refine ⟨ret_str ?_, rfl⟩
      rw [sliceOf_nat s a k (by omega) (by omega), Lib.extract_eq, hh.out, HE.out, List.append_nil]

theorem nameB_none : nameB [] = false := by decide
theorem nameB_long (s : ByteArray) (h : 20 < s.size) : nameB s.data.toList = false := by
  have h' : ¬ (1 ≤ s.data.toList.length ∧ s.data.toList.length ≤ 20) := by
    have : s.data.toList.length = s.size := by simp
    omega
  unfold nameB
  rw [decide_eq_false h']
  simp
theorem nameB_of (s : ByteArray) (h0 : 0 < s.size) (h : s.size ≤ 20) : nameB s.data.toList = (startB ((s[0]).toNat : Int) && allCont s.data.toList) := by
  have h' : 1 ≤ s.data.toList.length ∧ s.data.toList.length ≤ 20 := by
    have : s.data.toList.length = s.size := by simp
    omega
  have hd := drop_cons s 0 h0
  rw [List.drop_zero] at hd
  unfold nameB
  rw [decide_eq_true h', hd]
  simp

set_option maxHeartbeats 400000 in
theorem name_empty (w : World) :
    Calls Tryd.prog 20 #[.string ⟨#[]⟩] w fun e w' => e = .returned (.bool false) ∧ w' = w := by
  go_enter Tryd.func20, Tryd.ntmps20
  go_wp2
  go_ret
  exact ⟨rfl, rfl⟩
set_option maxHeartbeats 400000 in
theorem name_long (s : ByteArray) (w : World) (h : 20 < s.size) (hne : s.toList.isEmpty = false) :
    Calls Tryd.prog 20 #[.string s] w fun e w' => e = .returned (.bool false) ∧ w' = w := by
  go_enter Tryd.func20, Tryd.ntmps20
  go_wp2
  go_ret
  exact ⟨rfl, rfl⟩
set_option maxHeartbeats 400000 in
theorem name_other (s : ByteArray) (w : World) (h0 : 0 < s.size) (h : s.size ≤ 20) (hne : s.toList.isEmpty = false) (hst : startB ((s[0]).toNat : Int) = false) :
    Calls Tryd.prog 20 #[.string s] w fun e w' => e = .returned (.bool false) ∧ w' = w := by
  have HST : Hid _ := hst
  clear hst
  go_enter Tryd.func20, Tryd.ntmps20
  go_wp2_with (go_at_call 33; refine (start_any _ _).mono ?_; rintro e w' ⟨rfl, rfl⟩; rw [HST.out])
  go_ret
  exact ⟨rfl, rfl⟩
set_option maxHeartbeats 400000 in
theorem name_start (s : ByteArray) (w : World) (h0 : 0 < s.size) (h : s.size ≤ 20) (hne : s.toList.isEmpty = false) (hst : startB ((s[0]).toNat : Int) = true) :
    Calls Tryd.prog 20 #[.string s] w fun e w' => e = .returned (.bool (allCont s.data.toList)) ∧ w' = w := by
  have HST : Hid _ := hst
  clear hst
  go_enter Tryd.func20, Tryd.ntmps20
  go_wp2_with (go_at_call 33; refine (start_any _ _).mono ?_; rintro e w' ⟨rfl, rfl⟩; rw [HST.out])
  go_loop [19] (fun v => ∃ k : Nat, k ≤ s.size ∧ v = .int .i64 k ∧ Hid (allCont s.data.toList = allCont (s.data.toList.drop k))) (fun v => s.size - (intOf v).toNat)
  case atStart => exact ⟨0, by omega, rfl, by simp [Hid]⟩
  case round =>
    obtain ⟨k, hk, rfl, hh⟩ := hrel
    by_cases hlt : k < s.size
    · have hd := drop_cons s k hlt
      cases hcb : contB ((s[k]).toNat : Int)
      · have hf : allCont s.data.toList = false := by
          rw [hh.out, hd, allCont, List.all_cons, show cont8 s[k] = false from hcb]; rfl
        have HF : Hid _ := hf
        have HCB : Hid _ := hcb
        clear hf hcb hd hh
        go_wp2_with (go_at_call 34; refine (cont_any _ _).mono ?_; rintro e w' ⟨rfl, rfl⟩; rw [HCB.out])
        go_ret
        exact ⟨ret_bool HF.out.symm, rfl⟩
      · have hf : allCont s.data.toList = allCont (s.data.toList.drop (k + 1)) := by
          rw [hh.out, hd, allCont, List.all_cons, show cont8 s[k] = true from hcb]; rfl
        have HF : Hid _ := hf
        have HCB : Hid _ := hcb
        clear hf hcb hd hh
        go_wp2_with (go_at_call 34; refine (cont_any _ _).mono ?_; rintro e w' ⟨rfl, rfl⟩; rw [HCB.out])
        go_round
        case rel => exact ⟨k + 1, by omega, by go_num, HF.out⟩
        case measure => simp [intOf]; omega
    · have hf : allCont s.data.toList = true := by
        rw [hh.out, List.drop_of_length_le (by simp; omega)]; rfl
      have HF : Hid _ := hf
      clear hf hh
      go_wp2
      go_ret
      exact ⟨ret_bool HF.out.symm, rfl⟩

theorem nonempty_of (s : ByteArray) (h : 0 < s.size) : s.toList.isEmpty = false := by
  rw [Lib.toList_data]
  have hl : s.data.toList.length = s.size := by simp
  match he : s.data.toList with
  | [] => rw [he] at hl; simp at hl; omega
  | _ :: _ => rfl
theorem empty_of (s : ByteArray) (h : s.size = 0) : s = ⟨#[]⟩ := by
  obtain ⟨⟨l⟩⟩ := s
  have : l = [] := List.eq_nil_of_length_eq_zero h
  rw [this]
theorem name_any (s : ByteArray) (w : World) :
    Calls Tryd.prog 20 #[.string s] w fun e w' => e = .returned (.bool (nameB s.data.toList)) ∧ w' = w := by
  by_cases h0 : s.size = 0
  · rw [empty_of s h0]; exact name_empty w
  · have h1 : 0 < s.size := by omega
    have hne := nonempty_of s h1
    by_cases h : s.size ≤ 20
    · rw [nameB_of s h1 h]
      cases hst : startB ((s[0]).toNat : Int)
      · exact name_other s w h1 h hne hst
      · exact name_start s w h1 h hne hst
    · rw [nameB_long s (by omega)]
      exact name_long s w (by omega) hne
end Go.Proofs.YtnapmbemoppfbaaDoor
