/- Names: of a text, and at a place of a source. -/
import Derived.Test.YtlihkblllakhmaaGreatDoorLf
namespace Go.Proofs.YtlihkblllakhmaaGreatDoor
open Go.RowKit
attribute [local go_sem] Oper.semAt_some

theorem s_get (s : ByteArray) (k : Nat) (h : k < s.size) : s.data.toList[k]? = some s[k] := by
  rw [List.getElem?_eq_getElem (by simpa using h)]
  rfl
theorem drop_cons (s : ByteArray) (k : Nat) (h : k < s.size) : s.data.toList.drop k = s[k] :: s.data.toList.drop (k + 1) := by
  rw [List.drop_eq_getElem_cons (by simpa using h)]
  rfl
theorem nonempty_of (s : ByteArray) (h : 0 < s.size) : s.toList.isEmpty = false := by
  rw [ByteArray.toList_eq]
  have hl : s.data.toList.length = s.size := by simp
  match he : s.data.toList with
  | [] => rw [he] at hl; simp at hl; omega
  | _ :: _ => rfl
theorem empty_of (s : ByteArray) (h : s.size = 0) : s = ⟨#[]⟩ := by
  obtain ⟨⟨l⟩⟩ := s
  have : l = [] := List.eq_nil_of_length_eq_zero h
  rw [this]
theorem nameB_long (s : ByteArray) (h : 20 < s.size) : nameB s.data.toList = false := by
  have hl : s.data.toList.length = s.size := by simp
  cases hs : s.data.toList with
  | nil => rfl
  | cons b r =>
    rw [hs] at hl
    unfold nameB
    simp only [hl, decide_eq_false (show ¬ s.size ≤ 20 by omega), Bool.false_and]
theorem nameB_of (s : ByteArray) (h0 : 0 < s.size) (h : s.size ≤ 20) : nameB s.data.toList = (startB ((s[0]).toNat : Int) && allCont s.data.toList) := by
  have hl : s.data.toList.length = s.size := by simp
  have hd := drop_cons s 0 h0
  rw [List.drop_zero] at hd
  rw [hd] at hl ⊢
  unfold nameB
  simp only [hl, decide_eq_true h, Bool.true_and]
  rfl
theorem drop_head (s : ByteArray) (k : Nat) : (s.data.toList.drop k).head? = s.data.toList[k]? := by rw [List.head?_drop]
theorem nrun_no (l : List UInt8) (h : ∀ c, l.head? = some c → start8 c = false) : nrun l = [] := by
  cases l with
  | nil => rfl
  | cons c t => rw [nrun, h c rfl]; rfl
theorem nrun_yes (l : List UInt8) (c : UInt8) (h : l.head? = some c) (hs : start8 c = true) : nrun l = l.takeWhile cont8 := by
  cases l with
  | nil => cases h
  | cons d t =>
    cases h
    rw [nrun, hs]
    rfl
theorem run_more (s : ByteArray) (a k : Nat) (hak : a ≤ k) (h : k < s.size) (hc : cont8 s[k] = true) (he : (s.data.toList.drop a).takeWhile cont8 = (s.data.toList.drop a).take (k - a) ++ (s.data.toList.drop k).takeWhile cont8) :
    (s.data.toList.drop a).takeWhile cont8 = (s.data.toList.drop a).take (k + 1 - a) ++ (s.data.toList.drop (k + 1)).takeWhile cont8 := by
  rw [he, drop_cons s k h, List.takeWhile_cons, hc]
  have e : (s.data.toList.drop a).take (k + 1 - a) = (s.data.toList.drop a).take (k - a) ++ [s[k]] := by
    rw [show k + 1 - a = (k - a) + 1 by omega, List.take_add_one, List.getElem?_drop, show a + (k - a) = k by omega, text_at s k h]
    rfl
  rw [e]
  simp
theorem run_stop (s : ByteArray) (a k : Nat) (hk : k ≤ s.size) (hc : ∀ h : k < s.size, cont8 s[k] = false) (he : (s.data.toList.drop a).takeWhile cont8 = (s.data.toList.drop a).take (k - a) ++ (s.data.toList.drop k).takeWhile cont8) :
    s.extract a k = ⟨((s.data.toList.drop a).takeWhile cont8).toArray⟩ := by
  have h0 : (s.data.toList.drop k).takeWhile cont8 = [] := by
    by_cases h : k < s.size
    · rw [drop_cons s k h, List.takeWhile_cons, hc h]; rfl
    · rw [List.drop_eq_nil_of_le (by simp; omega)]; rfl
  rw [he, h0, List.append_nil, Lib.extract_eq]
set_option maxHeartbeats 1000000 in
theorem sname_any (b : Nat) (s : ByteArray) (a : Nat) (w : World) (hc : w.cell? ⟨b, 0, none⟩ = some (.string s)) (hz : s.size < 4611686018427387904) :
    Calls Tryz.prog 104 #[.pointer (some ⟨b, 0, none⟩), .int .i64 (a : Nat)] w fun e w' => e = .returned (.string ⟨(nrun (s.data.toList.drop a)).toArray⟩) ∧ w' = w := by
  have HB : Hid (∀ k : Nat, Calls Tryz.prog 48 #[.pointer (some ⟨b, 0, none⟩), .int .i64 (k : Nat)] w fun e w' => e = .returned (.tuple (byteV s.data.toList[k]?)) ∧ w' = w) := fun k => byte_any b s k w hc
  have HSL : Hid (∀ i j : Nat, i ≤ s.size → j ≤ s.size → Calls Tryz.prog 66 #[.pointer (some ⟨b, 0, none⟩), .int .i64 (i : Nat), .int .i64 (j : Nat)] w fun e w' => e = .returned (.string (s.extract i j)) ∧ w' = w) := fun i j hi hj => slice_any b s i j w hc hi hj
  clear hc
  by_cases hk : a < s.size
  · have HB0 : Hid (Calls Tryz.prog 48 #[.pointer (some ⟨b, 0, none⟩), .int .i64 (a : Nat)] w fun e w' => e = .returned (.tuple #[.int .u8 (s[a].toNat : Nat), .bool true]) ∧ w' = w) := by
      have := HB.out a
      rw [text_at s a hk] at this
      exact this
    cases hst : start8 s[a] with
    | false =>
      have HST : Hid (startB ((s[a]).toNat : Int) = false) := hst
      have HN : Hid (nrun (s.data.toList.drop a) = []) := nrun_no _ (fun c h => by rw [drop_head, text_at s a hk] at h; cases h; exact hst)
      rw [HN.out]
      clear hst HN
      go_enter Tryz.func104, Tryz.ntmps104
      go_wp2_with fail
      refine Calls.mono HB0.out ?_
      rintro e w1 ⟨rfl, hw⟩
      obtain rfl := hw.symm
      clear hw
      go_wp2_with fail
      refine (start_any _ _).mono ?_
      rintro e w1 ⟨rfl, hw⟩
      obtain rfl := hw.symm
      clear hw
      rw [HST.out]
      go_wp2_with fail
      go_ret
      exact ⟨rfl, rfl⟩
    | true =>
      have HST : Hid (startB ((s[a]).toNat : Int) = true) := hst
      have HN : Hid (nrun (s.data.toList.drop a) = (s.data.toList.drop a).takeWhile cont8) := nrun_yes _ s[a] (by rw [drop_head, text_at s a hk]) hst
      rw [HN.out]
      clear hst HN
      go_enter Tryz.func104, Tryz.ntmps104
      go_wp2_with fail
      refine Calls.mono HB0.out ?_
      rintro e w1 ⟨rfl, hw⟩
      obtain rfl := hw.symm
      clear hw
      go_wp2_with fail
      refine (start_any _ _).mono ?_
      rintro e w1 ⟨rfl, hw⟩
      obtain rfl := hw.symm
      clear hw
      rw [HST.out]
      go_wp2_with fail
      go_loop [5, 6, 7] (fun v5 v6 v7 => ∃ k : Nat, a ≤ k ∧ k ≤ s.size ∧ v7 = .int .i64 k ∧ v5 = .int .u8 (((s.data.toList[k]?).getD 0).toNat : Nat) ∧ v6 = .bool (s.data.toList[k]?).isSome ∧ Hid ((s.data.toList.drop a).takeWhile cont8 = (s.data.toList.drop a).take (k - a) ++ (s.data.toList.drop k).takeWhile cont8)) (fun _ _ v7 => s.size - (intOf v7).toNat)
      case atStart => exact ⟨a, Nat.le_refl _, by omega, rfl, by rw [text_at s a hk]; rfl, by rw [text_at s a hk]; rfl, by simp [Hid]⟩
      case round =>
        obtain ⟨k, hak, hks, rfl, rfl, rfl, HH⟩ := hrel
        by_cases hlt : k < s.size
        · rw [text_at s k hlt]
          simp only [Option.getD_some, Option.isSome_some]
          cases hcb : cont8 s[k] with
          | false =>
            have HS : Hid (s.extract a k = ⟨((s.data.toList.drop a).takeWhile cont8).toArray⟩) := run_stop s a k hks (fun _ => hcb) HH.out
            have HCB : Hid (contB ((s[k]).toNat : Int) = false) := hcb
            clear hcb
            go_wp2_with fail
            refine (cont_any _ _).mono ?_
            rintro e w1 ⟨rfl, hw⟩
            obtain rfl := hw.symm
            clear hw
            rw [HCB.out]
            go_wp2_with fail
            refine Calls.mono (HSL.out _ _ (by omega) (by omega)) ?_
            rintro e w1 ⟨rfl, hw⟩
            obtain rfl := hw.symm
            clear hw
            go_wp2_with fail
            go_ret
            exact ⟨ret_str HS.out, rfl⟩
          | true =>
            have HM : Hid ((s.data.toList.drop a).takeWhile cont8 = (s.data.toList.drop a).take (k + 1 - a) ++ (s.data.toList.drop (k + 1)).takeWhile cont8) := run_more s a k hak hlt hcb HH.out
            have HCB : Hid (contB ((s[k]).toNat : Int) = true) := hcb
            have HB1 : Hid (Calls Tryz.prog 48 #[.pointer (some ⟨b, 0, none⟩), .int .i64 ((k : Int) + 1)] w fun e w' => e = .returned (.tuple #[.int .u8 (((s.data.toList[k + 1]?).getD 0).toNat : Nat), .bool (s.data.toList[k + 1]?).isSome]) ∧ w' = w) := by
              have := HB.out (k + 1)
              rw [byteV_head] at this
              exact this
            clear hcb HH
            go_wp2_with fail
            refine (cont_any _ _).mono ?_
            rintro e w1 ⟨rfl, hw⟩
            obtain rfl := hw.symm
            clear hw
            rw [HCB.out]
            go_wp2_with fail
            refine Calls.mono HB1.out ?_
            rintro e w1 ⟨rfl, hw⟩
            obtain rfl := hw.symm
            clear hw
            go_wp2_with fail
            exact ⟨⟨k + 1, by omega, by omega, by simp, by simp, by simp, HM.out⟩, by simp [intOf]; omega⟩
        · have HS : Hid (s.extract a k = ⟨((s.data.toList.drop a).takeWhile cont8).toArray⟩) := run_stop s a k hks (fun h => absurd h hlt) HH.out
          rw [List.getElem?_eq_none (by simp; omega)]
          simp only [Option.getD_none, Option.isSome_none]
          go_wp2_with fail
          refine Calls.mono (HSL.out _ _ (by omega) (by omega)) ?_
          rintro e w1 ⟨rfl, hw⟩
          obtain rfl := hw.symm
          clear hw
          go_wp2_with fail
          go_ret
          exact ⟨ret_str HS.out, rfl⟩
  · have HB0 : Hid (Calls Tryz.prog 48 #[.pointer (some ⟨b, 0, none⟩), .int .i64 (a : Nat)] w fun e w' => e = .returned (.tuple #[.int .u8 0, .bool false]) ∧ w' = w) := by
      have := HB.out a
      rw [List.getElem?_eq_none (by simp; omega)] at this
      exact this
    have HN : Hid (nrun (s.data.toList.drop a) = []) := by
      unfold Hid
      rw [List.drop_eq_nil_of_le (by simp; omega)]
      rfl
    rw [HN.out]
    go_enter Tryz.func104, Tryz.ntmps104
    go_wp2_with fail
    refine Calls.mono HB0.out ?_
    rintro e w1 ⟨rfl, hw⟩
    obtain rfl := hw.symm
    clear hw
    go_wp2_with fail
    go_ret
    exact ⟨rfl, rfl⟩
end Go.Proofs.YtlihkblllakhmaaGreatDoor
