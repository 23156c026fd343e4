/- The statement on escaped texts, walked. -/
import Derived.Test.YticmoepamnddbaaDoorFirst
namespace Go.Proofs.YticmoepamnddbaaDoor
open Go.RowKit Go.Shelf

theorem closed_cl (l : List UInt8) : closedL l = cl l := by
  unfold closedL
  rw [tr_eq]
  exact cl_eq l
/-- A contract at a text that is told by its bytes. -/
theorem str_data (l : List UInt8) : (⟨l.toArray⟩ : ByteArray).data.toList = l := by simp
theorem str_size (l : List UInt8) : (⟨l.toArray⟩ : ByteArray).size = l.length := by show l.toArray.size = _; simp

set_option maxRecDepth 100000 in
set_option maxHeartbeats 2000000 in
theorem escapes_any (s t : ByteArray) (w : World) :
    Calls Tryd.prog 4 #[.string s, .string t] w fun e w' => e = .returned (.bool true) ∧ Below w.heap.size w w' := by
  by_cases h1 : s.size > 60
  · have hs : decide ((s.size : Int) > 60) = true := decide_eq_true (by omega)
    go_enter Tryd.func4, Tryd.ntmps4
    go_wp2_with fail
    refine (first_any _).mono ?_
    rintro e w1 ⟨rfl, hb1⟩
    go_wp2_with fail
    go_ret
    exact ⟨rfl, hb1⟩
  · by_cases h2 : t.size > 60
    · go_enter Tryd.func4, Tryd.ntmps4
      go_wp2_with fail
      refine (first_any _).mono ?_
      rintro e w1 ⟨rfl, hb1⟩
      go_wp2_with fail
      go_ret
      exact ⟨rfl, hb1⟩
    · obtain ⟨S, hS⟩ : ∃ S, s.data.toList = S := ⟨_, rfl⟩
      obtain ⟨E, hE⟩ : ∃ E, escL S = E := ⟨_, rfl⟩
      have hSl : S.length = s.size := by rw [← hS]; simp
      have hEl : E.length ≤ 120 := by
        rw [← hE]
        have := escL_length S
        omega
      have HS : Hid _ := hS
      have HE : Hid _ := hE
      have hs : s = ⟨S.toArray⟩ := by rw [← hS]
      obtain ⟨T, hT⟩ : ∃ T, t.data.toList = T := ⟨_, rfl⟩
      have ht : t = ⟨T.toArray⟩ := by rw [← hT]
      have hTl : T.length = t.size := by rw [← hT]; simp
      clear hS hE hT
      subst hs ht
      rw [str_size] at h1 h2
      have hEs : (⟨E.toArray⟩ : ByteArray).size < 4294967296 := by rw [str_size]; omega
      have hSs : (⟨S.toArray⟩ : ByteArray).size < 4294967296 := by rw [str_size]; omega
      have hTs : (⟨T.toArray⟩ : ByteArray).size < 4294967296 := by rw [str_size]; omega
      have HEs : Hid _ := hEs
      have HSs : Hid _ := hSs
      have HTs : Hid _ := hTs
      clear hEs hSs hTs hSl hTl HS
      go_enter Tryd.func4, Tryd.ntmps4
      go_wp2_with fail
      refine (first_any _).mono ?_
      rintro e w1 ⟨rfl, hb1⟩
      go_wp2_with fail
      refine (escape_any _ (by have := HSs.out; omega) _).mono ?_
      rintro e w2 ⟨rfl, hb2⟩
      rw [str_data, HE.out]
      go_wp2_with fail
      refine (split_any _ HEs.out _).mono ?_
      rintro e w3 ⟨v, rfl, ho3, hb3⟩
      rw [str_data] at ho3
      have hsp : splitL E = one E := by rw [← HE.out]; exact split_esc S
      rw [hsp] at ho3
      obtain ⟨pg, po, pad, pcap, rfl, hpc, hpn, hpe⟩ := TxAt.owned ho3
      have cl3 : ∀ q : List (List UInt8), q = one E → True := fun _ _ => trivial
      clear cl3
      have b12 := hb1.trans (hb2.mono hb1.size)
      have b13 := b12.trans (hb3.mono b12.size)
      have hpl : (letts E).map Prod.fst = S := by rw [← HE.out]; exact plain_esc S
      have hcl : closedL E = true := by rw [closed_cl, ← HE.out]; exact cl_esc S
      have hlv : liveR (letts E) = false := by rw [← HE.out]; exact live_tame _ (tame_esc S)
      have hm1 : matchL E S = true := by unfold matchL; rw [← HE.out, match_esc]; exact decide_eq_true rfl
      have hm2 : matchL E T = decide (S = T) := by unfold matchL; rw [← HE.out, match_esc]
      have HPL : Hid _ := hpl
      have HCL : Hid _ := hcl
      have HLV : Hid _ := hlv
      have HM1 : Hid _ := hm1
      have HM2 : Hid _ := hm2
      clear hpl hcl hlv hm1 hm2 hsp
      have hST : (S == T) = decide (S = T) := by rw [Bool.eq_iff_iff]; simp
      have HST : Hid _ := hST
      clear hST
      by_cases hS0 : S = []
      · have hE0 : E = [] := by rw [← HE.out, hS0]; rfl
        have hone : (one E).length = 0 := by rw [hE0]; rfl
        rw [hone] at hpc ⊢
        have hemp : S.isEmpty = true := by rw [hS0]; rfl
        clear hS0 hE0 hone
        go_wp2_with fail
        refine (plain_any _ (by have := HEs.out; omega) _).mono ?_
        rintro e w4 ⟨rfl, hb4⟩
        rw [str_data, HPL.out]
        go_wp2_with fail
        refine (closed_any _ (by have := HEs.out; omega) _).mono ?_
        rintro e w5 ⟨rfl, hw5⟩
        obtain rfl := hw5.symm
        rw [str_data, HCL.out]
        go_wp2_with fail
        refine (live_any _ HEs.out _).mono ?_
        rintro e w6 ⟨rfl, hb6⟩
        rw [str_data, HLV.out]
        go_wp2_with fail
        refine (match_any _ _ HEs.out HSs.out _).mono ?_
        rintro e w7 ⟨rfl, hb7⟩
        rw [str_data, str_data, HM1.out]
        go_wp2_with fail
        refine (match_any _ _ HEs.out HTs.out _).mono ?_
        rintro e w8 ⟨rfl, hb8⟩
        rw [str_data, str_data, HM2.out]
        go_wp2_with fail
        go_ret
        have b14 := b13.trans (hb4.mono b13.size)
        have b16 := b14.trans (hb6.mono b14.size)
        have b17 := b16.trans (hb7.mono b16.size)
        exact ⟨ret_bool (by first | rfl | (rw [HST.out]; simp) | simp), b17.trans (hb8.mono b17.size)⟩
      · have hE0 : E ≠ [] := by
          rw [← HE.out]
          intro e
          cases S with
          | nil => exact hS0 rfl
          | cons c r =>
            have := congrArg List.length e
            rw [escL_cons, List.length_append] at this
            split at this <;> simp at this
        have hone : one E = [E] := by unfold one; rw [if_neg hE0]
        rw [hone] at hpc hpn hpe ⊢
        obtain ⟨rfl, hpg⟩ := hpn (by simp)
        have q0 := hpe 0 E rfl
        rw [Nat.add_zero] at q0
        have hemp : S.isEmpty = false := by cases S with | nil => exact absurd rfl hS0 | cons _ _ => rfl
        clear hS0 hE0 hone
        go_wp2_with fail
        refine (plain_any _ (by have := HEs.out; omega) _).mono ?_
        rintro e w4 ⟨rfl, hb4⟩
        rw [str_data, HPL.out]
        go_wp2_with fail
        refine (closed_any _ (by have := HEs.out; omega) _).mono ?_
        rintro e w5 ⟨rfl, hw5⟩
        obtain rfl := hw5.symm
        rw [str_data, HCL.out]
        go_wp2_with fail
        refine (live_any _ HEs.out _).mono ?_
        rintro e w6 ⟨rfl, hb6⟩
        rw [str_data, HLV.out]
        go_wp2_with fail
        refine (match_any _ _ HEs.out HSs.out _).mono ?_
        rintro e w7 ⟨rfl, hb7⟩
        rw [str_data, str_data, HM1.out]
        go_wp2_with fail
        refine (match_any _ _ HEs.out HTs.out _).mono ?_
        rintro e w8 ⟨rfl, hb8⟩
        rw [str_data, str_data, HM2.out]
        go_wp2_with fail
        go_ret
        have b14 := b13.trans (hb4.mono b13.size)
        have b16 := b14.trans (hb6.mono b14.size)
        have b17 := b16.trans (hb7.mono b16.size)
        exact ⟨ret_bool (by first | rfl | (rw [HST.out]; simp) | simp), b17.trans (hb8.mono b17.size)⟩
end Go.Proofs.YticmoepamnddbaaDoor
