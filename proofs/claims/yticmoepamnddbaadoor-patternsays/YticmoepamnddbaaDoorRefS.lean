/- The document's own answers: Split. -/
import Derived.Test.YticmoepamnddbaaDoorRefB
import Derived.Test.YticmoepamnddbaaDoorSrtPlain
namespace Go.Proofs.YticmoepamnddbaaDoor
open Go.RowKit Go.Shelf

theorem txV_snoc (ps : List (List UInt8)) (a : ByteArray) : txV (ps ++ [a.data.toList]) = txV ps ++ [.string a] := by
  simp only [txV, List.map_append, List.map_cons, List.map_nil]
theorem cat_data (a s : ByteArray) (i k : Nat) : (a ++ s.extract i (i + k)).data.toList = a.data.toList ++ (s.data.toList.drop i).take k := by
  rw [ByteArray.data_append, Array.toList_append, Lib.extract_data, Nat.add_sub_cancel_left]
theorem cat_size (a s : ByteArray) (i k : Nat) (h : i + k ≤ s.size) : (a ++ s.extract i (i + k)).size = a.size + k := by
  have e : ∀ x : ByteArray, x.size = x.data.toList.length := fun x => by simp
  rw [e, cat_data, List.length_append, List.length_take, List.length_drop, ← e, ← e]
  omega
theorem empty_of (a : ByteArray) (h : a.toList.isEmpty = true) : one a.data.toList = [] := by
  rw [Lib.toList_data, List.isEmpty_iff] at h
  simp [one, h]
theorem full_of (a : ByteArray) (h : a.toList.isEmpty = false) : one a.data.toList = [a.data.toList] := by
  rw [Lib.toList_data] at h
  unfold one
  rw [if_neg]
  intro e
  rw [e] at h
  cases h

set_option maxRecDepth 100000 in
set_option maxHeartbeats 4000000 in
theorem rsplit_any (s : ByteArray) (hs : s.size < 4294967296) (w : World) :
    Calls Tryd.prog 20 #[.string s] w fun e w' => ∃ v, e = .returned v ∧ w'.ownsRow w.heap.size 9 1 v (splitL s.data.toList).length (txV (splitL s.data.toList)) ∧ Below w.heap.size w w' := by
  obtain ⟨i0, hi0, hz0, hz1, hz2⟩ := info_parts info9
  obtain ⟨SP, HSP⟩ : ∃ SP, Hid (splitL s.data.toList = SP) := ⟨_, rfl⟩
  rw [HSP.out]
  go_enter Tryd.func20, Tryd.ntmps20
  go_wp2_with fail
  go_loopw [3, 4, 5] (fun v3 v4 v5 wr => ∃ (i : Nat) (a : ByteArray) (ps : List (List UInt8)), v5 = .int .i64 i ∧ i ≤ s.size ∧ v4 = .string a ∧ a.size ≤ i ∧ ps.length ≤ i ∧ Hid (SP = ps ++ splitR a.data.toList (chunks (s.data.toList.drop i))) ∧ Hid (wr.ownsRow w.heap.size 9 1 v3 ps.length (txV ps)) ∧ Below w.heap.size w wr) (fun _ _ v5 _ => s.size - (intOf v5).toNat)
  case atStart => exact ⟨0, ⟨#[]⟩, [], rfl, by omega, rfl, Nat.le_refl _, Nat.le_refl _, by unfold Hid; rw [← HSP.out]; rfl, ⟨rfl, .inl ⟨rfl, rfl⟩⟩, Below.refl _ _⟩
  case round =>
    obtain ⟨i, a, ps, rfl, hi, rfl, ha, hps, HS, HO, hbr⟩ := hrel
    by_cases hil : i < s.size
    · have hdr : s.data.toList.drop i = s[i] :: s.data.toList.drop (i + 1) := drop_cons (s_get s i hil)
      generalize hcc : s[i] = c at hdr
      have HCC : Hid (s[i] = c) := hcc
      clear hcc
      have hidx : ∀ h, s[i]'h = c := fun _ => HCC.out
      have HDR : Hid (s.data.toList.drop i = c :: s.data.toList.drop (i + 1)) := hdr
      clear hdr
      have e5 : ((c.toNat : Int) == 92) = (c == 92) := beq_u8 c 92
      by_cases hdead : c = 92 ∧ i + 1 < s.size
      · obtain ⟨hc92, hi1⟩ := hdead
        have e6 : (c == 92) = true := by simpa using hc92
        rw [e6] at e5
        clear e6
        have HN : Hid (SP = ps ++ splitR (a ++ s.extract i (i + 2)).data.toList (chunks (s.data.toList.drop (i + 2)))) := by
          unfold Hid
          rw [HS.out, cat_data, HDR.out, drop_cons (s_get s (i + 1) hi1), hc92, split_dead]
          rfl
        have hsz := cat_size a s i 2 (by omega)
        have hps2 : ps.length ≤ i + 2 := by omega
        clear hc92
        go_wp2_with fail
        refine ⟨⟨i + 2, a ++ s.extract i (i + 2), ps, by rw [show ((i + 2 : Nat) : Int) = (i : Int) + 1 + 1 by omega], by omega, rfl, by omega, hps2, HN, HO, hbr⟩, by simp [intOf]; omega⟩
      · have h92 : c ≠ 92 ∨ s.data.toList.drop (i + 1) = [] := by
          by_cases h : c = 92
          · have h2 : ¬ (i + 1 < s.size) := fun h2 => hdead ⟨h, h2⟩
            exact .inr (List.drop_eq_nil_of_le (by simp; omega))
          · exact .inl h
        have HN : Hid (SP = ps ++ if blankC c then one a.data.toList ++ splitR [] (chunks (s.data.toList.drop (i + 1))) else splitR (a.data.toList ++ [c]) (chunks (s.data.toList.drop (i + 1)))) := by
          unfold Hid
          rw [HS.out, HDR.out, split_one _ _ _ h92]
        clear h92
        have hD : ((c.toNat : Int) == 92) = false ∨ (((c.toNat : Int) == 92) = true ∧ ¬ (i + 1 < s.size)) := by
          rw [e5]
          by_cases h : c = 92
          · exact .inr ⟨by simpa using h, fun h2 => hdead ⟨h, h2⟩⟩
          · exact .inl (by simpa using h)
        clear hdead e5
        cases hb : blankC c
        · rw [hb] at HN
          have hcd := cat_data a s i 1
          rw [HDR.out] at hcd
          have HN2 : Hid (SP = ps ++ splitR (a ++ s.extract i (i + 1)).data.toList (chunks (s.data.toList.drop (i + 1)))) := by
            unfold Hid
            rw [hcd]
            simpa using HN.out
          have hsz := cat_size a s i 1 (by omega)
          clear hcd HN
          rcases hD with hD | ⟨hD, hD2⟩
          · go_wp2_with (go_at_call 41; refine (rblank_any c _).mono ?_; rintro e w1 ⟨rfl, hw1⟩; obtain rfl := hw1.symm; rw [hb])
            refine ⟨⟨i + 1, a ++ s.extract i (i + 1), ps, by simp, by omega, rfl, by omega, by omega, HN2, HO, hbr⟩, by simp [intOf]; omega⟩
          · go_wp2_with (go_at_call 41; refine (rblank_any c _).mono ?_; rintro e w1 ⟨rfl, hw1⟩; obtain rfl := hw1.symm; rw [hb])
            refine ⟨⟨i + 1, a ++ s.extract i (i + 1), ps, by simp, by omega, rfl, by omega, by omega, HN2, HO, hbr⟩, by simp [intOf]; omega⟩
        · rw [hb] at HN
          have hD' : ((c.toNat : Int) == 92) = false := by
            rcases hD with h | ⟨h, _⟩
            · exact h
            · exfalso
              rw [show ((c.toNat : Int) == 92) = (c == 92) from beq_u8 c 92] at h
              have : c = 92 := by simpa using h
              subst this
              revert hb; decide
          clear hD
          have ho := HO.out
          have hba : Below w.heap.size w (wr.alloc (.cells #[.string a] 9)) := hbr.alloc hbr.size _
          cases hem : a.toList.isEmpty
          · have HN2 : Hid (SP = (ps ++ [a.data.toList]) ++ splitR (⟨#[]⟩ : ByteArray).data.toList (chunks (s.data.toList.drop (i + 1)))) := by
              unfold Hid
              have := HN.out
              rw [if_pos rfl, full_of a hem, ← List.append_assoc] at this
              exact this
            clear HN
            go_wp2_with (first | (go_at_call 41; refine (rblank_any c _).mono ?_; rintro e w1 ⟨rfl, hw1⟩; obtain rfl := hw1.symm; rw [hb]) | (at_builtin; refine wpList_append_own _ rfl _ _ 22 rfl w.heap.size 9 i0 (.string ⟨#[]⟩) 1 16 Tryd.underlying22 hi0 hz0 hz1 hz2 rfl (by decide) _ _ _ rfl (ho.alloc _) ⟨wr.heap.size, 0, none⟩ 1 1 [.string a] rfl rfl (cells_new _ [.string a] _) (by simp [Value.oneCell']) (by have := maxLen_big; omega) (by omega) hba.size ?_; intro v' w5 hown' hgrow _))
            refine ⟨⟨i + 1, ⟨#[]⟩, ps ++ [a.data.toList], by simp, by omega, rfl, Nat.zero_le _, by simp; omega, HN2, ?_, grown_any hba.size hba (ho.alloc _) hgrow⟩, by simp [intOf]; omega⟩
            unfold Hid
            rw [txV_snoc, List.length_append]
            exact hown'
          · have HN2 : Hid (SP = ps ++ splitR (⟨#[]⟩ : ByteArray).data.toList (chunks (s.data.toList.drop (i + 1)))) := by
              unfold Hid
              have := HN.out
              rw [if_pos rfl, empty_of a hem] at this
              exact this
            clear HN
            go_wp2_with (go_at_call 41; refine (rblank_any c _).mono ?_; rintro e w1 ⟨rfl, hw1⟩; obtain rfl := hw1.symm; rw [hb])
            refine ⟨⟨i + 1, ⟨#[]⟩, ps, by simp, by omega, rfl, Nat.zero_le _, by omega, HN2, HO, hbr⟩, by simp [intOf]; omega⟩
    · have hiz : i = s.size := by omega
      subst hiz
      have hE := HS.out
      rw [List.drop_eq_nil_of_le (by simp)] at hE
      have HE : Hid (SP = ps ++ one a.data.toList) := hE
      clear hE HS
      have ho := HO.out
      have hba : Below w.heap.size w (wr.alloc (.cells #[.string a] 9)) := hbr.alloc hbr.size _
      cases hem : a.toList.isEmpty
      · go_wp2_with (at_builtin; refine wpList_append_own _ rfl _ _ 22 rfl w.heap.size 9 i0 (.string ⟨#[]⟩) 1 16 Tryd.underlying22 hi0 hz0 hz1 hz2 rfl (by decide) _ _ _ rfl (ho.alloc _) ⟨wr.heap.size, 0, none⟩ 1 1 [.string a] rfl rfl (cells_new _ [.string a] _) (by simp [Value.oneCell']) (by have := maxLen_big; omega) (by omega) hba.size ?_; intro v' w5 hown' hgrow _)
        go_ret
        refine ⟨_, rfl, ?_, grown_any hba.size hba (ho.alloc _) hgrow⟩
        rw [HE.out, full_of a hem, txV_snoc, List.length_append]
        exact hown'
      · go_wp2_with fail
        go_ret
        refine ⟨_, rfl, ?_, hbr⟩
        rw [HE.out, empty_of a hem, List.append_nil]
        exact ho
end Go.Proofs.YticmoepamnddbaaDoor
