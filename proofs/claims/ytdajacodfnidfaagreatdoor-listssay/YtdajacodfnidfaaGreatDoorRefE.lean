/- The document's own answers: Live. -/
import Derived.Test.YtdajacodfnidfaaGreatDoorRefD
namespace Go.Proofs.YtdajacodfnidfaaGreatDoor
open Go.RowKit Go.Shelf

theorem closes_ge (L : List Lt) (i : Nat) : (0 ≤ closesL L i) ↔ i + 1 < lastOf L := by
  rw [last_iff]
  unfold closesL
  cases h : (L.drop (i + 2)).findIdx? (isL · 93) with
  | none =>
    have h1 := List.findIdx?_eq_none_iff.1 h
    constructor
    · intro h2; simp at h2
    · intro h2
      obtain ⟨x, h3, h4⟩ := List.any_eq_true.1 h2
      rw [h1 x h3] at h4; cases h4
  | some k =>
    obtain ⟨h1, h2, _⟩ := List.findIdx?_eq_some_iff_getElem.1 h
    constructor
    · intro _
      exact List.any_eq_true.2 ⟨_, List.getElem_mem h1, h2⟩
    · intro _
      simp only
      omega

set_option maxRecDepth 100000 in
set_option maxHeartbeats 4000000 in
theorem rlive_any (s : ByteArray) (hs : s.size < 4294967296) (w : World) :
    Calls Tryz.prog 48 #[.string s] w fun e w' => e = .returned (.bool (liveR (letts s.data.toList))) ∧ Below w.heap.size w w' := by
  obtain ⟨L, hL⟩ : ∃ L, letts s.data.toList = L := ⟨_, rfl⟩
  have hLs : L.length < 4294967296 := by rw [← hL]; exact Nat.lt_of_le_of_lt (letts_length_le _) (by simpa using hs)
  have HL : Hid _ := hL
  rw [hL]
  clear hL
  obtain ⟨A, hA⟩ : ∃ A, liveR L = A := ⟨_, rfl⟩
  have HA : Hid _ := hA
  rw [hA]
  clear hA
  go_enter Tryz.func48, Tryz.ntmps48
  go_wp2_with fail
  refine (rread_any s hs w).mono ?_
  rintro e w1 ⟨v, rfl, ho1, hb1⟩
  rw [HL.out] at ho1
  rw [← dd_length L] at ho1
  obtain ⟨g, ad, cap, rfl, hne, hlt⟩ := lt_owned ho1
  rw [dd_length] at hne ⊢
  clear ho1
  go_wp2_with fail
  go_loopw [4] (fun v4 wr => ∃ i : Nat, v4 = .int .i64 i ∧ i ≤ L.length ∧ Hid (liveR (L.drop i) = A) ∧ wr = w1) (fun v4 _ => L.length - (intOf v4).toNat)
  case atStart => exact ⟨0, rfl, by omega, by rw [List.drop_zero]; exact HA.out, rfl⟩
  case round =>
    obtain ⟨i, rfl, hi, HE, hwr⟩ := hrel
    obtain rfl := hwr.symm
    by_cases hil : i < L.length
    · obtain ⟨rfl, hcap, hgw, _⟩ := hne (by intro e; have := dd_length L; rw [e] at this; simp at this; omega)
      obtain ⟨x, hx⟩ : ∃ x, L[i]? = some x := ⟨_, List.getElem?_eq_getElem hil⟩
      obtain ⟨q1, q2⟩ := hlt i _ (dd_get hx)
      simp only [Nat.zero_add] at q1 q2
      have hstep := liveR_step L i x hx
      rw [HE.out] at hstep
      have HS : Hid _ := hstep
      have HLT : Hid _ := hlt
      clear hx hstep hlt hne
      have hcl := closes_ge L i
      cases hx2 : x.2
      · have HS2 : Hid (liveR (L.drop (i + 1)) = A) := by
          unfold Hid
          have := HS.out
          unfold isL at this
          rw [hx2] at this
          simpa using this.symm
        rw [hx2] at q2
        clear hx2
        go_wp2_with fail
        exact ⟨⟨i + 1, by simp, by omega, HS2, trivial⟩, by simp [intOf]; omega⟩
      · have HS1 : Hid (A = ((x.1 == 42 || x.1 == 63 || (x.1 == 91 && decide (i + 1 < lastOf L))) || liveR (L.drop (i + 1)))) := by
          unfold Hid
          have := HS.out
          unfold isL at this
          rw [hx2] at this
          simpa using this
        rw [hx2] at q2
        clear hx2
        have e1 : ((x.1.toNat : Int) == 42) = (x.1 == 42) := beq_u8 x.1 42
        have e2 : ((x.1.toNat : Int) == 63) = (x.1 == 63) := beq_u8 x.1 63
        have e3 : ((x.1.toNat : Int) == 91) = (x.1 == 91) := beq_u8 x.1 91
        generalize (x.1 == 42) = b1 at e1 HS1
        generalize (x.1 == 63) = b2 at e2 HS1
        generalize (x.1 == 91) = b3 at e3 HS1
        have key : b1 = true ∨ (b1 = false ∧ b2 = true) ∨ (b1 = false ∧ b2 = false ∧ b3 = false) ∨ (b1 = false ∧ b2 = false ∧ b3 = true) := by
          cases b1 <;> cases b2 <;> cases b3 <;> simp
        rcases key with rfl | ⟨rfl, rfl⟩ | ⟨rfl, rfl, rfl⟩ | ⟨rfl, rfl, rfl⟩
        · go_wp2_with fail
          go_ret
          exact ⟨ret_bool (by rw [HS1.out]; simp), hb1⟩
        · go_wp2_with fail
          go_ret
          exact ⟨ret_bool (by rw [HS1.out]; simp), hb1⟩
        · have HS2 : Hid (liveR (L.drop (i + 1)) = A) := by
            unfold Hid
            have := HS1.out
            simpa using this.symm
          go_wp2_with fail
          exact ⟨⟨i + 1, by simp, by omega, HS2, trivial⟩, by simp [intOf]; omega⟩
        · by_cases hc : i + 1 < lastOf L
          · have hR := hcl.2 hc
            have HS2 : Hid (A = true) := by
              unfold Hid
              have := HS1.out
              rw [decide_eq_true hc] at this
              simpa using this
            clear hcl hc HS1
            go_wp2_with (go_at_call 74; refine (rcloses_any g 0 cap L i (by omega) hLs hcap w1 HLT.out).mono ?_; rintro e w2 ⟨rfl, hw2⟩; obtain rfl := hw2.symm; generalize closesL L i = R at hR ⊢)
            go_ret
            exact ⟨ret_bool (by rw [HS2.out]), hb1⟩
          · have hR : ¬ (0 ≤ closesL L i) := fun h => hc (hcl.1 h)
            have HS2 : Hid (liveR (L.drop (i + 1)) = A) := by
              unfold Hid
              have := HS1.out
              rw [decide_eq_false hc] at this
              simpa using this.symm
            clear hcl hc HS1
            go_wp2_with (go_at_call 74; refine (rcloses_any g 0 cap L i (by omega) hLs hcap w1 HLT.out).mono ?_; rintro e w2 ⟨rfl, hw2⟩; obtain rfl := hw2.symm; generalize closesL L i = R at hR ⊢)
            exact ⟨⟨i + 1, by simp, by omega, HS2, trivial⟩, by simp [intOf]; omega⟩
    · have HS2 : Hid (A = false) := by
        have := HE.out
        rw [List.drop_eq_nil_of_le (by omega)] at this
        exact this.symm
      clear hne hlt
      go_wp2_with fail
      go_ret
      exact ⟨ret_bool (by rw [HS2.out]), hb1⟩
end Go.Proofs.YtdajacodfnidfaaGreatDoor
