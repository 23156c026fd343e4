/- Which traces begin others. -/
import Derived.Test.YthhghkjgffcpeaaDoorBeg2
import Derived.Laws.BitsLemmas
namespace Go.Proofs.YthhghkjgffcpeaaDoor
open Go.RowKit Go.Shelf

theorem i64_and63 (n : Int) : bits .and .i64 n 63 = n % 64 := by
  have h1 : (BitVec.ofInt 64 63).toNat = 2 ^ 6 - 1 := by decide
  have key : (BitVec.ofInt 64 n &&& BitVec.ofInt 64 63).toNat = (n % ((2 ^ 64 : Nat) : Int)).toNat % 2 ^ 6 := by
    rw [BitVec.toNat_and, BitVec.toNat_ofInt, h1, Nat.and_two_pow_sub_one_eq_mod]
  show IntKind.i64.wrap ((BitVec.ofInt 64 n &&& BitVec.ofInt 64 63).toNat : Nat) = n % 64
  rw [key, IntKind.wrap_i64]
  omega
theorem begins_take (A : List Ev) (k : Nat) : beginsB (A.take k) A = true := by
  unfold beginsB
  rw [decide_eq_true (by rw [List.length_take]; omega), sameEs_true]
  · rfl
  · rw [List.length_take, ← List.take_take, List.take_length]
theorem begins_nil (A : List Ev) : beginsB [] A = true := begins_take A 0
theorem erased_twice (A : List Ev) : erased (erased A) = erased A := by
  unfold erased
  rw [List.filter_filter]
  simp

set_option maxRecDepth 100000 in
set_option maxHeartbeats 8000000 in
theorem begins_main (va vb : Value) (X Z : List (Ev × Value)) (n : Int) (ea : Nat → Addr) (W : World) (ha : EvAt W va X) (hb : EvAt W vb Z) (ca : Cap va) (cb : Cap vb) (hE : Ers W ea) :
    Calls Tryd.prog 4 #[va, vb, .int .i64 n] W fun e w' => e = .returned (.bool true) ∧ Below W.heap.size W w' := by
  have HA : Hid (∀ W', Below W.heap.size W W' → EvAt W' va X) := fun W' h => ha.below h (Nat.le_refl _)
  have HB : Hid (∀ W', Below W.heap.size W W' → EvAt W' vb Z) := fun W' h => hb.below h (Nat.le_refl _)
  have HE : Hid (∀ W', Below W.heap.size W W' → Ers W' ea) := fun W' h => hE.below h (Nat.le_refl _)
  have HCA : Hid (Cap va) := ca
  have HCB : Hid (Cap vb) := cb
  obtain ⟨ada, capa, rfl⟩ := ha.form
  obtain ⟨adb, capb, rfl⟩ := hb.form
  clear ha hb hE ca cb
  go_enter Tryd.func4, Tryd.ntmps4
  go_wp2_with fail
  refine (first_any ea W (HE.out _ (Below.refl _ _))).mono ?_
  rintro e w1 ⟨rfl, hb1⟩
  by_cases ha60 : 60 < X.length
  · go_wp2_with fail
    go_ret
    exact ⟨rfl, hb1⟩
  have ha60' : decide ((60 : Int) < (X.length : Int)) = false := decide_eq_false (by omega)
  by_cases hb60 : 60 < Z.length
  · go_wp2_with fail
    go_ret
    exact ⟨rfl, hb1⟩
  have hb60' : decide ((60 : Int) < (Z.length : Int)) = false := decide_eq_false (by omega)
  go_wp2_with fail
  clear ha60' hb60'
  go_loopw [8] (fun v8 wr => ∃ k : Nat, v8 = .int .i64 k ∧ k ≤ X.length + Z.length ∧ Hid (∀ j p, j < k → (X ++ Z)[j]? = some p → p.1.l.length ≤ 30) ∧ Below W.heap.size W wr) (fun v8 _ => X.length + Z.length - (intOf v8).toNat)
  case atStart => exact ⟨0, rfl, by omega, fun j p hj => absurd hj (by omega), hb1⟩
  case round =>
    obtain ⟨k, rfl, hk, HS, hbr⟩ := hrel
    by_cases hkl : k < X.length + Z.length
    · have hba : Below W.heap.size W (wr.alloc (.cells #[.int .i64 0, .int .i64 0, .string ⟨#[]⟩, .string ⟨#[]⟩, .slice none 0 0] 70)) := hbr.alloc hbr.size _
      have HBA : Hid (∀ cs, Below W.heap.size W (wr.alloc (.cells cs 70))) := fun cs => hbr.alloc hbr.size _
      by_cases hka : k < X.length
      · obtain ⟨p, hp⟩ : ∃ p, X[k]? = some p := ⟨_, List.getElem?_eq_getElem hka⟩
        obtain ⟨ga, oa, capa', hva, _, x0, x1, x2, x3, x4⟩ := (HA.out _ hba).at hp
        cases hva
        have HT : Hid (Tx wr p.2 p.1.l) := (HA.out _ hbr).2 p (List.mem_of_getElem? hp)
        have HP : Hid ((X ++ Z)[k]? = some p) := by unfold Hid; rw [List.getElem?_append_left hka]; exact hp
        obtain ⟨⟨kx, nx, ax, bx, lx⟩, vx⟩ := p
        obtain ⟨adx, capx, hvx⟩ := HT.out.form
        obtain rfl : vx = .slice adx lx.length capx := hvx
        have hkai : (k : Int) < (X.length : Int) := by omega
        clear hp hba
        by_cases h30 : 30 < lx.length
        · go_wp2_with fail
          go_ret
          exact ⟨rfl, HBA.out _⟩
        · have h30' : decide ((30 : Int) < (lx.length : Int)) = false := decide_eq_false (by omega)
          have HN : Hid (∀ j p, j < k + 1 → (X ++ Z)[j]? = some p → p.1.l.length ≤ 30) := fun j p hj hp => by
            by_cases hjk : j < k
            · exact HS.out j p hjk hp
            · rw [show j = k by omega, HP.out] at hp
              cases hp
              show lx.length ≤ 30
              omega
          go_wp2_with fail
          · go_ret
            exact ⟨rfl, HBA.out _⟩
          · exact ⟨⟨k + 1, by simp, by omega, HN.out, HBA.out _⟩, by simp [intOf]; omega⟩
      · obtain ⟨j0, rfl⟩ : ∃ j0, k = X.length + j0 := ⟨k - X.length, by omega⟩
        have hjz : j0 < Z.length := by omega
        obtain ⟨p, hp⟩ : ∃ p, Z[j0]? = some p := ⟨_, List.getElem?_eq_getElem hjz⟩
        obtain ⟨ga, oa, capa', hva, _, x0, x1, x2, x3, x4⟩ := (HB.out _ hba).at hp
        cases hva
        have HT : Hid (Tx wr p.2 p.1.l) := (HB.out _ hbr).2 p (List.mem_of_getElem? hp)
        have HP : Hid ((X ++ Z)[X.length + j0]? = some p) := by
          unfold Hid
          rw [List.getElem?_append_right (by omega), show X.length + j0 - X.length = j0 by omega]
          exact hp
        obtain ⟨⟨kx, nx, ax, bx, lx⟩, vx⟩ := p
        obtain ⟨adx, capx, hvx⟩ := HT.out.form
        obtain rfl : vx = .slice adx lx.length capx := hvx
        have hkai : ¬ ((X.length + j0 : Nat) : Int) < (X.length : Int) := by omega
        have hsub : ((X.length : Int) + (j0 : Int)) - (X.length : Int) = (j0 : Int) := by omega
        clear hp hba hka
        by_cases h30 : 30 < lx.length
        · go_wp2_with fail
          go_ret
          exact ⟨rfl, HBA.out _⟩
        · have h30' : decide ((30 : Int) < (lx.length : Int)) = false := decide_eq_false (by omega)
          have HN : Hid (∀ j p, j < X.length + j0 + 1 → (X ++ Z)[j]? = some p → p.1.l.length ≤ 30) := fun j p hj hp => by
            by_cases hjk : j < X.length + j0
            · exact HS.out j p hjk hp
            · rw [show j = X.length + j0 by omega, HP.out] at hp
              cases hp
              show lx.length ≤ 30
              omega
          go_wp2_with fail
          · go_ret
            exact ⟨rfl, HBA.out _⟩
          · exact ⟨⟨X.length + j0 + 1, by simp, by omega, HN.out, HBA.out _⟩, by simp [intOf]; omega⟩
    · have hkz : k = X.length + Z.length := by omega
      subst hkz
      have HXL : Hid (∀ p ∈ X, p.1.l.length < 4294967296) := fun p hp => by
        obtain ⟨j, hj, rfl⟩ := List.getElem_of_mem hp
        have := HS.out j X[j] (by omega) (by rw [List.getElem?_append_left hj]; exact List.getElem?_eq_getElem hj)
        omega
      have HZL : Hid (∀ p ∈ Z, p.1.l.length < 4294967296) := fun p hp => by
        obtain ⟨j, hj, rfl⟩ := List.getElem_of_mem hp
        have := HS.out (X.length + j) Z[j] (by omega) (by rw [List.getElem?_append_right (by omega), show X.length + j - X.length = j by omega]; exact List.getElem?_eq_getElem hj)
        omega
      obtain ⟨m, hm, hm64⟩ : ∃ m : Nat, n % 64 = (m : Int) ∧ m < 64 := ⟨(n % 64).toNat, by omega, by omega⟩
      have han := i64_and63 n
      rw [hm] at han
      obtain ⟨tk, htk, htk2⟩ : ∃ tk : Nat, tk ≤ X.length ∧ Hid (min (m : Int) (X.length : Int) = (tk : Int)) := ⟨min m X.length, Nat.min_le_right _ _, by unfold Hid; omega⟩
      have hXl : X.length < 4294967296 := by omega
      have hZl : Z.length < 4294967296 := by omega
      have hci : (tk : Int) ≤ (capa : Int) := by have := (HCA.out ada _ capa rfl).1; omega
      have HNC : Hid (ada = none → capa = 0) := (HCA.out ada _ capa rfl).2
      clear HS hm
      go_wp2_with fail
      rw [htk2.out]
      refine (erase_any (HA.out _ hbr) hXl HXL.out).mono ?_
      rintro e w3 ⟨v3, X3, rfl, o3, e3, b3⟩
      obtain ⟨ad3, cap3, rfl⟩ := owns_slice o3.1
      have hb3 := hbr.trans (b3.mono hbr.size)
      have HX3 : Hid (∀ W', Below w3.heap.size w3 W' → EvAt W' (.slice ad3 X3.length cap3) X3) := fun W' h => o3.at.below h (Nat.le_refl _)
      have HE3 : Hid (X3.map Prod.fst = erased (X.map Prod.fst)) := e3
      have hl3 : X3.length < 4294967296 := by
        have h1 := len_of e3
        have h2 : (erased (X.map Prod.fst)).length ≤ (X.map Prod.fst).length := List.length_filter_le _ _
        rw [List.length_map] at h2
        omega
      have HL3 : Hid (∀ p ∈ X3, p.1.l.length < 4294967296) := all_of (P := fun e : Ev => e.l.length < 4294967296) e3 fun e he => by
        obtain ⟨p, hp, rfl⟩ := List.mem_map.1 (List.mem_filter.1 he).1
        exact HXL.out p hp
      have HC3 : Hid (Cap (.slice ad3 X3.length cap3)) := Cap.owned o3.1
      clear o3 e3 b3 hbr htk2
      go_wp2_with fail
      refine (begins_any _ _ X Z _ (HA.out _ hb3) (HB.out _ hb3) hXl HXL.out HZL.out HCB.out).mono ?_
      rintro e w4 ⟨rfl, b4⟩
      have hb4 := hb3.trans (b4.mono hb3.size)
      have h34 := b4
      obtain ⟨bb, HBB⟩ : ∃ bb, Hid (beginsB (X.map Prod.fst) (Z.map Prod.fst) = bb) := ⟨_, rfl⟩
      rw [HBB.out]
      clear b4
      go_wp2_with fail
      refine (rbegins_any _ _ X Z _ (HA.out _ hb4) (HB.out _ hb4) hXl HXL.out HZL.out HCB.out).mono ?_
      rintro e w5 ⟨rfl, b5⟩
      have hb5 := hb4.trans (b5.mono hb4.size)
      have h35 := h34.trans (b5.mono h34.size)
      rw [HBB.out]
      have hbeq : (bb == bb) = true := by simp
      clear b5 h34
      have HCT : Hid (EvAt w5 (.slice ada tk capa) (X.take tk)) := (HA.out _ hb5).cut tk htk
      have HTL : Hid ((X.take tk).length < 4294967296 ∧ ∀ p ∈ X.take tk, p.1.l.length < 4294967296) := ⟨by rw [List.length_take]; omega, fun p hp => HXL.out p (List.mem_of_mem_take hp)⟩
      have HFIN : Hid (beginsB ((X.take tk).map Prod.fst) (X.map Prod.fst) = true) := by unfold Hid; rw [List.map_take]; exact begins_take _ _
      have HSL : ∀ W', (Instr.slice 52 (.slice ada X.length capa) none (some (.int .i64 (tk : Int))) none).run Tryd.prog W' = .ok (.slice ada tk capa) W' := by
        intro W'
        cases hada : ada with
        | none =>
          have h0 := HNC.out hada
          subst h0
          obtain rfl : tk = 0 := by omega
          go_simp
        | some a =>
          go_simp
      go_wp2_with fail
      clear HSL
      refine (begins_any _ _ (X.take tk) X _ HCT.out (HA.out _ hb5) HTL.out.1 HTL.out.2 HXL.out HCA.out).mono ?_
      rintro e w6 ⟨rfl, b6⟩
      rw [HFIN.out]
      have hb6 := hb5.trans (b6.mono hb5.size)
      have h36 := h35.trans (b6.mono h35.size)
      clear b6 h35 HCT HTL HFIN
      go_wp2_with fail
      refine (wsameEvents_any _ _ X Z _ (HA.out _ hb6) (HB.out _ hb6) hXl HXL.out HZL.out).mono ?_
      rintro e w7 ⟨rfl, b7⟩
      have hb7 := hb6.trans (b7.mono hb6.size)
      have h37 := h36.trans (b7.mono h36.size)
      obtain ⟨sm, HSM⟩ : ∃ sm, Hid (sameEs (X.map Prod.fst) (Z.map Prod.fst) = sm) := ⟨_, rfl⟩
      rw [HSM.out]
      clear b7 h36
      go_wp2_with fail
      refine (sameEvents_any _ _ X Z _ (HA.out _ hb7) (HB.out _ hb7) hXl hZl HXL.out HZL.out).mono ?_
      rintro e w8 ⟨rfl, b8⟩
      have hb8 := hb7.trans (b8.mono hb7.size)
      have h38 := h37.trans (b8.mono h37.size)
      rw [HSM.out]
      have hsmeq : (sm == sm) = true := by simp
      clear b8 h37
      go_wp2_with fail
      refine (rerase_any (HA.out _ hb8) hXl).mono ?_
      rintro e w9 ⟨v9, X9, rfl, o9, l9, e9, b9⟩
      obtain ⟨ad9, cap9, rfl⟩ := o9.form
      have hb9 := hb8.trans (b9.mono hb8.size)
      have h39 := h38.trans (b9.mono h38.size)
      have HX9 : Hid (EvAt w9 (.slice ad9 X9.length cap9) X9) := o9
      have HE9 : Hid (X9.map Prod.fst = erased (X.map Prod.fst)) := e9
      have HL9 : Hid (∀ p ∈ X9, p.1.l.length < 4294967296) := all_of (P := fun e : Ev => e.l.length < 4294967296) e9 fun e he => by
        obtain ⟨p, hp, rfl⟩ := List.mem_map.1 (List.mem_filter.1 he).1
        exact HXL.out p hp
      have hl9 : X9.length < 4294967296 := by omega
      clear o9 e9 b9 l9 h38
      go_wp2_with fail
      refine (sameEvents_any _ _ X3 X9 _ (HX3.out _ h39) HX9.out hl3 hl9 HL3.out HL9.out).mono ?_
      rintro e wa ⟨rfl, ba⟩
      rw [sameEs_true (HE3.out.trans HE9.out.symm)]
      have hba := hb9.trans (ba.mono hb9.size)
      have h3a := h39.trans (ba.mono h39.size)
      clear ba h39 HX9 HL9 HE9
      go_wp2_with fail
      refine (erase_any (HX3.out _ h3a) hl3 HL3.out).mono ?_
      rintro e wb ⟨vb, Xb, rfl, ob, eb, bb'⟩
      obtain ⟨adz, capz, rfl⟩ := owns_slice ob.1
      have hbb := hba.trans (bb'.mono hba.size)
      have h3b := h3a.trans (bb'.mono h3a.size)
      have HXb : Hid (EvAt wb (.slice adz Xb.length capz) Xb) := ob.at
      have HEb : Hid (Xb.map Prod.fst = X3.map Prod.fst) := by
        unfold Hid
        rw [eb, HE3.out, erased_twice]
      have hlb : Xb.length < 4294967296 := by
        have h1 := len_of HEb.out
        rw [List.length_map] at h1
        omega
      have HLb : Hid (∀ p ∈ Xb, p.1.l.length < 4294967296) := all_of (P := fun e : Ev => e.l.length < 4294967296) HEb.out fun e he => by
        obtain ⟨p, hp, rfl⟩ := List.mem_map.1 he
        exact HL3.out p hp
      clear ob eb bb' h3a
      go_wp2_with fail
      refine (wsameEvents_any _ _ Xb X3 _ HXb.out (HX3.out _ h3b) hlb HLb.out HL3.out).mono ?_
      rintro e wc ⟨rfl, bc⟩
      rw [sameEs_true HEb.out]
      have hbc := hbb.trans (bc.mono hbb.size)
      clear bc
      go_wp2_with fail
      refine (begins_any (.slice none 0 0) _ [] X _ ⟨.inl ⟨rfl, none, 0, rfl⟩, fun p hp => by simp at hp⟩ (HA.out _ hbc) (by decide) (fun p hp => by simp at hp) HXL.out HCA.out).mono ?_
      rintro e wd ⟨rfl, bd⟩
      rw [show beginsB (([] : List (Ev × Value)).map Prod.fst) (X.map Prod.fst) = true from begins_nil _]
      have hbd := hbc.trans (bd.mono hbc.size)
      clear bd
      go_wp2_with fail
      go_ret
      exact ⟨rfl, hbd⟩
end Go.Proofs.YthhghkjgffcpeaaDoor
