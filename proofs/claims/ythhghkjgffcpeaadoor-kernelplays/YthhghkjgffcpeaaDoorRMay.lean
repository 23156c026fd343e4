/- Which worlds may be, as the document says. -/
import Derived.Test.YthhghkjgffcpeaaDoorRLight
import Derived.Test.YthhghkjgffcpeaaDoorRSee
namespace Go.Proofs.YthhghkjgffcpeaaDoor
open Go.RowKit Go.Shelf

theorem may_files {Fl : Fls} {R : List Rw} (hm : manyW Fl R = false) {k e : Nat} (h : ∀ j, j < k → fileAt Fl j = none) (hk : k < Fl.length) (he : fileAt Fl k = some e) : mayR Fl R = some e := by
  unfold mayR
  rw [hm, if_neg Bool.false_ne_true, firstOf_hit _ _ _ _ h hk he]
theorem may_rows {Fl : Fls} {R : List Rw} (hm : manyW Fl R = false) (hf : ∀ j, j < Fl.length → fileAt Fl j = none) {k e : Nat} (h : ∀ j, j < k → rowAt R j = none) (hk : k < R.length) (he : rowAt R k = some e) : mayR Fl R = some e := by
  unfold mayR
  rw [hm, if_neg Bool.false_ne_true, firstOf_none _ _ hf]
  exact firstOf_hit _ _ _ _ h hk he
theorem may_fine {Fl : Fls} {R : List Rw} (hm : manyW Fl R = false) (hf : ∀ j, j < Fl.length → fileAt Fl j = none) (h : ∀ j, j < R.length → rowAt R j = none) : mayR Fl R = none := by
  unfold mayR
  rw [hm, if_neg Bool.false_ne_true, firstOf_none _ _ hf]
  exact firstOf_none _ _ h
theorem may_four (Fl : Fls) (R : List Rw) : Four (mayR Fl R) := by
  have hfile : ∀ n i, Four (firstOf (fileAt Fl) i n) := by
    intro n
    induction n with
    | zero => exact fun i => .inl rfl
    | succ n ih =>
      intro i
      unfold firstOf
      split
      · rename_i e he
        unfold fileAt at he
        split at he
        · unfold fileR at he
          split at he
          · cases he; exact .inr (.inr (.inl rfl))
          · split at he
            · cases he; exact .inr (.inr (.inr (.inl rfl)))
            · cases he
        · cases he
      · exact ih _
  have hrow : ∀ n i, Four (firstOf (rowAt R) i n) := by
    intro n
    induction n with
    | zero => exact fun i => .inl rfl
    | succ n ih =>
      intro i
      unfold firstOf
      split
      · rename_i e he
        unfold rowAt at he
        split at he
        · unfold rowR at he
          split at he
          · cases he; exact .inr (.inr (.inl rfl))
          · split at he
            · cases he; exact .inr (.inr (.inr (.inl rfl)))
            · split at he
              · cases he; exact .inr (.inr (.inr (.inr rfl)))
              · cases he
        · cases he
      · exact ih _
  unfold mayR
  split
  · exact .inr (.inl rfl)
  · have h1 := hfile Fl.length 0
    split
    · rename_i e he
      rw [he] at h1
      exact h1
    · exact hrow _ _
set_option maxRecDepth 100000 in
set_option maxHeartbeats 8000000 in
theorem rmay_any (fv rv : Value) (Fl : Fls) (Y : List (Rw × Value)) (W : World) (hf : FlAt W fv Fl) (hr : RwAt W rv Y) (hL : Lite Fl Y) :
    Calls Tryd.prog 11 #[wV fv rv] W fun e w' => e = .returned (.int .i64 (codeR (mayR Fl (Y.map Prod.fst)))) ∧ Below W.heap.size W w' := by
  have HFA : Hid (∀ W', Below W.heap.size W W' → FlAt W' fv Fl) := fun W' hb => hf.below hb (Nat.le_refl _)
  have HRA : Hid (∀ W', Below W.heap.size W W' → RwAt W' rv Y) := fun W' hb => hr.below hb (Nat.le_refl _)
  have HLT : Hid (Lite Fl Y) := hL
  have hF60 := hL.f
  have hY60 := hL.y
  obtain ⟨adf, capf, rfl⟩ := hf.form
  obtain ⟨adr, capr, rfl⟩ := hr.form
  have HP0 : Hid (Pot W (.slice adf Fl.length capf) (.slice adr Y.length capr) (W.alloc (.cells #[.slice adf Fl.length capf, .slice adr Y.length capr] 25))) := ⟨below_new W _, Cel.new W 25 _⟩
  obtain ⟨R, hR⟩ : ∃ R, R = Y.map Prod.fst := ⟨_, rfl⟩
  have HRE : Hid (R = Y.map Prod.fst) := hR
  have HRL : Hid (R.length = Y.length) := by unfold Hid; rw [hR, List.length_map]
  rw [← hR]
  clear hf hr hL hR
  by_cases h50 : 50 < Fl.length
  · have e1 : Hid (mayR Fl R = some 1) := by unfold Hid; simp [mayR, manyW, h50]
    go_enter Tryd.func11, Tryd.ntmps11
    go_wp2_with fail
    go_ret
    exact ⟨by rw [e1.out]; rfl, HP0.out.1⟩
  by_cases r50 : 50 < Y.length
  · have e1 : Hid (mayR Fl R = some 1) := by unfold Hid; simp [mayR, manyW, HRL.out, r50]
    go_enter Tryd.func11, Tryd.ntmps11
    go_wp2_with fail
    go_ret
    exact ⟨by rw [e1.out]; rfl, HP0.out.1⟩
  have h50' : decide ((50 : Int) < (Fl.length : Int)) = false := decide_eq_false (by omega)
  have r50' : decide ((50 : Int) < (Y.length : Int)) = false := decide_eq_false (by omega)
  go_enter Tryd.func11, Tryd.ntmps11
  go_wp2_with fail
  go_loopw [3] (fun v3 wr => ∃ k : Nat, v3 = .int .i64 k ∧ k ≤ Y.length ∧ Hid (∀ j p, j < k → Y[j]? = some p → manyB p.1 = false) ∧ Hid (Pot W (.slice adf Fl.length capf) (.slice adr Y.length capr) wr)) (fun v3 _ => Y.length - (intOf v3).toNat)
  case atStart => exact ⟨0, rfl, Nat.zero_le _, fun j p hj => absurd hj (Nat.not_lt_zero _), HP0.out⟩
  case round =>
    clear h50' r50'
    obtain ⟨k, rfl, hk, HI, HP⟩ := hrel
    have d0 := HP.out.2.cell 0
    have d1 := HP.out.2.cell 1
    by_cases hkl : k < Y.length
    · obtain ⟨p, hp⟩ : ∃ p, Y[k]? = some p := ⟨_, List.getElem?_eq_getElem hkl⟩
      obtain ⟨g, o, cap', hv, _, x0, x1, _, _, _, x5, _⟩ := (HRA.out _ HP.out.1).at hp
      cases hv
      obtain ⟨ada, capa, hva⟩ := ((HRA.out _ HP.out.1).2 p (List.mem_of_getElem? hp)).form
      rw [hva] at x1
      have h120 := (HLT.out.rw p (List.mem_of_getElem? hp)).1
      have HPP : Hid (Y[k]? = some p) := hp
      clear hp hva x0 x5
      by_cases h100 : 100 < p.1.args.length
      · have e1 : Hid (mayR Fl R = some 1) := by
          unfold Hid mayR
          rw [show manyW Fl R = true by
            unfold manyW
            rw [show R.any manyB = true by
              rw [List.any_eq_true, HRE.out]
              exact ⟨p.1, List.mem_map.2 ⟨p, List.mem_of_getElem? HPP.out, rfl⟩, decide_eq_true h100⟩]
            simp, if_pos rfl]
        have HB : Hid (Below W.heap.size W wr) := HP.out.1
        go_wp2_with fail
        go_ret
        exact ⟨by rw [e1.out]; rfl, HB.out⟩
      · have HI2 : Hid (∀ j p, j < k + 1 → Y[j]? = some p → manyB p.1 = false) := fun j q hj hq => by
          rcases Nat.lt_or_ge j k with h1 | h1
          · exact HI.out j q h1 hq
          · rw [show j = k by omega, HPP.out] at hq
            cases hq
            exact decide_eq_false h100
        go_wp2_with fail
        exact ⟨⟨k + 1, by simp, by omega, HI2.out, HP.out⟩, by simp [intOf]; omega⟩
    · obtain rfl : k = Y.length := by omega
      have HM : Hid (manyW Fl R = false) := by
        unfold Hid manyW
        rw [decide_eq_false h50, decide_eq_false (by rw [HRL.out]; exact r50), show R.any manyB = false by
          rw [List.any_eq_false, HRE.out]
          intro r hr
          obtain ⟨q, hq, rfl⟩ := List.mem_map.1 hr
          obtain ⟨j, hj⟩ := List.mem_iff_getElem?.1 hq
          rw [HI.out j q (List.getElem?_eq_some_iff.1 hj).1 hj]
          exact Bool.false_ne_true]
        rfl
      clear HI
      go_wp2_with fail
      go_loopw [4, 5, 6] (fun v4 _ _ wr => ∃ i : Nat, v4 = .int .i64 i ∧ i ≤ Fl.length ∧ Hid (∀ j, j < i → fileAt Fl j = none) ∧ Hid (Pot W (.slice adf Fl.length capf) (.slice adr Y.length capr) wr)) (fun v4 _ _ _ => Fl.length - (intOf v4).toNat)
      case atStart => exact ⟨0, rfl, Nat.zero_le _, fun j hj => absurd hj (Nat.not_lt_zero _), HP.out⟩
      case round =>
        clear HP d0 d1 hkl
        obtain ⟨i, rfl, hi, HI, HP⟩ := hrel
        have d0 := HP.out.2.cell 0
        have d1 := HP.out.2.cell 1
        by_cases hil : i < Fl.length
        · obtain ⟨p, hp⟩ : ∃ p, Fl[i]? = some p := ⟨_, List.getElem?_eq_getElem hil⟩
          obtain ⟨g, o, cap', hv, _, _, x0, x1⟩ := (HFA.out _ HP.out.1).at hp
          cases hv
          obtain ⟨pn, pd⟩ := p
          have HFI : Hid (fileAt Fl i = fileR (pn, pd) (Fl.take i)) := by unfold Hid fileAt; rw [hp]
          have HP2 : Hid (Pot W (.slice (some ⟨g, o, none⟩) Fl.length capf) (.slice adr Y.length capr) (wr.alloc (.cells #[str pn, str pd] 73))) := ⟨HP.out.1.alloc HP.out.1.size _, HP.out.2.below (below_new _ _) HP.out.2.lt⟩
          have HC5 : Hid (Cel (wr.alloc (.cells #[str pn, str pd] 73)) wr.heap.size 73 #[str pn, str pd]) := Cel.new _ _ _
          have hks : (⟨pn.toArray⟩ : ByteArray).size = pn.length := str_size pn
          have hkt : (⟨pd.toArray⟩ : ByteArray).size = pd.length := str_size pd
          have hz := HLT.out.fn (pn, pd) (List.mem_of_getElem? hp)
          obtain ⟨z1, z2⟩ := hz
          clear hp
          by_cases hno : noNm pn = true
          · have e2 : Hid (mayR Fl R = some 2) := may_files HM.out HI.out hil (by rw [HFI.out]; unfold fileR; simp only [hno, Bool.true_or, if_true])
            by_cases hpe : pn = []
            · subst hpe
              clear hno hks
              go_wp2_with fail
              go_ret
              exact ⟨by rw [e2.out]; rfl, HP2.out.1⟩
            · have h2k : 2000 < pn.length := by
                unfold noNm longT at hno
                rw [Bool.or_eq_true, decide_eq_true_eq] at hno
                exact hno.elim (fun h => absurd (List.isEmpty_iff.1 h) hpe) id
              have hpe' : (pn == []) = false := by simpa using hpe
              clear hno
              go_wp2_with fail
              go_ret
              exact ⟨by rw [e2.out]; rfl, HP2.out.1⟩
          · have hno' : noNm pn = false := by simpa using hno
            have hpe : pn ≠ [] := fun e => by subst e; exact hno rfl
            have hpe' : (pn == []) = false := by simpa using hpe
            have h2k : ¬ 2000 < pn.length := fun h => by
              apply hno
              unfold noNm longT
              rw [decide_eq_true h, Bool.or_true]
            have HNO : Hid (noNm pn = false) := hno'
            clear hno hno' z1
            go_wp2_with fail
            obtain ⟨wo, hwo⟩ : ∃ wo, wo = wr := ⟨_, rfl⟩
            subst hwo
            go_loopw [6] (fun v6 wr => ∃ q : Nat, v6 = .int .i64 q ∧ q ≤ i ∧ Hid (∀ j p, j < q → Fl[j]? = some p → (p.1 == pn) = false) ∧ Hid (Pot W (.slice (some ⟨g, o, none⟩) Fl.length capf) (.slice adr Y.length capr) wr) ∧ Hid (Cel wr wo.heap.size 73 #[str pn, str pd])) (fun v6 _ => i - (intOf v6).toNat)
            case atStart => exact ⟨0, rfl, Nat.zero_le _, fun j p hj => absurd hj (Nat.not_lt_zero _), HP2.out, HC5.out⟩
            case round =>
              clear HP2 HC5 d0 d1 x0 x1
              obtain ⟨q, rfl, hq, HQ, HPq, HCq⟩ := hrel
              have d0 := HPq.out.2.cell 0
              have d1 := HPq.out.2.cell 1
              have b0 := HCq.out.cell 0
              have b1 := HCq.out.cell 1
              by_cases hqi : q < i
              · obtain ⟨p, hp⟩ : ∃ p, Fl[q]? = some p := ⟨_, List.getElem?_eq_getElem (by omega)⟩
                obtain ⟨g', o', cap', hv, _, _, x0, x1⟩ := (HFA.out _ HPq.out.1).at hp
                cases hv
                have HPP : Hid (Fl[q]? = some p) := hp
                have hqf : (q : Int) < (Fl.length : Int) := by omega
                clear hp x1
                cases hk : (p.1 == pn)
                · have HQ2 : Hid (∀ j p, j < q + 1 → Fl[j]? = some p → (p.1 == pn) = false) := fun j t hj ht => by
                    rcases Nat.lt_or_ge j q with h1 | h1
                    · exact HQ.out j t h1 ht
                    · rw [show j = q by omega, HPP.out] at ht
                      cases ht
                      exact hk
                  go_wp2_with fail
                  go_quiet (fail)
                  have HP3 : Hid (Pot W (.slice (some ⟨g, o, none⟩) Fl.length capf) (.slice adr Y.length capr) (wr.drewN nq)) := HPq.out.drewN nq
                  have HC3 : Hid (Cel (wr.drewN nq) wo.heap.size 73 #[str pn, str pd]) := HCq.out
                  go_wp2_with fail
                  exact ⟨⟨q + 1, by simp, by omega, HQ2.out, HP3.out, HC3.out⟩, by simp [intOf]; omega⟩
                · have e2 : Hid (mayR Fl R = some 2) := may_files HM.out HI.out hil (by
                    rw [HFI.out]
                    unfold fileR
                    rw [show (Fl.take i).any (fun x => x.1 == (pn, pd).1) = true by
                      rw [List.any_eq_true]
                      exact ⟨p, List.mem_of_getElem? (i := q) (by rw [List.getElem?_take_of_lt hqi]; exact HPP.out), hk⟩, Bool.or_true, if_pos rfl])
                  go_wp2_with fail
                  go_quiet (fail)
                  have HP3 : Hid (Pot W (.slice (some ⟨g, o, none⟩) Fl.length capf) (.slice adr Y.length capr) (wr.drewN nq)) := HPq.out.drewN nq
                  go_wp2_with fail
                  go_ret
                  exact ⟨by rw [e2.out]; rfl, HP3.out.1⟩
              · obtain rfl : q = i := by omega
                have HNT : Hid ((Fl.take q).any (fun x => x.1 == (pn, pd).1) = false) := by
                  unfold Hid
                  rw [List.any_eq_false]
                  intro x hx
                  obtain ⟨j, hj⟩ := List.mem_iff_getElem?.1 hx
                  have hjq : j < q := by have := (List.getElem?_eq_some_iff.1 hj).1; rw [List.length_take] at this; omega
                  rw [List.getElem?_take_of_lt hjq] at hj
                  rw [show (x.1 == (pn, pd).1) = false from HQ.out j x hjq hj]
                  exact Bool.false_ne_true
                by_cases hbig : 16384 < pd.length
                · have e2 : Hid (mayR Fl R = some 3) := may_files HM.out HI.out hil (by
                    rw [HFI.out]
                    unfold fileR
                    rw [show noNm (pn, pd).1 = false from HNO.out, HNT.out, Bool.or_false, if_neg Bool.false_ne_true, if_pos hbig])
                  go_wp2_with fail
                  go_ret
                  exact ⟨by rw [e2.out]; rfl, HPq.out.1⟩
                · have HI2 : Hid (∀ j, j < q + 1 → fileAt Fl j = none) := fun j hj => by
                    rcases Nat.lt_or_ge j q with h1 | h1
                    · exact HI.out j h1
                    · rw [show j = q by omega, HFI.out]
                      unfold fileR
                      rw [show noNm (pn, pd).1 = false from HNO.out, HNT.out, Bool.or_false, if_neg Bool.false_ne_true, if_neg hbig]
                  go_wp2_with fail
                  go_roundw
                  case rel => exact ⟨q + 1, by simp, by omega, HI2.out, HPq.out⟩
                  case measure => simp [intOf]; omega
        · obtain rfl : i = Fl.length := by omega
          have HFF : Hid (∀ j, j < Fl.length → fileAt Fl j = none) := HI.out
          clear HI
          go_wp2_with fail
          go_loopw [7, 8, 9] (fun v7 _ _ wr => ∃ k : Nat, v7 = .int .i64 k ∧ k ≤ Y.length ∧ Hid (∀ j, j < k → rowAt R j = none) ∧ Hid (Pot W (.slice adf Fl.length capf) (.slice adr Y.length capr) wr)) (fun v7 _ _ _ => Y.length - (intOf v7).toNat)
          case atStart => exact ⟨0, rfl, Nat.zero_le _, fun j hj => absurd hj (Nat.not_lt_zero _), HP.out⟩
          case round =>
            clear HP d0 d1 hil
            obtain ⟨k, rfl, hk, HI, HP⟩ := hrel
            have d0 := HP.out.2.cell 0
            have d1 := HP.out.2.cell 1
            by_cases hkl : k < Y.length
            · obtain ⟨p, hp⟩ : ∃ p, Y[k]? = some p := ⟨_, List.getElem?_eq_getElem hkl⟩
              obtain ⟨g, o, cap', hv, _, x0, x1, x2, x3, x4, x5, x6⟩ := (HRA.out _ HP.out.1).at hp
              cases hv
              obtain ⟨ada, capa, hva⟩ := ((HRA.out _ HP.out.1).2 p (List.mem_of_getElem? hp)).form
              rw [hva] at x1
              have hz := HLT.out.rw p (List.mem_of_getElem? hp)
              obtain ⟨z1, z2, z3, z4⟩ := hz
              have HTX : Hid (∀ W', Below W.heap.size W W' → Tx W' (.slice ada p.1.args.length capa) p.1.args) := fun W' hb => by
                rw [← hva]
                exact (HRA.out _ hb).2 p (List.mem_of_getElem? hp)
              obtain ⟨⟨nm, ars, an, re, co, ou, st⟩, pv⟩ := p
              dsimp only at *
              have HKR : k < R.length := by rw [HRL.out]; exact hkl
              have HRI : Hid (rowAt R k = rowR ⟨nm, ars, an, re, co, ou, st⟩) := by
                unfold Hid rowAt
                rw [HRE.out, List.getElem?_map, hp]
                rfl
              have HP2 : Hid (Pot W (.slice adf Fl.length capf) (.slice (some ⟨g, o, none⟩) Y.length capr) (wr.alloc (.cells #[str nm, .slice ada ars.length capa, .bool an, .bool re, .bool co, str ou, .int .i64 st] 77))) := ⟨HP.out.1.alloc HP.out.1.size _, HP.out.2.below (below_new _ _) HP.out.2.lt⟩
              have HC8 : Hid (Cel (wr.alloc (.cells #[str nm, .slice ada ars.length capa, .bool an, .bool re, .bool co, str ou, .int .i64 st] 77)) wr.heap.size 77 #[str nm, .slice ada ars.length capa, .bool an, .bool re, .bool co, str ou, .int .i64 st]) := Cel.new _ _ _
              have hks : (⟨nm.toArray⟩ : ByteArray).size = nm.length := str_size nm
              have hkt : (⟨ou.toArray⟩ : ByteArray).size = ou.length := str_size ou
              have HZ4 : Hid (∀ s ∈ ars, s.length ≤ 60000) := z4
              have HHK : Hid (k < R.length) := HKR
              clear hp hva HKR z4
              by_cases hno : noNm nm = true
              · have e2 : Hid (mayR Fl R = some 2) := may_rows HM.out HFF.out HI.out HHK.out (by rw [HRI.out]; unfold rowR; simp only [hno, if_true])
                by_cases hpe : nm = []
                · subst hpe
                  clear hno hks
                  go_wp2_with fail
                  go_ret
                  exact ⟨by rw [e2.out]; rfl, HP2.out.1⟩
                · have h2k : 2000 < nm.length := by
                    unfold noNm longT at hno
                    rw [Bool.or_eq_true, decide_eq_true_eq] at hno
                    exact hno.elim (fun h => absurd (List.isEmpty_iff.1 h) hpe) id
                  have hpe' : (nm == []) = false := by simpa using hpe
                  clear hno
                  go_wp2_with fail
                  go_ret
                  exact ⟨by rw [e2.out]; rfl, HP2.out.1⟩
              · have hno' : noNm nm = false := by simpa using hno
                have hpe : nm ≠ [] := fun e => by subst e; exact hno rfl
                have hpe' : (nm == []) = false := by simpa using hpe
                have h2k : ¬ 2000 < nm.length := fun h => by
                  apply hno
                  unfold noNm longT
                  rw [decide_eq_true h, Bool.or_true]
                have HNO : Hid (noNm nm = false) := hno'
                clear hno hno'
                by_cases hou : 2000 < ou.length
                · have e2 : Hid (mayR Fl R = some 3) := may_rows HM.out HFF.out HI.out HHK.out (by
                    rw [HRI.out]
                    unfold rowR
                    rw [show noNm (⟨nm, ars, an, re, co, ou, st⟩ : Rw).name = false from HNO.out, if_neg Bool.false_ne_true]
                    rw [show longT (⟨nm, ars, an, re, co, ou, st⟩ : Rw).out = true from decide_eq_true hou, Bool.true_or, if_pos rfl])
                  go_wp2_with fail
                  go_ret
                  exact ⟨by rw [e2.out]; rfl, HP2.out.1⟩
                have HOU : Hid (longT ou = false) := decide_eq_false hou
                go_wp2_with fail
                obtain ⟨wo, hwo⟩ : ∃ wo, wo = wr := ⟨_, rfl⟩
                subst hwo
                obtain ⟨w8, hw8⟩ : ∃ w8, w8 = wo.alloc (.cells #[str nm, .slice ada ars.length capa, .bool an, .bool re, .bool co, str ou, .int .i64 st] 77) := ⟨_, rfl⟩
                rw [← hw8] at HP2 HC8 ⊢
                clear hw8 d0 d1 x0 x1 x2 x3 x4 x5 x6
                go_loopw [9] (fun v9 wr => ∃ q : Nat, v9 = .int .i64 q ∧ q ≤ ars.length ∧ Hid (∀ j s, j < q → ars[j]? = some s → longT s = false) ∧ w8 = wr) (fun v9 _ => ars.length - (intOf v9).toNat)
                case atStart => exact ⟨0, rfl, Nat.zero_le _, fun j s hj => absurd hj (Nat.not_lt_zero _), rfl⟩
                case round =>
                  obtain ⟨q, rfl, hq, HQ, hwr⟩ := hrel
                  subst hwr
                  have b1 := HC8.out.cell 1
                  have b6 := HC8.out.cell 6
                  by_cases hql : q < ars.length
                  · obtain ⟨s, hs⟩ : ∃ s, ars[q]? = some s := ⟨_, List.getElem?_eq_getElem hql⟩
                    obtain ⟨gl, ol, capl, hvl, _, hgl, hcl⟩ := (HTX.out _ HP2.out.1).inRow (fun e => by rw [e] at hql; simp at hql)
                    cases hvl
                    have e1 := hcl q s hs
                    have hss : (⟨s.toArray⟩ : ByteArray).size = s.length := str_size s
                    have hsl := HZ4.out s (List.mem_of_getElem? hs)
                    have HSS : Hid (ars[q]? = some s) := hs
                    clear hcl hgl hs
                    by_cases hs2 : 2000 < s.length
                    · have e2 : Hid (mayR Fl R = some 3) := may_rows HM.out HFF.out HI.out HHK.out (by
                        rw [HRI.out]
                        unfold rowR
                        rw [show noNm (⟨nm, ars, an, re, co, ou, st⟩ : Rw).name = false from HNO.out, if_neg Bool.false_ne_true]
                        rw [show (⟨nm, ars, an, re, co, ou, st⟩ : Rw).args.any longT = true by
                          rw [List.any_eq_true]
                          exact ⟨s, List.mem_of_getElem? HSS.out, decide_eq_true hs2⟩, Bool.or_true, if_pos rfl])
                      go_wp2_with fail
                      go_ret
                      exact ⟨by rw [e2.out]; rfl, HP2.out.1⟩
                    · have HQ2 : Hid (∀ j s, j < q + 1 → ars[j]? = some s → longT s = false) := fun j t hj ht => by
                        rcases Nat.lt_or_ge j q with h1 | h1
                        · exact HQ.out j t h1 ht
                        · rw [show j = q by omega, HSS.out] at ht
                          cases ht
                          exact decide_eq_false hs2
                      go_wp2_with fail
                      exact ⟨⟨q + 1, by simp, by omega, HQ2.out, trivial⟩, by simp [intOf]; omega⟩
                  · obtain rfl : q = ars.length := by omega
                    have HAR : Hid (ars.any longT = false) := by
                      unfold Hid
                      rw [List.any_eq_false]
                      intro x hx
                      obtain ⟨j, hj⟩ := List.mem_iff_getElem?.1 hx
                      rw [HQ.out j x (List.getElem?_eq_some_iff.1 hj).1 hj]
                      exact Bool.false_ne_true
                    have HRR : Hid (rowR ⟨nm, ars, an, re, co, ou, st⟩ = if st < 0 ∨ 255 < st then some 4 else none) := by
                      unfold Hid rowR
                      rw [show noNm (⟨nm, ars, an, re, co, ou, st⟩ : Rw).name = false from HNO.out, if_neg Bool.false_ne_true]
                      rw [show longT (⟨nm, ars, an, re, co, ou, st⟩ : Rw).out = false from HOU.out, show (⟨nm, ars, an, re, co, ou, st⟩ : Rw).args.any longT = false from HAR.out, Bool.or_false, if_neg Bool.false_ne_true]
                    by_cases hs0 : st < 0
                    · have e2 : Hid (mayR Fl R = some 4) := may_rows HM.out HFF.out HI.out HHK.out (by rw [HRI.out, HRR.out, if_pos (.inl hs0)])
                      go_wp2_with fail
                      go_ret
                      exact ⟨by rw [e2.out]; rfl, HP2.out.1⟩
                    · by_cases hs255 : 255 < st
                      · have e2 : Hid (mayR Fl R = some 4) := may_rows HM.out HFF.out HI.out HHK.out (by rw [HRI.out, HRR.out, if_pos (.inr hs255)])
                        go_wp2_with fail
                        go_ret
                        exact ⟨by rw [e2.out]; rfl, HP2.out.1⟩
                      · have HI2 : Hid (∀ j, j < k + 1 → rowAt R j = none) := fun j hj => by
                          rcases Nat.lt_or_ge j k with h1 | h1
                          · exact HI.out j h1
                          · rw [show j = k by omega, HRI.out, HRR.out, if_neg (fun h => h.elim hs0 hs255)]
                        go_wp2_with fail
                        go_roundw
                        case rel => exact ⟨k + 1, by simp, by omega, HI2.out, HP2.out⟩
                        case measure => simp [intOf]; omega
            · obtain rfl : k = Y.length := by omega
              have e2 : Hid (mayR Fl R = none) := may_fine HM.out HFF.out (fun j hj => HI.out j (by rw [← HRL.out]; exact hj))
              go_wp2_with fail
              go_ret
              exact ⟨by rw [e2.out]; rfl, HP.out.1⟩
end Go.Proofs.YthhghkjgffcpeaaDoor
