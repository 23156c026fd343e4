/- Which worlds may be. -/
import Derived.Test.YthhghkjgffcpeaaDoorMay2
namespace Go.Proofs.YthhghkjgffcpeaaDoor
open Go.RowKit Go.Shelf

/-- The first that there is, from i on, so many. -/
def firstOf (f : Nat → Option Nat) : Nat → Nat → Option Nat
  | _, 0 => none
  | i, n + 1 => match f i with
    | some e => some e
    | none => firstOf f (i + 1) n
theorem firstOf_skip (f : Nat → Option Nat) : ∀ (n i k : Nat), (∀ j, i ≤ j → j < k → f j = none) → i ≤ k → k ≤ i + n → firstOf f i n = firstOf f k (i + n - k)
  | 0, i, k, _, h1, h2 => by
    obtain rfl : k = i := by omega
    rw [show k + 0 - k = 0 by omega]
  | n + 1, i, k, h, h1, h2 => by
    by_cases hk : k = i
    · subst hk
      rw [show k + (n + 1) - k = n + 1 by omega]
    · have e : firstOf f i (n + 1) = firstOf f (i + 1) n := by
        unfold firstOf
        rw [h i (Nat.le_refl _) (by omega)]
        cases n <;> rfl
      rw [e, firstOf_skip f n (i + 1) k (fun j hj hjk => h j (by omega) hjk) (by omega) (by omega)]
      congr 1
      omega
theorem firstOf_hit (f : Nat → Option Nat) (n k e : Nat) (h : ∀ j, j < k → f j = none) (hk : k < n) (he : f k = some e) : firstOf f 0 n = some e := by
  rw [firstOf_skip f n 0 k (fun j _ hj => h j hj) (by omega) (by omega)]
  obtain ⟨m, hm⟩ : ∃ m, 0 + n - k = m + 1 := ⟨n - k - 1, by omega⟩
  rw [hm]
  unfold firstOf
  rw [he]
theorem firstOf_none (f : Nat → Option Nat) (n : Nat) (h : ∀ j, j < n → f j = none) : firstOf f 0 n = none := by
  rw [firstOf_skip f n 0 n (fun j _ hj => h j hj) (by omega) (by omega)]
  rw [show 0 + n - n = 0 by omega]
  rfl
def fileAt (Fl : Fls) (i : Nat) : Option Nat := match Fl[i]? with | some f => fileR f (Fl.take i) | none => none
def rowAt (R : List Rw) (i : Nat) : Option Nat := match R[i]? with | some r => rowR r | none => none
def manyW (Fl : Fls) (R : List Rw) : Bool := decide (50 < Fl.length) || decide (50 < R.length) || R.any manyB
/-- What is wrong with a world. -/
def mayR (Fl : Fls) (R : List Rw) : Option Nat := if manyW Fl R then some 1 else match firstOf (fileAt Fl) 0 Fl.length with
  | some e => some e
  | none => firstOf (rowAt R) 0 R.length
theorem FlAt.cut {W : World} {g o cap : Nat} {F : Fls} (h : FlAt W (.slice (some ⟨g, o, none⟩) F.length cap) F) (hF : F ≠ []) (k : Nat) : FlAt W (.slice (some ⟨g, o, none⟩) (F.take k).length cap) (F.take k) := by
  rcases h with ⟨h0, _⟩ | ⟨g', o', cap', hv, h2, h3, h4⟩
  · exact absurd (by simpa using h0) hF
  · simp only [Value.slice.injEq, Option.some.injEq, Addr.mk.injEq] at hv
    obtain ⟨⟨rfl, rfl, _⟩, _, rfl⟩ := hv
    refine .inr ⟨g, o, cap, by simp, ?_, h3, fun j cs hj => h4 j cs ?_⟩
    · simp only [List.length_map, List.length_take] at h2 ⊢
      omega
    · rw [List.getElem?_map] at hj ⊢
      rw [List.getElem?_take] at hj
      by_cases hjk : j < k
      · rw [if_pos hjk] at hj; exact hj
      · rw [if_neg hjk] at hj; simp at hj

/-- A world's value. -/
abbrev wV (fv rv : Value) : Value := .agg #[fv, rv]
set_option maxRecDepth 100000 in
set_option maxHeartbeats 4000000 in
theorem may_any (fv rv : Value) (Fl : Fls) (Y : List (Rw × Value)) (ea : Nat → Addr) (W : World) (hf : FlAt W fv Fl) (hr : RwAt W rv Y) (hFl : Fl.length < 4294967296) (hY : Y.length < 4294967296) (hl : ∀ p ∈ Y, p.1.args.length < 4294967296) (hE : Ers W ea) :
    Calls Tryd.prog 14 #[wV fv rv] W fun e w' => e = .returned (errO ea (mayR Fl (Y.map Prod.fst))) ∧ Below W.heap.size W w' := by
  have HF : Hid (∀ W', Below W.heap.size W W' → FlAt W' fv Fl) := fun W' hb => hf.below hb (Nat.le_refl _)
  have HR : Hid (∀ W', Below W.heap.size W W' → RwAt W' rv Y) := fun W' hb => hr.below hb (Nat.le_refl _)
  have HE : Hid (∀ W', Below W.heap.size W W' → Ers W' ea) := fun W' hb => hE.below hb (Nat.le_refl _)
  have HL : Hid (∀ p ∈ Y, p.1.args.length < 4294967296) := hl
  obtain ⟨adf, capf, rfl⟩ := hf.form
  obtain ⟨adr, capr, rfl⟩ := hr.form
  clear hf hr hE hl
  have hb1 := below_new W (.cells #[.slice adf Fl.length capf, .slice adr Y.length capr] 25)
  have c1 := (HE.out _ hb1 1 (by decide)).1
  by_cases h50 : 50 < Fl.length
  · have e1 : Hid (mayR Fl (Y.map Prod.fst) = some 1) := by unfold Hid; simp [mayR, manyW, h50]
    go_enter Tryd.func14, Tryd.ntmps14
    go_wp2_with fail
    go_ret
    exact ⟨by rw [e1.out]; rfl, hb1⟩
  · have h50' : decide ((50 : Int) < (Fl.length : Int)) = false := decide_eq_false (by omega)
    have h50n : decide (50 < Fl.length) = false := decide_eq_false h50
    by_cases r50 : 50 < Y.length
    · have e1 : Hid (mayR Fl (Y.map Prod.fst) = some 1) := by unfold Hid; simp [mayR, manyW, r50]
      go_enter Tryd.func14, Tryd.ntmps14
      go_wp2_with fail
      go_ret
      exact ⟨by rw [e1.out]; rfl, hb1⟩
    · have r50' : decide ((50 : Int) < (Y.length : Int)) = false := decide_eq_false (by omega)
      have r50n : decide (50 < Y.length) = false := decide_eq_false r50
      obtain ⟨mn, HMN⟩ : ∃ mn, Hid ((Y.map Prod.fst).any manyB = mn) := ⟨_, rfl⟩
      have HW : Hid (manyW Fl (Y.map Prod.fst) = mn) := by
        unfold Hid manyW
        rw [List.length_map, h50n, r50n, HMN.out]
        rfl
      have HCB : Hid (Cel (W.alloc (.cells #[.slice adf Fl.length capf, .slice adr Y.length capr] 25)) W.heap.size 25 #[.slice adf Fl.length capf, .slice adr Y.length capr]) := Cel.new W 25 _
      go_enter Tryd.func14, Tryd.ntmps14
      go_wp2_with fail
      refine (many_any _ Y _ (HR.out _ hb1) hY).mono ?_
      rintro e w1 ⟨rfl, hb2'⟩
      have hb2 := hb1.trans (hb2'.mono hb1.size)
      have HC1 : Hid (Cel w1 W.heap.size 25 #[.slice adf Fl.length capf, .slice adr Y.length capr]) := HCB.out.turn (Turn.ofBelow (S := fun _ => False) hb2') (fun h => h)
      have k1 := (HE.out _ hb2 1 (by decide)).1
      have d0 := HC1.out.cell 0
      have d1 := HC1.out.cell 1
      rw [HMN.out]
      clear hb2' hb1 c1 HCB
      cases mn with
      | true =>
        go_wp2_with fail
        go_ret
        exact ⟨by unfold mayR; rw [HW.out, if_pos rfl]; rfl, hb2⟩
      | false =>
        go_wp2_with fail
        clear d0 d1 k1
        go_loopw [28] (fun v28 wr => ∃ k : Nat, v28 = .int .i64 k ∧ k ≤ Fl.length ∧ Hid (∀ j, j < k → fileAt Fl j = none) ∧ Below W.heap.size W wr ∧ Hid (Cel wr W.heap.size 25 #[.slice adf Fl.length capf, .slice adr Y.length capr])) (fun v28 _ => Fl.length - (intOf v28).toNat)
        case atStart => exact ⟨0, rfl, by omega, fun j hj => absurd hj (by omega), hb2, HC1.out⟩
        case round =>
          obtain ⟨k, rfl, hk, HN, hbr, HC⟩ := hrel
          by_cases hkl : k < Fl.length
          · obtain ⟨p, hp⟩ : ∃ p, Fl[k]? = some p := ⟨_, List.getElem?_eq_getElem hkl⟩
            have hne : Fl ≠ [] := fun e => by rw [e] at hkl; simp at hkl
            obtain ⟨g, o, cap', hv, hcap, hg, x0, x1⟩ := (HF.out _ hbr).at hp
            cases hv
            have HP : Hid (fileAt Fl k = fileR p (Fl.take k)) := by unfold Hid fileAt; rw [hp]
            obtain ⟨pn, pd⟩ := p
            have hTL : (Fl.take k).length = k := by rw [List.length_take]; omega
            have hkc : (k : Int) ≤ (capf : Int) := by omega
            have hba : Below W.heap.size W (World.drew (wr.alloc (.cells #[str pn, str pd] 73))) := (hbr.alloc hbr.size _).drew
            have HCa : Hid (Cel (World.drew (wr.alloc (.cells #[str pn, str pd] 73))) W.heap.size 25 #[.slice (some ⟨g, o, none⟩) Fl.length capf, .slice adr Y.length capr]) := HC.out.turn (Turn.ofBelow (S := fun _ => False) (below_new _ _).drew) (fun h => h)
            have HFc : Hid (FlAt (World.drew (wr.alloc (.cells #[str pn, str pd] 73))) (.slice (some ⟨g, o, none⟩) k capf) (Fl.take k)) := by
              have := (HF.out _ hba).cut hne k
              rw [hTL] at this
              exact this
            have b0 := HCa.out.cell 0
            obtain ⟨fe, HFE⟩ : ∃ fe, Hid (fileR (pn, pd) (Fl.take k) = fe) := ⟨_, rfl⟩
            have HLk : Hid ((Fl.take k).length < 4294967296) := by unfold Hid; omega
            clear hp hg hTL
            go_wp2_with fail
            refine wp_region_any (by kernel_rfl) ?_
            try (change wpAny _ _ _ _ _ _ _ (World.drew _))
            refine wpAny_take (i := 1) (v := .pointer (some ⟨W.heap.size, 0, none⟩)) rfl (by kernel_rfl) (by kernel_rfl) (by kernel_rfl) (fun _ _ _ h => h) (Or.inl ⟨by rfl, by intro wz; go_simp⟩) ?_
            try simp only [Act.put, List.getElem_toArray, List.getElem_cons_succ, List.getElem_cons_zero, List.setIfInBounds_toArray, List.set_cons_zero, List.set_cons_succ]
            refine wpAny_take (i := 3) (v := .int .i64 (k : Int)) rfl (by kernel_rfl) (by kernel_rfl) (by kernel_rfl) (fun _ _ _ h => h) (Or.inl ⟨by rfl, by intro wz; go_simp⟩) ?_
            try simp only [Act.put, List.getElem_toArray, List.getElem_cons_succ, List.getElem_cons_zero, List.setIfInBounds_toArray, List.set_cons_zero, List.set_cons_succ]
            refine wpAny_ready (rs := [0, 2]) (by kernel_rfl) (by simp) ?_
            refine AllReady.cons rfl (fun K hK => ?_) ?_
            · go_simp
              refine hK _ _ ?_
              clear hK K
              try simp only [Act.put, List.getElem_toArray, List.getElem_cons_succ, List.getElem_cons_zero, List.setIfInBounds_toArray, List.set_cons_zero, List.set_cons_succ]
              refine wpAny_ready (rs := [2]) (by kernel_rfl) (by simp) ?_
              refine AllReady.cons rfl (fun K hK => ?_) ?_
              · go_simp
                refine hK _ _ ?_
                clear hK K
                try simp only [Act.put, List.getElem_toArray, List.getElem_cons_succ, List.getElem_cons_zero, List.setIfInBounds_toArray, List.set_cons_zero, List.set_cons_succ]
                refine wpAny_take (i := 4) (v := .slice (some ⟨g, o, none⟩) k capf) rfl (by kernel_rfl) (by kernel_rfl) (by kernel_rfl) (fun _ _ _ h => h) (Or.inl ⟨by rfl, by intro wz; go_simp⟩) ?_
                try simp only [Act.put, List.getElem_toArray, List.getElem_cons_succ, List.getElem_cons_zero, List.setIfInBounds_toArray, List.set_cons_zero, List.set_cons_succ]
                refine wpAny_ready (rs := [5]) (by kernel_rfl) (by simp) ?_
                refine AllReady.cons rfl (fun K hK => ?_) ?_
                · go_simp
                  refine (mayFile_any (pn, pd) _ (Fl.take k) ea _ HFc.out HLk.out (HE.out _ hba)).mono ?_
                  rintro e w3 ⟨rfl, hb3'⟩
                  have hb3 := hba.trans (hb3'.mono hba.size)
                  rw [HFE.out]
                  have HC3 : Hid (Cel w3 W.heap.size 25 #[.slice (some ⟨g, o, none⟩) Fl.length capf, .slice adr Y.length capr]) := HCa.out.turn (Turn.ofBelow (S := fun _ => False) hb3') (fun h => h)
                  refine hK _ _ ?_
                  clear hK K
                  try simp only [Act.put, List.getElem_toArray, List.getElem_cons_succ, List.getElem_cons_zero, List.setIfInBounds_toArray, List.set_cons_zero, List.set_cons_succ]
                  refine wpAny_ready (rs := [6]) (by kernel_rfl) (by simp) ?_
                  refine AllReady.cons rfl (fun K hK => ?_) ?_
                  · go_simp
                    refine hK _ _ ?_
                    clear hK K
                    try simp only [Act.put, List.getElem_toArray, List.getElem_cons_succ, List.getElem_cons_zero, List.setIfInBounds_toArray, List.set_cons_zero, List.set_cons_succ]
                    refine wpAny_done (by kernel_rfl) ?_ _
                    cases fe
                    · simp only [errO]
                      go_wp2_with fail
                      refine ⟨⟨k + 1, by simp, by omega, ?_, hb3, HC3.out⟩, by simp [intOf]; omega⟩
                      intro j hj
                      by_cases hjk : j < k
                      · exact HN.out j hjk
                      · rw [show j = k by omega, HP.out, HFE.out]
                    · simp only [errO]
                      go_wp2_with fail
                      go_ret
                      refine ⟨?_, hb3⟩
                      have hfo := firstOf_hit (fileAt Fl) Fl.length k _ HN.out hkl (HP.out.trans HFE.out)
                      unfold mayR
                      rw [HW.out, if_neg Bool.false_ne_true, hfo]
                      rfl
                  exact AllReady.nil
                exact AllReady.nil
              exact AllReady.nil
            refine AllReady.cons rfl (fun K hK => ?_) ?_
            · go_simp
              refine hK _ _ ?_
              clear hK K
              try simp only [Act.put, List.getElem_toArray, List.getElem_cons_succ, List.getElem_cons_zero, List.setIfInBounds_toArray, List.set_cons_zero, List.set_cons_succ]
              refine wpAny_take (i := 4) (v := .slice (some ⟨g, o, none⟩) k capf) rfl (by kernel_rfl) (by kernel_rfl) (by kernel_rfl) (fun _ _ _ h => h) (Or.inl ⟨by rfl, by intro wz; go_simp⟩) ?_
              try simp only [Act.put, List.getElem_toArray, List.getElem_cons_succ, List.getElem_cons_zero, List.setIfInBounds_toArray, List.set_cons_zero, List.set_cons_succ]
              refine wpAny_ready (rs := [0]) (by kernel_rfl) (by simp) ?_
              refine AllReady.cons rfl (fun K hK => ?_) ?_
              · go_simp
                refine hK _ _ ?_
                clear hK K
                try simp only [Act.put, List.getElem_toArray, List.getElem_cons_succ, List.getElem_cons_zero, List.setIfInBounds_toArray, List.set_cons_zero, List.set_cons_succ]
                refine wpAny_ready (rs := [5]) (by kernel_rfl) (by simp) ?_
                refine AllReady.cons rfl (fun K hK => ?_) ?_
                · go_simp
                  refine (mayFile_any (pn, pd) _ (Fl.take k) ea _ HFc.out HLk.out (HE.out _ hba)).mono ?_
                  rintro e w3 ⟨rfl, hb3'⟩
                  have hb3 := hba.trans (hb3'.mono hba.size)
                  rw [HFE.out]
                  have HC3 : Hid (Cel w3 W.heap.size 25 #[.slice (some ⟨g, o, none⟩) Fl.length capf, .slice adr Y.length capr]) := HCa.out.turn (Turn.ofBelow (S := fun _ => False) hb3') (fun h => h)
                  refine hK _ _ ?_
                  clear hK K
                  try simp only [Act.put, List.getElem_toArray, List.getElem_cons_succ, List.getElem_cons_zero, List.setIfInBounds_toArray, List.set_cons_zero, List.set_cons_succ]
                  refine wpAny_ready (rs := [6]) (by kernel_rfl) (by simp) ?_
                  refine AllReady.cons rfl (fun K hK => ?_) ?_
                  · go_simp
                    refine hK _ _ ?_
                    clear hK K
                    try simp only [Act.put, List.getElem_toArray, List.getElem_cons_succ, List.getElem_cons_zero, List.setIfInBounds_toArray, List.set_cons_zero, List.set_cons_succ]
                    refine wpAny_done (by kernel_rfl) ?_ _
                    cases fe
                    · simp only [errO]
                      go_wp2_with fail
                      refine ⟨⟨k + 1, by simp, by omega, ?_, hb3, HC3.out⟩, by simp [intOf]; omega⟩
                      intro j hj
                      by_cases hjk : j < k
                      · exact HN.out j hjk
                      · rw [show j = k by omega, HP.out, HFE.out]
                    · simp only [errO]
                      go_wp2_with fail
                      go_ret
                      refine ⟨?_, hb3⟩
                      have hfo := firstOf_hit (fileAt Fl) Fl.length k _ HN.out hkl (HP.out.trans HFE.out)
                      unfold mayR
                      rw [HW.out, if_neg Bool.false_ne_true, hfo]
                      rfl
                  exact AllReady.nil
                exact AllReady.nil
              exact AllReady.nil
            exact AllReady.nil
          · have hkz : k = Fl.length := by omega
            subst hkz
            have d1 := HC.out.cell 1
            have HFN : Hid (firstOf (fileAt Fl) 0 Fl.length = none) := firstOf_none _ _ HN.out
            clear HN
            go_wp2_with fail
            clear d1
            go_loopw [46] (fun v46 wr => ∃ k : Nat, v46 = .int .i64 k ∧ k ≤ Y.length ∧ Hid (∀ j, j < k → rowAt (Y.map Prod.fst) j = none) ∧ Below W.heap.size W wr) (fun v46 _ => Y.length - (intOf v46).toNat)
            case atStart => exact ⟨0, rfl, by omega, fun j hj => absurd hj (by omega), hbr⟩
            case round =>
              obtain ⟨k, rfl, hk, HN, hbs⟩ := hrel
              by_cases hkl : k < Y.length
              · obtain ⟨q, hq⟩ : ∃ q, Y[k]? = some q := ⟨_, List.getElem?_eq_getElem hkl⟩
                obtain ⟨g, o, cap', hv, hg, c0, c1, c2, c3, c4, c5, c6⟩ := (HR.out _ hbs).at hq
                cases hv
                have hqm := List.mem_of_getElem? hq
                have HT : Hid (∀ W', Below W.heap.size W W' → Tx W' q.2 q.1.args) := fun W' hb => (HR.out W' hb).2 q hqm
                have hql := HL.out q hqm
                have HP : Hid (rowAt (Y.map Prod.fst) k = rowR q.1) := by unfold Hid rowAt; rw [List.getElem?_map, hq]; rfl
                obtain ⟨⟨nm, ars, an, re, co, ou, st⟩, lv⟩ := q
                obtain ⟨adl, capl, hlv⟩ := (HT.out _ hbs).form
                obtain rfl : lv = .slice adl ars.length capl := hlv
                have hba : Below W.heap.size W (wr.alloc (.cells #[str nm, .slice adl ars.length capl, .bool an, .bool re, .bool co, str ou, .int .i64 st] 77)) := hbs.alloc hbs.size _
                obtain ⟨fe, HFE⟩ : ∃ fe, Hid (rowR ⟨nm, ars, an, re, co, ou, st⟩ = fe) := ⟨_, rfl⟩
                clear hq hqm
                go_wp2_with fail
                refine (mayRow_any ⟨nm, ars, an, re, co, ou, st⟩ _ ea _ (HT.out _ hba) hql (HE.out _ hba)).mono ?_
                rintro e w3 ⟨rfl, hb3'⟩
                have hb3 := hba.trans (hb3'.mono hba.size)
                rw [HFE.out]
                clear hb3' c0 c1 c2 c3 c4 c5 c6
                cases fe with
                | none =>
                  simp only [errO]
                  go_wp2_with fail
                  refine ⟨⟨k + 1, by simp, by omega, ?_, hb3⟩, by simp [intOf]; omega⟩
                  intro j hj
                  by_cases hjk : j < k
                  · exact HN.out j hjk
                  · rw [show j = k by omega, HP.out, HFE.out]
                | some i =>
                  simp only [errO]
                  go_wp2_with fail
                  go_ret
                  refine ⟨?_, hb3⟩
                  have hfo := firstOf_hit (rowAt (Y.map Prod.fst)) (Y.map Prod.fst).length k _ HN.out (by rw [List.length_map]; exact hkl) (HP.out.trans HFE.out)
                  unfold mayR
                  rw [HW.out, if_neg Bool.false_ne_true, HFN.out, hfo]
                  rfl
              · have hkz : k = Y.length := by omega
                subst hkz
                go_wp2_with fail
                go_ret
                refine ⟨?_, hbs⟩
                have hfo := firstOf_none (rowAt (Y.map Prod.fst)) (Y.map Prod.fst).length (fun j hj => HN.out j (by rw [List.length_map] at hj; exact hj))
                unfold mayR
                rw [HW.out, if_neg Bool.false_ne_true, HFN.out, hfo]
                rfl
end Go.Proofs.YthhghkjgffcpeaaDoor
