/- The document's kernel: Exec. -/
import Derived.Test.YthhghkjgffcpeaaDoorRK6
namespace Go.Proofs.YthhghkjgffcpeaaDoor
open Go.RowKit

variable {W W' : World} {K K' S : Nat → Prop} {xb : Nat} {fv rv tv : Value} {F : Fls} {X : List (Ev × Value)} {Y : List (Rw × Value)}

set_option maxRecDepth 100000 in
set_option maxHeartbeats 8000000 in
theorem rexec_any (name inp : Txt) (args : List Txt) (va : Value) (h : Rk W K xb fv rv tv F X) (hr : RwAt W rv Y) (hX : X.length < 60000) (hY : Y.length < 60000) (ha : Tx W va args) (hla : args.length < 4294967296) (hl : ∀ p ∈ Y, p.1.args.length < 4294967296) (hou : ∀ p ∈ Y, p.1.out.length < 4294967296) (hinp : inp.length < 4294967296) (o : Option Rw) (ho : rowOf (Y.map Prod.fst) name args = o) :
    Calls Tryd.prog 17 #[xP xb, str name, str inp, va] W fun r w' => r = .returned (.tuple #[str (outOf o inp), .int .i64 (statOf o), .bool o.isSome]) ∧ Fin W K xb rv F X [⟨1, statOf o, name, heardOf o inp, args⟩] w' := by
  obtain ⟨i0, hi0, hz0, hz1, hz2⟩ := info_parts info70
  have HRW : Hid (Calls Tryd.prog 51 #[xP xb, str name, va] W fun e w' => e = .returned (.int .i64 (idxV (idxR Y name args))) ∧ Below W.heap.size W w') := rrow_any name args va h hr hY ha hla hl
  have HH : Hid (∀ W', Below W.heap.size W W' → Rk W' K xb fv rv tv F X) := fun W' hb => h.below hb
  have HR : Hid (∀ W', Below W.heap.size W W' → RwAt W' rv Y) := fun W' hb => hr.below hb (Nat.le_refl _)
  have HA : Hid (∀ W', Below W.heap.size W W' → Tx W' va args) := fun W' hb => ha.below hb (Nat.le_refl _)
  have HLT : Hid (∀ i, K i → i < W.heap.size) := h.lt
  have HOU : Hid (∀ p ∈ Y, p.1.out.length < 4294967296) := hou
  obtain ⟨adt, capt, rfl⟩ := owns_slice h.er
  obtain ⟨ada, capa, rfl⟩ := ha.form
  subst ho
  have hcase := rowOf_idx Y name args
  clear h hr ha hl hou
  rcases hcase with ⟨hix, hro⟩ | ⟨i, q, hix, hq, hro⟩
  · rw [hro]
    rw [hix] at HRW
    clear hix hro
    go_enter Tryd.func17, Tryd.ntmps17
    go_wp2_with fail
    refine HRW.out.mono ?_
    rintro e w2 ⟨rfl, hb2⟩
    simp only [idxV]
    have HTX : Hid (Calls Tryd.prog 39 #[.slice ada args.length capa] w2 fun e w' => ∃ v, e = .returned v ∧ w'.ownsRow w2.heap.size 9 1 v args.length (txV args) ∧ Below w2.heap.size w2 w') := texts_any _ args w2 (HA.out _ hb2) hla
    go_wp2_with fail
    refine HTX.out.mono ?_
    rintro e w3 ⟨v3, rfl, ho3, hb3'⟩
    obtain ⟨adl, capl, rfl⟩ := owns_slice ho3
    have hb3 : Below W.heap.size W w3 := hb2.trans (hb3'.mono hb2.size)
    have HO3 : Hid (w3.ownsRow W.heap.size 9 1 (.slice adl args.length capl) args.length (txV args)) := owns_lower ho3 hb2.size
    clear ho3 hb3' HTX HRW
    go_upto_region 4 with fail
    obtain ⟨w4, hw4⟩ : ∃ w4, w4 = w3.alloc (.cells #[.int .i64 1, .int .i64 127, str name, .string ⟨#[]⟩, .slice adl args.length capl] 70) := ⟨_, rfl⟩
    have hb4 : Below W.heap.size W w4 := by rw [hw4]; exact hb3.alloc hb3.size _
    have HR4 : Hid (Rk w4 K xb fv rv (.slice adt X.length capt) F X) := HH.out _ hb4
    have HS4 : Hid (Stp W K w4 K) := Stp.ofBelow hb4
    have HEB : Hid (Cel w4 w3.heap.size 70 #[.int .i64 1, .int .i64 127, str name, .string ⟨#[]⟩, .slice adl args.length capl]) := by rw [hw4]; exact Cel.new w3 70 _
    have HNE : Hid (¬ K w3.heap.size) := fun hk => by have := HLT.out _ hk; have := hb3.size; omega
    have HT34 : Hid (Turn (fun _ => False) w3 w4) := by rw [hw4]; exact Turn.ofBelow (below_new w3 _)
    have HLV : Hid (Ot w4 (fun j => (Value.slice adl args.length capl).ownBlock = some j) (.slice adl args.length capl) args) := ⟨owns_lower (owns_turn HO3.out HT34.out (fun b hb hs => hs.elim)) (Nat.zero_le _), fun b hb => hb⟩
    have HLB : Hid (∀ j, (Value.slice adl args.length capl).ownBlock = some j → W.heap.size ≤ j) := fun j hj => (HO3.out.lt j hj).1
    rw [← hw4]
    clear hw4 HO3 HT34 hb2 hb3 HR HA
    have HCB : Hid (∀ W', Below w4.heap.size w4 W' → Cel W' w3.heap.size 70 #[.int .i64 1, .int .i64 127, str name, .string ⟨#[]⟩, .slice adl args.length capl]) := fun W' hb => HEB.out.below hb HEB.out.lt
    have HRB : Hid (∀ W', Below w4.heap.size w4 W' → W'.cell? ⟨xb, 2, none⟩ = some (.slice adt X.length capt) ∧ W'.ownsRow 0 70 5 (.slice adt X.length capt) X.length (evCs X)) := fun W' hb => ⟨(HR4.out.below hb).xc.cell 2, (HR4.out.below hb).er⟩
    have HFN : Hid (∀ (ad5 : Option Addr) (n5 cap5 : Nat) (w5 : World), w5.ownsRow 0 70 5 (.slice ad5 n5 cap5) (X.length + 1) (evCs X ++ evC ⟨1, 127, name, [], args⟩ (.slice adl args.length capl)) → (w4.drew.alloc (.cells #[.int .i64 1, .int .i64 127, str name, .string ⟨#[]⟩, .slice adl args.length capl] 70)).grownBy w5 (Value.slice adt X.length capt).ownBlock → ((Value.slice ad5 n5 cap5).ownBlock = (Value.slice adt X.length capt).ownBlock ∨ (Value.slice ad5 n5 cap5).ownBlock = some (w4.drew.alloc (.cells #[.int .i64 1, .int .i64 127, str name, .string ⟨#[]⟩, .slice adl args.length capl] 70)).heap.size) → After W K xb fv rv F X ⟨1, 127, name, [], args⟩ (.slice adl args.length capl) K w4 w5 (.slice ad5 n5 cap5) (.slice adt X.length capt)) := fun ad5 n5 cap5 w5 q1 q2 q3 => note_after HR4.out HS4.out ⟨1, 127, name, [], args⟩ (.slice adl args.length capl) HLV.out HLB.out rfl q1 q2 q3
    have hS0 : ToldE w3.heap.size #[.int .i64 1, .int .i64 127, str name, .string ⟨#[]⟩, .slice adl args.length capl] (World.drew w4) := HCB.out _ (Below.refl _ _).drew
    refine wp_region_held (S := ToldE w3.heap.size #[.int .i64 1, .int .i64 127, str name, .string ⟨#[]⟩, .slice adl args.length capl]) (by kernel_rfl) ?_
    change wpAnyH _ _ _ _ _ _ _ _ (World.drew _)
    refine wpAnyH_take (i := 0) (v := xP xb) rfl (by kernel_rfl) (by kernel_rfl) (by kernel_rfl) (fun _ _ _ h => h) (Yields.yieldsIf (Or.inl ⟨by rfl, by intro wz; go_simp⟩)) hS0 ?_
    try simp only [Act.put, List.getElem_toArray, List.getElem_cons_zero, List.setIfInBounds_toArray, List.set_cons_zero, List.set_cons_succ]
    refine wpAnyH_take (i := 1) (v := xP xb) rfl (by kernel_rfl) (by kernel_rfl) (by kernel_rfl) (fun _ _ _ h => h) (Yields.yieldsIf (Or.inl ⟨by rfl, by intro wz; go_simp⟩)) hS0 ?_
    try simp only [Act.put, List.getElem_toArray, List.getElem_cons_succ, List.getElem_cons_zero, List.setIfInBounds_toArray, List.set_cons_zero, List.set_cons_succ]
    refine wpAnyH_take (i := 2) (v := xP xb) rfl (by kernel_rfl) (by kernel_rfl) (by kernel_rfl) (fun _ _ _ h => h) (Yields.yieldsIf (Or.inl ⟨by rfl, by intro wz; go_simp⟩)) hS0 ?_
    try simp only [Act.put, List.getElem_toArray, List.getElem_cons_succ, List.getElem_cons_zero, List.setIfInBounds_toArray, List.set_cons_zero, List.set_cons_succ]
    refine wpAnyH_take (i := 3) (v := .pointer (some ⟨xb, 2, none⟩)) rfl (by kernel_rfl) (by kernel_rfl) (by kernel_rfl) (fun _ _ _ h => h) (Yields.yieldsIf (Or.inl ⟨by rfl, by intro wz; go_simp⟩)) hS0 ?_
    try simp only [Act.put, List.getElem_toArray, List.getElem_cons_succ, List.getElem_cons_zero, List.setIfInBounds_toArray, List.set_cons_zero, List.set_cons_succ]
    refine wpAnyH_take (i := 5) (v := .agg #[.int .i64 1, .int .i64 127, str name, .string ⟨#[]⟩, .slice adl args.length capl]) rfl (by kernel_rfl) (by kernel_rfl) (by kernel_rfl) (fun _ _ _ h => h) (Or.inl ⟨by rfl, fun wz hS => by have s0 := hS.out.cell 0; have s1 := hS.out.cell 1; have s2 := hS.out.cell 2; have s3 := hS.out.cell 3; have s4 := hS.out.cell 4; go_simp⟩) hS0 ?_
    try simp only [Act.put, List.getElem_toArray, List.getElem_cons_succ, List.getElem_cons_zero, List.setIfInBounds_toArray, List.set_cons_zero, List.set_cons_succ]
    refine wpAnyH_ready (rs := [4, 6]) (by kernel_rfl) (by simp) ?_
    refine AllReadyH.cons rfl (fun K' hK => ?_) ?_
    · have c2 := (HRB.out _ (Below.refl _ w4).drew).1
      go_simp
      refine hK.out _ _ hS0 (fun _ => ?_)
      clear hK K' c2
      try simp only [Act.put, List.getElem_toArray, List.getElem_cons_succ, List.getElem_cons_zero, List.setIfInBounds_toArray, List.set_cons_zero, List.set_cons_succ]
      refine wpAnyH_ready (rs := [6]) (by kernel_rfl) (by simp) ?_
      refine AllReadyH.cons rfl (fun K' hK => ?_) AllReadyH.nil
      go_simp
      refine hK.out _ _ (HCB.out _ (((Below.refl _ w4).drew).alloc (Nat.le_refl _) _)) (fun _ => ?_)
      clear hK K'
      try simp only [Act.put, List.getElem_toArray, List.getElem_cons_succ, List.getElem_cons_zero, List.setIfInBounds_toArray, List.set_cons_zero, List.set_cons_succ]
      have hbA : Below w4.heap.size w4 (w4.drew.alloc (.cells #[.int .i64 1, .int .i64 127, str name, .string ⟨#[]⟩, .slice adl args.length capl] 70)) := ((Below.refl _ w4).drew).alloc (Nat.le_refl _) _
      refine wpAnyH_ready (rs := [7]) (by kernel_rfl) (by simp) ?_
      refine AllReadyH.cons rfl (fun K' hK => ?_) AllReadyH.nil
      refine step_append _ _ 52 rfl 0 70 i0 _ 5 72 Tryd.underlying52 hi0 hz0 hz1 hz2 rfl (by decide) (.slice adt X.length capt) X.length (evCs X) rfl (HRB.out _ hbA).2 ⟨w4.heap.size, 0, none⟩ 1 1 (evC ⟨1, 127, name, [], args⟩ (.slice adl args.length capl)) rfl rfl (cells_new w4.drew _ 70) (evC_one _ _ _) (by have := maxLen_big; omega) (by omega) (Nat.zero_le _) ?_
      intro v5 w5 hown5 hgrow5 _ hat5
      obtain ⟨ad5, n5, cap5, rfl⟩ := owns_form hown5
      have HNT : Hid _ := HFN.out ad5 n5 cap5 w5 hown5 hgrow5 hat5
      clear hown5 hgrow5 hat5
      have c5 := HNT.out.c5
      have f5 := HNT.out.f5
      have hS5 : ToldE w3.heap.size #[.int .i64 1, .int .i64 127, str name, .string ⟨#[]⟩, .slice adl args.length capl] w5 := HNT.out.k5 HEB.out HNE.out
      refine hK.out _ _ hS5 (fun _ => ?_)
      clear hK K'
      try simp only [Act.put, List.getElem_toArray, List.getElem_cons_succ, List.getElem_cons_zero, List.setIfInBounds_toArray, List.set_cons_zero, List.set_cons_succ]
      clear hS0
      have hS0 := hS5
      refine wpAnyH_take (i := 8) (v := xP xb) rfl (by kernel_rfl) (by kernel_rfl) (by kernel_rfl) (fun _ _ _ h => h) (Yields.yieldsIf (Or.inl ⟨by rfl, by intro wz; go_simp⟩)) hS0 ?_
      try simp only [Act.put, List.getElem_toArray, List.getElem_cons_succ, List.getElem_cons_zero, List.setIfInBounds_toArray, List.set_cons_zero, List.set_cons_succ]
      refine wpAnyH_take (i := 9) (v := .pointer (some ⟨xb, 2, none⟩)) rfl (by kernel_rfl) (by kernel_rfl) (by kernel_rfl) (fun _ _ _ h => h) (Yields.yieldsIf (Or.inl ⟨by rfl, by intro wz; go_simp⟩)) hS0 ?_
      try simp only [Act.put, List.getElem_toArray, List.getElem_cons_succ, List.getElem_cons_zero, List.setIfInBounds_toArray, List.set_cons_zero, List.set_cons_succ]
      refine wpAnyH_ready (rs := [10]) (by kernel_rfl) (by simp) ?_
      refine AllReadyH.cons rfl (fun K' hK => ?_) AllReadyH.nil
      go_simp
      refine hK.out _ _ (HNT.out.k6 HEB.out HNE.out) (fun _ => ?_)
      clear hK K'
      try simp only [Act.put, List.getElem_toArray, List.getElem_cons_succ, List.getElem_cons_zero, List.setIfInBounds_toArray, List.set_cons_zero, List.set_cons_succ]
      refine wpAnyH_done (by kernel_rfl) ?_ _
      clear hS0 hS5 c5 f5
      obtain ⟨w6, hw6⟩ : ∃ w6, w6 = w5.setCell ⟨xb, 2, none⟩ (.slice ad5 n5 cap5) := ⟨_, rfl⟩
      have HE6 : Hid (∀ {b t : Nat} {cs' : Array Value}, Cel w4 b t cs' → ¬ K b → Cel w6 b t cs') := fun h1 h2 => by rw [hw6]; exact HNT.out.k6 h1 h2
      have HF6 : Hid (Fin W K xb rv F X [⟨1, 127, name, [], args⟩] w6) := by rw [hw6]; exact HNT.out.fin
      rw [← hw6]
      clear hw6 HNT HFN HRB HCB
      go_wp2_with fail
      go_ret3
      exact ⟨rfl, HF6.out⟩
    refine AllReadyH.cons rfl (fun K' hK => ?_) AllReadyH.nil
    go_simp
    refine hK.out _ _ (HCB.out _ (((Below.refl _ w4).drew).alloc (Nat.le_refl _) _)) (fun _ => ?_)
    clear hK K'
    try simp only [Act.put, List.getElem_toArray, List.getElem_cons_succ, List.getElem_cons_zero, List.setIfInBounds_toArray, List.set_cons_zero, List.set_cons_succ]
    have c2 := (HRB.out (w4.alloc (.cells #[.int .i64 1, .int .i64 127, str name, .string ⟨#[]⟩, .slice adl args.length capl] 70)) (below_new w4 _)).1
    refine wpAnyH_ready (rs := [4]) (by kernel_rfl) (by simp) ?_
    refine AllReadyH.cons rfl (fun K' hK => ?_) AllReadyH.nil
    go_simp
    refine hK.out _ _ (HCB.out _ (((Below.refl _ w4).drew).alloc (Nat.le_refl _) _)) (fun _ => ?_)
    clear hK K' c2
    try simp only [Act.put, List.getElem_toArray, List.getElem_cons_succ, List.getElem_cons_zero, List.setIfInBounds_toArray, List.set_cons_zero, List.set_cons_succ]
    have hbA : Below w4.heap.size w4 (w4.drew.alloc (.cells #[.int .i64 1, .int .i64 127, str name, .string ⟨#[]⟩, .slice adl args.length capl] 70)) := ((Below.refl _ w4).drew).alloc (Nat.le_refl _) _
    refine wpAnyH_ready (rs := [7]) (by kernel_rfl) (by simp) ?_
    refine AllReadyH.cons rfl (fun K' hK => ?_) AllReadyH.nil
    refine step_append _ _ 52 rfl 0 70 i0 _ 5 72 Tryd.underlying52 hi0 hz0 hz1 hz2 rfl (by decide) (.slice adt X.length capt) X.length (evCs X) rfl (HRB.out _ hbA).2 ⟨w4.heap.size, 0, none⟩ 1 1 (evC ⟨1, 127, name, [], args⟩ (.slice adl args.length capl)) rfl rfl (cells_new w4.drew _ 70) (evC_one _ _ _) (by have := maxLen_big; omega) (by omega) (Nat.zero_le _) ?_
    intro v5 w5 hown5 hgrow5 _ hat5
    obtain ⟨ad5, n5, cap5, rfl⟩ := owns_form hown5
    have HNT : Hid _ := HFN.out ad5 n5 cap5 w5 hown5 hgrow5 hat5
    clear hown5 hgrow5 hat5
    have c5 := HNT.out.c5
    have f5 := HNT.out.f5
    have hS5 : ToldE w3.heap.size #[.int .i64 1, .int .i64 127, str name, .string ⟨#[]⟩, .slice adl args.length capl] w5 := HNT.out.k5 HEB.out HNE.out
    refine hK.out _ _ hS5 (fun _ => ?_)
    clear hK K'
    try simp only [Act.put, List.getElem_toArray, List.getElem_cons_succ, List.getElem_cons_zero, List.setIfInBounds_toArray, List.set_cons_zero, List.set_cons_succ]
    clear hS0
    have hS0 := hS5
    refine wpAnyH_take (i := 8) (v := xP xb) rfl (by kernel_rfl) (by kernel_rfl) (by kernel_rfl) (fun _ _ _ h => h) (Yields.yieldsIf (Or.inl ⟨by rfl, by intro wz; go_simp⟩)) hS0 ?_
    try simp only [Act.put, List.getElem_toArray, List.getElem_cons_succ, List.getElem_cons_zero, List.setIfInBounds_toArray, List.set_cons_zero, List.set_cons_succ]
    refine wpAnyH_take (i := 9) (v := .pointer (some ⟨xb, 2, none⟩)) rfl (by kernel_rfl) (by kernel_rfl) (by kernel_rfl) (fun _ _ _ h => h) (Yields.yieldsIf (Or.inl ⟨by rfl, by intro wz; go_simp⟩)) hS0 ?_
    try simp only [Act.put, List.getElem_toArray, List.getElem_cons_succ, List.getElem_cons_zero, List.setIfInBounds_toArray, List.set_cons_zero, List.set_cons_succ]
    refine wpAnyH_ready (rs := [10]) (by kernel_rfl) (by simp) ?_
    refine AllReadyH.cons rfl (fun K' hK => ?_) AllReadyH.nil
    go_simp
    refine hK.out _ _ (HNT.out.k6 HEB.out HNE.out) (fun _ => ?_)
    clear hK K'
    try simp only [Act.put, List.getElem_toArray, List.getElem_cons_succ, List.getElem_cons_zero, List.setIfInBounds_toArray, List.set_cons_zero, List.set_cons_succ]
    refine wpAnyH_done (by kernel_rfl) ?_ _
    clear hS0 hS5 c5 f5
    obtain ⟨w6, hw6⟩ : ∃ w6, w6 = w5.setCell ⟨xb, 2, none⟩ (.slice ad5 n5 cap5) := ⟨_, rfl⟩
    have HE6 : Hid (∀ {b t : Nat} {cs' : Array Value}, Cel w4 b t cs' → ¬ K b → Cel w6 b t cs') := fun h1 h2 => by rw [hw6]; exact HNT.out.k6 h1 h2
    have HF6 : Hid (Fin W K xb rv F X [⟨1, 127, name, [], args⟩] w6) := by rw [hw6]; exact HNT.out.fin
    rw [← hw6]
    clear hw6 HNT HFN HRB HCB
    go_wp2_with fail
    go_ret3
    exact ⟨rfl, HF6.out⟩
  · rw [hro]
    rw [hix] at HRW
    have hqm := List.mem_of_getElem? hq
    have hil := (List.getElem?_eq_some_iff.1 hq).1
    have hoq := HOU.out q hqm
    have HQ : Hid (Y[i]? = some q) := hq
    obtain ⟨⟨nm, ars, an, re, co, ou, st⟩, lvr⟩ := q
    obtain ⟨adr2, capr2, hlvr⟩ := ((HR.out _ (Below.refl _ _)).2 _ hqm).form
    obtain rfl : lvr = .slice adr2 ars.length capr2 := hlvr
    obtain ⟨adr, capr, hrv⟩ := (HR.out _ (Below.refl _ _)).form
    clear hix hro hq hqm
    cases re
    · cases co
      · go_enter Tryd.func17, Tryd.ntmps17
        go_wp2_with fail
        refine HRW.out.mono ?_
        rintro e w2 ⟨rfl, hb2⟩
        simp only [idxV]
        have HTX : Hid (Calls Tryd.prog 39 #[.slice ada args.length capa] w2 fun e w' => ∃ v, e = .returned v ∧ w'.ownsRow w2.heap.size 9 1 v args.length (txV args) ∧ Below w2.heap.size w2 w') := texts_any _ args w2 (HA.out _ hb2) hla
        go_wp2_with fail
        refine HTX.out.mono ?_
        rintro e w3 ⟨v3, rfl, ho3, hb3'⟩
        obtain ⟨adl, capl, rfl⟩ := owns_slice ho3
        have hb3 : Below W.heap.size W w3 := hb2.trans (hb3'.mono hb2.size)
        have HO3 : Hid (w3.ownsRow W.heap.size 9 1 (.slice adl args.length capl) args.length (txV args)) := owns_lower ho3 hb2.size
        clear ho3 hb3' HTX HRW
        have hb5 : Below W.heap.size W ((w3.alloc (.cells #[.int .i64 1, .int .i64 127, str name, .string ⟨#[]⟩, .slice adl args.length capl] 70)).alloc (.cells #[str nm, .slice adr2 ars.length capr2, .bool an, .bool false, .bool false, str ou, .int .i64 st] 77)) := (hb3.alloc hb3.size _).alloc (by have := hb3.size; simp; omega) _
        have x1 := ((HH.out _ (hb3.alloc hb3.size (.cells #[.int .i64 1, .int .i64 127, str name, .string ⟨#[]⟩, .slice adl args.length capl] 70))).xc.cell 1)
        obtain ⟨g, og, capg, hvg, hg, c0, c1, c2, c3, c4, c5, c6⟩ := (HR.out _ (hb3.alloc hb3.size (.cells #[.int .i64 1, .int .i64 127, str name, .string ⟨#[]⟩, .slice adl args.length capl] 70))).at HQ.out
        rw [hvg] at x1
        have HCE : Hid (Cel ((w3.alloc (.cells #[.int .i64 1, .int .i64 127, str name, .string ⟨#[]⟩, .slice adl args.length capl] 70)).alloc (.cells #[str nm, .slice adr2 ars.length capr2, .bool an, .bool false, .bool false, str ou, .int .i64 st] 77)) w3.heap.size 70 #[.int .i64 1, .int .i64 127, str name, .string ⟨#[]⟩, .slice adl args.length capl]) := (Cel.new w3 70 #[.int .i64 1, .int .i64 127, str name, .string ⟨#[]⟩, .slice adl args.length capl]).turn (Turn.ofBelow (S := fun _ => False) (below_new _ _)) (fun h => h)
        have HCR : Hid (Cel ((w3.alloc (.cells #[.int .i64 1, .int .i64 127, str name, .string ⟨#[]⟩, .slice adl args.length capl] 70)).alloc (.cells #[str nm, .slice adr2 ars.length capr2, .bool an, .bool false, .bool false, str ou, .int .i64 st] 77)) (w3.heap.size + 1) 77 #[str nm, .slice adr2 ars.length capr2, .bool an, .bool false, .bool false, str ou, .int .i64 st]) := by have := Cel.new (w3.alloc (.cells #[.int .i64 1, .int .i64 127, str name, .string ⟨#[]⟩, .slice adl args.length capl] 70)) 77 #[str nm, .slice adr2 ars.length capr2, .bool an, .bool false, .bool false, str ou, .int .i64 st]; rw [World.size_alloc] at this; exact this
        have y1 := HCE.out.cell 1
        have g1 := HCE.out.frozen 1
        have HCE2 : Hid (Cel (((w3.alloc (.cells #[.int .i64 1, .int .i64 127, str name, .string ⟨#[]⟩, .slice adl args.length capl] 70)).alloc (.cells #[str nm, .slice adr2 ars.length capr2, .bool an, .bool false, .bool false, str ou, .int .i64 st] 77)).setCell ⟨w3.heap.size, 1, none⟩ (.int .i64 st)) w3.heap.size 70 #[.int .i64 1, .int .i64 st, str name, .string ⟨#[]⟩, .slice adl args.length capl]) := HCE.out.set _
        have HCR2 : Hid (Cel (((w3.alloc (.cells #[.int .i64 1, .int .i64 127, str name, .string ⟨#[]⟩, .slice adl args.length capl] 70)).alloc (.cells #[str nm, .slice adr2 ars.length capr2, .bool an, .bool false, .bool false, str ou, .int .i64 st] 77)).setCell ⟨w3.heap.size, 1, none⟩ (.int .i64 st)) (w3.heap.size + 1) 77 #[str nm, .slice adr2 ars.length capr2, .bool an, .bool false, .bool false, str ou, .int .i64 st]) := HCR.out.other (by omega) _
        have y3 := HCE2.out.cell 3
        have g3 := HCE2.out.frozen 3
        have r3 := HCR2.out.cell 3
        have r6 := HCR.out.cell 6
        go_upto_region 10 with fail
        clear c0 c1 c2 c3 c4 c5 c6 x1 y1 g1 y3 g3 r3 r6
        obtain ⟨w4, hw4⟩ : ∃ w4, w4 = (w3.alloc (.cells #[.int .i64 1, .int .i64 st, str name, .string ⟨#[]⟩, .slice adl args.length capl] 70)).alloc (.cells #[str nm, .slice adr2 ars.length capr2, .bool an, .bool false, .bool false, str ou, .int .i64 st] 77) := ⟨_, rfl⟩
        have HT34 : Hid (Turn (fun _ => False) w3 w4) := by
          rw [hw4]
          exact ((Turn.refl _ w3).alloc _).alloc _
        have hb34 : Below w3.heap.size w3 w4 := HT34.out.below (fun _ h => h.elim) (Nat.le_refl _)
        have hb4 : Below W.heap.size W w4 := hb3.trans (hb34.mono hb3.size)
        have HR4 : Hid (Rk w4 K xb fv rv (.slice adt X.length capt) F X) := HH.out _ hb4
        have HS4 : Hid (Stp W K w4 K) := Stp.ofBelow hb4
        have HEB : Hid (Cel w4 w3.heap.size 70 #[.int .i64 1, .int .i64 st, str name, .string ⟨#[]⟩, .slice adl args.length capl]) := by rw [hw4]; exact (Cel.new w3 70 _).turn (Turn.ofBelow (S := fun _ => False) (below_new _ _)) (fun h => h)
        have HRB4 : Hid (Cel w4 (w3.heap.size + 1) 77 #[str nm, .slice adr2 ars.length capr2, .bool an, .bool false, .bool false, str ou, .int .i64 st]) := by have := Cel.new (w3.alloc (.cells #[.int .i64 1, .int .i64 st, str name, .string ⟨#[]⟩, .slice adl args.length capl] 70)) 77 #[str nm, .slice adr2 ars.length capr2, .bool an, .bool false, .bool false, str ou, .int .i64 st]; rw [World.size_alloc] at this; rw [hw4]; exact this
        have HNE : Hid (¬ K w3.heap.size) := fun hk => by have := HLT.out _ hk; have := hb3.size; omega
        have HNR : Hid (¬ K (w3.heap.size + 1)) := fun hk => by have := HLT.out _ hk; have := hb3.size; omega
        have HLV : Hid (Ot w4 (fun j => (Value.slice adl args.length capl).ownBlock = some j) (.slice adl args.length capl) args) := ⟨owns_lower (owns_turn HO3.out HT34.out (fun b hb hs => hs.elim)) (Nat.zero_le _), fun b hb => hb⟩
        have HLB : Hid (∀ j, (Value.slice adl args.length capl).ownBlock = some j → W.heap.size ≤ j) := fun j hj => (HO3.out.lt j hj).1
        rw [← hw4]
        clear hw4 HO3 HT34 hb2 hb3 hb34 hb5 HR HA HCE HCE2 HCR HCR2 hvg
        have HCB : Hid (∀ W', Below w4.heap.size w4 W' → Cel W' w3.heap.size 70 #[.int .i64 1, .int .i64 st, str name, .string ⟨#[]⟩, .slice adl args.length capl]) := fun W' hb => HEB.out.below hb HEB.out.lt
        have HRB : Hid (∀ W', Below w4.heap.size w4 W' → W'.cell? ⟨xb, 2, none⟩ = some (.slice adt X.length capt) ∧ W'.ownsRow 0 70 5 (.slice adt X.length capt) X.length (evCs X)) := fun W' hb => ⟨(HR4.out.below hb).xc.cell 2, (HR4.out.below hb).er⟩
        have HFN : Hid (∀ (ad5 : Option Addr) (n5 cap5 : Nat) (w5 : World), w5.ownsRow 0 70 5 (.slice ad5 n5 cap5) (X.length + 1) (evCs X ++ evC ⟨1, st, name, [], args⟩ (.slice adl args.length capl)) → (w4.drew.alloc (.cells #[.int .i64 1, .int .i64 st, str name, .string ⟨#[]⟩, .slice adl args.length capl] 70)).grownBy w5 (Value.slice adt X.length capt).ownBlock → ((Value.slice ad5 n5 cap5).ownBlock = (Value.slice adt X.length capt).ownBlock ∨ (Value.slice ad5 n5 cap5).ownBlock = some (w4.drew.alloc (.cells #[.int .i64 1, .int .i64 st, str name, .string ⟨#[]⟩, .slice adl args.length capl] 70)).heap.size) → After W K xb fv rv F X ⟨1, st, name, [], args⟩ (.slice adl args.length capl) K w4 w5 (.slice ad5 n5 cap5) (.slice adt X.length capt)) := fun ad5 n5 cap5 w5 q1 q2 q3 => note_after HR4.out HS4.out ⟨1, st, name, [], args⟩ (.slice adl args.length capl) HLV.out HLB.out rfl q1 q2 q3
        have hS0 : ToldE w3.heap.size #[.int .i64 1, .int .i64 st, str name, .string ⟨#[]⟩, .slice adl args.length capl] (World.drew w4) := HCB.out _ (Below.refl _ _).drew
        refine wp_region_held (S := ToldE w3.heap.size #[.int .i64 1, .int .i64 st, str name, .string ⟨#[]⟩, .slice adl args.length capl]) (by kernel_rfl) ?_
        change wpAnyH _ _ _ _ _ _ _ _ (World.drew _)
        refine wpAnyH_take (i := 0) (v := xP xb) rfl (by kernel_rfl) (by kernel_rfl) (by kernel_rfl) (fun _ _ _ h => h) (Yields.yieldsIf (Or.inl ⟨by rfl, by intro wz; go_simp⟩)) hS0 ?_
        try simp only [Act.put, List.getElem_toArray, List.getElem_cons_zero, List.setIfInBounds_toArray, List.set_cons_zero, List.set_cons_succ]
        refine wpAnyH_take (i := 1) (v := xP xb) rfl (by kernel_rfl) (by kernel_rfl) (by kernel_rfl) (fun _ _ _ h => h) (Yields.yieldsIf (Or.inl ⟨by rfl, by intro wz; go_simp⟩)) hS0 ?_
        try simp only [Act.put, List.getElem_toArray, List.getElem_cons_succ, List.getElem_cons_zero, List.setIfInBounds_toArray, List.set_cons_zero, List.set_cons_succ]
        refine wpAnyH_take (i := 2) (v := xP xb) rfl (by kernel_rfl) (by kernel_rfl) (by kernel_rfl) (fun _ _ _ h => h) (Yields.yieldsIf (Or.inl ⟨by rfl, by intro wz; go_simp⟩)) hS0 ?_
        try simp only [Act.put, List.getElem_toArray, List.getElem_cons_succ, List.getElem_cons_zero, List.setIfInBounds_toArray, List.set_cons_zero, List.set_cons_succ]
        refine wpAnyH_take (i := 3) (v := .pointer (some ⟨xb, 2, none⟩)) rfl (by kernel_rfl) (by kernel_rfl) (by kernel_rfl) (fun _ _ _ h => h) (Yields.yieldsIf (Or.inl ⟨by rfl, by intro wz; go_simp⟩)) hS0 ?_
        try simp only [Act.put, List.getElem_toArray, List.getElem_cons_succ, List.getElem_cons_zero, List.setIfInBounds_toArray, List.set_cons_zero, List.set_cons_succ]
        refine wpAnyH_take (i := 5) (v := .agg #[.int .i64 1, .int .i64 st, str name, .string ⟨#[]⟩, .slice adl args.length capl]) rfl (by kernel_rfl) (by kernel_rfl) (by kernel_rfl) (fun _ _ _ h => h) (Or.inl ⟨by rfl, fun wz hS => by have s0 := hS.out.cell 0; have s1 := hS.out.cell 1; have s2 := hS.out.cell 2; have s3 := hS.out.cell 3; have s4 := hS.out.cell 4; go_simp⟩) hS0 ?_
        try simp only [Act.put, List.getElem_toArray, List.getElem_cons_succ, List.getElem_cons_zero, List.setIfInBounds_toArray, List.set_cons_zero, List.set_cons_succ]
        refine wpAnyH_ready (rs := [4, 6]) (by kernel_rfl) (by simp) ?_
        refine AllReadyH.cons rfl (fun K' hK => ?_) ?_
        · have c2 := (HRB.out _ (Below.refl _ w4).drew).1
          go_simp
          refine hK.out _ _ hS0 (fun _ => ?_)
          clear hK K' c2
          try simp only [Act.put, List.getElem_toArray, List.getElem_cons_succ, List.getElem_cons_zero, List.setIfInBounds_toArray, List.set_cons_zero, List.set_cons_succ]
          refine wpAnyH_ready (rs := [6]) (by kernel_rfl) (by simp) ?_
          refine AllReadyH.cons rfl (fun K' hK => ?_) AllReadyH.nil
          go_simp
          refine hK.out _ _ (HCB.out _ (((Below.refl _ w4).drew).alloc (Nat.le_refl _) _)) (fun _ => ?_)
          clear hK K'
          try simp only [Act.put, List.getElem_toArray, List.getElem_cons_succ, List.getElem_cons_zero, List.setIfInBounds_toArray, List.set_cons_zero, List.set_cons_succ]
          have hbA : Below w4.heap.size w4 (w4.drew.alloc (.cells #[.int .i64 1, .int .i64 st, str name, .string ⟨#[]⟩, .slice adl args.length capl] 70)) := ((Below.refl _ w4).drew).alloc (Nat.le_refl _) _
          refine wpAnyH_ready (rs := [7]) (by kernel_rfl) (by simp) ?_
          refine AllReadyH.cons rfl (fun K' hK => ?_) AllReadyH.nil
          refine step_append _ _ 52 rfl 0 70 i0 _ 5 72 Tryd.underlying52 hi0 hz0 hz1 hz2 rfl (by decide) (.slice adt X.length capt) X.length (evCs X) rfl (HRB.out _ hbA).2 ⟨w4.heap.size, 0, none⟩ 1 1 (evC ⟨1, st, name, [], args⟩ (.slice adl args.length capl)) rfl rfl (cells_new w4.drew _ 70) (evC_one _ _ _) (by have := maxLen_big; omega) (by omega) (Nat.zero_le _) ?_
          intro v5 w5 hown5 hgrow5 _ hat5
          obtain ⟨ad5, n5, cap5, rfl⟩ := owns_form hown5
          have HNT : Hid _ := HFN.out ad5 n5 cap5 w5 hown5 hgrow5 hat5
          clear hown5 hgrow5 hat5
          have c5 := HNT.out.c5
          have f5 := HNT.out.f5
          have hS5 : ToldE w3.heap.size #[.int .i64 1, .int .i64 st, str name, .string ⟨#[]⟩, .slice adl args.length capl] w5 := HNT.out.k5 HEB.out HNE.out
          refine hK.out _ _ hS5 (fun _ => ?_)
          clear hK K'
          try simp only [Act.put, List.getElem_toArray, List.getElem_cons_succ, List.getElem_cons_zero, List.setIfInBounds_toArray, List.set_cons_zero, List.set_cons_succ]
          clear hS0
          have hS0 := hS5
          refine wpAnyH_take (i := 8) (v := xP xb) rfl (by kernel_rfl) (by kernel_rfl) (by kernel_rfl) (fun _ _ _ h => h) (Yields.yieldsIf (Or.inl ⟨by rfl, by intro wz; go_simp⟩)) hS0 ?_
          try simp only [Act.put, List.getElem_toArray, List.getElem_cons_succ, List.getElem_cons_zero, List.setIfInBounds_toArray, List.set_cons_zero, List.set_cons_succ]
          refine wpAnyH_take (i := 9) (v := .pointer (some ⟨xb, 2, none⟩)) rfl (by kernel_rfl) (by kernel_rfl) (by kernel_rfl) (fun _ _ _ h => h) (Yields.yieldsIf (Or.inl ⟨by rfl, by intro wz; go_simp⟩)) hS0 ?_
          try simp only [Act.put, List.getElem_toArray, List.getElem_cons_succ, List.getElem_cons_zero, List.setIfInBounds_toArray, List.set_cons_zero, List.set_cons_succ]
          refine wpAnyH_ready (rs := [10]) (by kernel_rfl) (by simp) ?_
          refine AllReadyH.cons rfl (fun K' hK => ?_) AllReadyH.nil
          go_simp
          refine hK.out _ _ (HNT.out.k6 HEB.out HNE.out) (fun _ => ?_)
          clear hK K'
          try simp only [Act.put, List.getElem_toArray, List.getElem_cons_succ, List.getElem_cons_zero, List.setIfInBounds_toArray, List.set_cons_zero, List.set_cons_succ]
          refine wpAnyH_done (by kernel_rfl) ?_ _
          clear hS0 hS5 c5 f5
          obtain ⟨w6, hw6⟩ : ∃ w6, w6 = w5.setCell ⟨xb, 2, none⟩ (.slice ad5 n5 cap5) := ⟨_, rfl⟩
          have HE6 : Hid (∀ {b t : Nat} {cs' : Array Value}, Cel w4 b t cs' → ¬ K b → Cel w6 b t cs') := fun h1 h2 => by rw [hw6]; exact HNT.out.k6 h1 h2
          have HF6 : Hid (Fin W K xb rv F X [⟨1, st, name, [], args⟩] w6) := by rw [hw6]; exact HNT.out.fin
          rw [← hw6]
          clear hw6 HNT HFN HRB HCB
          have HR6 := HE6.out HRB4.out HNR.out
          have p4 := HR6.cell 4
          have p5 := HR6.cell 5
          have p6 := HR6.cell 6
          clear HR6
          go_wp2_with fail
          go_quiet (fail)
          go_wp2_with fail
          go_ret3
          exact ⟨rfl, HF6.out.drewN _⟩
        refine AllReadyH.cons rfl (fun K' hK => ?_) AllReadyH.nil
        go_simp
        refine hK.out _ _ (HCB.out _ (((Below.refl _ w4).drew).alloc (Nat.le_refl _) _)) (fun _ => ?_)
        clear hK K'
        try simp only [Act.put, List.getElem_toArray, List.getElem_cons_succ, List.getElem_cons_zero, List.setIfInBounds_toArray, List.set_cons_zero, List.set_cons_succ]
        have c2 := (HRB.out (w4.alloc (.cells #[.int .i64 1, .int .i64 st, str name, .string ⟨#[]⟩, .slice adl args.length capl] 70)) (below_new w4 _)).1
        refine wpAnyH_ready (rs := [4]) (by kernel_rfl) (by simp) ?_
        refine AllReadyH.cons rfl (fun K' hK => ?_) AllReadyH.nil
        go_simp
        refine hK.out _ _ (HCB.out _ (((Below.refl _ w4).drew).alloc (Nat.le_refl _) _)) (fun _ => ?_)
        clear hK K' c2
        try simp only [Act.put, List.getElem_toArray, List.getElem_cons_succ, List.getElem_cons_zero, List.setIfInBounds_toArray, List.set_cons_zero, List.set_cons_succ]
        have hbA : Below w4.heap.size w4 (w4.drew.alloc (.cells #[.int .i64 1, .int .i64 st, str name, .string ⟨#[]⟩, .slice adl args.length capl] 70)) := ((Below.refl _ w4).drew).alloc (Nat.le_refl _) _
        refine wpAnyH_ready (rs := [7]) (by kernel_rfl) (by simp) ?_
        refine AllReadyH.cons rfl (fun K' hK => ?_) AllReadyH.nil
        refine step_append _ _ 52 rfl 0 70 i0 _ 5 72 Tryd.underlying52 hi0 hz0 hz1 hz2 rfl (by decide) (.slice adt X.length capt) X.length (evCs X) rfl (HRB.out _ hbA).2 ⟨w4.heap.size, 0, none⟩ 1 1 (evC ⟨1, st, name, [], args⟩ (.slice adl args.length capl)) rfl rfl (cells_new w4.drew _ 70) (evC_one _ _ _) (by have := maxLen_big; omega) (by omega) (Nat.zero_le _) ?_
        intro v5 w5 hown5 hgrow5 _ hat5
        obtain ⟨ad5, n5, cap5, rfl⟩ := owns_form hown5
        have HNT : Hid _ := HFN.out ad5 n5 cap5 w5 hown5 hgrow5 hat5
        clear hown5 hgrow5 hat5
        have c5 := HNT.out.c5
        have f5 := HNT.out.f5
        have hS5 : ToldE w3.heap.size #[.int .i64 1, .int .i64 st, str name, .string ⟨#[]⟩, .slice adl args.length capl] w5 := HNT.out.k5 HEB.out HNE.out
        refine hK.out _ _ hS5 (fun _ => ?_)
        clear hK K'
        try simp only [Act.put, List.getElem_toArray, List.getElem_cons_succ, List.getElem_cons_zero, List.setIfInBounds_toArray, List.set_cons_zero, List.set_cons_succ]
        clear hS0
        have hS0 := hS5
        refine wpAnyH_take (i := 8) (v := xP xb) rfl (by kernel_rfl) (by kernel_rfl) (by kernel_rfl) (fun _ _ _ h => h) (Yields.yieldsIf (Or.inl ⟨by rfl, by intro wz; go_simp⟩)) hS0 ?_
        try simp only [Act.put, List.getElem_toArray, List.getElem_cons_succ, List.getElem_cons_zero, List.setIfInBounds_toArray, List.set_cons_zero, List.set_cons_succ]
        refine wpAnyH_take (i := 9) (v := .pointer (some ⟨xb, 2, none⟩)) rfl (by kernel_rfl) (by kernel_rfl) (by kernel_rfl) (fun _ _ _ h => h) (Yields.yieldsIf (Or.inl ⟨by rfl, by intro wz; go_simp⟩)) hS0 ?_
        try simp only [Act.put, List.getElem_toArray, List.getElem_cons_succ, List.getElem_cons_zero, List.setIfInBounds_toArray, List.set_cons_zero, List.set_cons_succ]
        refine wpAnyH_ready (rs := [10]) (by kernel_rfl) (by simp) ?_
        refine AllReadyH.cons rfl (fun K' hK => ?_) AllReadyH.nil
        go_simp
        refine hK.out _ _ (HNT.out.k6 HEB.out HNE.out) (fun _ => ?_)
        clear hK K'
        try simp only [Act.put, List.getElem_toArray, List.getElem_cons_succ, List.getElem_cons_zero, List.setIfInBounds_toArray, List.set_cons_zero, List.set_cons_succ]
        refine wpAnyH_done (by kernel_rfl) ?_ _
        clear hS0 hS5 c5 f5
        obtain ⟨w6, hw6⟩ : ∃ w6, w6 = w5.setCell ⟨xb, 2, none⟩ (.slice ad5 n5 cap5) := ⟨_, rfl⟩
        have HE6 : Hid (∀ {b t : Nat} {cs' : Array Value}, Cel w4 b t cs' → ¬ K b → Cel w6 b t cs') := fun h1 h2 => by rw [hw6]; exact HNT.out.k6 h1 h2
        have HF6 : Hid (Fin W K xb rv F X [⟨1, st, name, [], args⟩] w6) := by rw [hw6]; exact HNT.out.fin
        rw [← hw6]
        clear hw6 HNT HFN HRB HCB
        have HR6 := HE6.out HRB4.out HNR.out
        have p4 := HR6.cell 4
        have p5 := HR6.cell 5
        have p6 := HR6.cell 6
        clear HR6
        go_wp2_with fail
        go_quiet (fail)
        go_wp2_with fail
        go_ret3
        exact ⟨rfl, HF6.out.drewN _⟩
      · go_enter Tryd.func17, Tryd.ntmps17
        go_wp2_with fail
        refine HRW.out.mono ?_
        rintro e w2 ⟨rfl, hb2⟩
        simp only [idxV]
        have HTX : Hid (Calls Tryd.prog 39 #[.slice ada args.length capa] w2 fun e w' => ∃ v, e = .returned v ∧ w'.ownsRow w2.heap.size 9 1 v args.length (txV args) ∧ Below w2.heap.size w2 w') := texts_any _ args w2 (HA.out _ hb2) hla
        go_wp2_with fail
        refine HTX.out.mono ?_
        rintro e w3 ⟨v3, rfl, ho3, hb3'⟩
        obtain ⟨adl, capl, rfl⟩ := owns_slice ho3
        have hb3 : Below W.heap.size W w3 := hb2.trans (hb3'.mono hb2.size)
        have HO3 : Hid (w3.ownsRow W.heap.size 9 1 (.slice adl args.length capl) args.length (txV args)) := owns_lower ho3 hb2.size
        clear ho3 hb3' HTX HRW
        have hb5 : Below W.heap.size W ((w3.alloc (.cells #[.int .i64 1, .int .i64 127, str name, .string ⟨#[]⟩, .slice adl args.length capl] 70)).alloc (.cells #[str nm, .slice adr2 ars.length capr2, .bool an, .bool false, .bool true, str ou, .int .i64 st] 77)) := (hb3.alloc hb3.size _).alloc (by have := hb3.size; simp; omega) _
        have x1 := ((HH.out _ (hb3.alloc hb3.size (.cells #[.int .i64 1, .int .i64 127, str name, .string ⟨#[]⟩, .slice adl args.length capl] 70))).xc.cell 1)
        obtain ⟨g, og, capg, hvg, hg, c0, c1, c2, c3, c4, c5, c6⟩ := (HR.out _ (hb3.alloc hb3.size (.cells #[.int .i64 1, .int .i64 127, str name, .string ⟨#[]⟩, .slice adl args.length capl] 70))).at HQ.out
        rw [hvg] at x1
        have HCE : Hid (Cel ((w3.alloc (.cells #[.int .i64 1, .int .i64 127, str name, .string ⟨#[]⟩, .slice adl args.length capl] 70)).alloc (.cells #[str nm, .slice adr2 ars.length capr2, .bool an, .bool false, .bool true, str ou, .int .i64 st] 77)) w3.heap.size 70 #[.int .i64 1, .int .i64 127, str name, .string ⟨#[]⟩, .slice adl args.length capl]) := (Cel.new w3 70 #[.int .i64 1, .int .i64 127, str name, .string ⟨#[]⟩, .slice adl args.length capl]).turn (Turn.ofBelow (S := fun _ => False) (below_new _ _)) (fun h => h)
        have HCR : Hid (Cel ((w3.alloc (.cells #[.int .i64 1, .int .i64 127, str name, .string ⟨#[]⟩, .slice adl args.length capl] 70)).alloc (.cells #[str nm, .slice adr2 ars.length capr2, .bool an, .bool false, .bool true, str ou, .int .i64 st] 77)) (w3.heap.size + 1) 77 #[str nm, .slice adr2 ars.length capr2, .bool an, .bool false, .bool true, str ou, .int .i64 st]) := by have := Cel.new (w3.alloc (.cells #[.int .i64 1, .int .i64 127, str name, .string ⟨#[]⟩, .slice adl args.length capl] 70)) 77 #[str nm, .slice adr2 ars.length capr2, .bool an, .bool false, .bool true, str ou, .int .i64 st]; rw [World.size_alloc] at this; exact this
        have y1 := HCE.out.cell 1
        have g1 := HCE.out.frozen 1
        have HCE2 : Hid (Cel (((w3.alloc (.cells #[.int .i64 1, .int .i64 127, str name, .string ⟨#[]⟩, .slice adl args.length capl] 70)).alloc (.cells #[str nm, .slice adr2 ars.length capr2, .bool an, .bool false, .bool true, str ou, .int .i64 st] 77)).setCell ⟨w3.heap.size, 1, none⟩ (.int .i64 st)) w3.heap.size 70 #[.int .i64 1, .int .i64 st, str name, .string ⟨#[]⟩, .slice adl args.length capl]) := HCE.out.set _
        have HCR2 : Hid (Cel (((w3.alloc (.cells #[.int .i64 1, .int .i64 127, str name, .string ⟨#[]⟩, .slice adl args.length capl] 70)).alloc (.cells #[str nm, .slice adr2 ars.length capr2, .bool an, .bool false, .bool true, str ou, .int .i64 st] 77)).setCell ⟨w3.heap.size, 1, none⟩ (.int .i64 st)) (w3.heap.size + 1) 77 #[str nm, .slice adr2 ars.length capr2, .bool an, .bool false, .bool true, str ou, .int .i64 st]) := HCR.out.other (by omega) _
        have y3 := HCE2.out.cell 3
        have g3 := HCE2.out.frozen 3
        have r3 := HCR2.out.cell 3
        have r6 := HCR.out.cell 6
        go_upto_region 10 with fail
        clear c0 c1 c2 c3 c4 c5 c6 x1 y1 g1 y3 g3 r3 r6
        obtain ⟨w4, hw4⟩ : ∃ w4, w4 = (w3.alloc (.cells #[.int .i64 1, .int .i64 st, str name, .string ⟨#[]⟩, .slice adl args.length capl] 70)).alloc (.cells #[str nm, .slice adr2 ars.length capr2, .bool an, .bool false, .bool true, str ou, .int .i64 st] 77) := ⟨_, rfl⟩
        have HT34 : Hid (Turn (fun _ => False) w3 w4) := by
          rw [hw4]
          exact ((Turn.refl _ w3).alloc _).alloc _
        have hb34 : Below w3.heap.size w3 w4 := HT34.out.below (fun _ h => h.elim) (Nat.le_refl _)
        have hb4 : Below W.heap.size W w4 := hb3.trans (hb34.mono hb3.size)
        have HR4 : Hid (Rk w4 K xb fv rv (.slice adt X.length capt) F X) := HH.out _ hb4
        have HS4 : Hid (Stp W K w4 K) := Stp.ofBelow hb4
        have HEB : Hid (Cel w4 w3.heap.size 70 #[.int .i64 1, .int .i64 st, str name, .string ⟨#[]⟩, .slice adl args.length capl]) := by rw [hw4]; exact (Cel.new w3 70 _).turn (Turn.ofBelow (S := fun _ => False) (below_new _ _)) (fun h => h)
        have HRB4 : Hid (Cel w4 (w3.heap.size + 1) 77 #[str nm, .slice adr2 ars.length capr2, .bool an, .bool false, .bool true, str ou, .int .i64 st]) := by have := Cel.new (w3.alloc (.cells #[.int .i64 1, .int .i64 st, str name, .string ⟨#[]⟩, .slice adl args.length capl] 70)) 77 #[str nm, .slice adr2 ars.length capr2, .bool an, .bool false, .bool true, str ou, .int .i64 st]; rw [World.size_alloc] at this; rw [hw4]; exact this
        have HNE : Hid (¬ K w3.heap.size) := fun hk => by have := HLT.out _ hk; have := hb3.size; omega
        have HNR : Hid (¬ K (w3.heap.size + 1)) := fun hk => by have := HLT.out _ hk; have := hb3.size; omega
        have HLV : Hid (Ot w4 (fun j => (Value.slice adl args.length capl).ownBlock = some j) (.slice adl args.length capl) args) := ⟨owns_lower (owns_turn HO3.out HT34.out (fun b hb hs => hs.elim)) (Nat.zero_le _), fun b hb => hb⟩
        have HLB : Hid (∀ j, (Value.slice adl args.length capl).ownBlock = some j → W.heap.size ≤ j) := fun j hj => (HO3.out.lt j hj).1
        rw [← hw4]
        clear hw4 HO3 HT34 hb2 hb3 hb34 hb5 HR HA HCE HCE2 HCR HCR2 hvg
        have HCB : Hid (∀ W', Below w4.heap.size w4 W' → Cel W' w3.heap.size 70 #[.int .i64 1, .int .i64 st, str name, .string ⟨#[]⟩, .slice adl args.length capl]) := fun W' hb => HEB.out.below hb HEB.out.lt
        have HRB : Hid (∀ W', Below w4.heap.size w4 W' → W'.cell? ⟨xb, 2, none⟩ = some (.slice adt X.length capt) ∧ W'.ownsRow 0 70 5 (.slice adt X.length capt) X.length (evCs X)) := fun W' hb => ⟨(HR4.out.below hb).xc.cell 2, (HR4.out.below hb).er⟩
        have HFN : Hid (∀ (ad5 : Option Addr) (n5 cap5 : Nat) (w5 : World), w5.ownsRow 0 70 5 (.slice ad5 n5 cap5) (X.length + 1) (evCs X ++ evC ⟨1, st, name, [], args⟩ (.slice adl args.length capl)) → (w4.drew.alloc (.cells #[.int .i64 1, .int .i64 st, str name, .string ⟨#[]⟩, .slice adl args.length capl] 70)).grownBy w5 (Value.slice adt X.length capt).ownBlock → ((Value.slice ad5 n5 cap5).ownBlock = (Value.slice adt X.length capt).ownBlock ∨ (Value.slice ad5 n5 cap5).ownBlock = some (w4.drew.alloc (.cells #[.int .i64 1, .int .i64 st, str name, .string ⟨#[]⟩, .slice adl args.length capl] 70)).heap.size) → After W K xb fv rv F X ⟨1, st, name, [], args⟩ (.slice adl args.length capl) K w4 w5 (.slice ad5 n5 cap5) (.slice adt X.length capt)) := fun ad5 n5 cap5 w5 q1 q2 q3 => note_after HR4.out HS4.out ⟨1, st, name, [], args⟩ (.slice adl args.length capl) HLV.out HLB.out rfl q1 q2 q3
        have hS0 : ToldE w3.heap.size #[.int .i64 1, .int .i64 st, str name, .string ⟨#[]⟩, .slice adl args.length capl] (World.drew w4) := HCB.out _ (Below.refl _ _).drew
        refine wp_region_held (S := ToldE w3.heap.size #[.int .i64 1, .int .i64 st, str name, .string ⟨#[]⟩, .slice adl args.length capl]) (by kernel_rfl) ?_
        change wpAnyH _ _ _ _ _ _ _ _ (World.drew _)
        refine wpAnyH_take (i := 0) (v := xP xb) rfl (by kernel_rfl) (by kernel_rfl) (by kernel_rfl) (fun _ _ _ h => h) (Yields.yieldsIf (Or.inl ⟨by rfl, by intro wz; go_simp⟩)) hS0 ?_
        try simp only [Act.put, List.getElem_toArray, List.getElem_cons_zero, List.setIfInBounds_toArray, List.set_cons_zero, List.set_cons_succ]
        refine wpAnyH_take (i := 1) (v := xP xb) rfl (by kernel_rfl) (by kernel_rfl) (by kernel_rfl) (fun _ _ _ h => h) (Yields.yieldsIf (Or.inl ⟨by rfl, by intro wz; go_simp⟩)) hS0 ?_
        try simp only [Act.put, List.getElem_toArray, List.getElem_cons_succ, List.getElem_cons_zero, List.setIfInBounds_toArray, List.set_cons_zero, List.set_cons_succ]
        refine wpAnyH_take (i := 2) (v := xP xb) rfl (by kernel_rfl) (by kernel_rfl) (by kernel_rfl) (fun _ _ _ h => h) (Yields.yieldsIf (Or.inl ⟨by rfl, by intro wz; go_simp⟩)) hS0 ?_
        try simp only [Act.put, List.getElem_toArray, List.getElem_cons_succ, List.getElem_cons_zero, List.setIfInBounds_toArray, List.set_cons_zero, List.set_cons_succ]
        refine wpAnyH_take (i := 3) (v := .pointer (some ⟨xb, 2, none⟩)) rfl (by kernel_rfl) (by kernel_rfl) (by kernel_rfl) (fun _ _ _ h => h) (Yields.yieldsIf (Or.inl ⟨by rfl, by intro wz; go_simp⟩)) hS0 ?_
        try simp only [Act.put, List.getElem_toArray, List.getElem_cons_succ, List.getElem_cons_zero, List.setIfInBounds_toArray, List.set_cons_zero, List.set_cons_succ]
        refine wpAnyH_take (i := 5) (v := .agg #[.int .i64 1, .int .i64 st, str name, .string ⟨#[]⟩, .slice adl args.length capl]) rfl (by kernel_rfl) (by kernel_rfl) (by kernel_rfl) (fun _ _ _ h => h) (Or.inl ⟨by rfl, fun wz hS => by have s0 := hS.out.cell 0; have s1 := hS.out.cell 1; have s2 := hS.out.cell 2; have s3 := hS.out.cell 3; have s4 := hS.out.cell 4; go_simp⟩) hS0 ?_
        try simp only [Act.put, List.getElem_toArray, List.getElem_cons_succ, List.getElem_cons_zero, List.setIfInBounds_toArray, List.set_cons_zero, List.set_cons_succ]
        refine wpAnyH_ready (rs := [4, 6]) (by kernel_rfl) (by simp) ?_
        refine AllReadyH.cons rfl (fun K' hK => ?_) ?_
        · have c2 := (HRB.out _ (Below.refl _ w4).drew).1
          go_simp
          refine hK.out _ _ hS0 (fun _ => ?_)
          clear hK K' c2
          try simp only [Act.put, List.getElem_toArray, List.getElem_cons_succ, List.getElem_cons_zero, List.setIfInBounds_toArray, List.set_cons_zero, List.set_cons_succ]
          refine wpAnyH_ready (rs := [6]) (by kernel_rfl) (by simp) ?_
          refine AllReadyH.cons rfl (fun K' hK => ?_) AllReadyH.nil
          go_simp
          refine hK.out _ _ (HCB.out _ (((Below.refl _ w4).drew).alloc (Nat.le_refl _) _)) (fun _ => ?_)
          clear hK K'
          try simp only [Act.put, List.getElem_toArray, List.getElem_cons_succ, List.getElem_cons_zero, List.setIfInBounds_toArray, List.set_cons_zero, List.set_cons_succ]
          have hbA : Below w4.heap.size w4 (w4.drew.alloc (.cells #[.int .i64 1, .int .i64 st, str name, .string ⟨#[]⟩, .slice adl args.length capl] 70)) := ((Below.refl _ w4).drew).alloc (Nat.le_refl _) _
          refine wpAnyH_ready (rs := [7]) (by kernel_rfl) (by simp) ?_
          refine AllReadyH.cons rfl (fun K' hK => ?_) AllReadyH.nil
          refine step_append _ _ 52 rfl 0 70 i0 _ 5 72 Tryd.underlying52 hi0 hz0 hz1 hz2 rfl (by decide) (.slice adt X.length capt) X.length (evCs X) rfl (HRB.out _ hbA).2 ⟨w4.heap.size, 0, none⟩ 1 1 (evC ⟨1, st, name, [], args⟩ (.slice adl args.length capl)) rfl rfl (cells_new w4.drew _ 70) (evC_one _ _ _) (by have := maxLen_big; omega) (by omega) (Nat.zero_le _) ?_
          intro v5 w5 hown5 hgrow5 _ hat5
          obtain ⟨ad5, n5, cap5, rfl⟩ := owns_form hown5
          have HNT : Hid _ := HFN.out ad5 n5 cap5 w5 hown5 hgrow5 hat5
          clear hown5 hgrow5 hat5
          have c5 := HNT.out.c5
          have f5 := HNT.out.f5
          have hS5 : ToldE w3.heap.size #[.int .i64 1, .int .i64 st, str name, .string ⟨#[]⟩, .slice adl args.length capl] w5 := HNT.out.k5 HEB.out HNE.out
          refine hK.out _ _ hS5 (fun _ => ?_)
          clear hK K'
          try simp only [Act.put, List.getElem_toArray, List.getElem_cons_succ, List.getElem_cons_zero, List.setIfInBounds_toArray, List.set_cons_zero, List.set_cons_succ]
          clear hS0
          have hS0 := hS5
          refine wpAnyH_take (i := 8) (v := xP xb) rfl (by kernel_rfl) (by kernel_rfl) (by kernel_rfl) (fun _ _ _ h => h) (Yields.yieldsIf (Or.inl ⟨by rfl, by intro wz; go_simp⟩)) hS0 ?_
          try simp only [Act.put, List.getElem_toArray, List.getElem_cons_succ, List.getElem_cons_zero, List.setIfInBounds_toArray, List.set_cons_zero, List.set_cons_succ]
          refine wpAnyH_take (i := 9) (v := .pointer (some ⟨xb, 2, none⟩)) rfl (by kernel_rfl) (by kernel_rfl) (by kernel_rfl) (fun _ _ _ h => h) (Yields.yieldsIf (Or.inl ⟨by rfl, by intro wz; go_simp⟩)) hS0 ?_
          try simp only [Act.put, List.getElem_toArray, List.getElem_cons_succ, List.getElem_cons_zero, List.setIfInBounds_toArray, List.set_cons_zero, List.set_cons_succ]
          refine wpAnyH_ready (rs := [10]) (by kernel_rfl) (by simp) ?_
          refine AllReadyH.cons rfl (fun K' hK => ?_) AllReadyH.nil
          go_simp
          refine hK.out _ _ (HNT.out.k6 HEB.out HNE.out) (fun _ => ?_)
          clear hK K'
          try simp only [Act.put, List.getElem_toArray, List.getElem_cons_succ, List.getElem_cons_zero, List.setIfInBounds_toArray, List.set_cons_zero, List.set_cons_succ]
          refine wpAnyH_done (by kernel_rfl) ?_ _
          clear hS0 hS5 c5 f5
          obtain ⟨w6, hw6⟩ : ∃ w6, w6 = w5.setCell ⟨xb, 2, none⟩ (.slice ad5 n5 cap5) := ⟨_, rfl⟩
          have HE6 : Hid (∀ {b t : Nat} {cs' : Array Value}, Cel w4 b t cs' → ¬ K b → Cel w6 b t cs') := fun h1 h2 => by rw [hw6]; exact HNT.out.k6 h1 h2
          have HF6 : Hid (Fin W K xb rv F X [⟨1, st, name, [], args⟩] w6) := by rw [hw6]; exact HNT.out.fin
          rw [← hw6]
          clear hw6 HNT HFN HRB HCB
          have HR6 := HE6.out HRB4.out HNR.out
          have p4 := HR6.cell 4
          have p5 := HR6.cell 5
          have p6 := HR6.cell 6
          have hap := str_app ou inp
          clear HR6
          go_wp2_with fail
          go_quiet (fail)
          go_wp2_with fail
          go_ret3
          exact ⟨rfl, HF6.out.drewN _⟩
        refine AllReadyH.cons rfl (fun K' hK => ?_) AllReadyH.nil
        go_simp
        refine hK.out _ _ (HCB.out _ (((Below.refl _ w4).drew).alloc (Nat.le_refl _) _)) (fun _ => ?_)
        clear hK K'
        try simp only [Act.put, List.getElem_toArray, List.getElem_cons_succ, List.getElem_cons_zero, List.setIfInBounds_toArray, List.set_cons_zero, List.set_cons_succ]
        have c2 := (HRB.out (w4.alloc (.cells #[.int .i64 1, .int .i64 st, str name, .string ⟨#[]⟩, .slice adl args.length capl] 70)) (below_new w4 _)).1
        refine wpAnyH_ready (rs := [4]) (by kernel_rfl) (by simp) ?_
        refine AllReadyH.cons rfl (fun K' hK => ?_) AllReadyH.nil
        go_simp
        refine hK.out _ _ (HCB.out _ (((Below.refl _ w4).drew).alloc (Nat.le_refl _) _)) (fun _ => ?_)
        clear hK K' c2
        try simp only [Act.put, List.getElem_toArray, List.getElem_cons_succ, List.getElem_cons_zero, List.setIfInBounds_toArray, List.set_cons_zero, List.set_cons_succ]
        have hbA : Below w4.heap.size w4 (w4.drew.alloc (.cells #[.int .i64 1, .int .i64 st, str name, .string ⟨#[]⟩, .slice adl args.length capl] 70)) := ((Below.refl _ w4).drew).alloc (Nat.le_refl _) _
        refine wpAnyH_ready (rs := [7]) (by kernel_rfl) (by simp) ?_
        refine AllReadyH.cons rfl (fun K' hK => ?_) AllReadyH.nil
        refine step_append _ _ 52 rfl 0 70 i0 _ 5 72 Tryd.underlying52 hi0 hz0 hz1 hz2 rfl (by decide) (.slice adt X.length capt) X.length (evCs X) rfl (HRB.out _ hbA).2 ⟨w4.heap.size, 0, none⟩ 1 1 (evC ⟨1, st, name, [], args⟩ (.slice adl args.length capl)) rfl rfl (cells_new w4.drew _ 70) (evC_one _ _ _) (by have := maxLen_big; omega) (by omega) (Nat.zero_le _) ?_
        intro v5 w5 hown5 hgrow5 _ hat5
        obtain ⟨ad5, n5, cap5, rfl⟩ := owns_form hown5
        have HNT : Hid _ := HFN.out ad5 n5 cap5 w5 hown5 hgrow5 hat5
        clear hown5 hgrow5 hat5
        have c5 := HNT.out.c5
        have f5 := HNT.out.f5
        have hS5 : ToldE w3.heap.size #[.int .i64 1, .int .i64 st, str name, .string ⟨#[]⟩, .slice adl args.length capl] w5 := HNT.out.k5 HEB.out HNE.out
        refine hK.out _ _ hS5 (fun _ => ?_)
        clear hK K'
        try simp only [Act.put, List.getElem_toArray, List.getElem_cons_succ, List.getElem_cons_zero, List.setIfInBounds_toArray, List.set_cons_zero, List.set_cons_succ]
        clear hS0
        have hS0 := hS5
        refine wpAnyH_take (i := 8) (v := xP xb) rfl (by kernel_rfl) (by kernel_rfl) (by kernel_rfl) (fun _ _ _ h => h) (Yields.yieldsIf (Or.inl ⟨by rfl, by intro wz; go_simp⟩)) hS0 ?_
        try simp only [Act.put, List.getElem_toArray, List.getElem_cons_succ, List.getElem_cons_zero, List.setIfInBounds_toArray, List.set_cons_zero, List.set_cons_succ]
        refine wpAnyH_take (i := 9) (v := .pointer (some ⟨xb, 2, none⟩)) rfl (by kernel_rfl) (by kernel_rfl) (by kernel_rfl) (fun _ _ _ h => h) (Yields.yieldsIf (Or.inl ⟨by rfl, by intro wz; go_simp⟩)) hS0 ?_
        try simp only [Act.put, List.getElem_toArray, List.getElem_cons_succ, List.getElem_cons_zero, List.setIfInBounds_toArray, List.set_cons_zero, List.set_cons_succ]
        refine wpAnyH_ready (rs := [10]) (by kernel_rfl) (by simp) ?_
        refine AllReadyH.cons rfl (fun K' hK => ?_) AllReadyH.nil
        go_simp
        refine hK.out _ _ (HNT.out.k6 HEB.out HNE.out) (fun _ => ?_)
        clear hK K'
        try simp only [Act.put, List.getElem_toArray, List.getElem_cons_succ, List.getElem_cons_zero, List.setIfInBounds_toArray, List.set_cons_zero, List.set_cons_succ]
        refine wpAnyH_done (by kernel_rfl) ?_ _
        clear hS0 hS5 c5 f5
        obtain ⟨w6, hw6⟩ : ∃ w6, w6 = w5.setCell ⟨xb, 2, none⟩ (.slice ad5 n5 cap5) := ⟨_, rfl⟩
        have HE6 : Hid (∀ {b t : Nat} {cs' : Array Value}, Cel w4 b t cs' → ¬ K b → Cel w6 b t cs') := fun h1 h2 => by rw [hw6]; exact HNT.out.k6 h1 h2
        have HF6 : Hid (Fin W K xb rv F X [⟨1, st, name, [], args⟩] w6) := by rw [hw6]; exact HNT.out.fin
        rw [← hw6]
        clear hw6 HNT HFN HRB HCB
        have HR6 := HE6.out HRB4.out HNR.out
        have p4 := HR6.cell 4
        have p5 := HR6.cell 5
        have p6 := HR6.cell 6
        have hap := str_app ou inp
        clear HR6
        go_wp2_with fail
        go_quiet (fail)
        go_wp2_with fail
        go_ret3
        exact ⟨rfl, HF6.out.drewN _⟩
    · cases co
      · go_enter Tryd.func17, Tryd.ntmps17
        go_wp2_with fail
        refine HRW.out.mono ?_
        rintro e w2 ⟨rfl, hb2⟩
        simp only [idxV]
        have HTX : Hid (Calls Tryd.prog 39 #[.slice ada args.length capa] w2 fun e w' => ∃ v, e = .returned v ∧ w'.ownsRow w2.heap.size 9 1 v args.length (txV args) ∧ Below w2.heap.size w2 w') := texts_any _ args w2 (HA.out _ hb2) hla
        go_wp2_with fail
        refine HTX.out.mono ?_
        rintro e w3 ⟨v3, rfl, ho3, hb3'⟩
        obtain ⟨adl, capl, rfl⟩ := owns_slice ho3
        have hb3 : Below W.heap.size W w3 := hb2.trans (hb3'.mono hb2.size)
        have HO3 : Hid (w3.ownsRow W.heap.size 9 1 (.slice adl args.length capl) args.length (txV args)) := owns_lower ho3 hb2.size
        clear ho3 hb3' HTX HRW
        have hb5 : Below W.heap.size W ((w3.alloc (.cells #[.int .i64 1, .int .i64 127, str name, .string ⟨#[]⟩, .slice adl args.length capl] 70)).alloc (.cells #[str nm, .slice adr2 ars.length capr2, .bool an, .bool true, .bool false, str ou, .int .i64 st] 77)) := (hb3.alloc hb3.size _).alloc (by have := hb3.size; simp; omega) _
        have x1 := ((HH.out _ (hb3.alloc hb3.size (.cells #[.int .i64 1, .int .i64 127, str name, .string ⟨#[]⟩, .slice adl args.length capl] 70))).xc.cell 1)
        obtain ⟨g, og, capg, hvg, hg, c0, c1, c2, c3, c4, c5, c6⟩ := (HR.out _ (hb3.alloc hb3.size (.cells #[.int .i64 1, .int .i64 127, str name, .string ⟨#[]⟩, .slice adl args.length capl] 70))).at HQ.out
        rw [hvg] at x1
        have HCE : Hid (Cel ((w3.alloc (.cells #[.int .i64 1, .int .i64 127, str name, .string ⟨#[]⟩, .slice adl args.length capl] 70)).alloc (.cells #[str nm, .slice adr2 ars.length capr2, .bool an, .bool true, .bool false, str ou, .int .i64 st] 77)) w3.heap.size 70 #[.int .i64 1, .int .i64 127, str name, .string ⟨#[]⟩, .slice adl args.length capl]) := (Cel.new w3 70 #[.int .i64 1, .int .i64 127, str name, .string ⟨#[]⟩, .slice adl args.length capl]).turn (Turn.ofBelow (S := fun _ => False) (below_new _ _)) (fun h => h)
        have HCR : Hid (Cel ((w3.alloc (.cells #[.int .i64 1, .int .i64 127, str name, .string ⟨#[]⟩, .slice adl args.length capl] 70)).alloc (.cells #[str nm, .slice adr2 ars.length capr2, .bool an, .bool true, .bool false, str ou, .int .i64 st] 77)) (w3.heap.size + 1) 77 #[str nm, .slice adr2 ars.length capr2, .bool an, .bool true, .bool false, str ou, .int .i64 st]) := by have := Cel.new (w3.alloc (.cells #[.int .i64 1, .int .i64 127, str name, .string ⟨#[]⟩, .slice adl args.length capl] 70)) 77 #[str nm, .slice adr2 ars.length capr2, .bool an, .bool true, .bool false, str ou, .int .i64 st]; rw [World.size_alloc] at this; exact this
        have y1 := HCE.out.cell 1
        have g1 := HCE.out.frozen 1
        have HCE2 : Hid (Cel (((w3.alloc (.cells #[.int .i64 1, .int .i64 127, str name, .string ⟨#[]⟩, .slice adl args.length capl] 70)).alloc (.cells #[str nm, .slice adr2 ars.length capr2, .bool an, .bool true, .bool false, str ou, .int .i64 st] 77)).setCell ⟨w3.heap.size, 1, none⟩ (.int .i64 st)) w3.heap.size 70 #[.int .i64 1, .int .i64 st, str name, .string ⟨#[]⟩, .slice adl args.length capl]) := HCE.out.set _
        have HCR2 : Hid (Cel (((w3.alloc (.cells #[.int .i64 1, .int .i64 127, str name, .string ⟨#[]⟩, .slice adl args.length capl] 70)).alloc (.cells #[str nm, .slice adr2 ars.length capr2, .bool an, .bool true, .bool false, str ou, .int .i64 st] 77)).setCell ⟨w3.heap.size, 1, none⟩ (.int .i64 st)) (w3.heap.size + 1) 77 #[str nm, .slice adr2 ars.length capr2, .bool an, .bool true, .bool false, str ou, .int .i64 st]) := HCR.out.other (by omega) _
        have y3 := HCE2.out.cell 3
        have g3 := HCE2.out.frozen 3
        have r3 := HCR2.out.cell 3
        have r6 := HCR.out.cell 6
        go_upto_region 10 with fail
        clear c0 c1 c2 c3 c4 c5 c6 x1 y1 g1 y3 g3 r3 r6
        obtain ⟨w4, hw4⟩ : ∃ w4, w4 = (w3.alloc (.cells #[.int .i64 1, .int .i64 st, str name, str inp, .slice adl args.length capl] 70)).alloc (.cells #[str nm, .slice adr2 ars.length capr2, .bool an, .bool true, .bool false, str ou, .int .i64 st] 77) := ⟨_, rfl⟩
        have HT34 : Hid (Turn (fun _ => False) w3 w4) := by
          rw [hw4]
          exact ((Turn.refl _ w3).alloc _).alloc _
        have hb34 : Below w3.heap.size w3 w4 := HT34.out.below (fun _ h => h.elim) (Nat.le_refl _)
        have hb4 : Below W.heap.size W w4 := hb3.trans (hb34.mono hb3.size)
        have HR4 : Hid (Rk w4 K xb fv rv (.slice adt X.length capt) F X) := HH.out _ hb4
        have HS4 : Hid (Stp W K w4 K) := Stp.ofBelow hb4
        have HEB : Hid (Cel w4 w3.heap.size 70 #[.int .i64 1, .int .i64 st, str name, str inp, .slice adl args.length capl]) := by rw [hw4]; exact (Cel.new w3 70 _).turn (Turn.ofBelow (S := fun _ => False) (below_new _ _)) (fun h => h)
        have HRB4 : Hid (Cel w4 (w3.heap.size + 1) 77 #[str nm, .slice adr2 ars.length capr2, .bool an, .bool true, .bool false, str ou, .int .i64 st]) := by have := Cel.new (w3.alloc (.cells #[.int .i64 1, .int .i64 st, str name, str inp, .slice adl args.length capl] 70)) 77 #[str nm, .slice adr2 ars.length capr2, .bool an, .bool true, .bool false, str ou, .int .i64 st]; rw [World.size_alloc] at this; rw [hw4]; exact this
        have HNE : Hid (¬ K w3.heap.size) := fun hk => by have := HLT.out _ hk; have := hb3.size; omega
        have HNR : Hid (¬ K (w3.heap.size + 1)) := fun hk => by have := HLT.out _ hk; have := hb3.size; omega
        have HLV : Hid (Ot w4 (fun j => (Value.slice adl args.length capl).ownBlock = some j) (.slice adl args.length capl) args) := ⟨owns_lower (owns_turn HO3.out HT34.out (fun b hb hs => hs.elim)) (Nat.zero_le _), fun b hb => hb⟩
        have HLB : Hid (∀ j, (Value.slice adl args.length capl).ownBlock = some j → W.heap.size ≤ j) := fun j hj => (HO3.out.lt j hj).1
        rw [← hw4]
        clear hw4 HO3 HT34 hb2 hb3 hb34 hb5 HR HA HCE HCE2 HCR HCR2 hvg
        have HCB : Hid (∀ W', Below w4.heap.size w4 W' → Cel W' w3.heap.size 70 #[.int .i64 1, .int .i64 st, str name, str inp, .slice adl args.length capl]) := fun W' hb => HEB.out.below hb HEB.out.lt
        have HRB : Hid (∀ W', Below w4.heap.size w4 W' → W'.cell? ⟨xb, 2, none⟩ = some (.slice adt X.length capt) ∧ W'.ownsRow 0 70 5 (.slice adt X.length capt) X.length (evCs X)) := fun W' hb => ⟨(HR4.out.below hb).xc.cell 2, (HR4.out.below hb).er⟩
        have HFN : Hid (∀ (ad5 : Option Addr) (n5 cap5 : Nat) (w5 : World), w5.ownsRow 0 70 5 (.slice ad5 n5 cap5) (X.length + 1) (evCs X ++ evC ⟨1, st, name, inp, args⟩ (.slice adl args.length capl)) → (w4.drew.alloc (.cells #[.int .i64 1, .int .i64 st, str name, str inp, .slice adl args.length capl] 70)).grownBy w5 (Value.slice adt X.length capt).ownBlock → ((Value.slice ad5 n5 cap5).ownBlock = (Value.slice adt X.length capt).ownBlock ∨ (Value.slice ad5 n5 cap5).ownBlock = some (w4.drew.alloc (.cells #[.int .i64 1, .int .i64 st, str name, str inp, .slice adl args.length capl] 70)).heap.size) → After W K xb fv rv F X ⟨1, st, name, inp, args⟩ (.slice adl args.length capl) K w4 w5 (.slice ad5 n5 cap5) (.slice adt X.length capt)) := fun ad5 n5 cap5 w5 q1 q2 q3 => note_after HR4.out HS4.out ⟨1, st, name, inp, args⟩ (.slice adl args.length capl) HLV.out HLB.out rfl q1 q2 q3
        have hS0 : ToldE w3.heap.size #[.int .i64 1, .int .i64 st, str name, str inp, .slice adl args.length capl] (World.drew w4) := HCB.out _ (Below.refl _ _).drew
        refine wp_region_held (S := ToldE w3.heap.size #[.int .i64 1, .int .i64 st, str name, str inp, .slice adl args.length capl]) (by kernel_rfl) ?_
        change wpAnyH _ _ _ _ _ _ _ _ (World.drew _)
        refine wpAnyH_take (i := 0) (v := xP xb) rfl (by kernel_rfl) (by kernel_rfl) (by kernel_rfl) (fun _ _ _ h => h) (Yields.yieldsIf (Or.inl ⟨by rfl, by intro wz; go_simp⟩)) hS0 ?_
        try simp only [Act.put, List.getElem_toArray, List.getElem_cons_zero, List.setIfInBounds_toArray, List.set_cons_zero, List.set_cons_succ]
        refine wpAnyH_take (i := 1) (v := xP xb) rfl (by kernel_rfl) (by kernel_rfl) (by kernel_rfl) (fun _ _ _ h => h) (Yields.yieldsIf (Or.inl ⟨by rfl, by intro wz; go_simp⟩)) hS0 ?_
        try simp only [Act.put, List.getElem_toArray, List.getElem_cons_succ, List.getElem_cons_zero, List.setIfInBounds_toArray, List.set_cons_zero, List.set_cons_succ]
        refine wpAnyH_take (i := 2) (v := xP xb) rfl (by kernel_rfl) (by kernel_rfl) (by kernel_rfl) (fun _ _ _ h => h) (Yields.yieldsIf (Or.inl ⟨by rfl, by intro wz; go_simp⟩)) hS0 ?_
        try simp only [Act.put, List.getElem_toArray, List.getElem_cons_succ, List.getElem_cons_zero, List.setIfInBounds_toArray, List.set_cons_zero, List.set_cons_succ]
        refine wpAnyH_take (i := 3) (v := .pointer (some ⟨xb, 2, none⟩)) rfl (by kernel_rfl) (by kernel_rfl) (by kernel_rfl) (fun _ _ _ h => h) (Yields.yieldsIf (Or.inl ⟨by rfl, by intro wz; go_simp⟩)) hS0 ?_
        try simp only [Act.put, List.getElem_toArray, List.getElem_cons_succ, List.getElem_cons_zero, List.setIfInBounds_toArray, List.set_cons_zero, List.set_cons_succ]
        refine wpAnyH_take (i := 5) (v := .agg #[.int .i64 1, .int .i64 st, str name, str inp, .slice adl args.length capl]) rfl (by kernel_rfl) (by kernel_rfl) (by kernel_rfl) (fun _ _ _ h => h) (Or.inl ⟨by rfl, fun wz hS => by have s0 := hS.out.cell 0; have s1 := hS.out.cell 1; have s2 := hS.out.cell 2; have s3 := hS.out.cell 3; have s4 := hS.out.cell 4; go_simp⟩) hS0 ?_
        try simp only [Act.put, List.getElem_toArray, List.getElem_cons_succ, List.getElem_cons_zero, List.setIfInBounds_toArray, List.set_cons_zero, List.set_cons_succ]
        refine wpAnyH_ready (rs := [4, 6]) (by kernel_rfl) (by simp) ?_
        refine AllReadyH.cons rfl (fun K' hK => ?_) ?_
        · have c2 := (HRB.out _ (Below.refl _ w4).drew).1
          go_simp
          refine hK.out _ _ hS0 (fun _ => ?_)
          clear hK K' c2
          try simp only [Act.put, List.getElem_toArray, List.getElem_cons_succ, List.getElem_cons_zero, List.setIfInBounds_toArray, List.set_cons_zero, List.set_cons_succ]
          refine wpAnyH_ready (rs := [6]) (by kernel_rfl) (by simp) ?_
          refine AllReadyH.cons rfl (fun K' hK => ?_) AllReadyH.nil
          go_simp
          refine hK.out _ _ (HCB.out _ (((Below.refl _ w4).drew).alloc (Nat.le_refl _) _)) (fun _ => ?_)
          clear hK K'
          try simp only [Act.put, List.getElem_toArray, List.getElem_cons_succ, List.getElem_cons_zero, List.setIfInBounds_toArray, List.set_cons_zero, List.set_cons_succ]
          have hbA : Below w4.heap.size w4 (w4.drew.alloc (.cells #[.int .i64 1, .int .i64 st, str name, str inp, .slice adl args.length capl] 70)) := ((Below.refl _ w4).drew).alloc (Nat.le_refl _) _
          refine wpAnyH_ready (rs := [7]) (by kernel_rfl) (by simp) ?_
          refine AllReadyH.cons rfl (fun K' hK => ?_) AllReadyH.nil
          refine step_append _ _ 52 rfl 0 70 i0 _ 5 72 Tryd.underlying52 hi0 hz0 hz1 hz2 rfl (by decide) (.slice adt X.length capt) X.length (evCs X) rfl (HRB.out _ hbA).2 ⟨w4.heap.size, 0, none⟩ 1 1 (evC ⟨1, st, name, inp, args⟩ (.slice adl args.length capl)) rfl rfl (cells_new w4.drew _ 70) (evC_one _ _ _) (by have := maxLen_big; omega) (by omega) (Nat.zero_le _) ?_
          intro v5 w5 hown5 hgrow5 _ hat5
          obtain ⟨ad5, n5, cap5, rfl⟩ := owns_form hown5
          have HNT : Hid _ := HFN.out ad5 n5 cap5 w5 hown5 hgrow5 hat5
          clear hown5 hgrow5 hat5
          have c5 := HNT.out.c5
          have f5 := HNT.out.f5
          have hS5 : ToldE w3.heap.size #[.int .i64 1, .int .i64 st, str name, str inp, .slice adl args.length capl] w5 := HNT.out.k5 HEB.out HNE.out
          refine hK.out _ _ hS5 (fun _ => ?_)
          clear hK K'
          try simp only [Act.put, List.getElem_toArray, List.getElem_cons_succ, List.getElem_cons_zero, List.setIfInBounds_toArray, List.set_cons_zero, List.set_cons_succ]
          clear hS0
          have hS0 := hS5
          refine wpAnyH_take (i := 8) (v := xP xb) rfl (by kernel_rfl) (by kernel_rfl) (by kernel_rfl) (fun _ _ _ h => h) (Yields.yieldsIf (Or.inl ⟨by rfl, by intro wz; go_simp⟩)) hS0 ?_
          try simp only [Act.put, List.getElem_toArray, List.getElem_cons_succ, List.getElem_cons_zero, List.setIfInBounds_toArray, List.set_cons_zero, List.set_cons_succ]
          refine wpAnyH_take (i := 9) (v := .pointer (some ⟨xb, 2, none⟩)) rfl (by kernel_rfl) (by kernel_rfl) (by kernel_rfl) (fun _ _ _ h => h) (Yields.yieldsIf (Or.inl ⟨by rfl, by intro wz; go_simp⟩)) hS0 ?_
          try simp only [Act.put, List.getElem_toArray, List.getElem_cons_succ, List.getElem_cons_zero, List.setIfInBounds_toArray, List.set_cons_zero, List.set_cons_succ]
          refine wpAnyH_ready (rs := [10]) (by kernel_rfl) (by simp) ?_
          refine AllReadyH.cons rfl (fun K' hK => ?_) AllReadyH.nil
          go_simp
          refine hK.out _ _ (HNT.out.k6 HEB.out HNE.out) (fun _ => ?_)
          clear hK K'
          try simp only [Act.put, List.getElem_toArray, List.getElem_cons_succ, List.getElem_cons_zero, List.setIfInBounds_toArray, List.set_cons_zero, List.set_cons_succ]
          refine wpAnyH_done (by kernel_rfl) ?_ _
          clear hS0 hS5 c5 f5
          obtain ⟨w6, hw6⟩ : ∃ w6, w6 = w5.setCell ⟨xb, 2, none⟩ (.slice ad5 n5 cap5) := ⟨_, rfl⟩
          have HE6 : Hid (∀ {b t : Nat} {cs' : Array Value}, Cel w4 b t cs' → ¬ K b → Cel w6 b t cs') := fun h1 h2 => by rw [hw6]; exact HNT.out.k6 h1 h2
          have HF6 : Hid (Fin W K xb rv F X [⟨1, st, name, inp, args⟩] w6) := by rw [hw6]; exact HNT.out.fin
          rw [← hw6]
          clear hw6 HNT HFN HRB HCB
          have HR6 := HE6.out HRB4.out HNR.out
          have p4 := HR6.cell 4
          have p5 := HR6.cell 5
          have p6 := HR6.cell 6
          clear HR6
          go_wp2_with fail
          go_quiet (fail)
          go_wp2_with fail
          go_ret3
          exact ⟨rfl, HF6.out.drewN _⟩
        refine AllReadyH.cons rfl (fun K' hK => ?_) AllReadyH.nil
        go_simp
        refine hK.out _ _ (HCB.out _ (((Below.refl _ w4).drew).alloc (Nat.le_refl _) _)) (fun _ => ?_)
        clear hK K'
        try simp only [Act.put, List.getElem_toArray, List.getElem_cons_succ, List.getElem_cons_zero, List.setIfInBounds_toArray, List.set_cons_zero, List.set_cons_succ]
        have c2 := (HRB.out (w4.alloc (.cells #[.int .i64 1, .int .i64 st, str name, str inp, .slice adl args.length capl] 70)) (below_new w4 _)).1
        refine wpAnyH_ready (rs := [4]) (by kernel_rfl) (by simp) ?_
        refine AllReadyH.cons rfl (fun K' hK => ?_) AllReadyH.nil
        go_simp
        refine hK.out _ _ (HCB.out _ (((Below.refl _ w4).drew).alloc (Nat.le_refl _) _)) (fun _ => ?_)
        clear hK K' c2
        try simp only [Act.put, List.getElem_toArray, List.getElem_cons_succ, List.getElem_cons_zero, List.setIfInBounds_toArray, List.set_cons_zero, List.set_cons_succ]
        have hbA : Below w4.heap.size w4 (w4.drew.alloc (.cells #[.int .i64 1, .int .i64 st, str name, str inp, .slice adl args.length capl] 70)) := ((Below.refl _ w4).drew).alloc (Nat.le_refl _) _
        refine wpAnyH_ready (rs := [7]) (by kernel_rfl) (by simp) ?_
        refine AllReadyH.cons rfl (fun K' hK => ?_) AllReadyH.nil
        refine step_append _ _ 52 rfl 0 70 i0 _ 5 72 Tryd.underlying52 hi0 hz0 hz1 hz2 rfl (by decide) (.slice adt X.length capt) X.length (evCs X) rfl (HRB.out _ hbA).2 ⟨w4.heap.size, 0, none⟩ 1 1 (evC ⟨1, st, name, inp, args⟩ (.slice adl args.length capl)) rfl rfl (cells_new w4.drew _ 70) (evC_one _ _ _) (by have := maxLen_big; omega) (by omega) (Nat.zero_le _) ?_
        intro v5 w5 hown5 hgrow5 _ hat5
        obtain ⟨ad5, n5, cap5, rfl⟩ := owns_form hown5
        have HNT : Hid _ := HFN.out ad5 n5 cap5 w5 hown5 hgrow5 hat5
        clear hown5 hgrow5 hat5
        have c5 := HNT.out.c5
        have f5 := HNT.out.f5
        have hS5 : ToldE w3.heap.size #[.int .i64 1, .int .i64 st, str name, str inp, .slice adl args.length capl] w5 := HNT.out.k5 HEB.out HNE.out
        refine hK.out _ _ hS5 (fun _ => ?_)
        clear hK K'
        try simp only [Act.put, List.getElem_toArray, List.getElem_cons_succ, List.getElem_cons_zero, List.setIfInBounds_toArray, List.set_cons_zero, List.set_cons_succ]
        clear hS0
        have hS0 := hS5
        refine wpAnyH_take (i := 8) (v := xP xb) rfl (by kernel_rfl) (by kernel_rfl) (by kernel_rfl) (fun _ _ _ h => h) (Yields.yieldsIf (Or.inl ⟨by rfl, by intro wz; go_simp⟩)) hS0 ?_
        try simp only [Act.put, List.getElem_toArray, List.getElem_cons_succ, List.getElem_cons_zero, List.setIfInBounds_toArray, List.set_cons_zero, List.set_cons_succ]
        refine wpAnyH_take (i := 9) (v := .pointer (some ⟨xb, 2, none⟩)) rfl (by kernel_rfl) (by kernel_rfl) (by kernel_rfl) (fun _ _ _ h => h) (Yields.yieldsIf (Or.inl ⟨by rfl, by intro wz; go_simp⟩)) hS0 ?_
        try simp only [Act.put, List.getElem_toArray, List.getElem_cons_succ, List.getElem_cons_zero, List.setIfInBounds_toArray, List.set_cons_zero, List.set_cons_succ]
        refine wpAnyH_ready (rs := [10]) (by kernel_rfl) (by simp) ?_
        refine AllReadyH.cons rfl (fun K' hK => ?_) AllReadyH.nil
        go_simp
        refine hK.out _ _ (HNT.out.k6 HEB.out HNE.out) (fun _ => ?_)
        clear hK K'
        try simp only [Act.put, List.getElem_toArray, List.getElem_cons_succ, List.getElem_cons_zero, List.setIfInBounds_toArray, List.set_cons_zero, List.set_cons_succ]
        refine wpAnyH_done (by kernel_rfl) ?_ _
        clear hS0 hS5 c5 f5
        obtain ⟨w6, hw6⟩ : ∃ w6, w6 = w5.setCell ⟨xb, 2, none⟩ (.slice ad5 n5 cap5) := ⟨_, rfl⟩
        have HE6 : Hid (∀ {b t : Nat} {cs' : Array Value}, Cel w4 b t cs' → ¬ K b → Cel w6 b t cs') := fun h1 h2 => by rw [hw6]; exact HNT.out.k6 h1 h2
        have HF6 : Hid (Fin W K xb rv F X [⟨1, st, name, inp, args⟩] w6) := by rw [hw6]; exact HNT.out.fin
        rw [← hw6]
        clear hw6 HNT HFN HRB HCB
        have HR6 := HE6.out HRB4.out HNR.out
        have p4 := HR6.cell 4
        have p5 := HR6.cell 5
        have p6 := HR6.cell 6
        clear HR6
        go_wp2_with fail
        go_quiet (fail)
        go_wp2_with fail
        go_ret3
        exact ⟨rfl, HF6.out.drewN _⟩
      · go_enter Tryd.func17, Tryd.ntmps17
        go_wp2_with fail
        refine HRW.out.mono ?_
        rintro e w2 ⟨rfl, hb2⟩
        simp only [idxV]
        have HTX : Hid (Calls Tryd.prog 39 #[.slice ada args.length capa] w2 fun e w' => ∃ v, e = .returned v ∧ w'.ownsRow w2.heap.size 9 1 v args.length (txV args) ∧ Below w2.heap.size w2 w') := texts_any _ args w2 (HA.out _ hb2) hla
        go_wp2_with fail
        refine HTX.out.mono ?_
        rintro e w3 ⟨v3, rfl, ho3, hb3'⟩
        obtain ⟨adl, capl, rfl⟩ := owns_slice ho3
        have hb3 : Below W.heap.size W w3 := hb2.trans (hb3'.mono hb2.size)
        have HO3 : Hid (w3.ownsRow W.heap.size 9 1 (.slice adl args.length capl) args.length (txV args)) := owns_lower ho3 hb2.size
        clear ho3 hb3' HTX HRW
        have hb5 : Below W.heap.size W ((w3.alloc (.cells #[.int .i64 1, .int .i64 127, str name, .string ⟨#[]⟩, .slice adl args.length capl] 70)).alloc (.cells #[str nm, .slice adr2 ars.length capr2, .bool an, .bool true, .bool true, str ou, .int .i64 st] 77)) := (hb3.alloc hb3.size _).alloc (by have := hb3.size; simp; omega) _
        have x1 := ((HH.out _ (hb3.alloc hb3.size (.cells #[.int .i64 1, .int .i64 127, str name, .string ⟨#[]⟩, .slice adl args.length capl] 70))).xc.cell 1)
        obtain ⟨g, og, capg, hvg, hg, c0, c1, c2, c3, c4, c5, c6⟩ := (HR.out _ (hb3.alloc hb3.size (.cells #[.int .i64 1, .int .i64 127, str name, .string ⟨#[]⟩, .slice adl args.length capl] 70))).at HQ.out
        rw [hvg] at x1
        have HCE : Hid (Cel ((w3.alloc (.cells #[.int .i64 1, .int .i64 127, str name, .string ⟨#[]⟩, .slice adl args.length capl] 70)).alloc (.cells #[str nm, .slice adr2 ars.length capr2, .bool an, .bool true, .bool true, str ou, .int .i64 st] 77)) w3.heap.size 70 #[.int .i64 1, .int .i64 127, str name, .string ⟨#[]⟩, .slice adl args.length capl]) := (Cel.new w3 70 #[.int .i64 1, .int .i64 127, str name, .string ⟨#[]⟩, .slice adl args.length capl]).turn (Turn.ofBelow (S := fun _ => False) (below_new _ _)) (fun h => h)
        have HCR : Hid (Cel ((w3.alloc (.cells #[.int .i64 1, .int .i64 127, str name, .string ⟨#[]⟩, .slice adl args.length capl] 70)).alloc (.cells #[str nm, .slice adr2 ars.length capr2, .bool an, .bool true, .bool true, str ou, .int .i64 st] 77)) (w3.heap.size + 1) 77 #[str nm, .slice adr2 ars.length capr2, .bool an, .bool true, .bool true, str ou, .int .i64 st]) := by have := Cel.new (w3.alloc (.cells #[.int .i64 1, .int .i64 127, str name, .string ⟨#[]⟩, .slice adl args.length capl] 70)) 77 #[str nm, .slice adr2 ars.length capr2, .bool an, .bool true, .bool true, str ou, .int .i64 st]; rw [World.size_alloc] at this; exact this
        have y1 := HCE.out.cell 1
        have g1 := HCE.out.frozen 1
        have HCE2 : Hid (Cel (((w3.alloc (.cells #[.int .i64 1, .int .i64 127, str name, .string ⟨#[]⟩, .slice adl args.length capl] 70)).alloc (.cells #[str nm, .slice adr2 ars.length capr2, .bool an, .bool true, .bool true, str ou, .int .i64 st] 77)).setCell ⟨w3.heap.size, 1, none⟩ (.int .i64 st)) w3.heap.size 70 #[.int .i64 1, .int .i64 st, str name, .string ⟨#[]⟩, .slice adl args.length capl]) := HCE.out.set _
        have HCR2 : Hid (Cel (((w3.alloc (.cells #[.int .i64 1, .int .i64 127, str name, .string ⟨#[]⟩, .slice adl args.length capl] 70)).alloc (.cells #[str nm, .slice adr2 ars.length capr2, .bool an, .bool true, .bool true, str ou, .int .i64 st] 77)).setCell ⟨w3.heap.size, 1, none⟩ (.int .i64 st)) (w3.heap.size + 1) 77 #[str nm, .slice adr2 ars.length capr2, .bool an, .bool true, .bool true, str ou, .int .i64 st]) := HCR.out.other (by omega) _
        have y3 := HCE2.out.cell 3
        have g3 := HCE2.out.frozen 3
        have r3 := HCR2.out.cell 3
        have r6 := HCR.out.cell 6
        go_upto_region 10 with fail
        clear c0 c1 c2 c3 c4 c5 c6 x1 y1 g1 y3 g3 r3 r6
        obtain ⟨w4, hw4⟩ : ∃ w4, w4 = (w3.alloc (.cells #[.int .i64 1, .int .i64 st, str name, str inp, .slice adl args.length capl] 70)).alloc (.cells #[str nm, .slice adr2 ars.length capr2, .bool an, .bool true, .bool true, str ou, .int .i64 st] 77) := ⟨_, rfl⟩
        have HT34 : Hid (Turn (fun _ => False) w3 w4) := by
          rw [hw4]
          exact ((Turn.refl _ w3).alloc _).alloc _
        have hb34 : Below w3.heap.size w3 w4 := HT34.out.below (fun _ h => h.elim) (Nat.le_refl _)
        have hb4 : Below W.heap.size W w4 := hb3.trans (hb34.mono hb3.size)
        have HR4 : Hid (Rk w4 K xb fv rv (.slice adt X.length capt) F X) := HH.out _ hb4
        have HS4 : Hid (Stp W K w4 K) := Stp.ofBelow hb4
        have HEB : Hid (Cel w4 w3.heap.size 70 #[.int .i64 1, .int .i64 st, str name, str inp, .slice adl args.length capl]) := by rw [hw4]; exact (Cel.new w3 70 _).turn (Turn.ofBelow (S := fun _ => False) (below_new _ _)) (fun h => h)
        have HRB4 : Hid (Cel w4 (w3.heap.size + 1) 77 #[str nm, .slice adr2 ars.length capr2, .bool an, .bool true, .bool true, str ou, .int .i64 st]) := by have := Cel.new (w3.alloc (.cells #[.int .i64 1, .int .i64 st, str name, str inp, .slice adl args.length capl] 70)) 77 #[str nm, .slice adr2 ars.length capr2, .bool an, .bool true, .bool true, str ou, .int .i64 st]; rw [World.size_alloc] at this; rw [hw4]; exact this
        have HNE : Hid (¬ K w3.heap.size) := fun hk => by have := HLT.out _ hk; have := hb3.size; omega
        have HNR : Hid (¬ K (w3.heap.size + 1)) := fun hk => by have := HLT.out _ hk; have := hb3.size; omega
        have HLV : Hid (Ot w4 (fun j => (Value.slice adl args.length capl).ownBlock = some j) (.slice adl args.length capl) args) := ⟨owns_lower (owns_turn HO3.out HT34.out (fun b hb hs => hs.elim)) (Nat.zero_le _), fun b hb => hb⟩
        have HLB : Hid (∀ j, (Value.slice adl args.length capl).ownBlock = some j → W.heap.size ≤ j) := fun j hj => (HO3.out.lt j hj).1
        rw [← hw4]
        clear hw4 HO3 HT34 hb2 hb3 hb34 hb5 HR HA HCE HCE2 HCR HCR2 hvg
        have HCB : Hid (∀ W', Below w4.heap.size w4 W' → Cel W' w3.heap.size 70 #[.int .i64 1, .int .i64 st, str name, str inp, .slice adl args.length capl]) := fun W' hb => HEB.out.below hb HEB.out.lt
        have HRB : Hid (∀ W', Below w4.heap.size w4 W' → W'.cell? ⟨xb, 2, none⟩ = some (.slice adt X.length capt) ∧ W'.ownsRow 0 70 5 (.slice adt X.length capt) X.length (evCs X)) := fun W' hb => ⟨(HR4.out.below hb).xc.cell 2, (HR4.out.below hb).er⟩
        have HFN : Hid (∀ (ad5 : Option Addr) (n5 cap5 : Nat) (w5 : World), w5.ownsRow 0 70 5 (.slice ad5 n5 cap5) (X.length + 1) (evCs X ++ evC ⟨1, st, name, inp, args⟩ (.slice adl args.length capl)) → (w4.drew.alloc (.cells #[.int .i64 1, .int .i64 st, str name, str inp, .slice adl args.length capl] 70)).grownBy w5 (Value.slice adt X.length capt).ownBlock → ((Value.slice ad5 n5 cap5).ownBlock = (Value.slice adt X.length capt).ownBlock ∨ (Value.slice ad5 n5 cap5).ownBlock = some (w4.drew.alloc (.cells #[.int .i64 1, .int .i64 st, str name, str inp, .slice adl args.length capl] 70)).heap.size) → After W K xb fv rv F X ⟨1, st, name, inp, args⟩ (.slice adl args.length capl) K w4 w5 (.slice ad5 n5 cap5) (.slice adt X.length capt)) := fun ad5 n5 cap5 w5 q1 q2 q3 => note_after HR4.out HS4.out ⟨1, st, name, inp, args⟩ (.slice adl args.length capl) HLV.out HLB.out rfl q1 q2 q3
        have hS0 : ToldE w3.heap.size #[.int .i64 1, .int .i64 st, str name, str inp, .slice adl args.length capl] (World.drew w4) := HCB.out _ (Below.refl _ _).drew
        refine wp_region_held (S := ToldE w3.heap.size #[.int .i64 1, .int .i64 st, str name, str inp, .slice adl args.length capl]) (by kernel_rfl) ?_
        change wpAnyH _ _ _ _ _ _ _ _ (World.drew _)
        refine wpAnyH_take (i := 0) (v := xP xb) rfl (by kernel_rfl) (by kernel_rfl) (by kernel_rfl) (fun _ _ _ h => h) (Yields.yieldsIf (Or.inl ⟨by rfl, by intro wz; go_simp⟩)) hS0 ?_
        try simp only [Act.put, List.getElem_toArray, List.getElem_cons_zero, List.setIfInBounds_toArray, List.set_cons_zero, List.set_cons_succ]
        refine wpAnyH_take (i := 1) (v := xP xb) rfl (by kernel_rfl) (by kernel_rfl) (by kernel_rfl) (fun _ _ _ h => h) (Yields.yieldsIf (Or.inl ⟨by rfl, by intro wz; go_simp⟩)) hS0 ?_
        try simp only [Act.put, List.getElem_toArray, List.getElem_cons_succ, List.getElem_cons_zero, List.setIfInBounds_toArray, List.set_cons_zero, List.set_cons_succ]
        refine wpAnyH_take (i := 2) (v := xP xb) rfl (by kernel_rfl) (by kernel_rfl) (by kernel_rfl) (fun _ _ _ h => h) (Yields.yieldsIf (Or.inl ⟨by rfl, by intro wz; go_simp⟩)) hS0 ?_
        try simp only [Act.put, List.getElem_toArray, List.getElem_cons_succ, List.getElem_cons_zero, List.setIfInBounds_toArray, List.set_cons_zero, List.set_cons_succ]
        refine wpAnyH_take (i := 3) (v := .pointer (some ⟨xb, 2, none⟩)) rfl (by kernel_rfl) (by kernel_rfl) (by kernel_rfl) (fun _ _ _ h => h) (Yields.yieldsIf (Or.inl ⟨by rfl, by intro wz; go_simp⟩)) hS0 ?_
        try simp only [Act.put, List.getElem_toArray, List.getElem_cons_succ, List.getElem_cons_zero, List.setIfInBounds_toArray, List.set_cons_zero, List.set_cons_succ]
        refine wpAnyH_take (i := 5) (v := .agg #[.int .i64 1, .int .i64 st, str name, str inp, .slice adl args.length capl]) rfl (by kernel_rfl) (by kernel_rfl) (by kernel_rfl) (fun _ _ _ h => h) (Or.inl ⟨by rfl, fun wz hS => by have s0 := hS.out.cell 0; have s1 := hS.out.cell 1; have s2 := hS.out.cell 2; have s3 := hS.out.cell 3; have s4 := hS.out.cell 4; go_simp⟩) hS0 ?_
        try simp only [Act.put, List.getElem_toArray, List.getElem_cons_succ, List.getElem_cons_zero, List.setIfInBounds_toArray, List.set_cons_zero, List.set_cons_succ]
        refine wpAnyH_ready (rs := [4, 6]) (by kernel_rfl) (by simp) ?_
        refine AllReadyH.cons rfl (fun K' hK => ?_) ?_
        · have c2 := (HRB.out _ (Below.refl _ w4).drew).1
          go_simp
          refine hK.out _ _ hS0 (fun _ => ?_)
          clear hK K' c2
          try simp only [Act.put, List.getElem_toArray, List.getElem_cons_succ, List.getElem_cons_zero, List.setIfInBounds_toArray, List.set_cons_zero, List.set_cons_succ]
          refine wpAnyH_ready (rs := [6]) (by kernel_rfl) (by simp) ?_
          refine AllReadyH.cons rfl (fun K' hK => ?_) AllReadyH.nil
          go_simp
          refine hK.out _ _ (HCB.out _ (((Below.refl _ w4).drew).alloc (Nat.le_refl _) _)) (fun _ => ?_)
          clear hK K'
          try simp only [Act.put, List.getElem_toArray, List.getElem_cons_succ, List.getElem_cons_zero, List.setIfInBounds_toArray, List.set_cons_zero, List.set_cons_succ]
          have hbA : Below w4.heap.size w4 (w4.drew.alloc (.cells #[.int .i64 1, .int .i64 st, str name, str inp, .slice adl args.length capl] 70)) := ((Below.refl _ w4).drew).alloc (Nat.le_refl _) _
          refine wpAnyH_ready (rs := [7]) (by kernel_rfl) (by simp) ?_
          refine AllReadyH.cons rfl (fun K' hK => ?_) AllReadyH.nil
          refine step_append _ _ 52 rfl 0 70 i0 _ 5 72 Tryd.underlying52 hi0 hz0 hz1 hz2 rfl (by decide) (.slice adt X.length capt) X.length (evCs X) rfl (HRB.out _ hbA).2 ⟨w4.heap.size, 0, none⟩ 1 1 (evC ⟨1, st, name, inp, args⟩ (.slice adl args.length capl)) rfl rfl (cells_new w4.drew _ 70) (evC_one _ _ _) (by have := maxLen_big; omega) (by omega) (Nat.zero_le _) ?_
          intro v5 w5 hown5 hgrow5 _ hat5
          obtain ⟨ad5, n5, cap5, rfl⟩ := owns_form hown5
          have HNT : Hid _ := HFN.out ad5 n5 cap5 w5 hown5 hgrow5 hat5
          clear hown5 hgrow5 hat5
          have c5 := HNT.out.c5
          have f5 := HNT.out.f5
          have hS5 : ToldE w3.heap.size #[.int .i64 1, .int .i64 st, str name, str inp, .slice adl args.length capl] w5 := HNT.out.k5 HEB.out HNE.out
          refine hK.out _ _ hS5 (fun _ => ?_)
          clear hK K'
          try simp only [Act.put, List.getElem_toArray, List.getElem_cons_succ, List.getElem_cons_zero, List.setIfInBounds_toArray, List.set_cons_zero, List.set_cons_succ]
          clear hS0
          have hS0 := hS5
          refine wpAnyH_take (i := 8) (v := xP xb) rfl (by kernel_rfl) (by kernel_rfl) (by kernel_rfl) (fun _ _ _ h => h) (Yields.yieldsIf (Or.inl ⟨by rfl, by intro wz; go_simp⟩)) hS0 ?_
          try simp only [Act.put, List.getElem_toArray, List.getElem_cons_succ, List.getElem_cons_zero, List.setIfInBounds_toArray, List.set_cons_zero, List.set_cons_succ]
          refine wpAnyH_take (i := 9) (v := .pointer (some ⟨xb, 2, none⟩)) rfl (by kernel_rfl) (by kernel_rfl) (by kernel_rfl) (fun _ _ _ h => h) (Yields.yieldsIf (Or.inl ⟨by rfl, by intro wz; go_simp⟩)) hS0 ?_
          try simp only [Act.put, List.getElem_toArray, List.getElem_cons_succ, List.getElem_cons_zero, List.setIfInBounds_toArray, List.set_cons_zero, List.set_cons_succ]
          refine wpAnyH_ready (rs := [10]) (by kernel_rfl) (by simp) ?_
          refine AllReadyH.cons rfl (fun K' hK => ?_) AllReadyH.nil
          go_simp
          refine hK.out _ _ (HNT.out.k6 HEB.out HNE.out) (fun _ => ?_)
          clear hK K'
          try simp only [Act.put, List.getElem_toArray, List.getElem_cons_succ, List.getElem_cons_zero, List.setIfInBounds_toArray, List.set_cons_zero, List.set_cons_succ]
          refine wpAnyH_done (by kernel_rfl) ?_ _
          clear hS0 hS5 c5 f5
          obtain ⟨w6, hw6⟩ : ∃ w6, w6 = w5.setCell ⟨xb, 2, none⟩ (.slice ad5 n5 cap5) := ⟨_, rfl⟩
          have HE6 : Hid (∀ {b t : Nat} {cs' : Array Value}, Cel w4 b t cs' → ¬ K b → Cel w6 b t cs') := fun h1 h2 => by rw [hw6]; exact HNT.out.k6 h1 h2
          have HF6 : Hid (Fin W K xb rv F X [⟨1, st, name, inp, args⟩] w6) := by rw [hw6]; exact HNT.out.fin
          rw [← hw6]
          clear hw6 HNT HFN HRB HCB
          have HR6 := HE6.out HRB4.out HNR.out
          have p4 := HR6.cell 4
          have p5 := HR6.cell 5
          have p6 := HR6.cell 6
          have hap := str_app ou inp
          clear HR6
          go_wp2_with fail
          go_quiet (fail)
          go_wp2_with fail
          go_ret3
          exact ⟨rfl, HF6.out.drewN _⟩
        refine AllReadyH.cons rfl (fun K' hK => ?_) AllReadyH.nil
        go_simp
        refine hK.out _ _ (HCB.out _ (((Below.refl _ w4).drew).alloc (Nat.le_refl _) _)) (fun _ => ?_)
        clear hK K'
        try simp only [Act.put, List.getElem_toArray, List.getElem_cons_succ, List.getElem_cons_zero, List.setIfInBounds_toArray, List.set_cons_zero, List.set_cons_succ]
        have c2 := (HRB.out (w4.alloc (.cells #[.int .i64 1, .int .i64 st, str name, str inp, .slice adl args.length capl] 70)) (below_new w4 _)).1
        refine wpAnyH_ready (rs := [4]) (by kernel_rfl) (by simp) ?_
        refine AllReadyH.cons rfl (fun K' hK => ?_) AllReadyH.nil
        go_simp
        refine hK.out _ _ (HCB.out _ (((Below.refl _ w4).drew).alloc (Nat.le_refl _) _)) (fun _ => ?_)
        clear hK K' c2
        try simp only [Act.put, List.getElem_toArray, List.getElem_cons_succ, List.getElem_cons_zero, List.setIfInBounds_toArray, List.set_cons_zero, List.set_cons_succ]
        have hbA : Below w4.heap.size w4 (w4.drew.alloc (.cells #[.int .i64 1, .int .i64 st, str name, str inp, .slice adl args.length capl] 70)) := ((Below.refl _ w4).drew).alloc (Nat.le_refl _) _
        refine wpAnyH_ready (rs := [7]) (by kernel_rfl) (by simp) ?_
        refine AllReadyH.cons rfl (fun K' hK => ?_) AllReadyH.nil
        refine step_append _ _ 52 rfl 0 70 i0 _ 5 72 Tryd.underlying52 hi0 hz0 hz1 hz2 rfl (by decide) (.slice adt X.length capt) X.length (evCs X) rfl (HRB.out _ hbA).2 ⟨w4.heap.size, 0, none⟩ 1 1 (evC ⟨1, st, name, inp, args⟩ (.slice adl args.length capl)) rfl rfl (cells_new w4.drew _ 70) (evC_one _ _ _) (by have := maxLen_big; omega) (by omega) (Nat.zero_le _) ?_
        intro v5 w5 hown5 hgrow5 _ hat5
        obtain ⟨ad5, n5, cap5, rfl⟩ := owns_form hown5
        have HNT : Hid _ := HFN.out ad5 n5 cap5 w5 hown5 hgrow5 hat5
        clear hown5 hgrow5 hat5
        have c5 := HNT.out.c5
        have f5 := HNT.out.f5
        have hS5 : ToldE w3.heap.size #[.int .i64 1, .int .i64 st, str name, str inp, .slice adl args.length capl] w5 := HNT.out.k5 HEB.out HNE.out
        refine hK.out _ _ hS5 (fun _ => ?_)
        clear hK K'
        try simp only [Act.put, List.getElem_toArray, List.getElem_cons_succ, List.getElem_cons_zero, List.setIfInBounds_toArray, List.set_cons_zero, List.set_cons_succ]
        clear hS0
        have hS0 := hS5
        refine wpAnyH_take (i := 8) (v := xP xb) rfl (by kernel_rfl) (by kernel_rfl) (by kernel_rfl) (fun _ _ _ h => h) (Yields.yieldsIf (Or.inl ⟨by rfl, by intro wz; go_simp⟩)) hS0 ?_
        try simp only [Act.put, List.getElem_toArray, List.getElem_cons_succ, List.getElem_cons_zero, List.setIfInBounds_toArray, List.set_cons_zero, List.set_cons_succ]
        refine wpAnyH_take (i := 9) (v := .pointer (some ⟨xb, 2, none⟩)) rfl (by kernel_rfl) (by kernel_rfl) (by kernel_rfl) (fun _ _ _ h => h) (Yields.yieldsIf (Or.inl ⟨by rfl, by intro wz; go_simp⟩)) hS0 ?_
        try simp only [Act.put, List.getElem_toArray, List.getElem_cons_succ, List.getElem_cons_zero, List.setIfInBounds_toArray, List.set_cons_zero, List.set_cons_succ]
        refine wpAnyH_ready (rs := [10]) (by kernel_rfl) (by simp) ?_
        refine AllReadyH.cons rfl (fun K' hK => ?_) AllReadyH.nil
        go_simp
        refine hK.out _ _ (HNT.out.k6 HEB.out HNE.out) (fun _ => ?_)
        clear hK K'
        try simp only [Act.put, List.getElem_toArray, List.getElem_cons_succ, List.getElem_cons_zero, List.setIfInBounds_toArray, List.set_cons_zero, List.set_cons_succ]
        refine wpAnyH_done (by kernel_rfl) ?_ _
        clear hS0 hS5 c5 f5
        obtain ⟨w6, hw6⟩ : ∃ w6, w6 = w5.setCell ⟨xb, 2, none⟩ (.slice ad5 n5 cap5) := ⟨_, rfl⟩
        have HE6 : Hid (∀ {b t : Nat} {cs' : Array Value}, Cel w4 b t cs' → ¬ K b → Cel w6 b t cs') := fun h1 h2 => by rw [hw6]; exact HNT.out.k6 h1 h2
        have HF6 : Hid (Fin W K xb rv F X [⟨1, st, name, inp, args⟩] w6) := by rw [hw6]; exact HNT.out.fin
        rw [← hw6]
        clear hw6 HNT HFN HRB HCB
        have HR6 := HE6.out HRB4.out HNR.out
        have p4 := HR6.cell 4
        have p5 := HR6.cell 5
        have p6 := HR6.cell 6
        have hap := str_app ou inp
        clear HR6
        go_wp2_with fail
        go_quiet (fail)
        go_wp2_with fail
        go_ret3
        exact ⟨rfl, HF6.out.drewN _⟩
end Go.Proofs.YthhghkjgffcpeaaDoor
