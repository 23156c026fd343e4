/- Commands are run. -/
import Derived.Test.YthhghkjgffcpeaaDoorRow
import Derived.Test.YthhghkjgffcpeaaDoorWrite
import Derived.Deep.QuietTactic
import Derived.BigQuiet
namespace Go.Proofs.YthhghkjgffcpeaaDoor
open Go.RowKit

variable {W : World} {K : Nat → Prop} {kb mb : Nat} {ev rv : Value} {F : Fls} {Y : List (Rw × Value)} {X : List (Ev × Value)}

def readsB (o : Option Rw) : Bool := match o with | some r => r.reads | none => false
def outOf (o : Option Rw) (inp : Txt) : Txt := match o with | some r => if r.copy then r.out ++ inp else r.out | none => []
def statOf (o : Option Rw) : Int := match o with | some r => r.status | none => 127
def heardOf (o : Option Rw) (inp : Txt) : Txt := if readsB o then inp else []

set_option maxHeartbeats 1000000 in
theorem reads_any (name : Txt) (args : List Txt) (va : Value) (h : Kern W K kb mb ev rv F Y X) (hY : Y.length < 4294967296) (ha : Tx W va args) (hla : args.length < 4294967296) (hl : ∀ p ∈ Y, p.1.args.length < 4294967296) (o : Option Rw) (ho : rowOf (Y.map Prod.fst) name args = o) :
    Calls Tryd.prog 18 #[kP kb, str name, va] W fun e w' => e = .returned (.bool (readsB o)) ∧ Below W.heap.size W w' := by
  have HR : Hid _ := row_any name args va h hY ha hla hl
  rw [ho] at HR
  obtain ⟨ada, capa, rfl⟩ := ha.form
  clear h ha hl ho
  go_enter Tryd.func18, Tryd.ntmps18
  go_wp2_with fail
  refine Calls.mono HR.out ?_
  rintro e w1 ⟨⟨r, v, rfl, hr, ht⟩, hb1⟩
  obtain ⟨adv, capv, rfl⟩ := ht.form
  clear ht HR
  cases o with
  | none =>
    simp only [Option.getD_none] at hr
    subst hr
    have hb2 := hb1.alloc hb1.size (.cells #[str noRow.name, .slice adv noRow.args.length capv, .bool noRow.any, .bool noRow.reads, .bool noRow.copy, str noRow.out, .int .i64 noRow.status] 77)
    simp only [Option.isSome_none]
    go_wp2_with fail
    go_ret
    exact ⟨rfl, hb2⟩
  | some r' =>
    simp only [Option.getD_some] at hr
    subst hr
    have hb2 := hb1.alloc hb1.size (.cells #[str r'.name, .slice adv r'.args.length capv, .bool r'.any, .bool r'.reads, .bool r'.copy, str r'.out, .int .i64 r'.status] 77)
    simp only [Option.isSome_some]
    go_wp2_with fail
    go_ret
    exact ⟨rfl, hb2⟩

set_option maxRecDepth 100000 in
set_option maxHeartbeats 4000000 in
theorem exec_any (name inp : Txt) (args : List Txt) (va : Value) (h : Kern W K kb mb ev rv F Y X) (hX : X.length < 4294967296) (hY : Y.length < 4294967296) (ha : Tx W va args) (hla : args.length < 4294967296) (hl : ∀ p ∈ Y, p.1.args.length < 4294967296) (hinp : inp.length < 4294967296) (hout : ∀ p ∈ Y, p.1.out.length < 4294967296) (o : Option Rw) (ho : rowOf (Y.map Prod.fst) name args = o) :
    Calls Tryd.prog 16 #[kP kb, str name, str inp, va] W fun r w' => r = .returned (.tuple #[str (outOf o inp), .int .i64 (statOf o), .bool o.isSome]) ∧ ∃ ev' lv' K', Kern w' K' kb mb ev' rv F Y (X ++ [(⟨1, statOf o, name, heardOf o inp, args⟩, lv')]) ∧ Stp W K w' K' := by
  have HR : Hid _ := row_any name args va h hY ha hla hl
  rw [ho] at HR
  have HT : Hid (∀ W', Below W.heap.size W W' → Tx W' va args) := fun W' hb => ha.below hb (Nat.le_refl _)
  have HH : Hid (∀ W', Below W.heap.size W W' → Kern W' K kb mb ev rv F Y X) := fun W' hb => h.below hb
  have HLT : Hid (∀ i, K i → i < W.heap.size) := h.lt
  have HOUT : Hid (∀ r, o = some r → r.out.length < 4294967296) := fun r e => by
    rw [e] at ho
    obtain ⟨p, hp, rfl⟩ := List.mem_map.1 (List.mem_of_find?_eq_some ho)
    exact hout p hp
  obtain ⟨ada, capa, rfl⟩ := ha.form
  clear h ha hl ho hout
  go_enter Tryd.func16, Tryd.ntmps16
  go_wp2_with fail
  refine Calls.mono HR.out ?_
  rintro e w1 ⟨⟨r, v, rfl, hr, ht⟩, hb1⟩
  obtain ⟨adv, capv, rfl⟩ := ht.form
  clear ht HR
  cases o with
  | none =>
    simp only [Option.getD_none] at hr
    subst hr
    have hb2 := hb1.alloc hb1.size (.cells #[str noRow.name, .slice adv noRow.args.length capv, .bool noRow.any, .bool noRow.reads, .bool noRow.copy, str noRow.out, .int .i64 noRow.status] 77)
    simp only [Option.isSome_none]
    go_wp2_with fail
    refine (note_any ⟨1, 127, name, [], args⟩ _ (HH.out _ hb2) hX (HT.out _ hb2) hla).mono ?_
    rintro e w3 ⟨rfl, ev', lv', K', k1, k2⟩
    go_wp2_with fail
    refine bodyPost_ret (results_tmp3 rfl _ _ _) rfl ?_
    exact ⟨rfl, ev', lv', K', k1, (Stp.ofBelow hb2).trans k2⟩
  | some r' =>
    simp only [Option.getD_some] at hr
    subst hr
    obtain ⟨nm, ars, an, re, co, ou, st⟩ := r'
    have hou : ou.length < 4294967296 := HOUT.out _ rfl
    have hb2 : Below W.heap.size W (w1.alloc (.cells #[str nm, .slice adv ars.length capv, .bool an, .bool re, .bool co, str ou, .int .i64 st] 77)) := hb1.alloc hb1.size _
    simp only [Option.isSome_some]
    have HS1 : Hid (W.heap.size ≤ w1.heap.size) := hb1.size
    cases re with
    | true =>
      go_wp2_with fail
      have hb3 : Below W.heap.size W (World.drew ((w1.alloc (.cells #[str nm, .slice adv ars.length capv, .bool an, .bool true, .bool co, str ou, .int .i64 st] 77)).alloc (.cells #[.int .i64 1, .int .i64 st, str name, str inp, .slice ada args.length capa] 70))) := ((hb1.alloc hb1.size _).alloc (Nat.le_trans hb1.size (below_new w1 _).size) _).drew
      have HC1 : Hid (Cel (World.drew ((w1.alloc (.cells #[str nm, .slice adv ars.length capv, .bool an, .bool true, .bool co, str ou, .int .i64 st] 77)).alloc (.cells #[.int .i64 1, .int .i64 st, str name, str inp, .slice ada args.length capa] 70))) w1.heap.size 77 #[str nm, .slice adv ars.length capv, .bool an, .bool true, .bool co, str ou, .int .i64 st]) := (Cel.new w1 77 _).turn (Turn.ofBelow (S := fun _ => False) (below_new _ _).drew) (fun h => h)
      have hnk : Hid (¬ K w1.heap.size) := fun hk => by have := HLT.out _ hk; have := HS1.out; omega
      refine wp_region_any (by kernel_rfl) ?_
      try (change wpAny _ _ _ _ _ _ _ (World.drew _))
      refine wpAny_take (i := 0) (v := kP kb) rfl (by kernel_rfl) (by kernel_rfl) (by kernel_rfl) (fun _ _ _ h => h) (Or.inl ⟨by rfl, by intro wz; go_simp⟩) ?_
      try simp only [Act.put, List.getElem_toArray, List.getElem_cons_zero, List.setIfInBounds_toArray, List.set_cons_zero, List.set_cons_succ]
      refine wpAny_take (i := 1) (v := kP kb) rfl (by kernel_rfl) (by kernel_rfl) (by kernel_rfl) (fun _ _ _ h => h) (Or.inl ⟨by rfl, by intro wz; go_simp⟩) ?_
      try simp only [Act.put, List.getElem_toArray, List.getElem_cons_succ, List.getElem_cons_zero, List.setIfInBounds_toArray, List.set_cons_zero, List.set_cons_succ]
      refine wpAny_take (i := 2) (v := kP kb) rfl (by kernel_rfl) (by kernel_rfl) (by kernel_rfl) (fun _ _ _ h => h) (Or.inl ⟨by rfl, by intro wz; go_simp⟩) ?_
      try simp only [Act.put, List.getElem_toArray, List.getElem_cons_succ, List.getElem_cons_zero, List.setIfInBounds_toArray, List.set_cons_zero, List.set_cons_succ]
      refine wpAny_ready (rs := [3]) (by kernel_rfl) (by simp) ?_
      refine AllReady.cons rfl (fun K hK => ?_) ?_
      · go_simp
        refine hK _ _ ?_
        clear hK K
        try simp only [Act.put, List.getElem_toArray, List.getElem_cons_succ, List.getElem_cons_zero, List.setIfInBounds_toArray, List.set_cons_zero, List.set_cons_succ]
        refine wpAny_ready (rs := [4]) (by kernel_rfl) (by simp) ?_
        refine AllReady.cons rfl (fun K hK => ?_) ?_
        · go_simp
          refine (note_any ⟨1, st, name, inp, args⟩ _ (HH.out _ hb3) hX (HT.out _ hb3) hla).mono ?_
          rintro e w3 ⟨rfl, ev', lv', K', k1, k2⟩
          refine hK _ _ ?_
          clear hK K
          try simp only [Act.put, List.getElem_toArray, List.getElem_cons_succ, List.getElem_cons_zero, List.setIfInBounds_toArray, List.set_cons_zero, List.set_cons_succ]
          refine wpAny_done (by kernel_rfl) ?_ _
          have HC3 := k2.cel HC1.out hnk.out
          have d4 := HC3.cell 4
          have d5 := HC3.cell 5
          have d6 := HC3.cell 6
          cases co
          · go_wp2_with fail
            go_quiet (fail)
            go_wp2_with fail
            refine bodyPost_ret (results_tmp3 rfl _ _ _) rfl ?_
            exact ⟨rfl, ev', lv', K', k1.below (below_drewN _ _), ((Stp.ofBelow hb3).trans k2).trans (Stp.ofBelow (below_drewN _ _))⟩
          · go_wp2_with fail
            go_quiet (fail)
            go_wp2_with fail
            refine bodyPost_ret (results_tmp3 rfl _ _ _) rfl ?_
            refine ⟨?_, ev', lv', K', k1.below (below_drewN _ _), ((Stp.ofBelow hb3).trans k2).trans (Stp.ofBelow (below_drewN _ _))⟩
            show Ending.returned (.tuple #[.string _, _, _]) = _
            rw [bytes_app]
            rfl
        exact AllReady.nil
      exact AllReady.nil
    | false =>
      go_wp2_with fail
      have hb3 : Below W.heap.size W (World.drew ((w1.alloc (.cells #[str nm, .slice adv ars.length capv, .bool an, .bool false, .bool co, str ou, .int .i64 st] 77)).alloc (.cells #[.int .i64 1, .int .i64 st, str name, .string ⟨#[]⟩, .slice ada args.length capa] 70))) := ((hb1.alloc hb1.size _).alloc (Nat.le_trans hb1.size (below_new w1 _).size) _).drew
      have HC1 : Hid (Cel (World.drew ((w1.alloc (.cells #[str nm, .slice adv ars.length capv, .bool an, .bool false, .bool co, str ou, .int .i64 st] 77)).alloc (.cells #[.int .i64 1, .int .i64 st, str name, .string ⟨#[]⟩, .slice ada args.length capa] 70))) w1.heap.size 77 #[str nm, .slice adv ars.length capv, .bool an, .bool false, .bool co, str ou, .int .i64 st]) := (Cel.new w1 77 _).turn (Turn.ofBelow (S := fun _ => False) (below_new _ _).drew) (fun h => h)
      have hnk : Hid (¬ K w1.heap.size) := fun hk => by have := HLT.out _ hk; have := HS1.out; omega
      refine wp_region_any (by kernel_rfl) ?_
      try (change wpAny _ _ _ _ _ _ _ (World.drew _))
      refine wpAny_take (i := 0) (v := kP kb) rfl (by kernel_rfl) (by kernel_rfl) (by kernel_rfl) (fun _ _ _ h => h) (Or.inl ⟨by rfl, by intro wz; go_simp⟩) ?_
      try simp only [Act.put, List.getElem_toArray, List.getElem_cons_zero, List.setIfInBounds_toArray, List.set_cons_zero, List.set_cons_succ]
      refine wpAny_take (i := 1) (v := kP kb) rfl (by kernel_rfl) (by kernel_rfl) (by kernel_rfl) (fun _ _ _ h => h) (Or.inl ⟨by rfl, by intro wz; go_simp⟩) ?_
      try simp only [Act.put, List.getElem_toArray, List.getElem_cons_succ, List.getElem_cons_zero, List.setIfInBounds_toArray, List.set_cons_zero, List.set_cons_succ]
      refine wpAny_take (i := 2) (v := kP kb) rfl (by kernel_rfl) (by kernel_rfl) (by kernel_rfl) (fun _ _ _ h => h) (Or.inl ⟨by rfl, by intro wz; go_simp⟩) ?_
      try simp only [Act.put, List.getElem_toArray, List.getElem_cons_succ, List.getElem_cons_zero, List.setIfInBounds_toArray, List.set_cons_zero, List.set_cons_succ]
      refine wpAny_ready (rs := [3]) (by kernel_rfl) (by simp) ?_
      refine AllReady.cons rfl (fun K hK => ?_) ?_
      · go_simp
        refine hK _ _ ?_
        clear hK K
        try simp only [Act.put, List.getElem_toArray, List.getElem_cons_succ, List.getElem_cons_zero, List.setIfInBounds_toArray, List.set_cons_zero, List.set_cons_succ]
        refine wpAny_ready (rs := [4]) (by kernel_rfl) (by simp) ?_
        refine AllReady.cons rfl (fun K hK => ?_) ?_
        · go_simp
          refine (note_any ⟨1, st, name, [], args⟩ _ (HH.out _ hb3) hX (HT.out _ hb3) hla).mono ?_
          rintro e w3 ⟨rfl, ev', lv', K', k1, k2⟩
          refine hK _ _ ?_
          clear hK K
          try simp only [Act.put, List.getElem_toArray, List.getElem_cons_succ, List.getElem_cons_zero, List.setIfInBounds_toArray, List.set_cons_zero, List.set_cons_succ]
          refine wpAny_done (by kernel_rfl) ?_ _
          have HC3 := k2.cel HC1.out hnk.out
          have d4 := HC3.cell 4
          have d5 := HC3.cell 5
          have d6 := HC3.cell 6
          cases co
          · go_wp2_with fail
            go_quiet (fail)
            go_wp2_with fail
            refine bodyPost_ret (results_tmp3 rfl _ _ _) rfl ?_
            exact ⟨rfl, ev', lv', K', k1.below (below_drewN _ _), ((Stp.ofBelow hb3).trans k2).trans (Stp.ofBelow (below_drewN _ _))⟩
          · go_wp2_with fail
            go_quiet (fail)
            go_wp2_with fail
            refine bodyPost_ret (results_tmp3 rfl _ _ _) rfl ?_
            refine ⟨?_, ev', lv', K', k1.below (below_drewN _ _), ((Stp.ofBelow hb3).trans k2).trans (Stp.ofBelow (below_drewN _ _))⟩
            show Ending.returned (.tuple #[.string _, _, _]) = _
            rw [bytes_app]
            rfl
        exact AllReady.nil
      exact AllReady.nil
end Go.Proofs.YthhghkjgffcpeaaDoor
