/- The files' names, sorted. -/
import Derived.Test.YtfafhjglcaikoaaGreatDoorH3
import Derived.Deep.QuietTactic
import Derived.BigQuiet
import Derived.Shelf.Sort.Plain
import Derived.Shelf.SlIter.Nil
import Derived.Shelf.SlGeneric
import Derived.Ground.GgzProg
import Derived.Test.YtfafhjglcaikoaaGreatDoorProg
import Derived.Shelf.Slices.In.SortNone
/-! Files are written. -/
namespace Go.Proofs.YtfafhjglcaikoaaGreatDoor
open Go.RowKit

variable {W : World} {K : Nat → Prop} {kb mb : Nat} {ev rv : Value} {F : Fls} {Y : List (Rw × Value)} {X : List (Ev × Value)}

/-- The error, and that it lies where it should. -/
abbrev errV (a : Addr) : Value := .iface 368 (.pointer (some a))
def Er (w : World) (i : Nat) (a : Addr) : Prop := w.cell? ⟨i, 0, none⟩ = some (errV a) ∧ i < w.heap.size
theorem Er.below {w w' : World} {i : Nat} {a : Addr} {B : Nat} (h : Er w i a) (hb : Below B w w') (hB : i < B) : Er w' i a :=
  ⟨(hb.cell (p := ⟨i, 0, none⟩) hB).trans h.1, Nat.lt_of_lt_of_le h.2 hb.size⟩
theorem bytes_app (a b : Txt) : ((⟨a.toArray⟩ : ByteArray) ++ (⟨b.toArray⟩ : ByteArray)) = ⟨(a ++ b).toArray⟩ := by
  apply ByteArray.ext
  rw [ByteArray.data_append]
  simp

theorem fld73 (a b : Txt) (w : World) : (Instr.field 68 (.agg #[str a, str b]) 1).run Tryz.prog w = .ok (str b) w := by kernel_rfl
def writeB (F : Fls) (f d : Txt) : Bool := d.isEmpty || f.isEmpty || decide (d.length + (datF F f).length ≤ 16384)
def writeF (F : Fls) (f d : Txt) : Fls := if d.isEmpty || f.isEmpty || !writeB F f d then F else putF F f (datF F f ++ d)
def writeE (F : Fls) (f d : Txt) : List Ev := if d.isEmpty || !writeB F f d then [] else [⟨3, 0, f, d, []⟩]
def errR (b : Bool) (a : Addr) : Value := if b then .nilIface else errV a

set_option maxRecDepth 100000 in
set_option maxHeartbeats 2000000 in
theorem write_any (f d : Txt) (ea : Addr) (h : Kern W K kb mb ev rv F Y X) (hX : X.length < 4294967296) (hF : F.length < 4294967296) (hf : f.length < 4294967296) (hd : d.length < 4294967296) (hdat : (datF F f).length < 4294967296) (hE : Er W 1 ea) :
    Calls Tryz.prog 207 #[kP kb, str f, str d] W fun r w' => r = .returned (errR (writeB F f d) ea) ∧ ∃ ev' X' K', Kern w' K' kb mb ev' rv (writeF F f d) Y (X ++ X') ∧ X'.map Prod.fst = writeE F f d ∧ Stp W K w' K' := by
  have HH : Hid (Kern W K kb mb ev rv F Y X) := h
  have hlk := look_no h.fm f hf
  have c1 := h.kc.cell 1
  have ce := hE.1
  have hfd := fld73
  have HF : Hid (F.length < 4294967296) := hF
  clear h hF hE
  cases d with
  | nil =>
    go_enter Tryz.func207, Tryz.ntmps207
    go_wp2_with fail
    go_ret
    exact ⟨rfl, ev, [], K, by rw [List.append_nil]; exact HH.out, rfl, Stp.refl _ _⟩
  | cons x d =>
    obtain ⟨D, hD⟩ : ∃ D, D = x :: d := ⟨_, rfl⟩
    have hDe : D.isEmpty = false := by rw [hD]; rfl
    have hDn : (D == []) = false := by rw [hD]; rfl
    have hDD : D ≠ [] := by rw [hD]; simp
    rw [← hD] at hd ⊢
    clear hD
    cases f with
    | nil =>
      have e1 : writeB F [] D = true := by simp [writeB]
      have e2 : writeF F [] D = F := by simp [writeF]
      have e3 : writeE F [] D = [⟨3, 0, [], D, []⟩] := by simp [writeE, hDe, e1]
      rw [e1, e2, e3]
      clear e1 e2 e3
      go_enter Tryz.func207, Tryz.ntmps207
      go_wp2_with fail
      refine (note_any ⟨3, 0, [], D, []⟩ (.slice none 0 0) HH.out hX (Tx.nil _) (Nat.zero_lt_succ _)).mono ?_
      rintro e w2 ⟨rfl, ev', lv', K', k1, k2⟩
      go_wp2_with fail
      go_ret
      exact ⟨rfl, ev', [(_, lv')], K', k1, rfl, k2⟩
    | cons y f =>
      obtain ⟨G, hG⟩ : ∃ G, G = y :: f := ⟨_, rfl⟩
      have hGe : G.isEmpty = false := by rw [hG]; rfl
      have hGn : (G == []) = false := by rw [hG]; rfl
      have hGG : G ≠ [] := by rw [hG]; simp
      rw [← hG] at hf hdat hlk ⊢
      clear hG
      by_cases hbig : D.length + (datF F G).length ≤ 16384
      · have e1 : writeB F G D = true := by simp [writeB, hDe, hGe, hbig]
        have e2 : writeF F G D = putF F G (datF F G ++ D) := by simp [writeF, hDe, hGe, e1]
        have e3 : writeE F G D = [⟨3, 0, G, D, []⟩] := by simp [writeE, hDe, e1]
        rw [e1, e2, e3]
        clear e1 e2 e3
        have hle : ¬ (D.length : Int) > 16384 - ((datF F G).length : Int) := by omega
        go_enter Tryz.func207, Tryz.ntmps207
        go_wp2_with fail
        rw [bytes_app]
        refine (keep_any G (datF F G ++ D) hf HH.out HF.out).mono ?_
        rintro e w2 ⟨rfl, k1, k2⟩
        go_wp2_with fail
        refine (note_any ⟨3, 0, G, D, []⟩ (.slice none 0 0) k1 hX (Tx.nil _) (Nat.zero_lt_succ _)).mono ?_
        rintro e w3 ⟨rfl, ev', lv', K', k3, k4⟩
        go_wp2_with fail
        go_ret
        exact ⟨rfl, ev', [(_, lv')], K', k3, rfl, k2.trans k4⟩
      · have e1 : writeB F G D = false := by simp [writeB, hDe, hGe, hbig]
        have e2 : writeF F G D = F := by simp [writeF, e1]
        have e3 : writeE F G D = [] := by simp [writeE, e1]
        rw [e1, e2, e3]
        clear e1 e2 e3
        have hle : (D.length : Int) > 16384 - ((datF F G).length : Int) := by omega
        go_enter Tryz.func207, Tryz.ntmps207
        go_wp2_with fail
        go_ret
        exact ⟨rfl, ev, [], K, by rw [List.append_nil]; exact HH.out, rfl, Stp.refl _ _⟩
end Go.Proofs.YtfafhjglcaikoaaGreatDoor
/-! Commands are run. -/
namespace Go.Proofs.YtfafhjglcaikoaaGreatDoor
open Go.RowKit

variable {W : World} {K : Nat → Prop} {kb mb : Nat} {ev rv : Value} {F : Fls} {Y : List (Rw × Value)} {X : List (Ev × Value)}

def readsB (o : Option Rw) : Bool := match o with | some r => r.reads | none => false
def outOf (o : Option Rw) (inp : Txt) : Txt := match o with | some r => if r.copy then r.out ++ inp else r.out | none => []
def statOf (o : Option Rw) : Int := match o with | some r => r.status | none => 127
def heardOf (o : Option Rw) (inp : Txt) : Txt := if readsB o then inp else []

set_option maxHeartbeats 1000000 in
theorem reads_any (name : Txt) (args : List Txt) (va : Value) (h : Kern W K kb mb ev rv F Y X) (hY : Y.length < 4294967296) (ha : Tx W va args) (hla : args.length < 4294967296) (hl : ∀ p ∈ Y, p.1.args.length < 4294967296) (o : Option Rw) (ho : rowOf (Y.map Prod.fst) name args = o) :
    Calls Tryz.prog 161 #[kP kb, str name, va] W fun e w' => e = .returned (.bool (readsB o)) ∧ Below W.heap.size W w' := by
  have HR : Hid _ := row_any name args va h hY ha hla hl
  rw [ho] at HR
  obtain ⟨ada, capa, rfl⟩ := ha.form
  clear h ha hl ho
  go_enter Tryz.func161, Tryz.ntmps161
  go_wp2_with fail
  refine Calls.mono HR.out ?_
  rintro e w1 ⟨⟨r, v, rfl, hr, ht⟩, hb1⟩
  obtain ⟨adv, capv, rfl⟩ := ht.form
  clear ht HR
  cases o with
  | none =>
    simp only [Option.getD_none] at hr
    subst hr
    have hb2 := hb1.alloc hb1.size (.cells #[str noRow.name, .slice adv noRow.args.length capv, .bool noRow.any, .bool noRow.reads, .bool noRow.copy, str noRow.out, .int .i64 noRow.status] 80)
    simp only [Option.isSome_none]
    go_wp2_with fail
    go_ret
    exact ⟨rfl, hb2⟩
  | some r' =>
    simp only [Option.getD_some] at hr
    subst hr
    have hb2 := hb1.alloc hb1.size (.cells #[str r'.name, .slice adv r'.args.length capv, .bool r'.any, .bool r'.reads, .bool r'.copy, str r'.out, .int .i64 r'.status] 80)
    simp only [Option.isSome_some]
    go_wp2_with fail
    go_ret
    exact ⟨rfl, hb2⟩

set_option maxRecDepth 100000 in
set_option maxHeartbeats 4000000 in
theorem exec_any (name inp : Txt) (args : List Txt) (va : Value) (h : Kern W K kb mb ev rv F Y X) (hX : X.length < 4294967296) (hY : Y.length < 4294967296) (ha : Tx W va args) (hla : args.length < 4294967296) (hl : ∀ p ∈ Y, p.1.args.length < 4294967296) (hinp : inp.length < 4294967296) (hout : ∀ p ∈ Y, p.1.out.length < 4294967296) (o : Option Rw) (ho : rowOf (Y.map Prod.fst) name args = o) :
    Calls Tryz.prog 160 #[kP kb, str name, str inp, va] W fun r w' => r = .returned (.tuple #[str (outOf o inp), .int .i64 (statOf o), .bool o.isSome]) ∧ ∃ ev' lv' K', Kern w' K' kb mb ev' rv F Y (X ++ [(⟨1, statOf o, name, heardOf o inp, args⟩, lv')]) ∧ Stp W K w' K' := by
  have HR : Hid _ := row_any name args va h hY ha hla hl
  rw [ho] at HR
  have HT : Hid (∀ W', Below W.heap.size W W' → Tx W' va args) := fun W' hb => ha.below hb (Nat.le_refl _)
  have HH : Hid (∀ W', Below W.heap.size W W' → Kern W' K kb mb ev rv F Y X) := fun W' hb => h.below hb
  have HLT : Hid (∀ i, K i → i < W.heap.size) := h.lt
  have HOUT : Hid (∀ r, o = some r → r.out.length < 4294967296) := fun r e => by
    rw [e] at ho
    obtain ⟨p, hp, rfl⟩ := List.mem_map.1 (List.mem_of_find?_eq_some ho)
    exact hout p hp
  obtain ⟨ada, capa, rfl⟩ := ha.form
  clear h ha hl ho hout
  go_enter Tryz.func160, Tryz.ntmps160
  go_wp2_with fail
  refine Calls.mono HR.out ?_
  rintro e w1 ⟨⟨r, v, rfl, hr, ht⟩, hb1⟩
  obtain ⟨adv, capv, rfl⟩ := ht.form
  clear ht HR
  cases o with
  | none =>
    simp only [Option.getD_none] at hr
    subst hr
    have hb2 := hb1.alloc hb1.size (.cells #[str noRow.name, .slice adv noRow.args.length capv, .bool noRow.any, .bool noRow.reads, .bool noRow.copy, str noRow.out, .int .i64 noRow.status] 80)
    simp only [Option.isSome_none]
    go_wp2_with fail
    refine (note_any ⟨1, 127, name, [], args⟩ _ (HH.out _ hb2) hX (HT.out _ hb2) hla).mono ?_
    rintro e w3 ⟨rfl, ev', lv', K', k1, k2⟩
    go_wp2_with fail
    refine bodyPost_ret (results_tmp3 rfl _ _ _) rfl ?_
    exact ⟨rfl, ev', lv', K', k1, (Stp.ofBelow hb2).trans k2⟩
  | some r' =>
    simp only [Option.getD_some] at hr
    subst hr
    obtain ⟨nm, ars, an, re, co, ou, st⟩ := r'
    have hou : ou.length < 4294967296 := HOUT.out _ rfl
    have hb2 : Below W.heap.size W (w1.alloc (.cells #[str nm, .slice adv ars.length capv, .bool an, .bool re, .bool co, str ou, .int .i64 st] 80)) := hb1.alloc hb1.size _
    simp only [Option.isSome_some]
    have HS1 : Hid (W.heap.size ≤ w1.heap.size) := hb1.size
    cases re with
    | true =>
      go_wp2_with fail
      have hb3 : Below W.heap.size W (World.drew ((w1.alloc (.cells #[str nm, .slice adv ars.length capv, .bool an, .bool true, .bool co, str ou, .int .i64 st] 80)).alloc (.cells #[.int .i64 1, .int .i64 st, str name, str inp, .slice ada args.length capa] 65))) := ((hb1.alloc hb1.size _).alloc (Nat.le_trans hb1.size (below_new w1 _).size) _).drew
      have HC1 : Hid (Cel (World.drew ((w1.alloc (.cells #[str nm, .slice adv ars.length capv, .bool an, .bool true, .bool co, str ou, .int .i64 st] 80)).alloc (.cells #[.int .i64 1, .int .i64 st, str name, str inp, .slice ada args.length capa] 65))) w1.heap.size 80 #[str nm, .slice adv ars.length capv, .bool an, .bool true, .bool co, str ou, .int .i64 st]) := (Cel.new w1 80 _).turn (Turn.ofBelow (S := fun _ => False) (below_new _ _).drew) (fun h => h)
      have hnk : Hid (¬ K w1.heap.size) := fun hk => by have := HLT.out _ hk; have := HS1.out; omega
      refine wp_region_any (by kernel_rfl) ?_
      try (change wpAny _ _ _ _ _ _ _ (World.drew _))
      refine wpAny_take (i := 0) (v := kP kb) rfl (by kernel_rfl) (by kernel_rfl) (by kernel_rfl) (fun _ _ _ h => h) (Or.inl ⟨by rfl, by intro wz; go_simp⟩) ?_
      try simp only [Act.put, List.getElem_toArray, List.getElem_cons_zero, List.setIfInBounds_toArray, List.set_cons_zero, List.set_cons_succ]
      refine wpAny_take (i := 1) (v := kP kb) rfl (by kernel_rfl) (by kernel_rfl) (by kernel_rfl) (fun _ _ _ h => h) (Or.inl ⟨by rfl, by intro wz; go_simp⟩) ?_
      try simp only [Act.put, List.getElem_toArray, List.getElem_cons_succ, List.getElem_cons_zero, List.setIfInBounds_toArray, List.set_cons_zero, List.set_cons_succ]
      refine wpAny_take (i := 2) (v := kP kb) rfl (by kernel_rfl) (by kernel_rfl) (by kernel_rfl) (fun _ _ _ h => h) (Or.inl ⟨by rfl, by intro wz; go_simp⟩) ?_
      try simp only [Act.put, List.getElem_toArray, List.getElem_cons_succ, List.getElem_cons_zero, List.setIfInBounds_toArray, List.set_cons_zero, List.set_cons_succ]
      refine wpAny_ready (rs := [3]) (by kernel_rfl) (by simp) ?_
      refine AllReady.cons rfl (fun K hK => ?_) ?_
      · go_simp
        refine hK _ _ ?_
        clear hK K
        try simp only [Act.put, List.getElem_toArray, List.getElem_cons_succ, List.getElem_cons_zero, List.setIfInBounds_toArray, List.set_cons_zero, List.set_cons_succ]
        refine wpAny_ready (rs := [4]) (by kernel_rfl) (by simp) ?_
        refine AllReady.cons rfl (fun K hK => ?_) ?_
        · go_simp
          refine (note_any ⟨1, st, name, inp, args⟩ _ (HH.out _ hb3) hX (HT.out _ hb3) hla).mono ?_
          rintro e w3 ⟨rfl, ev', lv', K', k1, k2⟩
          refine hK _ _ ?_
          clear hK K
          try simp only [Act.put, List.getElem_toArray, List.getElem_cons_succ, List.getElem_cons_zero, List.setIfInBounds_toArray, List.set_cons_zero, List.set_cons_succ]
          refine wpAny_done (by kernel_rfl) ?_ _
          have HC3 := k2.cel HC1.out hnk.out
          have d4 := HC3.cell 4
          have d5 := HC3.cell 5
          have d6 := HC3.cell 6
          cases co
          · go_wp2_with fail
            go_quiet (fail)
            go_wp2_with fail
            refine bodyPost_ret (results_tmp3 rfl _ _ _) rfl ?_
            exact ⟨rfl, ev', lv', K', k1.below (below_drewN _ _), ((Stp.ofBelow hb3).trans k2).trans (Stp.ofBelow (below_drewN _ _))⟩
          · go_wp2_with fail
            go_quiet (fail)
            go_wp2_with fail
            refine bodyPost_ret (results_tmp3 rfl _ _ _) rfl ?_
            refine ⟨?_, ev', lv', K', k1.below (below_drewN _ _), ((Stp.ofBelow hb3).trans k2).trans (Stp.ofBelow (below_drewN _ _))⟩
            show Ending.returned (.tuple #[.string _, _, _]) = _
            rw [bytes_app]
            rfl
        exact AllReady.nil
      exact AllReady.nil
    | false =>
      go_wp2_with fail
      have hb3 : Below W.heap.size W (World.drew ((w1.alloc (.cells #[str nm, .slice adv ars.length capv, .bool an, .bool false, .bool co, str ou, .int .i64 st] 80)).alloc (.cells #[.int .i64 1, .int .i64 st, str name, .string ⟨#[]⟩, .slice ada args.length capa] 65))) := ((hb1.alloc hb1.size _).alloc (Nat.le_trans hb1.size (below_new w1 _).size) _).drew
      have HC1 : Hid (Cel (World.drew ((w1.alloc (.cells #[str nm, .slice adv ars.length capv, .bool an, .bool false, .bool co, str ou, .int .i64 st] 80)).alloc (.cells #[.int .i64 1, .int .i64 st, str name, .string ⟨#[]⟩, .slice ada args.length capa] 65))) w1.heap.size 80 #[str nm, .slice adv ars.length capv, .bool an, .bool false, .bool co, str ou, .int .i64 st]) := (Cel.new w1 80 _).turn (Turn.ofBelow (S := fun _ => False) (below_new _ _).drew) (fun h => h)
      have hnk : Hid (¬ K w1.heap.size) := fun hk => by have := HLT.out _ hk; have := HS1.out; omega
      refine wp_region_any (by kernel_rfl) ?_
      try (change wpAny _ _ _ _ _ _ _ (World.drew _))
      refine wpAny_take (i := 0) (v := kP kb) rfl (by kernel_rfl) (by kernel_rfl) (by kernel_rfl) (fun _ _ _ h => h) (Or.inl ⟨by rfl, by intro wz; go_simp⟩) ?_
      try simp only [Act.put, List.getElem_toArray, List.getElem_cons_zero, List.setIfInBounds_toArray, List.set_cons_zero, List.set_cons_succ]
      refine wpAny_take (i := 1) (v := kP kb) rfl (by kernel_rfl) (by kernel_rfl) (by kernel_rfl) (fun _ _ _ h => h) (Or.inl ⟨by rfl, by intro wz; go_simp⟩) ?_
      try simp only [Act.put, List.getElem_toArray, List.getElem_cons_succ, List.getElem_cons_zero, List.setIfInBounds_toArray, List.set_cons_zero, List.set_cons_succ]
      refine wpAny_take (i := 2) (v := kP kb) rfl (by kernel_rfl) (by kernel_rfl) (by kernel_rfl) (fun _ _ _ h => h) (Or.inl ⟨by rfl, by intro wz; go_simp⟩) ?_
      try simp only [Act.put, List.getElem_toArray, List.getElem_cons_succ, List.getElem_cons_zero, List.setIfInBounds_toArray, List.set_cons_zero, List.set_cons_succ]
      refine wpAny_ready (rs := [3]) (by kernel_rfl) (by simp) ?_
      refine AllReady.cons rfl (fun K hK => ?_) ?_
      · go_simp
        refine hK _ _ ?_
        clear hK K
        try simp only [Act.put, List.getElem_toArray, List.getElem_cons_succ, List.getElem_cons_zero, List.setIfInBounds_toArray, List.set_cons_zero, List.set_cons_succ]
        refine wpAny_ready (rs := [4]) (by kernel_rfl) (by simp) ?_
        refine AllReady.cons rfl (fun K hK => ?_) ?_
        · go_simp
          refine (note_any ⟨1, st, name, [], args⟩ _ (HH.out _ hb3) hX (HT.out _ hb3) hla).mono ?_
          rintro e w3 ⟨rfl, ev', lv', K', k1, k2⟩
          refine hK _ _ ?_
          clear hK K
          try simp only [Act.put, List.getElem_toArray, List.getElem_cons_succ, List.getElem_cons_zero, List.setIfInBounds_toArray, List.set_cons_zero, List.set_cons_succ]
          refine wpAny_done (by kernel_rfl) ?_ _
          have HC3 := k2.cel HC1.out hnk.out
          have d4 := HC3.cell 4
          have d5 := HC3.cell 5
          have d6 := HC3.cell 6
          cases co
          · go_wp2_with fail
            go_quiet (fail)
            go_wp2_with fail
            refine bodyPost_ret (results_tmp3 rfl _ _ _) rfl ?_
            exact ⟨rfl, ev', lv', K', k1.below (below_drewN _ _), ((Stp.ofBelow hb3).trans k2).trans (Stp.ofBelow (below_drewN _ _))⟩
          · go_wp2_with fail
            go_quiet (fail)
            go_wp2_with fail
            refine bodyPost_ret (results_tmp3 rfl _ _ _) rfl ?_
            refine ⟨?_, ev', lv', K', k1.below (below_drewN _ _), ((Stp.ofBelow hb3).trans k2).trans (Stp.ofBelow (below_drewN _ _))⟩
            show Ending.returned (.tuple #[.string _, _, _]) = _
            rw [bytes_app]
            rfl
        exact AllReady.nil
      exact AllReady.nil
end Go.Proofs.YtfafhjglcaikoaaGreatDoor
/-! DERIVED: THE SHELF's CONTRACTS AT THIS DUMP, IN PLAIN WORDS (tools/lay-plain.mjs out of 'YtfafhjglcaikoaaGreatDoorKShelf3.lean', which tools/lay-shelf.mjs wrote): THE SAME DECLARATIONS UNDER THE SAME NAMES: 'import', 'namespace', 'open', 'def', 'theorem' AND NOTHING ELSE: no command of the shelf's: FOR A HAND-IN. Each laying: the table of numbers ('.._ren') and one theorem, a field a fact of the dump's own or the kernel's comparison; each contract: ONE APPLICATION. -/
namespace Go.Proofs
open Go.Shelf
def Tryz.keys178_ren : Go.Shelf.Ren := ⟨fun | 7 => 178 | 10 => 222 | n => n, fun | 23 => 157 | 26 => 9 | 3 => 68 | 28 => 206 | 0 => 0 | 27 => 205 | 33 => 71 | 4 => 4 | n => n, fun | n => n⟩
theorem Tryz.keys178 : Go.Proofs.SlLaysZ.n7 Tryz.prog Tryz.keys178_ren := {
  mixed := by kernel_rfl
  f7 := ⟨Tryz.f178.name, by decide, Tryz.func178.trans (congrArg some (by kernel_rfl))⟩
  f10 := ⟨Tryz.f222.name, by decide, Tryz.func222.trans (congrArg some (by kernel_rfl))⟩
  t0 := Tryz.underlying0
  a0 := Tryz.isAgg0
  z0 := Tryz.sizeOf0
  v0 := Tryz.zeroValue0
  t4 := Tryz.underlying4
  a4 := Tryz.isAgg4
  z4 := Tryz.sizeOf4
  v4 := Tryz.zeroValue4
  t23 := Tryz.underlying157
  a23 := Tryz.isAgg157
  z23 := Tryz.sizeOf157
  v23 := Tryz.zeroValue157
  t26 := Tryz.underlying9
  a26 := Tryz.isAgg9
  z26 := Tryz.sizeOf9
  v26 := Tryz.zeroValue9
  t27 := Tryz.underlying205
  a27 := Tryz.isAgg205
  z27 := Tryz.sizeOf205
  v27 := Tryz.zeroValue205
  t28 := Tryz.underlying206
  a28 := Tryz.isAgg206
  z28 := Tryz.sizeOf206
  v28 := Tryz.zeroValue206
  t33 := Tryz.underlying71
  a33 := Tryz.isAgg71
  z33 := Tryz.sizeOf71
  v33 := Tryz.zeroValue71 }
def Tryz.keys127_ren : Go.Shelf.Ren := ⟨fun | 7 => 127 | 10 => 177 | n => n, fun | 23 => 137 | 26 => 9 | 3 => 23 | 28 => 206 | 0 => 0 | 27 => 205 | 33 => 71 | 4 => 4 | n => n, fun | n => n⟩
theorem Tryz.keys127 : Go.Proofs.SlLaysZ.n7 Tryz.prog Tryz.keys127_ren := {
  mixed := by kernel_rfl
  f7 := ⟨Tryz.f127.name, by decide, Tryz.func127.trans (congrArg some (by kernel_rfl))⟩
  f10 := ⟨Tryz.f177.name, by decide, Tryz.func177.trans (congrArg some (by kernel_rfl))⟩
  t0 := Tryz.underlying0
  a0 := Tryz.isAgg0
  z0 := Tryz.sizeOf0
  v0 := Tryz.zeroValue0
  t4 := Tryz.underlying4
  a4 := Tryz.isAgg4
  z4 := Tryz.sizeOf4
  v4 := Tryz.zeroValue4
  t23 := Tryz.underlying137
  a23 := Tryz.isAgg137
  z23 := Tryz.sizeOf137
  v23 := Tryz.zeroValue137
  t26 := Tryz.underlying9
  a26 := Tryz.isAgg9
  z26 := Tryz.sizeOf9
  v26 := Tryz.zeroValue9
  t27 := Tryz.underlying205
  a27 := Tryz.isAgg205
  z27 := Tryz.sizeOf205
  v27 := Tryz.zeroValue205
  t28 := Tryz.underlying206
  a28 := Tryz.isAgg206
  z28 := Tryz.sizeOf206
  v28 := Tryz.zeroValue206
  t33 := Tryz.underlying71
  a33 := Tryz.isAgg71
  z33 := Tryz.sizeOf71
  v33 := Tryz.zeroValue71 }
def Tryz.sorted126_ren : Go.Shelf.Ren := ⟨fun | 6 => 126 | 8 => 175 | 9 => 176 | 11 => 219 | 13 => 221 | 12 => 220 | 23 => 267 | 24 => 268 | 14 => 258 | 15 => 259 | 16 => 260 | 17 => 261 | 18 => 262 | 19 => 263 | 20 => 264 | 21 => 265 | 22 => 266 | 25 => 287 | 26 => 288 | 27 => 289 | 28 => 290 | 29 => 291 | 30 => 292 | 31 => 301 | n => n, fun | 26 => 9 | 28 => 206 | 24 => 23 | 0 => 0 | 3 => 3 | 37 => 77 | 48 => 330 | 50 => 309 | 4 => 4 | 40 => 324 | 39 => 323 | 45 => 272 | 5 => 5 | 9 => 9 | 51 => 342 | 55 => 346 | 57 => 355 | 58 => 356 | 33 => 71 | n => n, fun | n => n⟩
theorem Tryz.sorted126 : Go.Proofs.SlLaysZ.n6 Tryz.prog Tryz.sorted126_ren := {
  mixed := by kernel_rfl
  f6 := ⟨Tryz.f126.name, by decide, Tryz.func126.trans (congrArg some (by kernel_rfl))⟩
  f8 := ⟨Tryz.f175.name, by decide, Tryz.func175.trans (congrArg some (by kernel_rfl))⟩
  f11 := ⟨Tryz.f219.name, by decide, Tryz.func219.trans (congrArg some (by kernel_rfl))⟩
  t0 := Tryz.underlying0
  a0 := Tryz.isAgg0
  z0 := Tryz.sizeOf0
  v0 := Tryz.zeroValue0
  t24 := Tryz.underlying23
  a24 := Tryz.isAgg23
  z24 := Tryz.sizeOf23
  v24 := Tryz.zeroValue23
  t26 := Tryz.underlying9
  a26 := Tryz.isAgg9
  z26 := Tryz.sizeOf9
  v26 := Tryz.zeroValue9
  t28 := Tryz.underlying206
  a28 := Tryz.isAgg206
  z28 := Tryz.sizeOf206
  v28 := Tryz.zeroValue206
  i26 := by kernel_rfl }
def Tryz.lays190_ren : Go.Shelf.Ren := ⟨fun | 190 => 176 | 125 => 221 | 258 => 220 | 128 => 267 | 129 => 268 | 302 => 258 | 303 => 259 | 304 => 260 | 305 => 261 | 306 => 262 | 307 => 263 | 308 => 264 | 309 => 265 | 310 => 266 | 333 => 287 | 329 => 288 | 330 => 289 | 334 => 290 | 335 => 291 | 336 => 292 | 344 => 301 | n => n, fun | 31 => 23 | 9 => 9 | 3 => 3 | 46 => 77 | 0 => 0 | 51 => 330 | 53 => 309 | 4 => 4 | 183 => 324 | 182 => 323 | 131 => 272 | 5 => 5 | 218 => 342 | 222 => 346 | 228 => 355 | 229 => 356 | n => n, fun | n => n⟩
theorem Tryz.lays190 : Go.Proofs.Lays.n190 Tryz.prog Tryz.lays190_ren := {
  mixed := by kernel_rfl
  f125 := Tryz.func221.trans (congrArg some (by kernel_rfl))
  f128 := Tryz.func267.trans (congrArg some (by kernel_rfl))
  f129 := Tryz.func268.trans (congrArg some (by kernel_rfl))
  f190 := Tryz.func176.trans (congrArg some (by kernel_rfl))
  f258 := Tryz.func220.trans (congrArg some (by kernel_rfl))
  f302 := Tryz.func258.trans (congrArg some (by kernel_rfl))
  f303 := Tryz.func259.trans (congrArg some (by kernel_rfl))
  f304 := Tryz.func260.trans (congrArg some (by kernel_rfl))
  f305 := Tryz.func261.trans (congrArg some (by kernel_rfl))
  f306 := Tryz.func262.trans (congrArg some (by kernel_rfl))
  f307 := Tryz.func263.trans (congrArg some (by kernel_rfl))
  f308 := Tryz.func264.trans (congrArg some (by kernel_rfl))
  f309 := Tryz.func265.trans (congrArg some (by kernel_rfl))
  f310 := Tryz.func266.trans (congrArg some (by kernel_rfl))
  f329 := Tryz.func288.trans (congrArg some (by kernel_rfl))
  f330 := Tryz.func289.trans (congrArg some (by kernel_rfl))
  f333 := Tryz.func287.trans (congrArg some (by kernel_rfl))
  f334 := Tryz.func290.trans (congrArg some (by kernel_rfl))
  f335 := Tryz.func291.trans (congrArg some (by kernel_rfl))
  f336 := Tryz.func292.trans (congrArg some (by kernel_rfl))
  f344 := Tryz.func301.trans (congrArg some (by kernel_rfl))
  t0 := Tryz.underlying0
  a0 := Tryz.isAgg0
  z0 := Tryz.sizeOf0
  v0 := Tryz.zeroValue0
  t3 := Tryz.underlying3
  a3 := Tryz.isAgg3
  z3 := Tryz.sizeOf3
  v3 := Tryz.zeroValue3
  t4 := Tryz.underlying4
  a4 := Tryz.isAgg4
  z4 := Tryz.sizeOf4
  v4 := Tryz.zeroValue4
  t5 := Tryz.underlying5
  a5 := Tryz.isAgg5
  z5 := Tryz.sizeOf5
  v5 := Tryz.zeroValue5
  t9 := Tryz.underlying9
  a9 := Tryz.isAgg9
  z9 := Tryz.sizeOf9
  v9 := Tryz.zeroValue9
  t31 := Tryz.underlying23
  a31 := Tryz.isAgg23
  z31 := Tryz.sizeOf23
  v31 := Tryz.zeroValue23
  t46 := Tryz.underlying77
  a46 := Tryz.isAgg77
  z46 := Tryz.sizeOf77
  v46 := Tryz.zeroValue77
  t51 := Tryz.underlying330
  a51 := Tryz.isAgg330
  z51 := Tryz.sizeOf330
  v51 := Tryz.zeroValue330
  t53 := Tryz.underlying309
  a53 := Tryz.isAgg309
  z53 := Tryz.sizeOf309
  v53 := Tryz.zeroValue309
  t131 := Tryz.underlying272
  a131 := Tryz.isAgg272
  z131 := Tryz.sizeOf272
  v131 := Tryz.zeroValue272
  t182 := Tryz.underlying323
  a182 := Tryz.isAgg323
  z182 := Tryz.sizeOf323
  v182 := Tryz.zeroValue323
  t183 := Tryz.underlying324
  a183 := Tryz.isAgg324
  z183 := Tryz.sizeOf324
  v183 := Tryz.zeroValue324
  t218 := Tryz.underlying342
  a218 := Tryz.isAgg342
  z218 := Tryz.sizeOf342
  v218 := Tryz.zeroValue342
  t222 := Tryz.underlying346
  a222 := Tryz.isAgg346
  z222 := Tryz.sizeOf346
  v222 := Tryz.zeroValue346
  t228 := Tryz.underlying355
  a228 := Tryz.isAgg355
  z228 := Tryz.sizeOf355
  v228 := Tryz.zeroValue355
  t229 := Tryz.underlying356
  a229 := Tryz.isAgg356
  z229 := Tryz.sizeOf356
  v229 := Tryz.zeroValue356 }
open Go.Sort Go.RowKit in
theorem Tryz.slices_Sort_string (blk off cap : Nat) (ss : List (List UInt8)) (w : World) (hH : Holds encStr w blk off ss.toArray) (hblk : blk < w.heap.size) (hsz : ss.length < 4611686018427387904) :
    Calls Tryz.prog 176 #[.slice (some ⟨blk, off, none⟩) ss.length cap] w fun e w' =>
      e = .returned (.tuple #[]) ∧ ∃ n os, w' = grow (putRow encStr (Sort.ahead w n) blk off (ss.mergeSort fun x y => decide (x ≤ y)).toArray) os := Any.slices_Sort_string Tryz.lays190 blk off cap ss w hH hblk hsz
end Go.Proofs
namespace Go.Proofs.YtfafhjglcaikoaaGreatDoor
open Go.RowKit Go.Maps Go.Sort Go.Shelf

theorem sort_none (a : Option Addr) (cap : Nat) (w : World) : Calls Tryz.prog 176 #[.slice a 0 cap] w fun e w' => e = .returned (.tuple #[]) ∧ w' = w :=
  fun cs =>
    let ⟨e, w', fr, r, st, x⟩ := (AnyS.slices_Sort_string_none_alone Tryz.lays190 (cs.length + 3) a cap w).2 cs (fun d hd => by cases hd; omega)
    ⟨e, w', fr, r, st.comes, x⟩
theorem sorts126 (m : Nat) : AnyZ.SortsIn Tryz.prog Tryz.sorted126_ren Fence.wide m :=
  ⟨fun blk off cap ss W hH hblk hsz => callsIn_wide.2 (Tryz.slices_Sort_string blk off cap ss W hH hblk hsz),
   fun p cap W => callsIn_wide.2 (sort_none p cap W)⟩
theorem maps_keys (mb : Option Nat) (W : World) : CallsIn Fence.wide 5 Tryz.prog 178 #[.map mb] W fun e w' => e = .returned (.func (.func 222) #[] #[.pointer (some ⟨W.heap.size, 0, none⟩)]) ∧ w' = W.alloc (.cells #[.map mb] 157) :=
  AnyZ.keys_in Tryz.keys178 Fence.wide 5 trivial rfl mb W
set_option maxHeartbeats 1000000 in
theorem sorted_keys {H : Type} (b nn : Nat) (D0 : DataW H) (R : Value → Option (DataW H × List MemPlace)) (w : World) (hown : w.ownsMap Tryz.prog 9 R b nn D0) (hmax : Maps.size D0 ≤ maxLen) (hbytes : Maps.size D0 * 16 ≤ 140737488355328) :
    CallsIn Fence.wide 5 Tryz.prog 126 #[.func (.func 222) #[] #[.pointer (some ⟨w.heap.size, 0, none⟩)]] (w.alloc (.cells #[.map (some b)] 157)) fun e w' => ∃ (v : Value) (ss : List (List UInt8)), e = .returned v ∧ ss.Perm (strKeys D0) ∧
      w'.ownsRow (w.alloc (.cells #[.map (some b)] 157)).heap.size 9 1 v ss.length ((ss.mergeSort (fun x y => decide (x ≤ y))).map encStr) ∧ (v = .slice none 0 0 ↔ ss = []) ∧ Below (w.alloc (.cells #[.map (some b)] 157)).heap.size (w.alloc (.cells #[.map (some b)] 157)) w' := by
  have hbl := hown.lt
  have hseq : SeqGives Fence.wide 2 Tryz.prog 222 #[.pointer (some ⟨w.heap.size, 0, none⟩)] encStr (fun ss => ss.Perm (strKeys D0)) (Maps.size D0) (w.alloc (.cells #[.map (some b)] 157)) :=
    AnyZ.keys_gives (ρ := Tryz.keys178_ren) { Tryz.keys178 with } Fence.wide _ trivial rfl (by omega) w.heap.size b nn D0 _ (by simp) (by simp) (by
      obtain ⟨es, clock, hb, Ft, hs, hD⟩ := hown
      exact ⟨es, clock, (Below.heap_alloc _ _ b hbl).trans hb, Ft, hs, hD⟩)
  exact AnyZ.sorted_in Tryz.sorted126 Fence.wide 5 trivial trivial trivial trivial rfl (by omega) (sorts126 _) (enters_of Tryz.func176 (by kernel_rfl) rfl) 222 #[.pointer (some ⟨w.heap.size, 0, none⟩)] trivial (enters_of Tryz.func222 (by kernel_rfl) rfl) _ _ hmax hbytes _ hseq

theorem bytes_le : ∀ a b : List UInt8, bytesBefore a b = true → a ≤ b
  | [], _, _ => List.nil_le _
  | _ :: _, [], h => by simp [bytesBefore] at h
  | a :: r, b :: s, h => by
    simp only [bytesBefore, Bool.or_eq_true, Bool.and_eq_true, decide_eq_true_eq, beq_iff_eq] at h
    rcases h with h | ⟨rfl, h⟩
    · exact List.le_of_lt (List.cons_lt_cons_iff.2 (.inl h))
    · exact List.cons_le_cons_iff.2 (.inr ⟨rfl, bytes_le r s h⟩)
variable {W : World} {K : Nat → Prop} {kb mb : Nat} {ev rv : Value} {F : Fls} {Y : List (Rw × Value)} {X : List (Ev × Value)}
theorem sorted_names (h : W.ownsMap Tryz.prog 9 flE mb F.length (dF F)) (ss : List (List UInt8)) (hs : ss.Perm (strKeys (dF F))) : ss.mergeSort (fun x y => decide (x ≤ y)) = F.map Prod.fst := by
  rw [dF_keys] at hs
  obtain ⟨es, he, hp, _⟩ := h.canon key9
  have hF : F.Pairwise fun p q => bytesBefore p.1 q.1 = true := by
    unfold dF at he
    cases he
    rw [List.pairwise_map] at hp
    exact hp
  have e1 := mergeSort_of_perm hs
  refine e1.trans (List.mergeSort_of_pairwise ?_)
  rw [List.pairwise_map]
  exact hF.imp fun {a b} hab => decide_eq_true (bytes_le _ _ hab)
theorem enc_tx (l : List Txt) : l.map encStr = txV l := rfl

set_option maxHeartbeats 1000000 in
theorem names_any (h : Kern W K kb mb ev rv F Y X) (hF : F.length < 4294967296) :
    Calls Tryz.prog 128 #[kP kb] W fun e w' => ∃ v', e = .returned v' ∧ w'.ownsRow W.heap.size 9 1 v' (F.map Prod.fst).length (txV (F.map Prod.fst)) ∧ Below W.heap.size W w' := by
  have c1 := h.kc.cell 1
  have HM : Hid (W.ownsMap Tryz.prog 9 flE mb F.length (dF F)) := h.fm
  have e1 : Maps.size (dF F) = F.length := by simp [dF, Maps.size]
  have HZ : Hid (Maps.size (dF F) ≤ maxLen ∧ Maps.size (dF F) * 16 ≤ 140737488355328) := by
    unfold Hid
    rw [e1]
    have := maxLen_big
    omega
  clear h e1
  refine (callsIn_wide (n := 6)).1 ?_
  have hfK : Fence.wide.fn 178 := trivial
  have hfS : Fence.wide.fn 126 := trivial
  refine callsIn_of_wp Tryz.func128 rfl trivial ?_ rfl
  simp only [Tryz.ntmps128, List.size_toArray, List.length_cons, List.length_nil, Nat.reduceAdd, Nat.reduceSub, Array.replicate_succ, Array.replicate_zero, List.push_toArray, List.append_toArray, List.nil_append, List.cons_append]
  gi_wp2_with (first
    | (gi_at_call 178; refine (maps_keys _ _).mono ?_; rintro e w1 ⟨rfl, rfl⟩)
    | (gi_at_call 126; refine (sorted_keys mb F.length (dF F) flE W HM.out HZ.out.1 HZ.out.2).mono ?_; rintro e w2 ⟨v, ss, rfl, hS, hrow, hnil, hb⟩))
  go_ret
  have hn := sorted_names HM.out ss hS
  have hl : ss.length = (F.map Prod.fst).length := by rw [← hn, List.length_mergeSort]
  rw [hn, enc_tx, hl] at hrow
  exact ⟨v, rfl, owns_lower hrow (by simp), (below_new _ _).trans (hb.mono (by simp))⟩
end Go.Proofs.YtfafhjglcaikoaaGreatDoor
