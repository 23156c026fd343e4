/- Which worlds may be: files and rows, one by one. -/
import Derived.Test.YtfafhjglcaikoaaGreatDoorG2
import Derived.Deep.QuietTactic
import Derived.BigQuiet
import Derived.Shelf.Sort.Plain
import Derived.Shelf.SlIter.Nil
import Derived.Shelf.SlGeneric
import Derived.Ground.GgzProg
import Derived.Test.YtfafhjglcaikoaaGreatDoorProg
import Derived.Shelf.Slices.In.SortNone
import Derived.Shelf.SlicesE.IndexFunc
import Derived.Ground.SlgfProg
import Derived.Shelf.SlicesQ.IndexFunc
/-! Commands are run. -/
namespace Go.Proofs.YtfafhjglcaikoaaGreatDoor
open Go.RowKit

variable {W : World} {K : Nat → Prop} {kb mb : Nat} {ev rv : Value} {F : Fls} {Y : List (Rw × Value)} {X : List (Ev × Value)}

def readsB (o : Option Rw) : Bool := match o with | some r => r.reads | none => false
def outOf (o : Option Rw) (inp : Txt) : Txt := match o with | some r => if r.copy then r.out ++ inp else r.out | none => []
def statOf (o : Option Rw) : Int := match o with | some r => r.status | none => 127
def heardOf (o : Option Rw) (inp : Txt) : Txt := if readsB o then inp else []

set_option maxHeartbeats 1000000 in
theorem reads_any (name : Txt) (args : List Txt) (va : Value) (h : Kern W K kb mb ev rv F Y X) (hY : Y.length < 4294967296) (ha : Tx W va args) (hla : args.length < 4294967296) (hl : ∀ p ∈ Y, p.1.args.length < 4294967296) (o : Option Rw) (ho : rowOf (Y.map Prod.fst) name args = o) :
    Calls Tryz.prog 161 #[kP kb, str name, va] W fun e w' => e = .returned (.bool (readsB o)) ∧ Below W.heap.size W w' := by
  have HR : Hid _ := row_any name args va h hY ha hla hl
  rw [ho] at HR
  obtain ⟨ada, capa, rfl⟩ := ha.form
  clear h ha hl ho
  go_enter Tryz.func161, Tryz.ntmps161
  go_wp2_with fail
  refine Calls.mono HR.out ?_
  rintro e w1 ⟨⟨r, v, rfl, hr, ht⟩, hb1⟩
  obtain ⟨adv, capv, rfl⟩ := ht.form
  clear ht HR
  cases o with
  | none =>
    simp only [Option.getD_none] at hr
    subst hr
    have hb2 := hb1.alloc hb1.size (.cells #[str noRow.name, .slice adv noRow.args.length capv, .bool noRow.any, .bool noRow.reads, .bool noRow.copy, str noRow.out, .int .i64 noRow.status] 80)
    simp only [Option.isSome_none]
    go_wp2_with fail
    go_ret
    exact ⟨rfl, hb2⟩
  | some r' =>
    simp only [Option.getD_some] at hr
    subst hr
    have hb2 := hb1.alloc hb1.size (.cells #[str r'.name, .slice adv r'.args.length capv, .bool r'.any, .bool r'.reads, .bool r'.copy, str r'.out, .int .i64 r'.status] 80)
    simp only [Option.isSome_some]
    go_wp2_with fail
    go_ret
    exact ⟨rfl, hb2⟩

set_option maxRecDepth 100000 in
set_option maxHeartbeats 4000000 in
theorem exec_any (name inp : Txt) (args : List Txt) (va : Value) (h : Kern W K kb mb ev rv F Y X) (hX : X.length < 4294967296) (hY : Y.length < 4294967296) (ha : Tx W va args) (hla : args.length < 4294967296) (hl : ∀ p ∈ Y, p.1.args.length < 4294967296) (hinp : inp.length < 4294967296) (hout : ∀ p ∈ Y, p.1.out.length < 4294967296) (o : Option Rw) (ho : rowOf (Y.map Prod.fst) name args = o) :
    Calls Tryz.prog 160 #[kP kb, str name, str inp, va] W fun r w' => r = .returned (.tuple #[str (outOf o inp), .int .i64 (statOf o), .bool o.isSome]) ∧ ∃ ev' lv' K', Kern w' K' kb mb ev' rv F Y (X ++ [(⟨1, statOf o, name, heardOf o inp, args⟩, lv')]) ∧ Stp W K w' K' := by
  have HR : Hid _ := row_any name args va h hY ha hla hl
  rw [ho] at HR
  have HT : Hid (∀ W', Below W.heap.size W W' → Tx W' va args) := fun W' hb => ha.below hb (Nat.le_refl _)
  have HH : Hid (∀ W', Below W.heap.size W W' → Kern W' K kb mb ev rv F Y X) := fun W' hb => h.below hb
  have HLT : Hid (∀ i, K i → i < W.heap.size) := h.lt
  have HOUT : Hid (∀ r, o = some r → r.out.length < 4294967296) := fun r e => by
    rw [e] at ho
    obtain ⟨p, hp, rfl⟩ := List.mem_map.1 (List.mem_of_find?_eq_some ho)
    exact hout p hp
  obtain ⟨ada, capa, rfl⟩ := ha.form
  clear h ha hl ho hout
  go_enter Tryz.func160, Tryz.ntmps160
  go_wp2_with fail
  refine Calls.mono HR.out ?_
  rintro e w1 ⟨⟨r, v, rfl, hr, ht⟩, hb1⟩
  obtain ⟨adv, capv, rfl⟩ := ht.form
  clear ht HR
  cases o with
  | none =>
    simp only [Option.getD_none] at hr
    subst hr
    have hb2 := hb1.alloc hb1.size (.cells #[str noRow.name, .slice adv noRow.args.length capv, .bool noRow.any, .bool noRow.reads, .bool noRow.copy, str noRow.out, .int .i64 noRow.status] 80)
    simp only [Option.isSome_none]
    go_wp2_with fail
    refine (note_any ⟨1, 127, name, [], args⟩ _ (HH.out _ hb2) hX (HT.out _ hb2) hla).mono ?_
    rintro e w3 ⟨rfl, ev', lv', K', k1, k2⟩
    go_wp2_with fail
    refine bodyPost_ret (results_tmp3 rfl _ _ _) rfl ?_
    exact ⟨rfl, ev', lv', K', k1, (Stp.ofBelow hb2).trans k2⟩
  | some r' =>
    simp only [Option.getD_some] at hr
    subst hr
    obtain ⟨nm, ars, an, re, co, ou, st⟩ := r'
    have hou : ou.length < 4294967296 := HOUT.out _ rfl
    have hb2 : Below W.heap.size W (w1.alloc (.cells #[str nm, .slice adv ars.length capv, .bool an, .bool re, .bool co, str ou, .int .i64 st] 80)) := hb1.alloc hb1.size _
    simp only [Option.isSome_some]
    have HS1 : Hid (W.heap.size ≤ w1.heap.size) := hb1.size
    cases re with
    | true =>
      go_wp2_with fail
      have hb3 : Below W.heap.size W (World.drew ((w1.alloc (.cells #[str nm, .slice adv ars.length capv, .bool an, .bool true, .bool co, str ou, .int .i64 st] 80)).alloc (.cells #[.int .i64 1, .int .i64 st, str name, str inp, .slice ada args.length capa] 65))) := ((hb1.alloc hb1.size _).alloc (Nat.le_trans hb1.size (below_new w1 _).size) _).drew
      have HC1 : Hid (Cel (World.drew ((w1.alloc (.cells #[str nm, .slice adv ars.length capv, .bool an, .bool true, .bool co, str ou, .int .i64 st] 80)).alloc (.cells #[.int .i64 1, .int .i64 st, str name, str inp, .slice ada args.length capa] 65))) w1.heap.size 80 #[str nm, .slice adv ars.length capv, .bool an, .bool true, .bool co, str ou, .int .i64 st]) := (Cel.new w1 80 _).turn (Turn.ofBelow (S := fun _ => False) (below_new _ _).drew) (fun h => h)
      have hnk : Hid (¬ K w1.heap.size) := fun hk => by have := HLT.out _ hk; have := HS1.out; omega
      refine wp_region_any (by kernel_rfl) ?_
      try (change wpAny _ _ _ _ _ _ _ (World.drew _))
      refine wpAny_take (i := 0) (v := kP kb) rfl (by kernel_rfl) (by kernel_rfl) (by kernel_rfl) (fun _ _ _ h => h) (Or.inl ⟨by rfl, by intro wz; go_simp⟩) ?_
      try simp only [Act.put, List.getElem_toArray, List.getElem_cons_zero, List.setIfInBounds_toArray, List.set_cons_zero, List.set_cons_succ]
      refine wpAny_take (i := 1) (v := kP kb) rfl (by kernel_rfl) (by kernel_rfl) (by kernel_rfl) (fun _ _ _ h => h) (Or.inl ⟨by rfl, by intro wz; go_simp⟩) ?_
      try simp only [Act.put, List.getElem_toArray, List.getElem_cons_succ, List.getElem_cons_zero, List.setIfInBounds_toArray, List.set_cons_zero, List.set_cons_succ]
      refine wpAny_take (i := 2) (v := kP kb) rfl (by kernel_rfl) (by kernel_rfl) (by kernel_rfl) (fun _ _ _ h => h) (Or.inl ⟨by rfl, by intro wz; go_simp⟩) ?_
      try simp only [Act.put, List.getElem_toArray, List.getElem_cons_succ, List.getElem_cons_zero, List.setIfInBounds_toArray, List.set_cons_zero, List.set_cons_succ]
      refine wpAny_ready (rs := [3]) (by kernel_rfl) (by simp) ?_
      refine AllReady.cons rfl (fun K hK => ?_) ?_
      · go_simp
        refine hK _ _ ?_
        clear hK K
        try simp only [Act.put, List.getElem_toArray, List.getElem_cons_succ, List.getElem_cons_zero, List.setIfInBounds_toArray, List.set_cons_zero, List.set_cons_succ]
        refine wpAny_ready (rs := [4]) (by kernel_rfl) (by simp) ?_
        refine AllReady.cons rfl (fun K hK => ?_) ?_
        · go_simp
          refine (note_any ⟨1, st, name, inp, args⟩ _ (HH.out _ hb3) hX (HT.out _ hb3) hla).mono ?_
          rintro e w3 ⟨rfl, ev', lv', K', k1, k2⟩
          refine hK _ _ ?_
          clear hK K
          try simp only [Act.put, List.getElem_toArray, List.getElem_cons_succ, List.getElem_cons_zero, List.setIfInBounds_toArray, List.set_cons_zero, List.set_cons_succ]
          refine wpAny_done (by kernel_rfl) ?_ _
          have HC3 := k2.cel HC1.out hnk.out
          have d4 := HC3.cell 4
          have d5 := HC3.cell 5
          have d6 := HC3.cell 6
          cases co
          · go_wp2_with fail
            go_quiet (fail)
            go_wp2_with fail
            refine bodyPost_ret (results_tmp3 rfl _ _ _) rfl ?_
            exact ⟨rfl, ev', lv', K', k1.below (below_drewN _ _), ((Stp.ofBelow hb3).trans k2).trans (Stp.ofBelow (below_drewN _ _))⟩
          · go_wp2_with fail
            go_quiet (fail)
            go_wp2_with fail
            refine bodyPost_ret (results_tmp3 rfl _ _ _) rfl ?_
            refine ⟨?_, ev', lv', K', k1.below (below_drewN _ _), ((Stp.ofBelow hb3).trans k2).trans (Stp.ofBelow (below_drewN _ _))⟩
            show Ending.returned (.tuple #[.string _, _, _]) = _
            rw [bytes_app]
            rfl
        exact AllReady.nil
      exact AllReady.nil
    | false =>
      go_wp2_with fail
      have hb3 : Below W.heap.size W (World.drew ((w1.alloc (.cells #[str nm, .slice adv ars.length capv, .bool an, .bool false, .bool co, str ou, .int .i64 st] 80)).alloc (.cells #[.int .i64 1, .int .i64 st, str name, .string ⟨#[]⟩, .slice ada args.length capa] 65))) := ((hb1.alloc hb1.size _).alloc (Nat.le_trans hb1.size (below_new w1 _).size) _).drew
      have HC1 : Hid (Cel (World.drew ((w1.alloc (.cells #[str nm, .slice adv ars.length capv, .bool an, .bool false, .bool co, str ou, .int .i64 st] 80)).alloc (.cells #[.int .i64 1, .int .i64 st, str name, .string ⟨#[]⟩, .slice ada args.length capa] 65))) w1.heap.size 80 #[str nm, .slice adv ars.length capv, .bool an, .bool false, .bool co, str ou, .int .i64 st]) := (Cel.new w1 80 _).turn (Turn.ofBelow (S := fun _ => False) (below_new _ _).drew) (fun h => h)
      have hnk : Hid (¬ K w1.heap.size) := fun hk => by have := HLT.out _ hk; have := HS1.out; omega
      refine wp_region_any (by kernel_rfl) ?_
      try (change wpAny _ _ _ _ _ _ _ (World.drew _))
      refine wpAny_take (i := 0) (v := kP kb) rfl (by kernel_rfl) (by kernel_rfl) (by kernel_rfl) (fun _ _ _ h => h) (Or.inl ⟨by rfl, by intro wz; go_simp⟩) ?_
      try simp only [Act.put, List.getElem_toArray, List.getElem_cons_zero, List.setIfInBounds_toArray, List.set_cons_zero, List.set_cons_succ]
      refine wpAny_take (i := 1) (v := kP kb) rfl (by kernel_rfl) (by kernel_rfl) (by kernel_rfl) (fun _ _ _ h => h) (Or.inl ⟨by rfl, by intro wz; go_simp⟩) ?_
      try simp only [Act.put, List.getElem_toArray, List.getElem_cons_succ, List.getElem_cons_zero, List.setIfInBounds_toArray, List.set_cons_zero, List.set_cons_succ]
      refine wpAny_take (i := 2) (v := kP kb) rfl (by kernel_rfl) (by kernel_rfl) (by kernel_rfl) (fun _ _ _ h => h) (Or.inl ⟨by rfl, by intro wz; go_simp⟩) ?_
      try simp only [Act.put, List.getElem_toArray, List.getElem_cons_succ, List.getElem_cons_zero, List.setIfInBounds_toArray, List.set_cons_zero, List.set_cons_succ]
      refine wpAny_ready (rs := [3]) (by kernel_rfl) (by simp) ?_
      refine AllReady.cons rfl (fun K hK => ?_) ?_
      · go_simp
        refine hK _ _ ?_
        clear hK K
        try simp only [Act.put, List.getElem_toArray, List.getElem_cons_succ, List.getElem_cons_zero, List.setIfInBounds_toArray, List.set_cons_zero, List.set_cons_succ]
        refine wpAny_ready (rs := [4]) (by kernel_rfl) (by simp) ?_
        refine AllReady.cons rfl (fun K hK => ?_) ?_
        · go_simp
          refine (note_any ⟨1, st, name, [], args⟩ _ (HH.out _ hb3) hX (HT.out _ hb3) hla).mono ?_
          rintro e w3 ⟨rfl, ev', lv', K', k1, k2⟩
          refine hK _ _ ?_
          clear hK K
          try simp only [Act.put, List.getElem_toArray, List.getElem_cons_succ, List.getElem_cons_zero, List.setIfInBounds_toArray, List.set_cons_zero, List.set_cons_succ]
          refine wpAny_done (by kernel_rfl) ?_ _
          have HC3 := k2.cel HC1.out hnk.out
          have d4 := HC3.cell 4
          have d5 := HC3.cell 5
          have d6 := HC3.cell 6
          cases co
          · go_wp2_with fail
            go_quiet (fail)
            go_wp2_with fail
            refine bodyPost_ret (results_tmp3 rfl _ _ _) rfl ?_
            exact ⟨rfl, ev', lv', K', k1.below (below_drewN _ _), ((Stp.ofBelow hb3).trans k2).trans (Stp.ofBelow (below_drewN _ _))⟩
          · go_wp2_with fail
            go_quiet (fail)
            go_wp2_with fail
            refine bodyPost_ret (results_tmp3 rfl _ _ _) rfl ?_
            refine ⟨?_, ev', lv', K', k1.below (below_drewN _ _), ((Stp.ofBelow hb3).trans k2).trans (Stp.ofBelow (below_drewN _ _))⟩
            show Ending.returned (.tuple #[.string _, _, _]) = _
            rw [bytes_app]
            rfl
        exact AllReady.nil
      exact AllReady.nil
end Go.Proofs.YtfafhjglcaikoaaGreatDoor
/-! DERIVED: THE SHELF's CONTRACTS AT THIS DUMP, IN PLAIN WORDS (tools/lay-plain.mjs out of 'YtfafhjglcaikoaaGreatDoorKShelf3.lean', which tools/lay-shelf.mjs wrote): THE SAME DECLARATIONS UNDER THE SAME NAMES: 'import', 'namespace', 'open', 'def', 'theorem' AND NOTHING ELSE: no command of the shelf's: FOR A HAND-IN. Each laying: the table of numbers ('.._ren') and one theorem, a field a fact of the dump's own or the kernel's comparison; each contract: ONE APPLICATION. -/
namespace Go.Proofs
open Go.Shelf
def Tryz.keys178_ren : Go.Shelf.Ren := ⟨fun | 7 => 178 | 10 => 222 | n => n, fun | 23 => 157 | 26 => 9 | 3 => 68 | 28 => 206 | 0 => 0 | 27 => 205 | 33 => 71 | 4 => 4 | n => n, fun | n => n⟩
theorem Tryz.keys178 : Go.Proofs.SlLaysZ.n7 Tryz.prog Tryz.keys178_ren := {
  mixed := by kernel_rfl
  f7 := ⟨Tryz.f178.name, by decide, Tryz.func178.trans (congrArg some (by kernel_rfl))⟩
  f10 := ⟨Tryz.f222.name, by decide, Tryz.func222.trans (congrArg some (by kernel_rfl))⟩
  t0 := Tryz.underlying0
  a0 := Tryz.isAgg0
  z0 := Tryz.sizeOf0
  v0 := Tryz.zeroValue0
  t4 := Tryz.underlying4
  a4 := Tryz.isAgg4
  z4 := Tryz.sizeOf4
  v4 := Tryz.zeroValue4
  t23 := Tryz.underlying157
  a23 := Tryz.isAgg157
  z23 := Tryz.sizeOf157
  v23 := Tryz.zeroValue157
  t26 := Tryz.underlying9
  a26 := Tryz.isAgg9
  z26 := Tryz.sizeOf9
  v26 := Tryz.zeroValue9
  t27 := Tryz.underlying205
  a27 := Tryz.isAgg205
  z27 := Tryz.sizeOf205
  v27 := Tryz.zeroValue205
  t28 := Tryz.underlying206
  a28 := Tryz.isAgg206
  z28 := Tryz.sizeOf206
  v28 := Tryz.zeroValue206
  t33 := Tryz.underlying71
  a33 := Tryz.isAgg71
  z33 := Tryz.sizeOf71
  v33 := Tryz.zeroValue71 }
def Tryz.keys127_ren : Go.Shelf.Ren := ⟨fun | 7 => 127 | 10 => 177 | n => n, fun | 23 => 137 | 26 => 9 | 3 => 23 | 28 => 206 | 0 => 0 | 27 => 205 | 33 => 71 | 4 => 4 | n => n, fun | n => n⟩
theorem Tryz.keys127 : Go.Proofs.SlLaysZ.n7 Tryz.prog Tryz.keys127_ren := {
  mixed := by kernel_rfl
  f7 := ⟨Tryz.f127.name, by decide, Tryz.func127.trans (congrArg some (by kernel_rfl))⟩
  f10 := ⟨Tryz.f177.name, by decide, Tryz.func177.trans (congrArg some (by kernel_rfl))⟩
  t0 := Tryz.underlying0
  a0 := Tryz.isAgg0
  z0 := Tryz.sizeOf0
  v0 := Tryz.zeroValue0
  t4 := Tryz.underlying4
  a4 := Tryz.isAgg4
  z4 := Tryz.sizeOf4
  v4 := Tryz.zeroValue4
  t23 := Tryz.underlying137
  a23 := Tryz.isAgg137
  z23 := Tryz.sizeOf137
  v23 := Tryz.zeroValue137
  t26 := Tryz.underlying9
  a26 := Tryz.isAgg9
  z26 := Tryz.sizeOf9
  v26 := Tryz.zeroValue9
  t27 := Tryz.underlying205
  a27 := Tryz.isAgg205
  z27 := Tryz.sizeOf205
  v27 := Tryz.zeroValue205
  t28 := Tryz.underlying206
  a28 := Tryz.isAgg206
  z28 := Tryz.sizeOf206
  v28 := Tryz.zeroValue206
  t33 := Tryz.underlying71
  a33 := Tryz.isAgg71
  z33 := Tryz.sizeOf71
  v33 := Tryz.zeroValue71 }
def Tryz.sorted126_ren : Go.Shelf.Ren := ⟨fun | 6 => 126 | 8 => 175 | 9 => 176 | 11 => 219 | 13 => 221 | 12 => 220 | 23 => 267 | 24 => 268 | 14 => 258 | 15 => 259 | 16 => 260 | 17 => 261 | 18 => 262 | 19 => 263 | 20 => 264 | 21 => 265 | 22 => 266 | 25 => 287 | 26 => 288 | 27 => 289 | 28 => 290 | 29 => 291 | 30 => 292 | 31 => 301 | n => n, fun | 26 => 9 | 28 => 206 | 24 => 23 | 0 => 0 | 3 => 3 | 37 => 77 | 48 => 330 | 50 => 309 | 4 => 4 | 40 => 324 | 39 => 323 | 45 => 272 | 5 => 5 | 9 => 9 | 51 => 342 | 55 => 346 | 57 => 355 | 58 => 356 | 33 => 71 | n => n, fun | n => n⟩
theorem Tryz.sorted126 : Go.Proofs.SlLaysZ.n6 Tryz.prog Tryz.sorted126_ren := {
  mixed := by kernel_rfl
  f6 := ⟨Tryz.f126.name, by decide, Tryz.func126.trans (congrArg some (by kernel_rfl))⟩
  f8 := ⟨Tryz.f175.name, by decide, Tryz.func175.trans (congrArg some (by kernel_rfl))⟩
  f11 := ⟨Tryz.f219.name, by decide, Tryz.func219.trans (congrArg some (by kernel_rfl))⟩
  t0 := Tryz.underlying0
  a0 := Tryz.isAgg0
  z0 := Tryz.sizeOf0
  v0 := Tryz.zeroValue0
  t24 := Tryz.underlying23
  a24 := Tryz.isAgg23
  z24 := Tryz.sizeOf23
  v24 := Tryz.zeroValue23
  t26 := Tryz.underlying9
  a26 := Tryz.isAgg9
  z26 := Tryz.sizeOf9
  v26 := Tryz.zeroValue9
  t28 := Tryz.underlying206
  a28 := Tryz.isAgg206
  z28 := Tryz.sizeOf206
  v28 := Tryz.zeroValue206
  i26 := by kernel_rfl }
def Tryz.lays190_ren : Go.Shelf.Ren := ⟨fun | 190 => 176 | 125 => 221 | 258 => 220 | 128 => 267 | 129 => 268 | 302 => 258 | 303 => 259 | 304 => 260 | 305 => 261 | 306 => 262 | 307 => 263 | 308 => 264 | 309 => 265 | 310 => 266 | 333 => 287 | 329 => 288 | 330 => 289 | 334 => 290 | 335 => 291 | 336 => 292 | 344 => 301 | n => n, fun | 31 => 23 | 9 => 9 | 3 => 3 | 46 => 77 | 0 => 0 | 51 => 330 | 53 => 309 | 4 => 4 | 183 => 324 | 182 => 323 | 131 => 272 | 5 => 5 | 218 => 342 | 222 => 346 | 228 => 355 | 229 => 356 | n => n, fun | n => n⟩
theorem Tryz.lays190 : Go.Proofs.Lays.n190 Tryz.prog Tryz.lays190_ren := {
  mixed := by kernel_rfl
  f125 := Tryz.func221.trans (congrArg some (by kernel_rfl))
  f128 := Tryz.func267.trans (congrArg some (by kernel_rfl))
  f129 := Tryz.func268.trans (congrArg some (by kernel_rfl))
  f190 := Tryz.func176.trans (congrArg some (by kernel_rfl))
  f258 := Tryz.func220.trans (congrArg some (by kernel_rfl))
  f302 := Tryz.func258.trans (congrArg some (by kernel_rfl))
  f303 := Tryz.func259.trans (congrArg some (by kernel_rfl))
  f304 := Tryz.func260.trans (congrArg some (by kernel_rfl))
  f305 := Tryz.func261.trans (congrArg some (by kernel_rfl))
  f306 := Tryz.func262.trans (congrArg some (by kernel_rfl))
  f307 := Tryz.func263.trans (congrArg some (by kernel_rfl))
  f308 := Tryz.func264.trans (congrArg some (by kernel_rfl))
  f309 := Tryz.func265.trans (congrArg some (by kernel_rfl))
  f310 := Tryz.func266.trans (congrArg some (by kernel_rfl))
  f329 := Tryz.func288.trans (congrArg some (by kernel_rfl))
  f330 := Tryz.func289.trans (congrArg some (by kernel_rfl))
  f333 := Tryz.func287.trans (congrArg some (by kernel_rfl))
  f334 := Tryz.func290.trans (congrArg some (by kernel_rfl))
  f335 := Tryz.func291.trans (congrArg some (by kernel_rfl))
  f336 := Tryz.func292.trans (congrArg some (by kernel_rfl))
  f344 := Tryz.func301.trans (congrArg some (by kernel_rfl))
  t0 := Tryz.underlying0
  a0 := Tryz.isAgg0
  z0 := Tryz.sizeOf0
  v0 := Tryz.zeroValue0
  t3 := Tryz.underlying3
  a3 := Tryz.isAgg3
  z3 := Tryz.sizeOf3
  v3 := Tryz.zeroValue3
  t4 := Tryz.underlying4
  a4 := Tryz.isAgg4
  z4 := Tryz.sizeOf4
  v4 := Tryz.zeroValue4
  t5 := Tryz.underlying5
  a5 := Tryz.isAgg5
  z5 := Tryz.sizeOf5
  v5 := Tryz.zeroValue5
  t9 := Tryz.underlying9
  a9 := Tryz.isAgg9
  z9 := Tryz.sizeOf9
  v9 := Tryz.zeroValue9
  t31 := Tryz.underlying23
  a31 := Tryz.isAgg23
  z31 := Tryz.sizeOf23
  v31 := Tryz.zeroValue23
  t46 := Tryz.underlying77
  a46 := Tryz.isAgg77
  z46 := Tryz.sizeOf77
  v46 := Tryz.zeroValue77
  t51 := Tryz.underlying330
  a51 := Tryz.isAgg330
  z51 := Tryz.sizeOf330
  v51 := Tryz.zeroValue330
  t53 := Tryz.underlying309
  a53 := Tryz.isAgg309
  z53 := Tryz.sizeOf309
  v53 := Tryz.zeroValue309
  t131 := Tryz.underlying272
  a131 := Tryz.isAgg272
  z131 := Tryz.sizeOf272
  v131 := Tryz.zeroValue272
  t182 := Tryz.underlying323
  a182 := Tryz.isAgg323
  z182 := Tryz.sizeOf323
  v182 := Tryz.zeroValue323
  t183 := Tryz.underlying324
  a183 := Tryz.isAgg324
  z183 := Tryz.sizeOf324
  v183 := Tryz.zeroValue324
  t218 := Tryz.underlying342
  a218 := Tryz.isAgg342
  z218 := Tryz.sizeOf342
  v218 := Tryz.zeroValue342
  t222 := Tryz.underlying346
  a222 := Tryz.isAgg346
  z222 := Tryz.sizeOf346
  v222 := Tryz.zeroValue346
  t228 := Tryz.underlying355
  a228 := Tryz.isAgg355
  z228 := Tryz.sizeOf355
  v228 := Tryz.zeroValue355
  t229 := Tryz.underlying356
  a229 := Tryz.isAgg356
  z229 := Tryz.sizeOf356
  v229 := Tryz.zeroValue356 }
open Go.Sort Go.RowKit in
theorem Tryz.slices_Sort_string (blk off cap : Nat) (ss : List (List UInt8)) (w : World) (hH : Holds encStr w blk off ss.toArray) (hblk : blk < w.heap.size) (hsz : ss.length < 4611686018427387904) :
    Calls Tryz.prog 176 #[.slice (some ⟨blk, off, none⟩) ss.length cap] w fun e w' =>
      e = .returned (.tuple #[]) ∧ ∃ n os, w' = grow (putRow encStr (Sort.ahead w n) blk off (ss.mergeSort fun x y => decide (x ≤ y)).toArray) os := Any.slices_Sort_string Tryz.lays190 blk off cap ss w hH hblk hsz
end Go.Proofs
/-! The files' names, sorted. -/
namespace Go.Proofs.YtfafhjglcaikoaaGreatDoor
open Go.RowKit Go.Maps Go.Sort Go.Shelf

theorem sort_none (a : Option Addr) (cap : Nat) (w : World) : Calls Tryz.prog 176 #[.slice a 0 cap] w fun e w' => e = .returned (.tuple #[]) ∧ w' = w :=
  fun cs =>
    let ⟨e, w', fr, r, st, x⟩ := (AnyS.slices_Sort_string_none_alone Tryz.lays190 (cs.length + 3) a cap w).2 cs (fun d hd => by cases hd; omega)
    ⟨e, w', fr, r, st.comes, x⟩
theorem sorts126 (m : Nat) : AnyZ.SortsIn Tryz.prog Tryz.sorted126_ren Fence.wide m :=
  ⟨fun blk off cap ss W hH hblk hsz => callsIn_wide.2 (Tryz.slices_Sort_string blk off cap ss W hH hblk hsz),
   fun p cap W => callsIn_wide.2 (sort_none p cap W)⟩
theorem maps_keys (mb : Option Nat) (W : World) : CallsIn Fence.wide 5 Tryz.prog 178 #[.map mb] W fun e w' => e = .returned (.func (.func 222) #[] #[.pointer (some ⟨W.heap.size, 0, none⟩)]) ∧ w' = W.alloc (.cells #[.map mb] 157) :=
  AnyZ.keys_in Tryz.keys178 Fence.wide 5 trivial rfl mb W
set_option maxHeartbeats 1000000 in
theorem sorted_keys {H : Type} (b nn : Nat) (D0 : DataW H) (R : Value → Option (DataW H × List MemPlace)) (w : World) (hown : w.ownsMap Tryz.prog 9 R b nn D0) (hmax : Maps.size D0 ≤ maxLen) (hbytes : Maps.size D0 * 16 ≤ 140737488355328) :
    CallsIn Fence.wide 5 Tryz.prog 126 #[.func (.func 222) #[] #[.pointer (some ⟨w.heap.size, 0, none⟩)]] (w.alloc (.cells #[.map (some b)] 157)) fun e w' => ∃ (v : Value) (ss : List (List UInt8)), e = .returned v ∧ ss.Perm (strKeys D0) ∧
      w'.ownsRow (w.alloc (.cells #[.map (some b)] 157)).heap.size 9 1 v ss.length ((ss.mergeSort (fun x y => decide (x ≤ y))).map encStr) ∧ (v = .slice none 0 0 ↔ ss = []) ∧ Below (w.alloc (.cells #[.map (some b)] 157)).heap.size (w.alloc (.cells #[.map (some b)] 157)) w' := by
  have hbl := hown.lt
  have hseq : SeqGives Fence.wide 2 Tryz.prog 222 #[.pointer (some ⟨w.heap.size, 0, none⟩)] encStr (fun ss => ss.Perm (strKeys D0)) (Maps.size D0) (w.alloc (.cells #[.map (some b)] 157)) :=
    AnyZ.keys_gives (ρ := Tryz.keys178_ren) { Tryz.keys178 with } Fence.wide _ trivial rfl (by omega) w.heap.size b nn D0 _ (by simp) (by simp) (by
      obtain ⟨es, clock, hb, Ft, hs, hD⟩ := hown
      exact ⟨es, clock, (Below.heap_alloc _ _ b hbl).trans hb, Ft, hs, hD⟩)
  exact AnyZ.sorted_in Tryz.sorted126 Fence.wide 5 trivial trivial trivial trivial rfl (by omega) (sorts126 _) (enters_of Tryz.func176 (by kernel_rfl) rfl) 222 #[.pointer (some ⟨w.heap.size, 0, none⟩)] trivial (enters_of Tryz.func222 (by kernel_rfl) rfl) _ _ hmax hbytes _ hseq

theorem bytes_le : ∀ a b : List UInt8, bytesBefore a b = true → a ≤ b
  | [], _, _ => List.nil_le _
  | _ :: _, [], h => by simp [bytesBefore] at h
  | a :: r, b :: s, h => by
    simp only [bytesBefore, Bool.or_eq_true, Bool.and_eq_true, decide_eq_true_eq, beq_iff_eq] at h
    rcases h with h | ⟨rfl, h⟩
    · exact List.le_of_lt (List.cons_lt_cons_iff.2 (.inl h))
    · exact List.cons_le_cons_iff.2 (.inr ⟨rfl, bytes_le r s h⟩)
variable {W : World} {K : Nat → Prop} {kb mb : Nat} {ev rv : Value} {F : Fls} {Y : List (Rw × Value)} {X : List (Ev × Value)}
theorem sorted_names (h : W.ownsMap Tryz.prog 9 flE mb F.length (dF F)) (ss : List (List UInt8)) (hs : ss.Perm (strKeys (dF F))) : ss.mergeSort (fun x y => decide (x ≤ y)) = F.map Prod.fst := by
  rw [dF_keys] at hs
  obtain ⟨es, he, hp, _⟩ := h.canon key9
  have hF : F.Pairwise fun p q => bytesBefore p.1 q.1 = true := by
    unfold dF at he
    cases he
    rw [List.pairwise_map] at hp
    exact hp
  have e1 := mergeSort_of_perm hs
  refine e1.trans (List.mergeSort_of_pairwise ?_)
  rw [List.pairwise_map]
  exact hF.imp fun {a b} hab => decide_eq_true (bytes_le _ _ hab)
theorem enc_tx (l : List Txt) : l.map encStr = txV l := rfl

set_option maxHeartbeats 1000000 in
theorem names_any (h : Kern W K kb mb ev rv F Y X) (hF : F.length < 4294967296) :
    Calls Tryz.prog 128 #[kP kb] W fun e w' => ∃ v', e = .returned v' ∧ w'.ownsRow W.heap.size 9 1 v' (F.map Prod.fst).length (txV (F.map Prod.fst)) ∧ Below W.heap.size W w' := by
  have c1 := h.kc.cell 1
  have HM : Hid (W.ownsMap Tryz.prog 9 flE mb F.length (dF F)) := h.fm
  have e1 : Maps.size (dF F) = F.length := by simp [dF, Maps.size]
  have HZ : Hid (Maps.size (dF F) ≤ maxLen ∧ Maps.size (dF F) * 16 ≤ 140737488355328) := by
    unfold Hid
    rw [e1]
    have := maxLen_big
    omega
  clear h e1
  refine (callsIn_wide (n := 6)).1 ?_
  have hfK : Fence.wide.fn 178 := trivial
  have hfS : Fence.wide.fn 126 := trivial
  refine callsIn_of_wp Tryz.func128 rfl trivial ?_ rfl
  simp only [Tryz.ntmps128, List.size_toArray, List.length_cons, List.length_nil, Nat.reduceAdd, Nat.reduceSub, Array.replicate_succ, Array.replicate_zero, List.push_toArray, List.append_toArray, List.nil_append, List.cons_append]
  gi_wp2_with (first
    | (gi_at_call 178; refine (maps_keys _ _).mono ?_; rintro e w1 ⟨rfl, rfl⟩)
    | (gi_at_call 126; refine (sorted_keys mb F.length (dF F) flE W HM.out HZ.out.1 HZ.out.2).mono ?_; rintro e w2 ⟨v, ss, rfl, hS, hrow, hnil, hb⟩))
  go_ret
  have hn := sorted_names HM.out ss hS
  have hl : ss.length = (F.map Prod.fst).length := by rw [← hn, List.length_mergeSort]
  rw [hn, enc_tx, hl] at hrow
  exact ⟨v, rfl, owns_lower hrow (by simp), (below_new _ _).trans (hb.mono (by simp))⟩
end Go.Proofs.YtfafhjglcaikoaaGreatDoor
/-! Files in memory, and whether they are the same. -/
namespace Go.Proofs.YtfafhjglcaikoaaGreatDoor
open Go.RowKit

abbrev flL (F : Fls) : List (List Value) := F.map fun p => [str p.1, str p.2]
/-- Files in memory, to be read. -/
def FlAt (W : World) (v : Value) (F : Fls) : Prop := RowAt W v 2 (flL F)
theorem FlAt.form {W : World} {v : Value} {F : Fls} (h : FlAt W v F) : ∃ ad cap, v = .slice ad F.length cap := by
  obtain ⟨ad, cap, hv⟩ := RowAt.form h
  exact ⟨ad, cap, by rw [hv]; simp⟩
theorem FlAt.below {W W' : World} {v : Value} {F : Fls} {B : Nat} (h : FlAt W v F) (hb : Below B W W') (hB : W.heap.size ≤ B) : FlAt W' v F := RowAt.below h hb hB
theorem FlAt.at {W : World} {v : Value} {F : Fls} (h : FlAt W v F) {j : Nat} {p : Txt × Txt} (hj : F[j]? = some p) : ∃ g o cap, v = .slice (some ⟨g, o, none⟩) F.length cap ∧ F.length ≤ cap ∧ g < W.heap.size ∧
    W.cell? ⟨g, o + j * 2, none⟩ = some (str p.1) ∧ W.cell? ⟨g, o + j * 2 + 1, none⟩ = some (str p.2) := by
  rcases h with ⟨h0, _⟩ | ⟨g, o, cap, h1, h2, h3, h4⟩
  · have : F = [] := by simpa using h0
    rw [this] at hj
    simp at hj
  · have hc := h4 j [str p.1, str p.2] (by rw [List.getElem?_map, hj]; rfl)
    exact ⟨g, o, cap, by simpa using h1, by simpa using h2, h3, hc 0 _ rfl, hc 1 _ rfl⟩

theorem fls_ext (A B : Fls) (k : Nat) (hl : A.length = B.length) (h : ∀ j, j < k → A[j]? = B[j]?) (hk : k = A.length) : A = B := by
  apply List.ext_getElem?
  intro j
  by_cases hj : j < k
  · exact h j hj
  · rw [List.getElem?_eq_none (by omega), List.getElem?_eq_none (by omega)]

end Go.Proofs.YtfafhjglcaikoaaGreatDoor
/-! The files, by names. -/
namespace Go.Proofs.YtfafhjglcaikoaaGreatDoor
open Go.RowKit

variable {W : World} {K : Nat → Prop} {kb mb : Nat} {ev rv : Value} {F : Fls} {Y : List (Rw × Value)} {X : List (Ev × Value)}

def flCs (F : Fls) : List Value := F.flatMap fun p => [str p.1, str p.2]
theorem flL_flat (F : Fls) : (flL F).flatMap id = flCs F := by simp [flL, flCs, List.flatMap_map]
theorem flL_len (F : Fls) : ∀ cs ∈ flL F, cs.length = 2 := by
  intro cs hcs
  obtain ⟨p, _, rfl⟩ := List.mem_map.1 hcs
  rfl
theorem FlAt.owned {B : Nat} {v : Value} (h : W.ownsRow B 68 2 v F.length (flCs F)) : FlAt W v F :=
  RowAt.owned (e := 68) (B := B) (by rw [flL_flat, List.length_map]; exact h) (flL_len F)
theorem find_at : ∀ (F : Fls), (F.Pairwise fun p q => p.1 ≠ q.1) → ∀ (k : Nat) (p : Txt × Txt), F[k]? = some p → F.find? (fun q => q.1 == p.1) = some p
  | [], _, k, p, h => by simp at h
  | x :: F, hp, 0, p, h => by
    simp at h
    subst h
    simp
  | x :: F, hp, k + 1, p, h => by
    obtain ⟨h1, h2⟩ := List.pairwise_cons.1 hp
    have hm : p ∈ F := List.mem_of_getElem? (by simpa using h)
    rw [List.find?_cons_of_neg (by simpa using h1 p hm)]
    exact find_at F h2 k p (by simpa using h)
theorem Kern.apart (h : Kern W K kb mb ev rv F Y X) : F.Pairwise fun p q => p.1 ≠ q.1 := by
  obtain ⟨es, he, hp, _⟩ := h.fm.canon key9
  unfold dF at he
  cases he
  rw [List.pairwise_map] at hp
  refine hp.imp fun {a b} hab e => ?_
  have h2 : bytesBefore a.1 b.1 = true := hab
  rw [e, WideAt.bytes_irrefl] at h2
  cases h2
theorem info73 : (Tryz.prog.info? 68).map (fun i => (i.zero, i.size, i.bytes)) = some (some (.agg #[.string ⟨#[]⟩, .string ⟨#[]⟩]), 2, 32) := by kernel_rfl
theorem flC_one (p : Txt × Txt) : ∀ u ∈ [str p.1, str p.2], u.oneCell' = true := by
  intro u hu
  simp at hu
  rcases hu with rfl | rfl <;> rfl
theorem flCs_snoc (F : Fls) (p : Txt × Txt) : flCs (F ++ [p]) = flCs F ++ [str p.1, str p.2] := by simp [flCs]
theorem owns_below {B : Nat} {e k n : Nat} {v : Value} {xs : List Value} {W W' : World} (h : W.ownsRow B e k v n xs) (hb : Below W.heap.size W W') : W'.ownsRow B e k v n xs := owns_turn h (Turn.ofBelow (S := fun _ => False) hb) (fun _ _ h => h)
theorem grown_own {w w1 w' : World} {B e k n : Nat} {v : Value} {xs : List Value} (hB : B ≤ w1.heap.size) (hb : Below B w w1) (ho : w1.ownsRow B e k v n xs) (hg : w1.grownBy w' v.ownBlock) : Below B w w' :=
  hb.grown hg hB fun q ej => (ho.lt q ej).1

set_option maxRecDepth 100000 in
set_option maxHeartbeats 2000000 in
theorem files_any (h : Kern W K kb mb ev rv F Y X) (hF : F.length < 4294967296) (hN : ∀ p ∈ F, p.1.length < 4294967296) :
    Calls Tryz.prog 83 #[kP kb] W fun e w' => ∃ v', e = .returned v' ∧ w'.ownsRow W.heap.size 68 2 v' F.length (flCs F) ∧ Below W.heap.size W w' := by
  obtain ⟨i0, hi, hz0, hz1, hz2⟩ := info_parts info73
  have HNA : Hid _ := names_any h hF
  have HH : Hid (∀ W', Below W.heap.size W W' → Kern W' K kb mb ev rv F Y X) := fun W' hb => h.below hb
  have HAP : Hid (F.Pairwise fun p q => p.1 ≠ q.1) := h.apart
  have HN : Hid (∀ p ∈ F, p.1.length < 4294967296) := hN
  clear h hN
  go_enter Tryz.func83, Tryz.ntmps83
  go_wp2_with fail
  refine Calls.mono HNA.out ?_
  rintro e w1 ⟨v1, rfl, ho1, hb1⟩
  have HT : Hid (∀ W', Below w1.heap.size w1 W' → Tx W' v1 (F.map Prod.fst)) := fun W' hb => (Tx.owned ho1).below hb (Nat.le_refl _)
  obtain ⟨ad1, cap1, hv1⟩ := owns_slice ho1
  obtain rfl : v1 = .slice ad1 F.length cap1 := by rw [hv1, List.length_map]
  clear ho1 HNA hv1
  go_wp2_with fail
  go_loopw [3, 9] (fun v3 v9 wr => ∃ k : Nat, v9 = .int .i64 k ∧ k ≤ F.length ∧ Hid (wr.ownsRow w1.heap.size 68 2 v3 (F.take k).length (flCs (F.take k))) ∧ Below w1.heap.size w1 wr) (fun _ v9 _ => F.length - (intOf v9).toNat)
  case atStart => exact ⟨0, rfl, by omega, World.ownsRow_nil _ _ _ _, Below.refl _ _⟩
  case round =>
    obtain ⟨k, rfl, hk, HO, hbr⟩ := hrel
    have hb0 : Below W.heap.size W wr := hb1.trans (hbr.mono hb1.size)
    have HTL : Hid ((F.take k).length = k) := by unfold Hid; rw [List.length_take]; omega
    have ho := HO.out
    rw [HTL.out] at ho
    by_cases hkl : k < F.length
    · obtain ⟨p, hp⟩ : ∃ p, F[k]? = some p := ⟨_, List.getElem?_eq_getElem hkl⟩
      have HTK : Hid (F.take (k + 1) = F.take k ++ [p]) := by unfold Hid; rw [List.take_add_one, hp]; rfl
      obtain ⟨g, o, cap', hv, _, hg, hce⟩ := (HT.out _ hbr).inRow (fun e => by have := congrArg List.length e; simp at this; rw [this] at hkl; simp at hkl)
      rw [List.length_map] at hv
      cases hv
      have c0 := hce k p.1 (by rw [List.getElem?_map, hp]; rfl)
      have hpn := HN.out p (List.mem_of_getElem? hp)
      have hfd := find_at F HAP.out k p hp
      have e1 : namF F p.1 = p.1 := by unfold namF; rw [hfd]
      have e2 : datF F p.1 = p.2 := by unfold datF; rw [hfd]
      have hlk := look_no (HH.out _ hb0).fm p.1 hpn
      rw [e1, e2] at hlk
      have k1 := (HH.out _ hb0).kc.cell 1
      obtain ⟨pn, pd⟩ := p
      clear hce hp hfd e1 e2
      have hba : Below w1.heap.size w1 (wr.alloc (.cells #[str pn, str pd] 68)) := hbr.alloc hbr.size _
      have hoa := owns_below ho (below_new wr (.cells #[str pn, str pd] 68))
      have HBA : Hid _ := hba
      have HOA : Hid _ := hoa
      have hBs : w1.heap.size ≤ (wr.alloc (.cells #[str pn, str pd] 68)).heap.size := hba.size
      clear hba hoa
      go_wp2_with (at_builtin; refine wpList_append_own _ rfl _ _ 24 rfl w1.heap.size 68 i0 _ 2 32 Tryz.underlying24 hi hz0 hz1 hz2 rfl (by decide) _ _ _ rfl HOA.out ⟨wr.heap.size, 0, none⟩ 1 1 [str pn, str pd] rfl rfl (cells_new wr _ 68) (flC_one (pn, pd)) (by have := maxLen_big; omega) (by omega) hBs ?_; intro v4 w4 hown4 hgrow4 _)
      refine ⟨⟨k + 1, by simp, by omega, ?_, grown_own hBs HBA.out HOA.out hgrow4⟩, by simp [intOf]; omega⟩
      have e3 := HTK.out
      unfold Hid
      rw [e3, flCs_snoc, List.length_append, HTL.out]
      exact hown4
    · have hkz : k = F.length := by omega
      subst hkz
      rw [List.take_length] at HO
      clear ho
      go_wp2_with fail
      go_ret
      exact ⟨_, rfl, owns_lower HO.out hb1.size, hb0⟩
end Go.Proofs.YtfafhjglcaikoaaGreatDoor
/-! DERIVED: THE SHELF's CONTRACTS AT THIS DUMP, IN PLAIN WORDS (tools/lay-plain.mjs out of 'YtfafhjglcaikoaaGreatDoorKShelf2.lean', which tools/lay-shelf.mjs wrote): THE SAME DECLARATIONS UNDER THE SAME NAMES: 'import', 'namespace', 'open', 'def', 'theorem' AND NOTHING ELSE: no command of the shelf's: FOR A HAND-IN. Each laying: the table of numbers ('.._ren') and one theorem, a field a fact of the dump's own or the kernel's comparison; each contract: ONE APPLICATION. -/
namespace Go.Proofs
open Go.Shelf
def Tryz.laysSlH8_f144_ren : Go.Shelf.Ren := ⟨fun | 8 => 144 | 6 => 199 | n => n, fun | 22 => 23 | 23 => 9 | 25 => 71 | 4 => 4 | 3 => 3 | 0 => 0 | n => n, fun | n => n⟩
theorem Tryz.laysSlH8_f144 : Go.Proofs.SlLaysH.n8 Tryz.prog Tryz.laysSlH8_f144_ren := {
  mixed := by kernel_rfl
  f6 := ⟨Tryz.f199.name, by decide, Tryz.func199.trans (congrArg some (by kernel_rfl))⟩
  f8 := ⟨Tryz.f144.name, by decide, Tryz.func144.trans (congrArg some (by kernel_rfl))⟩
  t0 := Tryz.underlying0
  a0 := Tryz.isAgg0
  z0 := Tryz.sizeOf0
  v0 := Tryz.zeroValue0
  t3 := Tryz.underlying3
  a3 := Tryz.isAgg3
  z3 := Tryz.sizeOf3
  v3 := Tryz.zeroValue3
  t4 := Tryz.underlying4
  a4 := Tryz.isAgg4
  z4 := Tryz.sizeOf4
  v4 := Tryz.zeroValue4
  t22 := Tryz.underlying23
  a22 := Tryz.isAgg23
  z22 := Tryz.sizeOf23
  v22 := Tryz.zeroValue23
  a23 := Tryz.isAgg9
  z23 := Tryz.sizeOf9
  t25 := Tryz.underlying71
  a25 := Tryz.isAgg71
  z25 := Tryz.sizeOf71
  v25 := Tryz.zeroValue71 }
open Go.RowKit Go.Lib in
/-- slices.ContainsFunc: "ContainsFunc reports whether at least one element e of s satisfies f(e).": ITS CALLEE slices.IndexFunc IS MET BY ITS OWN CONTRACT. (LAID AT THE INSTANCE 'slices.ContainsFunc[[]string,string]': no walk: one application.) -/
theorem Tryz.slices_ContainsFunc {α : Type} [Inhabited α] (enc : α → Value) (p : α → Bool) (g : Nat) (lb : Array Value) (eg : ∀ args w, (callFunc g args).run Tryz.prog w = .ok (.enter g args) w) (b off n c : Nat) (zs : List α) (w : World) (hp : PredAt Tryz.prog g lb enc p w) (hz : n ≤ zs.length) (hbig : n ≤ 9223372036854775807) (hc : ∀ j, j < zs.length → w.cell? ⟨b, off + j, none⟩ = some (enc zs[j]!)) :
    Calls Tryz.prog 144 #[.slice (some ⟨b, off, none⟩) n c, .func (.func g) #[] lb] w fun e w' => e = .returned (.bool ((zs.take n).any p)) ∧ ∃ q, w' = w.drewN q := AnyE.slices_ContainsFunc Tryz.laysSlH8_f144 enc p g lb eg b off n c zs w hp hz hbig hc
open Go.RowKit Go.Lib in
/-- The same at a slice of length 0, a nil one too. (LAID AT THE INSTANCE 'slices.ContainsFunc[[]string,string]': no walk: one application.) -/
theorem Tryz.slices_ContainsFunc_empty {α : Type} [Inhabited α] (a : Option Addr) (c : Nat) (fv : Value) (w : World) :
    Calls Tryz.prog 144 #[.slice a 0 c, fv] w fun e w' => e = .returned (.bool false) ∧ w' = w := AnyE.slices_ContainsFunc_empty Tryz.laysSlH8_f144 a c fv w
end Go.Proofs
/-! DERIVED: THE SHELF's CONTRACTS AT THIS DUMP, IN PLAIN WORDS (tools/lay-plain.mjs out of 'YtfafhjglcaikoaaGreatDoorKShelf4.lean', which tools/lay-shelf.mjs wrote): THE SAME DECLARATIONS UNDER THE SAME NAMES: 'import', 'namespace', 'open', 'def', 'theorem' AND NOTHING ELSE: no command of the shelf's: FOR A HAND-IN. Each laying: the table of numbers ('.._ren') and one theorem, a field a fact of the dump's own or the kernel's comparison; each contract: ONE APPLICATION. -/
namespace Go.Proofs
open Go.Shelf
def Tryz.cf140_ren : Go.Shelf.Ren := ⟨fun | 8 => 140 | 6 => 194 | n => n, fun | 22 => 25 | 23 => 80 | 25 => 219 | 4 => 4 | 3 => 3 | 0 => 0 | n => n, fun | n => n⟩
theorem Tryz.cf140 : Go.Proofs.SlLaysH0.n8 Tryz.prog Tryz.cf140_ren := {
  mixed := by kernel_rfl
  f6 := ⟨Tryz.f194.name, by decide, Tryz.func194.trans (congrArg some (by kernel_rfl))⟩
  f8 := ⟨Tryz.f140.name, by decide, Tryz.func140.trans (congrArg some (by kernel_rfl))⟩
  t0 := Tryz.underlying0
  a0 := Tryz.isAgg0
  z0 := Tryz.sizeOf0
  v0 := Tryz.zeroValue0
  t3 := Tryz.underlying3
  a3 := Tryz.isAgg3
  z3 := Tryz.sizeOf3
  v3 := Tryz.zeroValue3
  t4 := Tryz.underlying4
  a4 := Tryz.isAgg4
  z4 := Tryz.sizeOf4
  v4 := Tryz.zeroValue4
  t22 := Tryz.underlying25
  a22 := Tryz.isAgg25
  z22 := Tryz.sizeOf25
  v22 := Tryz.zeroValue25
  t25 := Tryz.underlying219
  a25 := Tryz.isAgg219
  z25 := Tryz.sizeOf219
  v25 := Tryz.zeroValue219 }
def Tryz.cf197_ren : Go.Shelf.Ren := ⟨fun | 8 => 197 | 6 => 233 | n => n, fun | 22 => 24 | 23 => 68 | 25 => 263 | 4 => 4 | 3 => 3 | 0 => 0 | n => n, fun | n => n⟩
theorem Tryz.cf197 : Go.Proofs.SlLaysH0.n8 Tryz.prog Tryz.cf197_ren := {
  mixed := by kernel_rfl
  f6 := ⟨Tryz.f233.name, by decide, Tryz.func233.trans (congrArg some (by kernel_rfl))⟩
  f8 := ⟨Tryz.f197.name, by decide, Tryz.func197.trans (congrArg some (by kernel_rfl))⟩
  t0 := Tryz.underlying0
  a0 := Tryz.isAgg0
  z0 := Tryz.sizeOf0
  v0 := Tryz.zeroValue0
  t3 := Tryz.underlying3
  a3 := Tryz.isAgg3
  z3 := Tryz.sizeOf3
  v3 := Tryz.zeroValue3
  t4 := Tryz.underlying4
  a4 := Tryz.isAgg4
  z4 := Tryz.sizeOf4
  v4 := Tryz.zeroValue4
  t22 := Tryz.underlying24
  a22 := Tryz.isAgg24
  z22 := Tryz.sizeOf24
  v22 := Tryz.zeroValue24
  t25 := Tryz.underlying263
  a25 := Tryz.isAgg263
  z25 := Tryz.sizeOf263
  v25 := Tryz.zeroValue263 }
end Go.Proofs
namespace Go.Proofs.YtfafhjglcaikoaaGreatDoor
open Go.RowKit Go.Shelf

def longT (s : Txt) : Bool := decide (2000 < s.length)
def noNm (s : Txt) : Bool := s.isEmpty || longT s
theorem str_size (l : Txt) : (⟨l.toArray⟩ : ByteArray).size = l.length := by show l.toArray.size = _; simp

set_option maxHeartbeats 1000000 in
theorem tooLong_any (s : Txt) (W : World) : Calls Tryz.prog 198 #[str s] W fun e w' => e = .returned (.bool (longT s)) ∧ w' = W := by
  go_enter Tryz.func198, Tryz.ntmps198
  go_wp2
  go_ret
  exact ⟨ret_bool (decide_eq_decide.2 (by omega)), rfl⟩
theorem tooLong_at (w : World) : PredAt Tryz.prog 198 #[] (fun l : Txt => Value.string ⟨l.toArray⟩) longT w := by
  intro W x _
  unfold FnGives
  have hsz := str_size x
  go_enter Tryz.func198, Tryz.ntmps198
  go_wp2
  go_ret
  exact ⟨ret_bool (decide_eq_decide.2 (by omega)), 0, rfl⟩
set_option maxHeartbeats 1000000 in
theorem noName_any (s : Txt) (W : World) : Calls Tryz.prog 196 #[str s] W fun e w' => e = .returned (.bool (noNm s)) ∧ w' = W := by
  cases s with
  | nil =>
    go_enter Tryz.func196, Tryz.ntmps196
    go_wp2
    go_ret
    exact ⟨rfl, rfl⟩
  | cons c r =>
    obtain ⟨s, hs⟩ : ∃ s, s = c :: r := ⟨_, rfl⟩
    rw [← hs]
    have h1 : (s == []) = false := by rw [hs]; rfl
    have h2 : s.isEmpty = false := by rw [hs]; rfl
    have h3 : noNm s = longT s := by unfold noNm; rw [h2]; rfl
    have h4 : s ≠ [] := by rw [hs]; simp
    have H3 : Hid _ := h3
    clear hs h2 h3
    go_enter Tryz.func196, Tryz.ntmps196
    go_wp2_with fail
    refine (tooLong_any s W).mono ?_
    rintro e w1 ⟨rfl, hw⟩
    subst hw
    go_wp2_with fail
    go_ret
    exact ⟨by rw [H3.out]; rfl, rfl⟩
theorem longs_any (v : Value) (ns : List Txt) (w : World) (h : Tx w v ns) (hl : ns.length < 4294967296) :
    Calls Tryz.prog 144 #[v, .func (.func 198) #[] #[]] w fun e w' => e = .returned (.bool (ns.any longT)) ∧ Below w.heap.size w w' := by
  by_cases hne : ns = []
  · subst hne
    obtain ⟨ad, cap, rfl⟩ := h.form
    exact (Tryz.slices_ContainsFunc_empty (α := Txt) ad cap _ w).mono fun e w' ⟨he, hw⟩ => ⟨he, by rw [hw]; exact Below.refl _ _⟩
  · obtain ⟨g, o, cap, rfl, h1, h2, h3⟩ := h.inRow hne
    refine (Tryz.slices_ContainsFunc (fun l : Txt => Value.string ⟨l.toArray⟩) longT 198 #[] (enters_of Tryz.func198 (by kernel_rfl) rfl) g o ns.length cap ns w (tooLong_at w) (Nat.le_refl _) (by omega) ?_).mono ?_
    · intro j hj
      rw [getElem!_pos ns j hj]
      exact h3 j _ (List.getElem?_eq_getElem hj)
    · rintro e w' ⟨rfl, q, rfl⟩
      refine ⟨?_, below_drewN w q⟩
      rw [List.take_length]

/-- A row as the library's contract wants it. -/
abbrev Rz := Rw × Option Addr × Nat
abbrev rzC (z : Rz) : List Value := rwC z.1 (.slice z.2.1 z.1.args.length z.2.2)
theorem inhRz : Nonempty (Inhabited Rz) := ⟨⟨(noRow, none, 0)⟩⟩
theorem rz_of : ∀ (Y : List (Rw × Value)), (∀ p ∈ Y, ∃ ad cap, p.2 = .slice ad p.1.args.length cap) → ∃ Z : List Rz, Y = Z.map fun z => (z.1, Value.slice z.2.1 z.1.args.length z.2.2)
  | [], _ => ⟨[], rfl⟩
  | p :: Y, h => by
    obtain ⟨Z, hZ⟩ := rz_of Y (fun q hq => h q (by simp [hq]))
    obtain ⟨ad, cap, hp⟩ := h p (by simp)
    refine ⟨(p.1, ad, cap) :: Z, ?_⟩
    rw [List.map_cons, ← hZ]
    obtain ⟨r, v⟩ := p
    simp only at hp
    rw [hp]
def manyB (r : Rw) : Bool := decide (100 < r.args.length)
set_option maxHeartbeats 1000000 in
theorem manyArgs_at (w : World) : PredBelow Tryz.prog 141 #[] (fun z : Rz => .agg (rzC z).toArray) (fun z => manyB z.1) w := by
  intro W z hb
  obtain ⟨⟨nm, ars, an, re, co, ou, st⟩, ad, cap⟩ := z
  show Calls Tryz.prog 141 #[.agg #[str nm, .slice ad ars.length cap, .bool an, .bool re, .bool co, str ou, .int .i64 st]] W _
  have hba := hb.alloc hb.size (.cells #[str nm, .slice ad ars.length cap, .bool an, .bool re, .bool co, str ou, .int .i64 st] 80)
  have HBA : Hid _ := hba
  clear hba hb
  go_enter Tryz.func141, Tryz.ntmps141
  go_wp2_with fail
  go_ret
  exact ⟨ret_bool (decide_eq_decide.2 (by dsimp only; omega)), HBA.out⟩
set_option maxHeartbeats 1000000 in
theorem empty44 (ad : Option Addr) (cap : Nat) (f : Value) (w : World) : Calls Tryz.prog 140 #[.slice ad 0 cap, f] w fun e w' => e = .returned (.bool false) ∧ w' = w := by
  have h65 : Calls Tryz.prog 194 #[.slice ad 0 cap, f] w fun e w' => e = .returned (.int .i64 (-1)) ∧ w' = w := by
    go_enter Tryz.func194, Tryz.ntmps194
    go_wp2_with fail
    go_loopw [8] (fun v8 wr => v8 = .int .i64 0 ∧ wr = w) (fun _ _ => 0)
    case atStart => exact ⟨rfl, rfl⟩
    case round =>
      obtain ⟨rfl, rfl⟩ := hrel
      go_wp2_with fail
      go_ret
      exact ⟨rfl, rfl⟩
  have H : Hid _ := h65
  clear h65
  go_enter Tryz.func140, Tryz.ntmps140
  go_wp2_with fail
  refine Calls.mono H.out ?_
  rintro e w1 ⟨rfl, hw⟩
  subst hw
  go_wp2_with fail
  go_ret
  exact ⟨rfl, rfl⟩
set_option maxHeartbeats 1000000 in
theorem empty68 (ad : Option Addr) (cap : Nat) (f : Value) (w : World) : Calls Tryz.prog 197 #[.slice ad 0 cap, f] w fun e w' => e = .returned (.bool false) ∧ w' = w := by
  have h65 : Calls Tryz.prog 233 #[.slice ad 0 cap, f] w fun e w' => e = .returned (.int .i64 (-1)) ∧ w' = w := by
    go_enter Tryz.func233, Tryz.ntmps233
    go_wp2_with fail
    go_loopw [8] (fun v8 wr => v8 = .int .i64 0 ∧ wr = w) (fun _ _ => 0)
    case atStart => exact ⟨rfl, rfl⟩
    case round =>
      obtain ⟨rfl, rfl⟩ := hrel
      go_wp2_with fail
      go_ret
      exact ⟨rfl, rfl⟩
  have H : Hid _ := h65
  clear h65
  go_enter Tryz.func197, Tryz.ntmps197
  go_wp2_with fail
  refine Calls.mono H.out ?_
  rintro e w1 ⟨rfl, hw⟩
  subst hw
  go_wp2_with fail
  go_ret
  exact ⟨rfl, rfl⟩
theorem many_any (v : Value) (Y : List (Rw × Value)) (w : World) (h : RwAt w v Y) (hl : Y.length < 4294967296) :
    Calls Tryz.prog 140 #[v, .func (.func 141) #[] #[]] w fun e w' => e = .returned (.bool ((Y.map Prod.fst).any manyB)) ∧ Below w.heap.size w w' := by
  obtain ⟨_⟩ := inhRz
  obtain ⟨Z, rfl⟩ := rz_of Y (fun p hp => (h.2 p hp).form)
  rcases h.1 with ⟨h0, ad, cap, rfl⟩ | ⟨g, o, cap, hv, h2, h3, h4⟩
  · have hZ : Z = [] := by simpa using h0
    subst hZ
    exact (empty44 ad cap _ w).mono fun e w' ⟨he, hw⟩ => ⟨he, by rw [hw]; exact Below.refl _ _⟩
  · obtain rfl : v = .slice (some ⟨g, o, none⟩) Z.length cap := by rw [hv]; simp
    refine (AnyQ.slices_ContainsFunc Tryz.cf140 7 Tryz.isAgg80 Tryz.sizeOf80 rzC (fun _ => rfl) (fun z => manyB z.1) 141 #[] (enters_of Tryz.func141 (by kernel_rfl) rfl) g o Z.length cap Z w (manyArgs_at w) (Nat.le_refl _) (by simp at hl; omega) h3 ?_).mono ?_
    · intro j hj i u hu
      refine h4 j (rzC Z[j]!) ?_ i u hu
      rw [getElem!_pos Z j hj, List.getElem?_map, List.getElem?_map, List.getElem?_eq_getElem hj]
      rfl
    · rintro e w' ⟨rfl, hb⟩
      refine ⟨ret_bool ?_, hb⟩
      rw [List.take_length, List.map_map, List.any_map]
      rfl
end Go.Proofs.YtfafhjglcaikoaaGreatDoor
