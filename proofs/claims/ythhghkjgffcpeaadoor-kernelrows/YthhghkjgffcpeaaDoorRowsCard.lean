/- KernelRows answers true at every two lists of texts, every number and every text, and leaves them as they were: its tied card. -/
import Derived.Test.YthhghkjgffcpeaaDoorCards
import Derived.Test.YthhghkjgffcpeaaDoorTie
import Derived.Test.YthhghkjgffcpeaaDoorRows4
import Derived.Test.YthhghkjgffcpeaaDoorOpen2
import Derived.ProofKit
import Derived.Carry
import Derived.LaidMore
import Derived.OpenShut
import Derived.Below
import Derived.Stop.Joined
import Derived.Stop.LaidErr
import Derived.SevenTiedAt
namespace Go.Proofs.YthhghkjgffcpeaaDoor.cardKernelRows
open Go.ChangeShapes Go.WideShapes Go.ChangeAt Go.WideMaps Go.WideElems Go.RowKit
open Go.ChangeMaps (open_string shut_string)

theorem own : ownKnob Tryd.prog.godebug = none := by kernel_rfl
theorem g3 : Tryd.prog.globalNamed (Rows.kernelRowsRow.named.getD 2 default) = some 3 := by kernel_rfl
theorem t3 : (Tryd.prog.globals[3]?).map (·.type) = some 32 := by kernel_rfl
theorem g2 : Tryd.prog.globalNamed (Rows.kernelRowsRow.named.getD 1 default) = some 2 := by kernel_rfl
theorem t2 : (Tryd.prog.globals[2]?).map (·.type) = some 32 := by kernel_rfl
theorem g1 : Tryd.prog.globalNamed (Rows.kernelRowsRow.named.getD 0 default) = some 1 := by kernel_rfl
theorem t1 : (Tryd.prog.globals[1]?).map (·.type) = some 32 := by kernel_rfl
theorem g0 : Tryd.prog.globalNamed (Rows.kernelRowsRow.named.getD 4 default) = some 0 := by kernel_rfl
theorem t0 : (Tryd.prog.globals[0]?).map (·.type) = some 32 := by kernel_rfl
theorem g4 : Tryd.prog.globalNamed (Rows.kernelRowsRow.named.getD 3 default) = some 4 := by kernel_rfl
theorem t4 : (Tryd.prog.globals[4]?).map (·.type) = some 32 := by kernel_rfl
theorem star : "*" ++ "errors.errorString" = "*errors.errorString" := by decide
theorem rowErr (u : TypeId) (h : Tryd.prog.typeName? 3 u = some "*errors.errorString") : u = 153 :=
  typeName_ptr_named (nm := "errors.errorString") (by rw [star]; kernel_rfl) (by kernel_rfl) (by decide) u (by rw [star]; exact h)
theorem c169 : Tryd.prog.cellsOf 169 = 1 := by kernel_rfl
/-- What the row's list gives: the sentinels are pointers. -/
theorem err_of {W : World} (h : laidMetH Tryd.prog Rows.kernelRowsRow.laid W) : ∃ ea, Ers W ea := by
  rw [MakeChecks.laidMetH_plain _ _ _ (by kernel_rfl)] at h
  obtain ⟨a3, _, v3, _⟩ := laid_sentinel h g3 t3 Tryd.underlying32 rowErr Tryd.underlying153 Tryd.underlying169 rfl rfl Tryd.underlying9 c169 cells9
  have c3 : W.cell? ⟨3, 0, none⟩ = some (errV a3) := by simpa using World.var?_cell g3 v3 0
  obtain ⟨a2, _, v2, _⟩ := laid_sentinel ((laidMet.tail h)) g2 t2 Tryd.underlying32 rowErr Tryd.underlying153 Tryd.underlying169 rfl rfl Tryd.underlying9 c169 cells9
  have c2 : W.cell? ⟨2, 0, none⟩ = some (errV a2) := by simpa using World.var?_cell g2 v2 0
  obtain ⟨a1, _, v1, _⟩ := laid_sentinel ((laidMet.tail (laidMet.tail h))) g1 t1 Tryd.underlying32 rowErr Tryd.underlying153 Tryd.underlying169 rfl rfl Tryd.underlying9 c169 cells9
  have c1 : W.cell? ⟨1, 0, none⟩ = some (errV a1) := by simpa using World.var?_cell g1 v1 0
  obtain ⟨a0, _, v0, _⟩ := laid_sentinel ((laidMet.tail (laidMet.tail (laidMet.tail h)))) g0 t0 Tryd.underlying32 rowErr Tryd.underlying153 Tryd.underlying169 rfl rfl Tryd.underlying9 c169 cells9
  have c0 : W.cell? ⟨0, 0, none⟩ = some (errV a0) := by simpa using World.var?_cell g0 v0 0
  obtain ⟨a4, _, v4, _⟩ := laid_sentinel ((laidMet.tail (laidMet.tail (laidMet.tail (laidMet.tail h))))) g4 t4 Tryd.underlying32 rowErr Tryd.underlying153 Tryd.underlying169 rfl rfl Tryd.underlying9 c169 cells9
  have c4 : W.cell? ⟨4, 0, none⟩ = some (errV a4) := by simpa using World.var?_cell g4 v4 0
  refine ⟨fun i => match i with | 0 => a0 | 1 => a1 | 2 => a2 | 3 => a3 | _ => a4, fun i hi => ?_⟩
  match i, hi with
  | 0, _ => exact ⟨c0, World.block_lt_of_cell? W _ c0⟩
  | 1, _ => exact ⟨c1, World.block_lt_of_cell? W _ c1⟩
  | 2, _ => exact ⟨c2, World.block_lt_of_cell? W _ c2⟩
  | 3, _ => exact ⟨c3, World.block_lt_of_cell? W _ c3⟩
  | 4, _ => exact ⟨c4, World.block_lt_of_cell? W _ c4⟩


/-- The door's own heap meets the condition. -/
theorem door (os : Os) (args : Array Value) : laidMetH Tryd.prog Rows.kernelRowsRow.laid ((World.doorLaid Tryd.prog 332 os).forCall (fun _ _ => 0) ⟨#[], args, []⟩).memory :=
  laidMetH_of_parts3 (fuel := 8) (laidMet_of_run' 8 (by kernel_rfl) (by kernel_rfl)) (by kernel_rfl) (by kernel_rfl)

set_option maxRecDepth 100000 in
theorem lifted (os : Os) (started : os.Started) (H : Type) (enc : TypeId × Value → H) :
    ReturnsInHanded {} Tryd.checked os 7 .any (fun w args => (Rows.kernelRowsSpec.pre enc Tryd.prog Tryd.f7 [] false w args ∧ laidMetH Tryd.prog Rows.kernelRowsRow.laid w) ∧ sizedMet enc Tryd.prog Tryd.f7 (OpenSpec.ofChange Rows.kernelRowsSpec) false w args)
      (Rows.kernelRowsSpec.post enc Tryd.prog Tryd.f7 false true false false) := by
  refine returnsInHanded_of_change_and (C := Tryd.checked) (X := fun w _ => laidMetH Tryd.prog Rows.kernelRowsRow.laid w) (fun _ _ _ hh h => h.of_heap hh) own started (by kernel_rfl) Tryd.func7
    (ChangeSpec.witness_shaped (enc := enc) (C := Tryd.checked) (os := os) (X := fun w _ => laidMetH Tryd.prog Rows.kernelRowsRow.laid w) false (World.doorLaid Tryd.prog 332 os) #[.slice none 0 0, .slice none 0 0, .int .i64 0, .string ⟨#[]⟩] 8 rfl (World.shaped_of_RefB (by kernel_rfl) (by kernel_rfl)) (by kernel_rfl) (by kernel_rfl) (by kernel_rfl) (door os _)) ?_
  intro W base args ds gs before hval0 hW _ hsz0 hL _
  have hval : ∀ (j : Nat) t v, Tryd.f7.params[j]? = some t → args[j]? = some v → Value.okWide Tryd.prog W .any base t v := hval0
  have hsz : (DataW.weightsEach Tryd.prog (Tryd.f7.params.toList ++ Rows.kernelRowsSpec.plain.varTypes Tryd.prog) (ds ++ gs)).all (· ≤ reachBytes) = true := hsz0
  have hW' := hW
  obtain ⟨p, q, hA0, hV, rfl, hfz, hnd⟩ := hW
  have hA : DataW.TrodAll enc Tryd.prog W 0 (fun _ => true) true Tryd.f7.params.toList args.toList ds p := hA0
  rw [Tryd.params7] at hA hval hsz
  obtain ⟨v0, vs0, d0, ds0, p0, q0, hargs, rfl, rfl, h0, r0⟩ := trodAll_cons hA
  obtain ⟨v1, vs1, d1, ds1, p1, q1, rfl, rfl, rfl, h1, r1⟩ := trodAll_cons r0
  obtain ⟨v2, vs2, d2, ds2, p2, q2, rfl, rfl, rfl, h2, r2⟩ := trodAll_cons r1
  obtain ⟨v3, vs3, d3, ds3, p3, q3, rfl, rfl, rfl, h3, r3⟩ := trodAll_cons r2
  obtain ⟨rfl, rfl, rfl⟩ := trodAll_nil r3
  obtain rfl : args = #[v0, v1, v2, v3] := by cases args; simp_all
  obtain ⟨rfl, rfl⟩ := trodVars_none hV
  obtain ⟨a0, len0, cap0, rfl⟩ := okWide_slice Tryd.underlying39 (hval 0 39 v0 rfl rfl)
  have k0 := h0
  have lt0 : ∀ x ∈ p0, x.block < W.heap.size := by obtain ⟨m, hm⟩ := k0; exact DataW.trod_lt m _ _ _ hm
  obtain ⟨fuel0, hf0⟩ := h0
  obtain ⟨x0, t0, n0, z0⟩ := open_tx hf0 (fun n hn => by have := List.all_eq_true.1 hsz n (DataW.weights_mem_each (j := 0) rfl rfl n hn); simpa using this)
  obtain ⟨a1, len1, cap1, rfl⟩ := okWide_slice Tryd.underlying39 (hval 1 39 v1 rfl rfl)
  have k1 := h1
  have lt1 : ∀ x ∈ p1, x.block < W.heap.size := by obtain ⟨m, hm⟩ := k1; exact DataW.trod_lt m _ _ _ hm
  obtain ⟨fuel1, hf1⟩ := h1
  obtain ⟨x1, t1, n1, z1⟩ := open_tx hf1 (fun n hn => by have := List.all_eq_true.1 hsz n (DataW.weights_mem_each (j := 1) rfl rfl n hn); simpa using this)
  obtain ⟨x2, rfl, rfl, rfl, w2⟩ := open_int Tryd.underlying3 (hval 2 3 v2 rfl rfl) h2
  obtain ⟨x3, rfl, rfl, rfl, w3⟩ := open_string Tryd.underlying9 (hval 3 9 v3 rfl rfl) h3
  clear hA0 hval0
  obtain ⟨ea, hE⟩ := err_of hL
  refine (rows_main _ _ x0 x1 x2 x3.data.toList ea W t0 t1 n0 n1 z0 z1 hE).mono fun e W' ⟨he, bel⟩ => ?_
  subst he
  exact ⟨_, rfl, _, _, _, [], _, [], hW', trodAll_mk1 (shut_bool Tryd.underlying4 _), (trodAll_cons_mk (Below.trod laidOut3 (by kernel_rfl) (of_decide_eq_true (by kernel_rfl)) k0 bel lt0) (trodAll_cons_mk (Below.trod laidOut3 (by kernel_rfl) (of_decide_eq_true (by kernel_rfl)) k1 bel lt1) (trodAll_cons_mk (shut_int Tryd.underlying3 w2) (trodAll_cons_mk (shut_string Tryd.underlying9 w3) trodAll_mk0)))), rfl, bel.frame _, fun h => by cases h⟩

theorem said : Rows.KernelRowsSaid :=
  OpenClaim.holds_of_wide 7 Tryd.f7 rfl rfl rfl rfl rfl rfl rfl ⟨rfl, rfl, rfl, rfl, rfl⟩ rfl rfl rfl rfl rfl (by kernel_rfl) Tryd.func7 (by kernel_rfl)
    (of_decide_eq_true (by kernel_rfl)) (by unfold Func.isWrapper; first | (rw [if_pos (by decide +kernel)]; kernel_rfl) | (rw [if_neg (by decide +kernel)]; exact ⟨rfl, rfl⟩))
    (fun os started H enc _ => lifted os started H enc)

theorem plain (f : FuncId) (fn : Func) (hf : Tryd.pinned.checked.prog.funcNamed Rows.kernelRowsRow.func = some f) (hfn : Tryd.pinned.checked.prog.funcs[f]? = some fn) :
    true = Tryd.pinned.checked.prog.looks [] ∧ ∀ (j : Nat) t, fn.params[j]? = some t → Tryd.pinned.checked.prog.wantsStandIn t = false := by
  obtain rfl : f = 7 := Option.some.inj ((show Tryd.prog.funcNamed Rows.kernelRowsRow.func = some 7 by kernel_rfl).symm.trans hf) |>.symm
  obtain rfl : fn = Tryd.f7 := (Option.some.inj (Tryd.func7.symm.trans hfn)).symm
  refine ⟨by kernel_rfl, fun j t ht => ?_⟩
  rw [Tryd.params7] at ht
  have hm : t ∈ [39, 39, 3, 9] := by simpa using Array.mem_of_getElem? ht
  have hall : ([39, 39, 3, 9].all fun u => !Tryd.prog.wantsStandIn u) = true := by kernel_rfl
  exact (show Tryd.prog.wantsStandIn t = false by simpa using List.all_eq_true.1 hall t hm)

theorem proved : Rows.KernelRowsCardSaid :=
  Claim7.holds_tied_plain_at .later [] _ _ _ _ said (fun _ h => by cases h) (by kernel_rfl) (fun _ h => by cases h) kernelRows_row_tie rfl ⟨rfl, rfl⟩ (by kernel_rfl) rfl plain (by kernel_rfl)
end Go.Proofs.YthhghkjgffcpeaaDoor.cardKernelRows
namespace Go.Proofs.YthhghkjgffcpeaaDoor
theorem kernelRows_card : Rows.KernelRowsCardSaid := cardKernelRows.proved
#print axioms kernelRows_card
end Go.Proofs.YthhghkjgffcpeaaDoor
