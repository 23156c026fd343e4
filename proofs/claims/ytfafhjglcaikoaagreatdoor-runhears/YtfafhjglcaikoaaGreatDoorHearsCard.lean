/- For every text: what is said into a pipe, or stands in a file or a text, is what is heard behind it (RunHears, a tied card). -/
import Derived.Test.YtfafhjglcaikoaaGreatDoorCards
import Derived.Test.YtfafhjglcaikoaaGreatDoorTie
import Derived.Test.YtfafhjglcaikoaaGreatDoorR48
import Derived.Test.YtfafhjglcaikoaaGreatDoorLdE
import Derived.Test.YtfafhjglcaikoaaGreatDoorOTx
import Derived.ProofKit
import Derived.Carry
import Derived.LaidMore
import Derived.OpenShut
import Derived.Lay
import Derived.Below
import Derived.Stop.Joined
import Derived.Stop.LaidErr
import Derived.Stop.LaidTwo
import Derived.Lib.LaidTab
import Derived.SevenTiedAt
namespace Go.Proofs.YtfafhjglcaikoaaGreatDoor.cardRunHears
open Go.ChangeShapes Go.WideShapes Go.ChangeAt Go.WideMaps Go.WideElems Go.RowKit
open Go.ChangeMaps (open_string shut_string)

theorem own : ownKnob Tryz.prog.godebug = none := by kernel_rfl
theorem g10 : Tryz.prog.globalNamed (Rows.runHearsRow.named.getD 8 default) = some 10 := by kernel_rfl
theorem t10 : (Tryz.prog.globals[10]?).map (·.type) = some 51 := by kernel_rfl
theorem g6 : Tryz.prog.globalNamed (Rows.runHearsRow.named.getD 4 default) = some 6 := by kernel_rfl
theorem t6 : (Tryz.prog.globals[6]?).map (·.type) = some 51 := by kernel_rfl
theorem g9 : Tryz.prog.globalNamed (Rows.runHearsRow.named.getD 7 default) = some 9 := by kernel_rfl
theorem t9 : (Tryz.prog.globals[9]?).map (·.type) = some 51 := by kernel_rfl
theorem g5 : Tryz.prog.globalNamed (Rows.runHearsRow.named.getD 3 default) = some 5 := by kernel_rfl
theorem t5 : (Tryz.prog.globals[5]?).map (·.type) = some 51 := by kernel_rfl
theorem g4 : Tryz.prog.globalNamed (Rows.runHearsRow.named.getD 2 default) = some 4 := by kernel_rfl
theorem t4 : (Tryz.prog.globals[4]?).map (·.type) = some 51 := by kernel_rfl
theorem g2 : Tryz.prog.globalNamed (Rows.runHearsRow.named.getD 0 default) = some 2 := by kernel_rfl
theorem t2 : (Tryz.prog.globals[2]?).map (·.type) = some 51 := by kernel_rfl
theorem g0 : Tryz.prog.globalNamed (Rows.runHearsRow.named.getD 1 default) = some 0 := by kernel_rfl
theorem t0 : (Tryz.prog.globals[0]?).map (·.type) = some 51 := by kernel_rfl
theorem g1 : Tryz.prog.globalNamed (Rows.runHearsRow.named.getD 10 default) = some 1 := by kernel_rfl
theorem t1 : (Tryz.prog.globals[1]?).map (·.type) = some 51 := by kernel_rfl
theorem g8 : Tryz.prog.globalNamed (Rows.runHearsRow.named.getD 9 default) = some 8 := by kernel_rfl
theorem t8 : (Tryz.prog.globals[8]?).map (·.type) = some 51 := by kernel_rfl
theorem g7 : Tryz.prog.globalNamed (Rows.runHearsRow.named.getD 15 default) = some 7 := by kernel_rfl
theorem t7 : (Tryz.prog.globals[7]?).map (·.type) = some 51 := by kernel_rfl
theorem star : "*" ++ "errors.errorString" = "*errors.errorString" := by decide
theorem rowErr (u : TypeId) (h : Tryz.prog.typeName? 3 u = some "*errors.errorString") : u = 368 :=
  typeName_ptr_named (nm := "errors.errorString") (by rw [star]; kernel_rfl) (by kernel_rfl) (by decide) u (by rw [star]; exact h)
theorem c125 : Tryz.prog.cellsOf 383 = 1 := by kernel_rfl
theorem cell9 : Tryz.prog.cellsOf 9 = 1 := by kernel_rfl
/-- What the row's list gives: the sentinels are pointers, others each. -/
theorem err_of {W : World} (h : laidMetH Tryz.prog Rows.runHearsRow.laid W) : ∃ ea, ErX W ea := by
  rw [MakeChecks.laidMetH_plain _ _ _ (by kernel_rfl)] at h
  obtain ⟨a10, a6, s10, s6, c10, c6, u10, u6, v10, v6, x10, y10, _, x6, y6, _, _, z10, z6⟩ := laid_sentinels2 ((laidMet.tail (laidMet.tail (laidMet.tail (laidMet.tail h))))) g10 t10 g6 t6 Tryz.underlying51 rowErr Tryz.underlying368 Tryz.underlying383 rfl rfl Tryz.underlying9 c125 cell9
  obtain ⟨a9, a5, s9, s5, c9, c5, u9, u5, v9, v5, x9, y9, _, x5, y5, _, _, z9, z5⟩ := laid_sentinels2 ((laidMet.tail (laidMet.tail (laidMet.tail (laidMet.tail (laidMet.tail (laidMet.tail h))))))) g9 t9 g5 t5 Tryz.underlying51 rowErr Tryz.underlying368 Tryz.underlying383 rfl rfl Tryz.underlying9 c125 cell9
  obtain ⟨a4, a2, s4, s2, c4, c2, u4, u2, v4, v2, x4, y4, _, x2, y2, _, _, z4, z2⟩ := laid_sentinels2 ((laidMet.tail (laidMet.tail (laidMet.tail (laidMet.tail (laidMet.tail (laidMet.tail (laidMet.tail (laidMet.tail h))))))))) g4 t4 g2 t2 Tryz.underlying51 rowErr Tryz.underlying368 Tryz.underlying383 rfl rfl Tryz.underlying9 c125 cell9
  obtain ⟨a0, a1, s0, s1, c0, c1, u0, u1, v0, v1, x0, y0, _, x1, y1, _, _, z0, z1⟩ := laid_sentinels2 ((laidMet.tail (laidMet.tail (laidMet.tail (laidMet.tail (laidMet.tail (laidMet.tail (laidMet.tail (laidMet.tail (laidMet.tail (laidMet.tail h))))))))))) g0 t0 g1 t1 Tryz.underlying51 rowErr Tryz.underlying368 Tryz.underlying383 rfl rfl Tryz.underlying9 c125 cell9
  obtain ⟨a8, a7, s8, s7, c8, c7, u8, u7, v8, v7, x8, y8, _, x7, y7, _, _, z8, z7⟩ := laid_sentinels2 ((laidMet.tail (laidMet.tail (laidMet.tail (laidMet.tail (laidMet.tail (laidMet.tail (laidMet.tail (laidMet.tail (laidMet.tail (laidMet.tail (laidMet.tail (laidMet.tail h))))))))))))) g8 t8 g7 t7 Tryz.underlying51 rowErr Tryz.underlying368 Tryz.underlying383 rfl rfl Tryz.underlying9 c125 cell9
  refine ⟨fun i => match i with | 0 => a0 | 1 => a1 | 2 => a2 | 4 => a4 | 5 => a5 | 6 => a6 | 7 => a7 | 8 => a8 | 9 => a9 | 10 => a10 | _ => a10, erx_of fun i hi => ?_⟩
  match i, hi with
  | 0, _ => exact ⟨by simpa using World.var?_cell g0 v0 0, ⟨s0, x0, y0⟩, c0, u0, z0⟩
  | 1, _ => exact ⟨by simpa using World.var?_cell g1 v1 0, ⟨s1, x1, y1⟩, c1, u1, z1⟩
  | 2, _ => exact ⟨by simpa using World.var?_cell g2 v2 0, ⟨s2, x2, y2⟩, c2, u2, z2⟩
  | 4, _ => exact ⟨by simpa using World.var?_cell g4 v4 0, ⟨s4, x4, y4⟩, c4, u4, z4⟩
  | 5, _ => exact ⟨by simpa using World.var?_cell g5 v5 0, ⟨s5, x5, y5⟩, c5, u5, z5⟩
  | 6, _ => exact ⟨by simpa using World.var?_cell g6 v6 0, ⟨s6, x6, y6⟩, c6, u6, z6⟩
  | 7, _ => exact ⟨by simpa using World.var?_cell g7 v7 0, ⟨s7, x7, y7⟩, c7, u7, z7⟩
  | 8, _ => exact ⟨by simpa using World.var?_cell g8 v8 0, ⟨s8, x8, y8⟩, c8, u8, z8⟩
  | 9, _ => exact ⟨by simpa using World.var?_cell g9 v9 0, ⟨s9, x9, y9⟩, c9, u9, z9⟩
  | 10, _ => exact ⟨by simpa using World.var?_cell g10 v10 0, ⟨s10, x10, y10⟩, c10, u10, z10⟩
  | 3, h => exact absurd rfl h.2
  | n + 11, h => exact absurd h.1 (by omega)
theorem g64 : Tryz.prog.globalNamed (Rows.runHearsRow.named.getD 13 default) = some 16 := by kernel_rfl
theorem t64 : (Tryz.prog.globals[16]?).map (·.type) = some 367 := by kernel_rfl
theorem c64 : Tryz.prog.cellsOf 367 = 64 := by kernel_rfl
theorem cU : Tryz.prog.cellsOf 5 = 1 := by kernel_rfl
theorem d64 : (Rows.laid_math_bits_deBruijn64tab : DataW Unit) = Lib.tabData .u8 tab64 := by kernel_rfl
/-- What the row's list gives: a table lies in the last variable, so the world has as many blocks. -/
theorem size_of {W : World} (h : laidMetH Tryz.prog Rows.runHearsRow.laid W) : 17 ≤ W.heap.size := by
  rw [MakeChecks.laidMetH_plain _ _ _ (by kernel_rfl)] at h
  have h2 := laidMet.tail h
  rw [d64] at h2
  have hp := Lib.tabIs_of_head g64 t64 Tryz.underlying367 Tryz.underlying5 cU c64 h2
  have hc := Lib.TabIs.cell hp g64 0 (by decide)
  have := World.block_lt_of_cell? W _ hc
  exact this

set_option maxRecDepth 100000 in
theorem lifted (os : Os) (started : os.Started) (H : Type) (enc : TypeId × Value → H) :
    ReturnsInHanded {} Tryz.checked os 5 .any (fun w args => (Rows.runHearsSpec.pre enc Tryz.prog Tryz.f5 [] false w args ∧ laidMetH Tryz.prog Rows.runHearsRow.laid w) ∧ sizedMet enc Tryz.prog Tryz.f5 (OpenSpec.ofChange Rows.runHearsSpec) false w args)
      (Rows.runHearsSpec.post enc Tryz.prog Tryz.f5 false true false false) := by
  refine returnsInHanded_of_change_and (C := Tryz.checked) (X := fun w _ => laidMetH Tryz.prog Rows.runHearsRow.laid w) (fun _ _ _ hh h => h.of_heap hh) own started (by kernel_rfl) Tryz.func5
    (ChangeSpec.witness_shaped (enc := enc) (C := Tryz.checked) (os := os) (X := fun w _ => laidMetH Tryz.prog Rows.runHearsRow.laid w) false (World.laidAll Tryz.prog os Rows.runHearsRow.laid) #[.string ⟨#[]⟩] 8 (World.laidAll_os _ _ _) (World.shaped_of_ZipB (by kernel_rfl) (by kernel_rfl)) (by kernel_rfl) (by kernel_rfl) (by kernel_rfl) (by rw [MakeChecks.laidMetH_plain _ _ _ (by kernel_rfl)]; exact laidMet_laidAll _ (by kernel_rfl) (by kernel_rfl))) ?_
  intro W base args ds gs before hval0 hW _ _ hL _
  have hval : ∀ (j : Nat) t v, Tryz.f5.params[j]? = some t → args[j]? = some v → Value.okWide Tryz.prog W .any base t v := hval0
  have hW' := hW
  obtain ⟨p, q, hA0, hV, rfl, hfz, hnd⟩ := hW
  have hA : DataW.TrodAll enc Tryz.prog W 0 (fun _ => true) true Tryz.f5.params.toList args.toList ds p := hA0
  rw [Tryz.params5] at hA hval
  obtain ⟨v0, vs0, d0, ds0, p0, q0, hargs, rfl, rfl, h0, r0⟩ := trodAll_cons hA
  obtain ⟨rfl, rfl, rfl⟩ := trodAll_nil r0
  obtain rfl : args = #[v0] := by cases args; simp_all
  obtain ⟨rfl, rfl⟩ := trodVars_none hV
  obtain ⟨x0, rfl, rfl, rfl, w0⟩ := open_string Tryz.underlying9 (hval 0 9 v0 rfl rfl) h0
  clear hA0 hval0
  obtain ⟨ea, hE⟩ := err_of hL
  have h17 := size_of hL
  refine (hears_any (ea := ea) x0.data.toList hE h17).mono fun e W' ⟨he, bel⟩ => ?_
  subst he
  exact ⟨_, rfl, _, _, _, [], _, [], hW', trodAll_mk1 (shut_bool Tryz.underlying4 _), (trodAll_cons_mk (shut_string Tryz.underlying9 w0) trodAll_mk0), rfl, bel.frame _, fun h => by cases h⟩

theorem k0 : (Rows.runHearsRow.wf (OpenSpec.ofChange Rows.runHearsSpec)) = true := by kernel_rfl
theorem k1 : (laidOutB Tryz.prog) = true := by kernel_rfl
theorem k2 : (mapsRowed Tryz.prog) = true := by kernel_rfl
theorem k3 : (Tryz.f5.params.all (Tryz.prog.readableRec ·)) = true := by kernel_rfl
theorem k4 : (namedTie Tryz.prog Rows.runHearsRow.named Rows.runHearsSpec.vars) = true := by kernel_rfl
theorem k5 : ((Rows.runHearsRow.stops == [])) = true := by kernel_rfl
theorem k6 : ((Tryz.prog.stops == [])) = true := by kernel_rfl
theorem k7 : ((Rows.runHearsRow.knobs == [])) = true := by kernel_rfl
theorem k8 : ((Tryz.prog.stopKnobs == [])) = true := by kernel_rfl
theorem k9 : ((Rows.runHearsRow.inPlace == Tryz.prog.inPlace 5)) = true := by kernel_rfl
theorem k10 : ((Rows.runHearsRow.unfollowed == Tryz.prog.unfollowed 5)) = true := by kernel_rfl
theorem k11 : ((Rows.runHearsRow.recurses == Tryz.prog.recurses 5)) = true := by kernel_rfl
theorem k12 : ((Rows.runHearsRow.named == Tryz.prog.varsNamed 5)) = true := by kernel_rfl
theorem k13 : ((Rows.runHearsRow.maps == (Tryz.f5.params.toList ++ Rows.runHearsSpec.plain.varTypes Tryz.prog).any (Tryz.prog.mapsRec ·))) = true := by kernel_rfl
theorem k14 : ((Rows.runHearsRow.ifaces == (Tryz.f5.params.toList ++ Rows.runHearsSpec.plain.varTypes Tryz.prog).any (Tryz.prog.ifacesRec ·))) = true := by kernel_rfl
theorem k15 : ((Rows.runHearsRow.mapsOut == Tryz.prog.mapsAmong Tryz.f5.resultTypes.toList)) = true := by kernel_rfl
theorem k16 : ((Rows.runHearsRow.loops == (Tryz.f5.params.toList ++ Rows.runHearsSpec.plain.varTypes Tryz.prog).any (Tryz.prog.loopsFrom ·))) = true := by kernel_rfl
theorem k17 : ((Rows.runHearsRow.wideKeys == (Tryz.f5.params.toList ++ Rows.runHearsSpec.plain.varTypes Tryz.prog ++ Tryz.f5.resultTypes.toList).any (Tryz.prog.wideKeysFrom ·))) = true := by kernel_rfl
theorem k18 : (Rows.runHearsSpec.vars.all (Tryz.prog.varReadable ·)) = true := by kernel_rfl
theorem k19 : (Tryz.f5.resultTypes.all (fun t => Tryz.prog.readableRec t && decide (t < Tryz.prog.types.size))) = true := by kernel_rfl
theorem k20 : ((Rows.runHearsRow.ifacesOut == Tryz.f5.resultTypes.toList.any (Tryz.prog.ifacesRec ·))) = true := by kernel_rfl
theorem k21 : ((Rows.runHearsRow.loopsOut == Tryz.f5.resultTypes.toList.any (Tryz.prog.loopsFrom ·))) = true := by kernel_rfl
theorem k22 : ((Rows.runHearsRow.plainKeys == Tryz.prog.plainKeys)) = true := by kernel_rfl
theorem k23 : (Rows.runHearsRow.shortTexts.isNone) = true := by kernel_rfl
theorem k24 : (Tryz.prog.stopsHeard) = true := by kernel_rfl
theorem k25 : (Tryz.prog.mayEnter) = true := by kernel_rfl
theorem k26 : ((Rows.runHearsRow.lifted == Tryz.prog.liftsFinal)) = true := by kernel_rfl
theorem k27 : ((Tryz.prog.make == some Rows.runHearsRow.make)) = true := by kernel_rfl
theorem k29 : ((Rows.runHearsRow.pinned == Rows.runHearsRow.pinnedBy)) = true := by kernel_rfl
theorem k30 : ((Rows.runHearsRow.veiled == (Tryz.f5.params.toList ++ Rows.runHearsSpec.plain.varTypes Tryz.prog ++ Tryz.f5.resultTypes.toList).any (Tryz.prog.veiledRec ·))) = true := by kernel_rfl
theorem k31 : (Rows.runHearsRow.veiledFits Tryz.prog Tryz.f5.params.toList (Tryz.f5.params.toList ++ Rows.runHearsSpec.plain.varTypes Tryz.prog ++ Tryz.f5.resultTypes.toList)) = true := by kernel_rfl
theorem joined : joinedFacts Tryz.prog 5 Tryz.f5 Rows.runHearsSpec Rows.runHearsRow = true := joined_of k0 k1 k2 k3 k4 k5 k6 k7 k8 k9 k10 k11 k12 k13 k14 k15 k16 k17 k18 k19 k20 k21 k22 k23 k24 k25 k26 k27 (by kernel_rfl) k29 k30 k31
theorem inst : Tryz.f5.isInstance Tryz.pinned.checked.prog Rows.runHearsRow.origin Rows.runHearsRow.targs := of_decide_eq_true (by kernel_rfl)
theorem wrap : Tryz.f5.isWrapper Tryz.pinned.checked.prog Rows.runHearsRow.wrapper Rows.runHearsRow.mainSum := by unfold Func.isWrapper; first | (rw [if_pos (by decide +kernel)]; kernel_rfl) | (rw [if_neg (by decide +kernel)]; exact ⟨rfl, rfl⟩)
theorem named : Tryz.pinned.checked.prog.funcNamed Rows.runHearsRow.func = some 5 := by kernel_rfl
theorem said : Rows.RunHearsSaid :=
  OpenClaim.holds_of_wide 5 Tryz.f5 rfl rfl rfl rfl rfl rfl rfl ⟨rfl, rfl, rfl, rfl, rfl⟩ rfl rfl rfl rfl rfl named Tryz.func5 joined inst wrap (fun os started H enc _ => lifted os started H enc)

theorem plain (f : FuncId) (fn : Func) (hf : Tryz.pinned.checked.prog.funcNamed Rows.runHearsRow.func = some f) (hfn : Tryz.pinned.checked.prog.funcs[f]? = some fn) :
    true = Tryz.pinned.checked.prog.looks [] ∧ ∀ (j : Nat) t, fn.params[j]? = some t → Tryz.pinned.checked.prog.wantsStandIn t = false := by
  obtain rfl : f = 5 := Option.some.inj ((show Tryz.prog.funcNamed Rows.runHearsRow.func = some 5 by kernel_rfl).symm.trans hf) |>.symm
  obtain rfl : fn = Tryz.f5 := (Option.some.inj (Tryz.func5.symm.trans hfn)).symm
  refine ⟨by kernel_rfl, fun j t ht => ?_⟩
  rw [Tryz.params5] at ht
  have hm : t ∈ [9] := by simpa using Array.mem_of_getElem? ht
  have hall : ([9].all fun u => !Tryz.prog.wantsStandIn u) = true := by kernel_rfl
  exact (show Tryz.prog.wantsStandIn t = false by simpa using List.all_eq_true.1 hall t hm)

theorem proved : Rows.RunHearsCardSaid :=
  Claim7.holds_tied_plain_at .later [] _ _ _ _ said (fun _ h => by cases h) (by kernel_rfl) (fun _ h => by cases h) runHears_row_tie rfl ⟨rfl, rfl⟩ (by kernel_rfl) rfl plain (by kernel_rfl)
end Go.Proofs.YtfafhjglcaikoaaGreatDoor.cardRunHears
namespace Go.Proofs.YtfafhjglcaikoaaGreatDoor
theorem runHears_card : Rows.RunHearsCardSaid := cardRunHears.proved
#print axioms runHears_card
end Go.Proofs.YtfafhjglcaikoaaGreatDoor
