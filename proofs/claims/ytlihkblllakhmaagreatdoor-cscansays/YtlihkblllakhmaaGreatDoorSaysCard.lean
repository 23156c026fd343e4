/- For every text, its commands, or its error and its place, and each word's text, are what the document says (CscanSays, a tied card). The law asks this of texts of at most 1500 bytes, and of those of more than 8192 (both answer there that the text is too long); it answers true for all others. -/
import Derived.Test.YtlihkblllakhmaaGreatDoorCards
import Derived.Test.YtlihkblllakhmaaGreatDoorTie
import Derived.Test.YtlihkblllakhmaaGreatDoorSays
import Derived.Test.YtlihkblllakhmaaGreatDoorLaidE
import Derived.ProofKit
import Derived.Carry
import Derived.LaidMore
import Derived.OpenShut
import Derived.Lay
import Derived.Below
import Derived.Stop.Joined
import Derived.Stop.LaidErr
import Derived.Stop.LaidTwo
import Derived.SevenTiedAt
namespace Go.Proofs.YtlihkblllakhmaaGreatDoor.cardCscanSays
open Go.ChangeShapes Go.WideShapes Go.ChangeAt Go.WideMaps Go.WideElems Go.RowKit
open Go.ChangeMaps (open_string shut_string)

theorem own : ownKnob Tryz.prog.godebug = none := by kernel_rfl
theorem g0 : Tryz.prog.globalNamed (Rows.cscanSaysRow.named.getD 0 default) = some 0 := by kernel_rfl
theorem t0 : (Tryz.prog.globals[0]?).map (·.type) = some 25 := by kernel_rfl
theorem g4 : Tryz.prog.globalNamed (Rows.cscanSaysRow.named.getD 6 default) = some 4 := by kernel_rfl
theorem t4 : (Tryz.prog.globals[4]?).map (·.type) = some 25 := by kernel_rfl
theorem g2 : Tryz.prog.globalNamed (Rows.cscanSaysRow.named.getD 3 default) = some 2 := by kernel_rfl
theorem t2 : (Tryz.prog.globals[2]?).map (·.type) = some 25 := by kernel_rfl
theorem g5 : Tryz.prog.globalNamed (Rows.cscanSaysRow.named.getD 4 default) = some 5 := by kernel_rfl
theorem t5 : (Tryz.prog.globals[5]?).map (·.type) = some 25 := by kernel_rfl
theorem g1 : Tryz.prog.globalNamed (Rows.cscanSaysRow.named.getD 1 default) = some 1 := by kernel_rfl
theorem t1 : (Tryz.prog.globals[1]?).map (·.type) = some 25 := by kernel_rfl
theorem g6 : Tryz.prog.globalNamed (Rows.cscanSaysRow.named.getD 5 default) = some 6 := by kernel_rfl
theorem t6 : (Tryz.prog.globals[6]?).map (·.type) = some 25 := by kernel_rfl
theorem g3 : Tryz.prog.globalNamed (Rows.cscanSaysRow.named.getD 2 default) = some 3 := by kernel_rfl
theorem t3 : (Tryz.prog.globals[3]?).map (·.type) = some 25 := by kernel_rfl
theorem g7 : Tryz.prog.globalNamed (Rows.cscanSaysRow.named.getD 7 default) = some 7 := by kernel_rfl
theorem t7 : (Tryz.prog.globals[7]?).map (·.type) = some 25 := by kernel_rfl
theorem g8 : Tryz.prog.globalNamed (Rows.cscanSaysRow.named.getD 8 default) = some 8 := by kernel_rfl
theorem t8 : (Tryz.prog.globals[8]?).map (·.type) = some 25 := by kernel_rfl
theorem g9 : Tryz.prog.globalNamed (Rows.cscanSaysRow.named.getD 9 default) = some 9 := by kernel_rfl
theorem t9 : (Tryz.prog.globals[9]?).map (·.type) = some 25 := by kernel_rfl
theorem g10 : Tryz.prog.globalNamed (Rows.cscanSaysRow.named.getD 10 default) = some 10 := by kernel_rfl
theorem t10 : (Tryz.prog.globals[10]?).map (·.type) = some 25 := by kernel_rfl
theorem g11 : Tryz.prog.globalNamed (Rows.cscanSaysRow.named.getD 11 default) = some 11 := by kernel_rfl
theorem t11 : (Tryz.prog.globals[11]?).map (·.type) = some 25 := by kernel_rfl
theorem g12 : Tryz.prog.globalNamed (Rows.cscanSaysRow.named.getD 12 default) = some 12 := by kernel_rfl
theorem t12 : (Tryz.prog.globals[12]?).map (·.type) = some 25 := by kernel_rfl
theorem g13 : Tryz.prog.globalNamed (Rows.cscanSaysRow.named.getD 13 default) = some 13 := by kernel_rfl
theorem t13 : (Tryz.prog.globals[13]?).map (·.type) = some 25 := by kernel_rfl
theorem g14 : Tryz.prog.globalNamed (Rows.cscanSaysRow.named.getD 14 default) = some 14 := by kernel_rfl
theorem t14 : (Tryz.prog.globals[14]?).map (·.type) = some 25 := by kernel_rfl
theorem g15 : Tryz.prog.globalNamed (Rows.cscanSaysRow.named.getD 15 default) = some 15 := by kernel_rfl
theorem t15 : (Tryz.prog.globals[15]?).map (·.type) = some 25 := by kernel_rfl
theorem g16 : Tryz.prog.globalNamed (Rows.cscanSaysRow.named.getD 16 default) = some 16 := by kernel_rfl
theorem t16 : (Tryz.prog.globals[16]?).map (·.type) = some 25 := by kernel_rfl
theorem star : "*" ++ "errors.errorString" = "*errors.errorString" := by decide
theorem rowErr (u : TypeId) (h : Tryz.prog.typeName? 3 u = some "*errors.errorString") : u = 195 :=
  typeName_ptr_named (nm := "errors.errorString") (by rw [star]; kernel_rfl) (by kernel_rfl) (by decide) u (by rw [star]; exact h)
theorem c125 : Tryz.prog.cellsOf 230 = 1 := by kernel_rfl
theorem cell9 : Tryz.prog.cellsOf 9 = 1 := by kernel_rfl
/-- What the row's list gives: the sentinels are pointers, others each. -/
theorem err_of {W : World} (h : laidMetH Tryz.prog Rows.cscanSaysRow.laid W) (hsh : W.ShapedOpen Tryz.prog) : ∃ ea, Env W ea ∧ (ea 64).block ≤ W.heap.size := by
  rw [MakeChecks.laidMetH_plain _ _ _ (by kernel_rfl)] at h
  obtain ⟨a0, a4, s0, s4, c0, c4, u0, u4, v0, v4, x0, y0, _, x4, y4, _, _, z0, z4⟩ := laid_sentinels2 (h) g0 t0 g4 t4 Tryz.underlying25 rowErr Tryz.underlying195 Tryz.underlying230 rfl rfl Tryz.underlying9 c125 cell9
  obtain ⟨a2, a5, s2, s5, c2, c5, u2, u5, v2, v5, x2, y2, _, x5, y5, _, _, z2, z5⟩ := laid_sentinels2 ((laidMet.tail (laidMet.tail h))) g2 t2 g5 t5 Tryz.underlying25 rowErr Tryz.underlying195 Tryz.underlying230 rfl rfl Tryz.underlying9 c125 cell9
  obtain ⟨a1, a6, s1, s6, c1, c6, u1, u6, v1, v6, x1, y1, _, x6, y6, _, _, z1, z6⟩ := laid_sentinels2 ((laidMet.tail (laidMet.tail (laidMet.tail (laidMet.tail h))))) g1 t1 g6 t6 Tryz.underlying25 rowErr Tryz.underlying195 Tryz.underlying230 rfl rfl Tryz.underlying9 c125 cell9
  obtain ⟨a3, a7, s3, s7, c3, c7, u3, u7, v3, v7, x3, y3, _, x7, y7, _, _, z3, z7⟩ := laid_sentinels2 ((laidMet.tail (laidMet.tail (laidMet.tail (laidMet.tail (laidMet.tail (laidMet.tail h))))))) g3 t3 g7 t7 Tryz.underlying25 rowErr Tryz.underlying195 Tryz.underlying230 rfl rfl Tryz.underlying9 c125 cell9
  obtain ⟨a8, a9, s8, s9, c8, c9, u8, u9, v8, v9, x8, y8, _, x9, y9, _, _, z8, z9⟩ := laid_sentinels2 ((laidMet.tail (laidMet.tail (laidMet.tail (laidMet.tail (laidMet.tail (laidMet.tail (laidMet.tail (laidMet.tail h))))))))) g8 t8 g9 t9 Tryz.underlying25 rowErr Tryz.underlying195 Tryz.underlying230 rfl rfl Tryz.underlying9 c125 cell9
  obtain ⟨a10, a11, s10, s11, c10, c11, u10, u11, v10, v11, x10, y10, _, x11, y11, _, _, z10, z11⟩ := laid_sentinels2 ((laidMet.tail (laidMet.tail (laidMet.tail (laidMet.tail (laidMet.tail (laidMet.tail (laidMet.tail (laidMet.tail (laidMet.tail (laidMet.tail h))))))))))) g10 t10 g11 t11 Tryz.underlying25 rowErr Tryz.underlying195 Tryz.underlying230 rfl rfl Tryz.underlying9 c125 cell9
  obtain ⟨a12, a13, s12, s13, c12, c13, u12, u13, v12, v13, x12, y12, _, x13, y13, _, _, z12, z13⟩ := laid_sentinels2 ((laidMet.tail (laidMet.tail (laidMet.tail (laidMet.tail (laidMet.tail (laidMet.tail (laidMet.tail (laidMet.tail (laidMet.tail (laidMet.tail (laidMet.tail (laidMet.tail h))))))))))))) g12 t12 g13 t13 Tryz.underlying25 rowErr Tryz.underlying195 Tryz.underlying230 rfl rfl Tryz.underlying9 c125 cell9
  obtain ⟨a14, a15, s14, s15, c14, c15, u14, u15, v14, v15, x14, y14, _, x15, y15, _, _, z14, z15⟩ := laid_sentinels2 ((laidMet.tail (laidMet.tail (laidMet.tail (laidMet.tail (laidMet.tail (laidMet.tail (laidMet.tail (laidMet.tail (laidMet.tail (laidMet.tail (laidMet.tail (laidMet.tail (laidMet.tail (laidMet.tail h))))))))))))))) g14 t14 g15 t15 Tryz.underlying25 rowErr Tryz.underlying195 Tryz.underlying230 rfl rfl Tryz.underlying9 c125 cell9
  obtain ⟨_, a16, _, s16, _, c16, _, u16, _, v16, _, _, _, x16, y16, _, _, _, z16⟩ := laid_sentinels2 ((laidMet.tail (laidMet.tail (laidMet.tail (laidMet.tail (laidMet.tail (laidMet.tail (laidMet.tail (laidMet.tail (laidMet.tail (laidMet.tail (laidMet.tail (laidMet.tail (laidMet.tail (laidMet.tail (laidMet.tail h)))))))))))))))) g15 t15 g16 t16 Tryz.underlying25 rowErr Tryz.underlying195 Tryz.underlying230 rfl rfl Tryz.underlying9 c125 cell9
  refine ⟨fun i => match i with | 0 => a0 | 1 => a1 | 2 => a2 | 3 => a3 | 4 => a4 | 5 => a5 | 6 => a6 | 7 => a7 | 8 => a8 | 9 => a9 | 10 => a10 | 11 => a11 | 12 => a12 | 13 => a13 | 14 => a14 | 15 => a15 | 16 => a16 | _ => ⟨W.heap.size, 0, none⟩, env_of (fun i hi => ?_) (ml_of hsh) rfl, Nat.le_refl _⟩
  match i, hi with
  | 0, _ => exact ⟨by simpa using World.var?_cell g0 v0 0, ⟨s0, x0, y0⟩, c0, u0, z0⟩
  | 1, _ => exact ⟨by simpa using World.var?_cell g1 v1 0, ⟨s1, x1, y1⟩, c1, u1, z1⟩
  | 2, _ => exact ⟨by simpa using World.var?_cell g2 v2 0, ⟨s2, x2, y2⟩, c2, u2, z2⟩
  | 3, _ => exact ⟨by simpa using World.var?_cell g3 v3 0, ⟨s3, x3, y3⟩, c3, u3, z3⟩
  | 4, _ => exact ⟨by simpa using World.var?_cell g4 v4 0, ⟨s4, x4, y4⟩, c4, u4, z4⟩
  | 5, _ => exact ⟨by simpa using World.var?_cell g5 v5 0, ⟨s5, x5, y5⟩, c5, u5, z5⟩
  | 6, _ => exact ⟨by simpa using World.var?_cell g6 v6 0, ⟨s6, x6, y6⟩, c6, u6, z6⟩
  | 7, _ => exact ⟨by simpa using World.var?_cell g7 v7 0, ⟨s7, x7, y7⟩, c7, u7, z7⟩
  | 8, _ => exact ⟨by simpa using World.var?_cell g8 v8 0, ⟨s8, x8, y8⟩, c8, u8, z8⟩
  | 9, _ => exact ⟨by simpa using World.var?_cell g9 v9 0, ⟨s9, x9, y9⟩, c9, u9, z9⟩
  | 10, _ => exact ⟨by simpa using World.var?_cell g10 v10 0, ⟨s10, x10, y10⟩, c10, u10, z10⟩
  | 11, _ => exact ⟨by simpa using World.var?_cell g11 v11 0, ⟨s11, x11, y11⟩, c11, u11, z11⟩
  | 12, _ => exact ⟨by simpa using World.var?_cell g12 v12 0, ⟨s12, x12, y12⟩, c12, u12, z12⟩
  | 13, _ => exact ⟨by simpa using World.var?_cell g13 v13 0, ⟨s13, x13, y13⟩, c13, u13, z13⟩
  | 14, _ => exact ⟨by simpa using World.var?_cell g14 v14 0, ⟨s14, x14, y14⟩, c14, u14, z14⟩
  | 15, _ => exact ⟨by simpa using World.var?_cell g15 v15 0, ⟨s15, x15, y15⟩, c15, u15, z15⟩
  | 16, _ => exact ⟨by simpa using World.var?_cell g16 v16 0, ⟨s16, x16, y16⟩, c16, u16, z16⟩
  | n + 17, h => exact absurd h (by omega)

set_option maxRecDepth 100000 in
theorem lifted (os : Os) (started : os.Started) (H : Type) (enc : TypeId × Value → H) :
    ReturnsInHanded {} Tryz.checked os 3 .any (fun w args => (Rows.cscanSaysSpec.pre enc Tryz.prog Tryz.f3 [] false w args ∧ laidMetH Tryz.prog Rows.cscanSaysRow.laid w) ∧ sizedMet enc Tryz.prog Tryz.f3 (OpenSpec.ofChange Rows.cscanSaysSpec) false w args)
      (Rows.cscanSaysSpec.post enc Tryz.prog Tryz.f3 false true false false) := by
  refine handed_shaped (C := Tryz.checked) (X := fun w _ => laidMetH Tryz.prog Rows.cscanSaysRow.laid w) (fun _ _ _ hh h => h.of_heap hh) own started (by kernel_rfl) Tryz.func3
    (ChangeSpec.witness_shaped (enc := enc) (C := Tryz.checked) (os := os) (X := fun w _ => laidMetH Tryz.prog Rows.cscanSaysRow.laid w) false (World.laidAll Tryz.prog os Rows.cscanSaysRow.laid) #[.string ⟨#[]⟩] 8 (World.laidAll_os _ _ _) (World.shaped_of_ZipB (by kernel_rfl) (by kernel_rfl)) (by kernel_rfl) (by kernel_rfl) (by kernel_rfl) (by rw [MakeChecks.laidMetH_plain _ _ _ (by kernel_rfl)]; exact laidMet_laidAll _ (by kernel_rfl) (by kernel_rfl))) ?_
  intro W base args ds gs before hval0 hW hL hsh
  have hval : ∀ (j : Nat) t v, Tryz.f3.params[j]? = some t → args[j]? = some v → Value.okWide Tryz.prog W .any base t v := hval0
  have hW' := hW
  obtain ⟨p, q, hA0, hV, rfl, hfz, hnd⟩ := hW
  have hA : DataW.TrodAll enc Tryz.prog W 0 (fun _ => true) true Tryz.f3.params.toList args.toList ds p := hA0
  rw [Tryz.params3] at hA hval
  obtain ⟨v0, vs0, d0, ds0, p0, q0, hargs, rfl, rfl, h0, r0⟩ := trodAll_cons hA
  obtain ⟨rfl, rfl, rfl⟩ := trodAll_nil r0
  obtain rfl : args = #[v0] := by cases args; simp_all
  obtain ⟨rfl, rfl⟩ := trodVars_none hV
  obtain ⟨x0, rfl, rfl, rfl, w0⟩ := open_string Tryz.underlying9 (hval 0 9 v0 rfl rfl) h0
  clear hA0 hval0
  obtain ⟨ea, hE, h64⟩ := err_of hL hsh
  refine (says_any x0 W ea hE h64).mono fun e W' ⟨he, bel⟩ => ?_
  subst he
  exact ⟨_, rfl, _, _, _, [], _, [], hW', trodAll_mk1 (shut_bool Tryz.underlying4 _), (trodAll_cons_mk (shut_string Tryz.underlying9 w0) trodAll_mk0), rfl, bel.frame _, fun h => by cases h⟩

theorem said : Rows.CscanSaysSaid :=
  OpenClaim.holds_of_wide 3 Tryz.f3 rfl rfl rfl rfl rfl rfl rfl ⟨rfl, rfl, rfl, rfl, rfl⟩ rfl rfl rfl rfl rfl (by kernel_rfl) Tryz.func3 (by kernel_rfl)
    (of_decide_eq_true (by kernel_rfl)) (by unfold Func.isWrapper; first | (rw [if_pos (by decide +kernel)]; kernel_rfl) | (rw [if_neg (by decide +kernel)]; exact ⟨rfl, rfl⟩))
    (fun os started H enc _ => lifted os started H enc)

theorem plain (f : FuncId) (fn : Func) (hf : Tryz.pinned.checked.prog.funcNamed Rows.cscanSaysRow.func = some f) (hfn : Tryz.pinned.checked.prog.funcs[f]? = some fn) :
    true = Tryz.pinned.checked.prog.looks [] ∧ ∀ (j : Nat) t, fn.params[j]? = some t → Tryz.pinned.checked.prog.wantsStandIn t = false := by
  obtain rfl : f = 3 := Option.some.inj ((show Tryz.prog.funcNamed Rows.cscanSaysRow.func = some 3 by kernel_rfl).symm.trans hf) |>.symm
  obtain rfl : fn = Tryz.f3 := (Option.some.inj (Tryz.func3.symm.trans hfn)).symm
  refine ⟨by kernel_rfl, fun j t ht => ?_⟩
  rw [Tryz.params3] at ht
  have hm : t ∈ [9] := by simpa using Array.mem_of_getElem? ht
  have hall : ([9].all fun u => !Tryz.prog.wantsStandIn u) = true := by kernel_rfl
  exact (show Tryz.prog.wantsStandIn t = false by simpa using List.all_eq_true.1 hall t hm)

theorem proved : Rows.CscanSaysCardSaid :=
  Claim7.holds_tied_plain_at .later [] _ _ _ _ said (fun _ h => by cases h) (by kernel_rfl) (fun _ h => by cases h) cscanSays_row_tie rfl ⟨rfl, rfl⟩ (by kernel_rfl) rfl plain (by kernel_rfl)
end Go.Proofs.YtlihkblllakhmaaGreatDoor.cardCscanSays
namespace Go.Proofs.YtlihkblllakhmaaGreatDoor
theorem cscanSays_card : Rows.CscanSaysCardSaid := cardCscanSays.proved
#print axioms cscanSays_card
end Go.Proofs.YtlihkblllakhmaaGreatDoor
