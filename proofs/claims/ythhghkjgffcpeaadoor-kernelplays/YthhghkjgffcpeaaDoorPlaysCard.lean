/- KernelPlays answers true at every world and every list of things that a kernel is told, and leaves them as they were: its tied card. -/
import Derived.Test.YthhghkjgffcpeaaDoorCards
import Derived.Test.YthhghkjgffcpeaaDoorTie
import Derived.Test.YthhghkjgffcpeaaDoorRPlays
import Derived.Test.YthhghkjgffcpeaaDoorOpen5
import Derived.Test.YthhghkjgffcpeaaDoorRTexts
import Derived.ProofKit
import Derived.Carry
import Derived.LaidMore
import Derived.OpenShut
import Derived.Below
import Derived.Stop.Joined
import Derived.Stop.LaidErr
import Derived.Stop.LaidTwo
import Derived.SevenTiedAt
namespace Go.Proofs.YthhghkjgffcpeaaDoor.cardKernelPlays
open Go.ChangeShapes Go.WideShapes Go.ChangeAt Go.WideMaps Go.WideElems Go.RowKit
open Go.ChangeMaps (open_string shut_string)

theorem own : ownKnob Tryd.prog.godebug = none := by kernel_rfl
theorem g3 : Tryd.prog.globalNamed (Rows.kernelPlaysRow.named.getD 3 default) = some 3 := by kernel_rfl
theorem t3 : (Tryd.prog.globals[3]?).map (·.type) = some 32 := by kernel_rfl
theorem g5 : Tryd.prog.globalNamed (Rows.kernelPlaysRow.named.getD 5 default) = some 5 := by kernel_rfl
theorem t5 : (Tryd.prog.globals[5]?).map (·.type) = some 32 := by kernel_rfl
theorem g6 : Tryd.prog.globalNamed (Rows.kernelPlaysRow.named.getD 6 default) = some 6 := by kernel_rfl
theorem t6 : (Tryd.prog.globals[6]?).map (·.type) = some 32 := by kernel_rfl
theorem g7 : Tryd.prog.globalNamed (Rows.kernelPlaysRow.named.getD 7 default) = some 7 := by kernel_rfl
theorem t7 : (Tryd.prog.globals[7]?).map (·.type) = some 32 := by kernel_rfl
theorem g8 : Tryd.prog.globalNamed (Rows.kernelPlaysRow.named.getD 8 default) = some 8 := by kernel_rfl
theorem t8 : (Tryd.prog.globals[8]?).map (·.type) = some 32 := by kernel_rfl
theorem g2 : Tryd.prog.globalNamed (Rows.kernelPlaysRow.named.getD 2 default) = some 2 := by kernel_rfl
theorem t2 : (Tryd.prog.globals[2]?).map (·.type) = some 32 := by kernel_rfl
theorem g9 : Tryd.prog.globalNamed (Rows.kernelPlaysRow.named.getD 9 default) = some 9 := by kernel_rfl
theorem t9 : (Tryd.prog.globals[9]?).map (·.type) = some 32 := by kernel_rfl
theorem g10 : Tryd.prog.globalNamed (Rows.kernelPlaysRow.named.getD 10 default) = some 10 := by kernel_rfl
theorem t10 : (Tryd.prog.globals[10]?).map (·.type) = some 32 := by kernel_rfl
theorem g11 : Tryd.prog.globalNamed (Rows.kernelPlaysRow.named.getD 11 default) = some 11 := by kernel_rfl
theorem t11 : (Tryd.prog.globals[11]?).map (·.type) = some 32 := by kernel_rfl
theorem g12 : Tryd.prog.globalNamed (Rows.kernelPlaysRow.named.getD 12 default) = some 12 := by kernel_rfl
theorem t12 : (Tryd.prog.globals[12]?).map (·.type) = some 32 := by kernel_rfl
theorem g1 : Tryd.prog.globalNamed (Rows.kernelPlaysRow.named.getD 1 default) = some 1 := by kernel_rfl
theorem t1 : (Tryd.prog.globals[1]?).map (·.type) = some 32 := by kernel_rfl
theorem g13 : Tryd.prog.globalNamed (Rows.kernelPlaysRow.named.getD 13 default) = some 13 := by kernel_rfl
theorem t13 : (Tryd.prog.globals[13]?).map (·.type) = some 32 := by kernel_rfl
theorem g14 : Tryd.prog.globalNamed (Rows.kernelPlaysRow.named.getD 14 default) = some 14 := by kernel_rfl
theorem t14 : (Tryd.prog.globals[14]?).map (·.type) = some 32 := by kernel_rfl
theorem g0 : Tryd.prog.globalNamed (Rows.kernelPlaysRow.named.getD 0 default) = some 0 := by kernel_rfl
theorem t0 : (Tryd.prog.globals[0]?).map (·.type) = some 32 := by kernel_rfl
theorem g15 : Tryd.prog.globalNamed (Rows.kernelPlaysRow.named.getD 15 default) = some 15 := by kernel_rfl
theorem t15 : (Tryd.prog.globals[15]?).map (·.type) = some 32 := by kernel_rfl
theorem g16 : Tryd.prog.globalNamed (Rows.kernelPlaysRow.named.getD 16 default) = some 16 := by kernel_rfl
theorem t16 : (Tryd.prog.globals[16]?).map (·.type) = some 32 := by kernel_rfl
theorem g4 : Tryd.prog.globalNamed (Rows.kernelPlaysRow.named.getD 4 default) = some 4 := by kernel_rfl
theorem t4 : (Tryd.prog.globals[4]?).map (·.type) = some 32 := by kernel_rfl
theorem star : "*" ++ "errors.errorString" = "*errors.errorString" := by decide
theorem rowErr (u : TypeId) (h : Tryd.prog.typeName? 3 u = some "*errors.errorString") : u = 153 :=
  typeName_ptr_named (nm := "errors.errorString") (by rw [star]; kernel_rfl) (by kernel_rfl) (by decide) u (by rw [star]; exact h)
theorem c169 : Tryd.prog.cellsOf 169 = 1 := by kernel_rfl
/-- What the row's list gives: the sentinels are pointers, others each. -/
theorem err_of {W : World} (h : laidMetH Tryd.prog Rows.kernelPlaysRow.laid W) : ∃ ea, Er17 W ea := by
  rw [MakeChecks.laidMetH_plain _ _ _ (by kernel_rfl)] at h
  obtain ⟨a3, a5, s3, s5, c3, c5, u3, u5, v3, v5, x3, y3, _, x5, y5, _, _, z3, z5⟩ := laid_sentinels2 (h) g3 t3 g5 t5 Tryd.underlying32 rowErr Tryd.underlying153 Tryd.underlying169 rfl rfl Tryd.underlying9 c169 cells9
  obtain ⟨a6, a7, s6, s7, c6, c7, u6, u7, v6, v7, x6, y6, _, x7, y7, _, _, z6, z7⟩ := laid_sentinels2 ((laidMet.tail (laidMet.tail h))) g6 t6 g7 t7 Tryd.underlying32 rowErr Tryd.underlying153 Tryd.underlying169 rfl rfl Tryd.underlying9 c169 cells9
  obtain ⟨a8, a2, s8, s2, c8, c2, u8, u2, v8, v2, x8, y8, _, x2, y2, _, _, z8, z2⟩ := laid_sentinels2 ((laidMet.tail (laidMet.tail (laidMet.tail (laidMet.tail h))))) g8 t8 g2 t2 Tryd.underlying32 rowErr Tryd.underlying153 Tryd.underlying169 rfl rfl Tryd.underlying9 c169 cells9
  obtain ⟨a9, a10, s9, s10, c9, c10, u9, u10, v9, v10, x9, y9, _, x10, y10, _, _, z9, z10⟩ := laid_sentinels2 ((laidMet.tail (laidMet.tail (laidMet.tail (laidMet.tail (laidMet.tail (laidMet.tail h))))))) g9 t9 g10 t10 Tryd.underlying32 rowErr Tryd.underlying153 Tryd.underlying169 rfl rfl Tryd.underlying9 c169 cells9
  obtain ⟨a11, a12, s11, s12, c11, c12, u11, u12, v11, v12, x11, y11, _, x12, y12, _, _, z11, z12⟩ := laid_sentinels2 ((laidMet.tail (laidMet.tail (laidMet.tail (laidMet.tail (laidMet.tail (laidMet.tail (laidMet.tail (laidMet.tail h))))))))) g11 t11 g12 t12 Tryd.underlying32 rowErr Tryd.underlying153 Tryd.underlying169 rfl rfl Tryd.underlying9 c169 cells9
  obtain ⟨a1, a13, s1, s13, c1, c13, u1, u13, v1, v13, x1, y1, _, x13, y13, _, _, z1, z13⟩ := laid_sentinels2 ((laidMet.tail (laidMet.tail (laidMet.tail (laidMet.tail (laidMet.tail (laidMet.tail (laidMet.tail (laidMet.tail (laidMet.tail (laidMet.tail h))))))))))) g1 t1 g13 t13 Tryd.underlying32 rowErr Tryd.underlying153 Tryd.underlying169 rfl rfl Tryd.underlying9 c169 cells9
  obtain ⟨a14, a0, s14, s0, c14, c0, u14, u0, v14, v0, x14, y14, _, x0, y0, _, _, z14, z0⟩ := laid_sentinels2 ((laidMet.tail (laidMet.tail (laidMet.tail (laidMet.tail (laidMet.tail (laidMet.tail (laidMet.tail (laidMet.tail (laidMet.tail (laidMet.tail (laidMet.tail (laidMet.tail h))))))))))))) g14 t14 g0 t0 Tryd.underlying32 rowErr Tryd.underlying153 Tryd.underlying169 rfl rfl Tryd.underlying9 c169 cells9
  obtain ⟨a15, a16, s15, s16, c15, c16, u15, u16, v15, v16, x15, y15, _, x16, y16, _, _, z15, z16⟩ := laid_sentinels2 ((laidMet.tail (laidMet.tail (laidMet.tail (laidMet.tail (laidMet.tail (laidMet.tail (laidMet.tail (laidMet.tail (laidMet.tail (laidMet.tail (laidMet.tail (laidMet.tail (laidMet.tail (laidMet.tail h))))))))))))))) g15 t15 g16 t16 Tryd.underlying32 rowErr Tryd.underlying153 Tryd.underlying169 rfl rfl Tryd.underlying9 c169 cells9
  obtain ⟨_, a4, _, s4, _, c4, _, u4, _, v4, _, _, _, x4, y4, _, _, _, z4⟩ := laid_sentinels2 ((laidMet.tail (laidMet.tail (laidMet.tail (laidMet.tail (laidMet.tail (laidMet.tail (laidMet.tail (laidMet.tail (laidMet.tail (laidMet.tail (laidMet.tail (laidMet.tail (laidMet.tail (laidMet.tail (laidMet.tail h)))))))))))))))) g16 t16 g4 t4 Tryd.underlying32 rowErr Tryd.underlying153 Tryd.underlying169 rfl rfl Tryd.underlying9 c169 cells9
  refine ⟨fun i => match i with | 0 => a0 | 1 => a1 | 2 => a2 | 3 => a3 | 4 => a4 | 5 => a5 | 6 => a6 | 7 => a7 | 8 => a8 | 9 => a9 | 10 => a10 | 11 => a11 | 12 => a12 | 13 => a13 | 14 => a14 | 15 => a15 | _ => a16, ers_of fun i hi => ?_⟩
  match i, hi with
  | 0, _ => exact ⟨by simpa using World.var?_cell g0 v0 0, ⟨s0, x0, y0⟩, c0, u0, z0⟩
  | 1, _ => exact ⟨by simpa using World.var?_cell g1 v1 0, ⟨s1, x1, y1⟩, c1, u1, z1⟩
  | 2, _ => exact ⟨by simpa using World.var?_cell g2 v2 0, ⟨s2, x2, y2⟩, c2, u2, z2⟩
  | 3, _ => exact ⟨by simpa using World.var?_cell g3 v3 0, ⟨s3, x3, y3⟩, c3, u3, z3⟩
  | 4, _ => exact ⟨by simpa using World.var?_cell g4 v4 0, ⟨s4, x4, y4⟩, c4, u4, z4⟩
  | 5, _ => exact ⟨by simpa using World.var?_cell g5 v5 0, ⟨s5, x5, y5⟩, c5, u5, z5⟩
  | 6, _ => exact ⟨by simpa using World.var?_cell g6 v6 0, ⟨s6, x6, y6⟩, c6, u6, z6⟩
  | 7, _ => exact ⟨by simpa using World.var?_cell g7 v7 0, ⟨s7, x7, y7⟩, c7, u7, z7⟩
  | 8, _ => exact ⟨by simpa using World.var?_cell g8 v8 0, ⟨s8, x8, y8⟩, c8, u8, z8⟩
  | 9, _ => exact ⟨by simpa using World.var?_cell g9 v9 0, ⟨s9, x9, y9⟩, c9, u9, z9⟩
  | 10, _ => exact ⟨by simpa using World.var?_cell g10 v10 0, ⟨s10, x10, y10⟩, c10, u10, z10⟩
  | 11, _ => exact ⟨by simpa using World.var?_cell g11 v11 0, ⟨s11, x11, y11⟩, c11, u11, z11⟩
  | 12, _ => exact ⟨by simpa using World.var?_cell g12 v12 0, ⟨s12, x12, y12⟩, c12, u12, z12⟩
  | 13, _ => exact ⟨by simpa using World.var?_cell g13 v13 0, ⟨s13, x13, y13⟩, c13, u13, z13⟩
  | 14, _ => exact ⟨by simpa using World.var?_cell g14 v14 0, ⟨s14, x14, y14⟩, c14, u14, z14⟩
  | 15, _ => exact ⟨by simpa using World.var?_cell g15 v15 0, ⟨s15, x15, y15⟩, c15, u15, z15⟩
  | 16, _ => exact ⟨by simpa using World.var?_cell g16 v16 0, ⟨s16, x16, y16⟩, c16, u16, z16⟩
  | n + 17, h => exact absurd h (by omega)

/-- The door's own heap meets the condition. -/
theorem door (os : Os) (args : Array Value) : laidMetH Tryd.prog Rows.kernelPlaysRow.laid ((World.doorLaid Tryd.prog 332 os).forCall (fun _ _ => 0) ⟨#[], args, []⟩).memory :=
  laidMetH_of_parts3 (fuel := 8) (laidMet_of_run' 8 (by kernel_rfl) (by kernel_rfl)) (by kernel_rfl) (by kernel_rfl)

set_option maxRecDepth 100000 in
theorem lifted (os : Os) (started : os.Started) (H : Type) (enc : TypeId × Value → H) :
    ReturnsInHanded {} Tryd.checked os 3 .any (fun w args => (Rows.kernelPlaysSpec.pre enc Tryd.prog Tryd.f3 [] false w args ∧ laidMetH Tryd.prog Rows.kernelPlaysRow.laid w) ∧ sizedMet enc Tryd.prog Tryd.f3 (OpenSpec.ofChange Rows.kernelPlaysSpec) false w args)
      (Rows.kernelPlaysSpec.post enc Tryd.prog Tryd.f3 false true false false) := by
  refine returnsInHanded_of_change_and (C := Tryd.checked) (X := fun w _ => laidMetH Tryd.prog Rows.kernelPlaysRow.laid w) (fun _ _ _ hh h => h.of_heap hh) own started (by kernel_rfl) Tryd.func3
    (ChangeSpec.witness_shaped (enc := enc) (C := Tryd.checked) (os := os) (X := fun w _ => laidMetH Tryd.prog Rows.kernelPlaysRow.laid w) false (World.doorLaid Tryd.prog 332 os) #[.agg #[.slice none 0 0, .slice none 0 0], .slice none 0 0] 8 rfl (World.shaped_of_RefB (by kernel_rfl) (by kernel_rfl)) (by kernel_rfl) (by kernel_rfl) (by kernel_rfl) (door os _)) ?_
  intro W base args ds gs before hval0 hW _ hsz0 hL _
  have hval : ∀ (j : Nat) t v, Tryd.f3.params[j]? = some t → args[j]? = some v → Value.okWide Tryd.prog W .any base t v := hval0
  have hsz : (DataW.weightsEach Tryd.prog (Tryd.f3.params.toList ++ Rows.kernelPlaysSpec.plain.varTypes Tryd.prog) (ds ++ gs)).all (· ≤ reachBytes) = true := hsz0
  have hW' := hW
  obtain ⟨p, q, hA0, hV, rfl, hfz, hnd⟩ := hW
  have hA : DataW.TrodAll enc Tryd.prog W 0 (fun _ => true) true Tryd.f3.params.toList args.toList ds p := hA0
  rw [Tryd.params3] at hA hval hsz
  obtain ⟨v0, vs0, d0, ds0, p0, q0, hargs, rfl, rfl, h0, r0⟩ := trodAll_cons hA
  obtain ⟨v1, vs1, d1, ds1, p1, q1, rfl, rfl, rfl, h1, r1⟩ := trodAll_cons r0
  obtain ⟨rfl, rfl, rfl⟩ := trodAll_nil r1
  obtain rfl : args = #[v0, v1] := by cases args; simp_all
  obtain ⟨rfl, rfl⟩ := trodVars_none hV
  obtain ⟨cs0, rfl, _⟩ := okWide_struct Tryd.underlying25 (hval 0 25 v0 rfl rfl)
  have k0 := h0
  have lt0 : ∀ x ∈ p0, x.block < W.heap.size := by obtain ⟨m, hm⟩ := k0; exact DataW.trod_lt m _ _ _ hm
  obtain ⟨fuel0, hf0⟩ := h0
  obtain ⟨fv0, rv0, x0, y0, hcs0, wf0, wr0, wn0, wb0, wc0⟩ := open_world (cs := cs0) hf0 (fun n hn => by have := List.all_eq_true.1 hsz n (DataW.weights_mem_each (j := 0) rfl rfl n hn); simpa using this)
  subst hcs0
  obtain ⟨a1, len1, cap1, rfl⟩ := okWide_slice Tryd.underlying26 (hval 1 26 v1 rfl rfl)
  have k1 := h1
  have lt1 : ∀ x ∈ p1, x.block < W.heap.size := by obtain ⟨m, hm⟩ := k1; exact DataW.trod_lt m _ _ _ hm
  obtain ⟨fuel1, hf1⟩ := h1
  obtain ⟨x1, t1, n1, b1⟩ := open_dx hf1 (fun n hn => by have := List.all_eq_true.1 hsz n (DataW.weights_mem_each (j := 1) rfl rfl n hn); simpa using this)
  clear hA0 hval0
  obtain ⟨ea, hE⟩ := err_of hL
  refine (plays_main _ _ _ x0 y0 x1 ea W wf0 wr0 wn0 wb0 wc0 t1 n1 b1 hE).mono fun e W' ⟨he, bel⟩ => ?_
  subst he
  exact ⟨_, rfl, _, _, _, [], _, [], hW', trodAll_mk1 (shut_bool Tryd.underlying4 _), (trodAll_cons_mk (Below.trod laidOut3 (by kernel_rfl) (of_decide_eq_true (by kernel_rfl)) k0 bel lt0) (trodAll_cons_mk (Below.trod laidOut3 (by kernel_rfl) (of_decide_eq_true (by kernel_rfl)) k1 bel lt1) trodAll_mk0)), rfl, bel.frame _, fun h => by cases h⟩

theorem said : Rows.KernelPlaysSaid :=
  OpenClaim.holds_of_wide 3 Tryd.f3 rfl rfl rfl rfl rfl rfl rfl ⟨rfl, rfl, rfl, rfl, rfl⟩ rfl rfl rfl rfl rfl (by kernel_rfl) Tryd.func3 (by kernel_rfl)
    (of_decide_eq_true (by kernel_rfl)) (by unfold Func.isWrapper; first | (rw [if_pos (by decide +kernel)]; kernel_rfl) | (rw [if_neg (by decide +kernel)]; exact ⟨rfl, rfl⟩))
    (fun os started H enc _ => lifted os started H enc)

theorem plain (f : FuncId) (fn : Func) (hf : Tryd.pinned.checked.prog.funcNamed Rows.kernelPlaysRow.func = some f) (hfn : Tryd.pinned.checked.prog.funcs[f]? = some fn) :
    true = Tryd.pinned.checked.prog.looks [] ∧ ∀ (j : Nat) t, fn.params[j]? = some t → Tryd.pinned.checked.prog.wantsStandIn t = false := by
  obtain rfl : f = 3 := Option.some.inj ((show Tryd.prog.funcNamed Rows.kernelPlaysRow.func = some 3 by kernel_rfl).symm.trans hf) |>.symm
  obtain rfl : fn = Tryd.f3 := (Option.some.inj (Tryd.func3.symm.trans hfn)).symm
  refine ⟨by kernel_rfl, fun j t ht => ?_⟩
  rw [Tryd.params3] at ht
  have hm : t ∈ [25, 26] := by simpa using Array.mem_of_getElem? ht
  have hall : ([25, 26].all fun u => !Tryd.prog.wantsStandIn u) = true := by kernel_rfl
  exact (show Tryd.prog.wantsStandIn t = false by simpa using List.all_eq_true.1 hall t hm)

theorem proved : Rows.KernelPlaysCardSaid :=
  Claim7.holds_tied_plain_at .later [] _ _ _ _ said (fun _ h => by cases h) (by kernel_rfl) (fun _ h => by cases h) kernelPlays_row_tie rfl ⟨rfl, rfl⟩ (by kernel_rfl) rfl plain (by kernel_rfl)
end Go.Proofs.YthhghkjgffcpeaaDoor.cardKernelPlays
namespace Go.Proofs.YthhghkjgffcpeaaDoor
theorem kernelPlays_card : Rows.KernelPlaysCardSaid := cardKernelPlays.proved
#print axioms kernelPlays_card
end Go.Proofs.YthhghkjgffcpeaaDoor
