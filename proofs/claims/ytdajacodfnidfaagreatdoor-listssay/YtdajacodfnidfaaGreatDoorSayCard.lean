/- ListsSay answers true for any lists, any list and names, any number and any text, and leaves them as they were: its tied card. -/
import Derived.Test.YtdajacodfnidfaaGreatDoorCards
import Derived.Test.YtdajacodfnidfaaGreatDoorTie
import Derived.Test.YtdajacodfnidfaaGreatDoorSay
import Derived.Test.YtdajacodfnidfaaGreatDoorOpnT
import Derived.ProofKit
import Derived.Carry
import Derived.LaidMore
import Derived.OpenShut
import Derived.Lay
import Derived.Below
import Derived.Stop.Joined
import Derived.Stop.LaidErr
import Derived.Stop.LaidTwo
import Derived.Lib.LaidTab
import Derived.SevenTiedAt
namespace Go.Proofs.YtdajacodfnidfaaGreatDoor.cardListsSay
open Go.ChangeShapes Go.WideShapes Go.ChangeAt Go.WideMaps Go.WideElems Go.RowKit
open Go.ChangeMaps (open_string shut_string)

theorem own : ownKnob Tryz.prog.godebug = none := by kernel_rfl
theorem g1 : Tryz.prog.globalNamed (Rows.listsSayRow.named.getD 1 default) = some 5 := by kernel_rfl
theorem t1 : (Tryz.prog.globals[5]?).map (·.type) = some 27 := by kernel_rfl
theorem g2 : Tryz.prog.globalNamed (Rows.listsSayRow.named.getD 2 default) = some 6 := by kernel_rfl
theorem t2 : (Tryz.prog.globals[6]?).map (·.type) = some 27 := by kernel_rfl
theorem g3 : Tryz.prog.globalNamed (Rows.listsSayRow.named.getD 3 default) = some 7 := by kernel_rfl
theorem t3 : (Tryz.prog.globals[7]?).map (·.type) = some 27 := by kernel_rfl
theorem g4 : Tryz.prog.globalNamed (Rows.listsSayRow.named.getD 4 default) = some 8 := by kernel_rfl
theorem t4 : (Tryz.prog.globals[8]?).map (·.type) = some 27 := by kernel_rfl
theorem g5 : Tryz.prog.globalNamed (Rows.listsSayRow.named.getD 5 default) = some 9 := by kernel_rfl
theorem t5 : (Tryz.prog.globals[9]?).map (·.type) = some 27 := by kernel_rfl
theorem g6 : Tryz.prog.globalNamed (Rows.listsSayRow.named.getD 6 default) = some 10 := by kernel_rfl
theorem t6 : (Tryz.prog.globals[10]?).map (·.type) = some 27 := by kernel_rfl
theorem g7 : Tryz.prog.globalNamed (Rows.listsSayRow.named.getD 7 default) = some 11 := by kernel_rfl
theorem t7 : (Tryz.prog.globals[11]?).map (·.type) = some 27 := by kernel_rfl
theorem g8 : Tryz.prog.globalNamed (Rows.listsSayRow.named.getD 8 default) = some 12 := by kernel_rfl
theorem t8 : (Tryz.prog.globals[12]?).map (·.type) = some 27 := by kernel_rfl
theorem g9 : Tryz.prog.globalNamed (Rows.listsSayRow.named.getD 9 default) = some 13 := by kernel_rfl
theorem t9 : (Tryz.prog.globals[13]?).map (·.type) = some 27 := by kernel_rfl
theorem g10 : Tryz.prog.globalNamed (Rows.listsSayRow.named.getD 10 default) = some 14 := by kernel_rfl
theorem t10 : (Tryz.prog.globals[14]?).map (·.type) = some 27 := by kernel_rfl
theorem g11 : Tryz.prog.globalNamed (Rows.listsSayRow.named.getD 11 default) = some 15 := by kernel_rfl
theorem t11 : (Tryz.prog.globals[15]?).map (·.type) = some 27 := by kernel_rfl
theorem g12 : Tryz.prog.globalNamed (Rows.listsSayRow.named.getD 12 default) = some 16 := by kernel_rfl
theorem t12 : (Tryz.prog.globals[16]?).map (·.type) = some 27 := by kernel_rfl
theorem g13 : Tryz.prog.globalNamed (Rows.listsSayRow.named.getD 13 default) = some 17 := by kernel_rfl
theorem t13 : (Tryz.prog.globals[17]?).map (·.type) = some 27 := by kernel_rfl
theorem g0 : Tryz.prog.globalNamed (Rows.listsSayRow.named.getD 0 default) = some 0 := by kernel_rfl
theorem t0 : (Tryz.prog.globals[0]?).map (·.type) = some 27 := by kernel_rfl
theorem g14 : Tryz.prog.globalNamed (Rows.listsSayRow.named.getD 14 default) = some 18 := by kernel_rfl
theorem t14 : (Tryz.prog.globals[18]?).map (·.type) = some 27 := by kernel_rfl
theorem g15 : Tryz.prog.globalNamed (Rows.listsSayRow.named.getD 15 default) = some 19 := by kernel_rfl
theorem t15 : (Tryz.prog.globals[19]?).map (·.type) = some 27 := by kernel_rfl
theorem g16 : Tryz.prog.globalNamed (Rows.listsSayRow.named.getD 16 default) = some 20 := by kernel_rfl
theorem t16 : (Tryz.prog.globals[20]?).map (·.type) = some 27 := by kernel_rfl
theorem star : "*" ++ "errors.errorString" = "*errors.errorString" := by decide
theorem rowErr (u : TypeId) (h : Tryz.prog.typeName? 3 u = some "*errors.errorString") : u = 179 :=
  typeName_ptr_named (nm := "errors.errorString") (by rw [star]; kernel_rfl) (by kernel_rfl) (by decide) u (by rw [star]; exact h)
theorem c125 : Tryz.prog.cellsOf 194 = 1 := by kernel_rfl
theorem cell9 : Tryz.prog.cellsOf 9 = 1 := by kernel_rfl
/-- What the row's list gives: the sentinels are pointers, others each. -/
theorem err_of {W : World} (h : laidMetH Tryz.prog Rows.listsSayRow.laid W) : ∃ ea, Er17 W ea := by
  rw [MakeChecks.laidMetH_plain _ _ _ (by kernel_rfl)] at h
  obtain ⟨a1, a2, s1, s2, c1, c2, u1, u2, v1, v2, x1, y1, _, x2, y2, _, _, z1, z2⟩ := laid_sentinels2 ((laidMet.tail (laidMet.tail (laidMet.tail (laidMet.tail h))))) g1 t1 g2 t2 Tryz.underlying27 rowErr Tryz.underlying179 Tryz.underlying194 rfl rfl Tryz.underlying9 c125 cell9
  obtain ⟨a3, a4, s3, s4, c3, c4, u3, u4, v3, v4, x3, y3, _, x4, y4, _, _, z3, z4⟩ := laid_sentinels2 ((laidMet.tail (laidMet.tail (laidMet.tail (laidMet.tail (laidMet.tail (laidMet.tail h))))))) g3 t3 g4 t4 Tryz.underlying27 rowErr Tryz.underlying179 Tryz.underlying194 rfl rfl Tryz.underlying9 c125 cell9
  obtain ⟨a5, a6, s5, s6, c5, c6, u5, u6, v5, v6, x5, y5, _, x6, y6, _, _, z5, z6⟩ := laid_sentinels2 ((laidMet.tail (laidMet.tail (laidMet.tail (laidMet.tail (laidMet.tail (laidMet.tail (laidMet.tail (laidMet.tail h))))))))) g5 t5 g6 t6 Tryz.underlying27 rowErr Tryz.underlying179 Tryz.underlying194 rfl rfl Tryz.underlying9 c125 cell9
  obtain ⟨a7, a8, s7, s8, c7, c8, u7, u8, v7, v8, x7, y7, _, x8, y8, _, _, z7, z8⟩ := laid_sentinels2 ((laidMet.tail (laidMet.tail (laidMet.tail (laidMet.tail (laidMet.tail (laidMet.tail (laidMet.tail (laidMet.tail (laidMet.tail (laidMet.tail h))))))))))) g7 t7 g8 t8 Tryz.underlying27 rowErr Tryz.underlying179 Tryz.underlying194 rfl rfl Tryz.underlying9 c125 cell9
  obtain ⟨a9, a10, s9, s10, c9, c10, u9, u10, v9, v10, x9, y9, _, x10, y10, _, _, z9, z10⟩ := laid_sentinels2 ((laidMet.tail (laidMet.tail (laidMet.tail (laidMet.tail (laidMet.tail (laidMet.tail (laidMet.tail (laidMet.tail (laidMet.tail (laidMet.tail (laidMet.tail (laidMet.tail h))))))))))))) g9 t9 g10 t10 Tryz.underlying27 rowErr Tryz.underlying179 Tryz.underlying194 rfl rfl Tryz.underlying9 c125 cell9
  obtain ⟨a11, a12, s11, s12, c11, c12, u11, u12, v11, v12, x11, y11, _, x12, y12, _, _, z11, z12⟩ := laid_sentinels2 ((laidMet.tail (laidMet.tail (laidMet.tail (laidMet.tail (laidMet.tail (laidMet.tail (laidMet.tail (laidMet.tail (laidMet.tail (laidMet.tail (laidMet.tail (laidMet.tail (laidMet.tail (laidMet.tail h))))))))))))))) g11 t11 g12 t12 Tryz.underlying27 rowErr Tryz.underlying179 Tryz.underlying194 rfl rfl Tryz.underlying9 c125 cell9
  obtain ⟨a13, a0, s13, s0, c13, c0, u13, u0, v13, v0, x13, y13, _, x0, y0, _, _, z13, z0⟩ := laid_sentinels2 ((laidMet.tail (laidMet.tail (laidMet.tail (laidMet.tail (laidMet.tail (laidMet.tail (laidMet.tail (laidMet.tail (laidMet.tail (laidMet.tail (laidMet.tail (laidMet.tail (laidMet.tail (laidMet.tail (laidMet.tail (laidMet.tail h))))))))))))))))) g13 t13 g0 t0 Tryz.underlying27 rowErr Tryz.underlying179 Tryz.underlying194 rfl rfl Tryz.underlying9 c125 cell9
  obtain ⟨a14, a15, s14, s15, c14, c15, u14, u15, v14, v15, x14, y14, _, x15, y15, _, _, z14, z15⟩ := laid_sentinels2 ((laidMet.tail (laidMet.tail (laidMet.tail (laidMet.tail (laidMet.tail (laidMet.tail (laidMet.tail (laidMet.tail (laidMet.tail (laidMet.tail (laidMet.tail (laidMet.tail (laidMet.tail (laidMet.tail (laidMet.tail (laidMet.tail (laidMet.tail (laidMet.tail h))))))))))))))))))) g14 t14 g15 t15 Tryz.underlying27 rowErr Tryz.underlying179 Tryz.underlying194 rfl rfl Tryz.underlying9 c125 cell9
  obtain ⟨_, a16, _, s16, _, c16, _, u16, _, v16, _, _, _, x16, y16, _, _, _, z16⟩ := laid_sentinels2 ((laidMet.tail (laidMet.tail (laidMet.tail (laidMet.tail (laidMet.tail (laidMet.tail (laidMet.tail (laidMet.tail (laidMet.tail (laidMet.tail (laidMet.tail (laidMet.tail (laidMet.tail (laidMet.tail (laidMet.tail (laidMet.tail (laidMet.tail (laidMet.tail (laidMet.tail h)))))))))))))))))))) g15 t15 g16 t16 Tryz.underlying27 rowErr Tryz.underlying179 Tryz.underlying194 rfl rfl Tryz.underlying9 c125 cell9
  refine ⟨fun i => match i with | 0 => a0 | 1 => a1 | 2 => a2 | 3 => a3 | 4 => a4 | 5 => a5 | 6 => a6 | 7 => a7 | 8 => a8 | 9 => a9 | 10 => a10 | 11 => a11 | 12 => a12 | 13 => a13 | 14 => a14 | 15 => a15 | _ => a16, ers_of fun i hi => ?_⟩
  match i, hi with
  | 0, _ => exact ⟨by simpa [gE] using World.var?_cell g0 v0 0, ⟨s0, x0, y0⟩, c0, u0, z0⟩
  | 1, _ => exact ⟨by simpa [gE] using World.var?_cell g1 v1 0, ⟨s1, x1, y1⟩, c1, u1, z1⟩
  | 2, _ => exact ⟨by simpa [gE] using World.var?_cell g2 v2 0, ⟨s2, x2, y2⟩, c2, u2, z2⟩
  | 3, _ => exact ⟨by simpa [gE] using World.var?_cell g3 v3 0, ⟨s3, x3, y3⟩, c3, u3, z3⟩
  | 4, _ => exact ⟨by simpa [gE] using World.var?_cell g4 v4 0, ⟨s4, x4, y4⟩, c4, u4, z4⟩
  | 5, _ => exact ⟨by simpa [gE] using World.var?_cell g5 v5 0, ⟨s5, x5, y5⟩, c5, u5, z5⟩
  | 6, _ => exact ⟨by simpa [gE] using World.var?_cell g6 v6 0, ⟨s6, x6, y6⟩, c6, u6, z6⟩
  | 7, _ => exact ⟨by simpa [gE] using World.var?_cell g7 v7 0, ⟨s7, x7, y7⟩, c7, u7, z7⟩
  | 8, _ => exact ⟨by simpa [gE] using World.var?_cell g8 v8 0, ⟨s8, x8, y8⟩, c8, u8, z8⟩
  | 9, _ => exact ⟨by simpa [gE] using World.var?_cell g9 v9 0, ⟨s9, x9, y9⟩, c9, u9, z9⟩
  | 10, _ => exact ⟨by simpa [gE] using World.var?_cell g10 v10 0, ⟨s10, x10, y10⟩, c10, u10, z10⟩
  | 11, _ => exact ⟨by simpa [gE] using World.var?_cell g11 v11 0, ⟨s11, x11, y11⟩, c11, u11, z11⟩
  | 12, _ => exact ⟨by simpa [gE] using World.var?_cell g12 v12 0, ⟨s12, x12, y12⟩, c12, u12, z12⟩
  | 13, _ => exact ⟨by simpa [gE] using World.var?_cell g13 v13 0, ⟨s13, x13, y13⟩, c13, u13, z13⟩
  | 14, _ => exact ⟨by simpa [gE] using World.var?_cell g14 v14 0, ⟨s14, x14, y14⟩, c14, u14, z14⟩
  | 15, _ => exact ⟨by simpa [gE] using World.var?_cell g15 v15 0, ⟨s15, x15, y15⟩, c15, u15, z15⟩
  | 16, _ => exact ⟨by simpa [gE] using World.var?_cell g16 v16 0, ⟨s16, x16, y16⟩, c16, u16, z16⟩
  | n + 17, h => exact absurd h (by omega)
theorem gPow : Tryz.prog.globalNamed "internal/strconv.uint64pow10" = some 2 := by kernel_rfl
theorem tPow : (Tryz.prog.globals[2]?).map (·.type) = some 168 := by kernel_rfl
theorem cPow : Tryz.prog.cellsOf 168 = 20 := by kernel_rfl
theorem cU : Tryz.prog.cellsOf 122 = 1 := by kernel_rfl
theorem dPow : (Rows.laid_internal_strconv_uint64pow10 : DataW Unit) = Lib.tabData .u64 Lib.pow10Tab := by kernel_rfl
/-- What the row's list gives: the table of powers lies in the world, and stays. -/
theorem pow_of {W : World} (h : laidMetH Tryz.prog Rows.listsSayRow.laid W) : ∀ W', Below W.heap.size W W' → Pow W' := by
  rw [MakeChecks.laidMetH_plain _ _ _ (by kernel_rfl)] at h
  have h2 := laidMet.tail (laidMet.tail h)
  rw [dPow] at h2
  have hp : Pow W := Lib.tabIs_of_head gPow tPow Tryz.underlying168 Tryz.underlying122 cU cPow h2
  have hc := Lib.TabIs.cell hp gPow 0 (by rw [Lib.pow10Tab_length]; omega)
  have h1 : 2 < W.heap.size := World.block_lt_of_cell? W _ hc
  exact fun W' hb => var?_below hb gPow h1 hp


set_option maxRecDepth 100000 in
theorem lifted (os : Os) (started : os.Started) (H : Type) (enc : TypeId × Value → H) :
    ReturnsInHanded {} Tryz.checked os 3 .any (fun w args => (Rows.listsSaySpec.pre enc Tryz.prog Tryz.f3 [] false w args ∧ laidMetH Tryz.prog Rows.listsSayRow.laid w) ∧ sizedMet enc Tryz.prog Tryz.f3 (OpenSpec.ofChange Rows.listsSaySpec) false w args)
      (Rows.listsSaySpec.post enc Tryz.prog Tryz.f3 false true false false) := by
  refine returnsInHanded_of_change_and (C := Tryz.checked) (X := fun w _ => laidMetH Tryz.prog Rows.listsSayRow.laid w) (fun _ _ _ hh h => h.of_heap hh) own started (by kernel_rfl) Tryz.func3
    (ChangeSpec.witness_shaped (enc := enc) (C := Tryz.checked) (os := os) (X := fun w _ => laidMetH Tryz.prog Rows.listsSayRow.laid w) false (World.laidAll Tryz.prog os Rows.listsSayRow.laid) #[.slice none 0 0, .slice none 0 0, .slice none 0 0, .int .i64 0, .string ⟨#[]⟩] 8 (World.laidAll_os _ _ _) (World.shaped_of_ZipB (by kernel_rfl) (by kernel_rfl)) (by kernel_rfl) (by kernel_rfl) (by kernel_rfl) (by rw [MakeChecks.laidMetH_plain _ _ _ (by kernel_rfl)]; exact laidMet_laidAll _ (by kernel_rfl) (by kernel_rfl))) ?_
  intro W base args ds gs before hval0 hW _ hsz0 hL _
  have hval : ∀ (j : Nat) t v, Tryz.f3.params[j]? = some t → args[j]? = some v → Value.okWide Tryz.prog W .any base t v := hval0
  have hsz : (DataW.weightsEach Tryz.prog (Tryz.f3.params.toList ++ Rows.listsSaySpec.plain.varTypes Tryz.prog) (ds ++ gs)).all (· ≤ reachBytes) = true := hsz0
  have hW' := hW
  obtain ⟨p, q, hA0, hV, rfl, hfz, hnd⟩ := hW
  have hA : DataW.TrodAll enc Tryz.prog W 0 (fun _ => true) true Tryz.f3.params.toList args.toList ds p := hA0
  rw [Tryz.params3] at hA hval hsz
  obtain ⟨v0, vs0, d0, ds0, p0, q0, hargs, rfl, rfl, h0, r0⟩ := trodAll_cons hA
  obtain ⟨v1, vs1, d1, ds1, p1, q1, rfl, rfl, rfl, h1, r1⟩ := trodAll_cons r0
  obtain ⟨v2, vs2, d2, ds2, p2, q2, rfl, rfl, rfl, h2, r2⟩ := trodAll_cons r1
  obtain ⟨v3, vs3, d3, ds3, p3, q3, rfl, rfl, rfl, h3, r3⟩ := trodAll_cons r2
  obtain ⟨v4, vs4, d4, ds4, p4, q4, rfl, rfl, rfl, h4, r4⟩ := trodAll_cons r3
  obtain ⟨rfl, rfl, rfl⟩ := trodAll_nil r4
  obtain rfl : args = #[v0, v1, v2, v3, v4] := by cases args; simp_all
  obtain ⟨rfl, rfl⟩ := trodVars_none hV
  obtain ⟨a0, len0, cap0, rfl⟩ := okWide_slice Tryz.underlying22 (hval 0 22 v0 rfl rfl)
  have k0 := h0
  have lt0 : ∀ x ∈ p0, x.block < W.heap.size := by obtain ⟨m, hm⟩ := k0; exact DataW.trod_lt m _ _ _ hm
  obtain ⟨fuel0, hf0⟩ := h0
  obtain ⟨x0, t0, n0, m0, z0⟩ := open_tss hf0 (fun n hn => by have := List.all_eq_true.1 hsz n (DataW.weights_mem_each (j := 0) rfl rfl n hn); simpa using this)
  obtain ⟨a1, len1, cap1, rfl⟩ := okWide_slice Tryz.underlying23 (hval 1 23 v1 rfl rfl)
  have k1 := h1
  have lt1 : ∀ x ∈ p1, x.block < W.heap.size := by obtain ⟨m, hm⟩ := k1; exact DataW.trod_lt m _ _ _ hm
  obtain ⟨fuel1, hf1⟩ := h1
  obtain ⟨x1, t1, n1, z1⟩ := open_tx hf1 (fun n hn => by have := List.all_eq_true.1 hsz n (DataW.weights_mem_each (j := 1) rfl rfl n hn); simpa using this)
  obtain ⟨a2, len2, cap2, rfl⟩ := okWide_slice Tryz.underlying23 (hval 2 23 v2 rfl rfl)
  have k2 := h2
  have lt2 : ∀ x ∈ p2, x.block < W.heap.size := by obtain ⟨m, hm⟩ := k2; exact DataW.trod_lt m _ _ _ hm
  obtain ⟨fuel2, hf2⟩ := h2
  obtain ⟨x2, t2, n2, z2⟩ := open_tx hf2 (fun n hn => by have := List.all_eq_true.1 hsz n (DataW.weights_mem_each (j := 2) rfl rfl n hn); simpa using this)
  obtain ⟨x3, rfl, rfl, rfl, w3⟩ := open_int Tryz.underlying3 (hval 3 3 v3 rfl rfl) h3
  obtain ⟨x4, rfl, rfl, rfl, w4⟩ := open_string Tryz.underlying9 (hval 4 9 v4 rfl rfl) h4
  clear hA0 hval0
  obtain ⟨ea, hE⟩ := err_of hL
  have hP := pow_of hL
  have hs4 : x4.data.toList.length ≤ 9223372036854775807 := by
    have h := of_decide_eq_true (List.all_eq_true.1 hsz x4.size (DataW.weights_mem_each (j := 4) rfl rfl _ (by simp [DataW.weights])))
    have hr : reachBytes = 140737488351232 := by decide
    have h2 : x4.data.toList.length = x4.size := Array.length_toList
    omega
  have hi3 : -9223372036854775808 ≤ x3 ∧ x3 ≤ 9223372036854775807 := by
    have h1 : (decide (IntKind.i64.min ≤ x3) && decide (x3 ≤ IntKind.i64.max)) = true := w3
    rw [show IntKind.i64.min = -9223372036854775808 by decide, show IntKind.i64.max = 9223372036854775807 by decide, Bool.and_eq_true] at h1
    exact ⟨of_decide_eq_true h1.1, of_decide_eq_true h1.2⟩
  refine (say_main _ _ _ x0 x1 x2 x3 x4.data.toList ea W t0 t1 t2 n0 m0 z0 n1 z1 n2 z2 hi3.1 hi3.2 hs4 hE hP).mono fun e W' ⟨he, bel⟩ => ?_
  subst he
  exact ⟨_, rfl, _, _, _, [], _, [], hW', trodAll_mk1 (shut_bool Tryz.underlying4 _), (trodAll_cons_mk (Below.trod laidOut3 (by kernel_rfl) (of_decide_eq_true (by kernel_rfl)) k0 bel lt0) (trodAll_cons_mk (Below.trod laidOut3 (by kernel_rfl) (of_decide_eq_true (by kernel_rfl)) k1 bel lt1) (trodAll_cons_mk (Below.trod laidOut3 (by kernel_rfl) (of_decide_eq_true (by kernel_rfl)) k2 bel lt2) (trodAll_cons_mk (shut_int Tryz.underlying3 w3) (trodAll_cons_mk (shut_string Tryz.underlying9 w4) trodAll_mk0))))), rfl, bel.frame _, fun h => by cases h⟩

theorem said : Rows.ListsSaySaid :=
  OpenClaim.holds_of_wide 3 Tryz.f3 rfl rfl rfl rfl rfl rfl rfl ⟨rfl, rfl, rfl, rfl, rfl⟩ rfl rfl rfl rfl rfl (by kernel_rfl) Tryz.func3 (by kernel_rfl)
    (of_decide_eq_true (by kernel_rfl)) (by unfold Func.isWrapper; first | (rw [if_pos (by decide +kernel)]; kernel_rfl) | (rw [if_neg (by decide +kernel)]; exact ⟨rfl, rfl⟩))
    (fun os started H enc _ => lifted os started H enc)

theorem plain (f : FuncId) (fn : Func) (hf : Tryz.pinned.checked.prog.funcNamed Rows.listsSayRow.func = some f) (hfn : Tryz.pinned.checked.prog.funcs[f]? = some fn) :
    true = Tryz.pinned.checked.prog.looks [] ∧ ∀ (j : Nat) t, fn.params[j]? = some t → Tryz.pinned.checked.prog.wantsStandIn t = false := by
  obtain rfl : f = 3 := Option.some.inj ((show Tryz.prog.funcNamed Rows.listsSayRow.func = some 3 by kernel_rfl).symm.trans hf) |>.symm
  obtain rfl : fn = Tryz.f3 := (Option.some.inj (Tryz.func3.symm.trans hfn)).symm
  refine ⟨by kernel_rfl, fun j t ht => ?_⟩
  rw [Tryz.params3] at ht
  have hm : t ∈ [22, 23, 23, 3, 9] := by simpa using Array.mem_of_getElem? ht
  have hall : ([22, 23, 23, 3, 9].all fun u => !Tryz.prog.wantsStandIn u) = true := by kernel_rfl
  exact (show Tryz.prog.wantsStandIn t = false by simpa using List.all_eq_true.1 hall t hm)

theorem proved : Rows.ListsSayCardSaid :=
  Claim7.holds_tied_plain_at .later [] _ _ _ _ said (fun _ h => by cases h) (by kernel_rfl) (fun _ h => by cases h) listsSay_row_tie rfl ⟨rfl, rfl⟩ (by kernel_rfl) rfl plain (by kernel_rfl)
end Go.Proofs.YtdajacodfnidfaaGreatDoor.cardListsSay
namespace Go.Proofs.YtdajacodfnidfaaGreatDoor
theorem listsSay_card : Rows.ListsSayCardSaid := cardListsSay.proved
#print axioms listsSay_card
end Go.Proofs.YtdajacodfnidfaaGreatDoor
