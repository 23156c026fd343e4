/- RunDeep: its first run, whatever the order of its parts. -/
import Derived.Test.YtfafhjglcaikoaaGreatDoorR35
import Derived.Test.YtfafhjglcaikoaaGreatDoorR43
namespace Go.Proofs.YtfafhjglcaikoaaGreatDoor
open Go.RowKit
attribute [local go_sem] Oper.semAt_some
attribute [local go_sem] run_store_nilFunc

variable {W : World} {ea : Nat → Addr}
theorem deepW_len : ∀ m : Nat, (deepW m).length = 3 * m + 1
  | 0 => rfl
  | m + 1 => by
    show (deepC (deepW m)).length = _
    simp only [deepC, newN, List.flatten_cons, List.flatten_nil, List.length_cons, List.length_append, List.length_nil, deepW_len m]
    omega
def regE_F (ea : Nat → Addr) (W : World) (m d : Nat) (r : Cr) : Nat → Value → World → Prop
  | 0, v, w => NdAt w v (deepW m)
  | 1, v, w => KdL w v [(deepW m)]
  | 2, v, w => NdAt w v (progW m)
  | 3, v, _ => v = wV (.slice none 0 0) (.slice none 0 0)
  | 4, v, _ => v = oV 1500 d []
  | 5, v, w => ∃ u, v = .tuple #[u, .nilIface] ∧ RunV ea W.heap.size (r.2.1) (deepE m d) (r.1) u w
  | 6, v, w => ∃ u, v = .tuple #[u, .nilIface] ∧ RunV ea W.heap.size (r.2.1) (deepE m d) (r.1) u w
  | 7, v, w => RunV ea W.heap.size (r.2.1) (deepE m d) (r.1) v w
  | 8, v, _ => v = .nilIface
  | 9, v, w => ∃ zb, v = .pointer (some ⟨zb, 0, none⟩) ∧ W.heap.size ≤ zb ∧ Cel w zb 54 zero54
  | _, _, _ => True
theorem regE_below (m d : Nat) (r : Cr) (j : Nat) (u : Value) (w w' : World) (h : regE_F ea W m d r j u w) (hb : Below w.heap.size w w') : regE_F ea W m d r j u w' :=
  match j, h with
  | 0, h => NdAt.below h hb (Nat.le_refl _)
  | 1, h => KdL.below h hb
  | 2, h => NdAt.below h hb (Nat.le_refl _)
  | 3, h => h
  | 4, h => h
  | 5, h => h.elim fun u hu => ⟨u, hu.1, hu.2.below hb⟩
  | 6, h => h.elim fun u hu => ⟨u, hu.1, hu.2.below hb⟩
  | 7, h => RunV.below h hb
  | 8, h => h
  | 9, h => h.elim fun zb hz => ⟨zb, hz.1, hz.2.1, hz.2.2.below hb hz.2.2.lt⟩
  | _ + 10, _ => trivial
set_option maxRecDepth 100000 in
set_option maxHeartbeats 8000000 in
theorem regE {a6 : Option Addr} {k6 c6 : Nat} {Q : Exit → Act → World → Prop} {bo : Nat} {s0 s1 s2 s3 s4 s5 s7 s9 s10 s11 s12 s13 s14 s15 s16 s17 s18 s19 s20 s21 s22 s23 s24 s25 s26 s27 s28 s29 s30 s31 s32 s33 s34 s35 s36 s37 s38 s39 s40 s41 s42 s43 s44 s45 s46 s47 s48 s49 s50 s51 s52 s53 s54 s55 s56 s57 s58 s59 s60 s61 s62 s63 s64 s65 s66 s67 s68 s69 s70 s71 s72 s73 s74 s75 s76 s77 s78 s79 s80 s81 s82 s83 s84 s85 s86 s87 s88 s89 s90 s91 s92 s93 s94 s95 s96 s97 s98 s99 s100 s101 s102 s103 s104 s105 s106 s107 s108 s109 s110 s111 s112 s113 s114 s115 s116 s117 s118 s119 s120 s121 : Value} (m d : Nat) (r : Cr) (hE : ErX W ea) (h17 : 17 ≤ W.heap.size) (hm : m < 12) (ho : Cel W bo 44 (optD d [])) (hv : NdAt W (.slice a6 k6 c6) (deepW m)) (hrun : ∀ v w, ErX w ea → 17 ≤ w.heap.size → NdAt w v (progW m) → Calls Tryz.prog 26 #[v, wV (.slice none 0 0) (.slice none 0 0), oV 1500 d []] w (RunC ea w (r.2.1) (deepE m d) (r.1))) (hP : ∀ c (a : Act) d v w, Q (.panic c) (a.put (some d) v) w → Q (.panic c) a w)
    (hQ : ∀ (y : Nat → Value) zb w', Box ea W.heap.size w' zb (r.2.1) (deepE m d) (r.1) → Below W.heap.size W w' → Q .normal ⟨#[s0, s1, s2, s3, s4, s5, .slice a6 k6 c6, s7, .pointer (some ⟨bo, 0, none⟩), .pointer (some ⟨zb, 0, none⟩), .nilIface, s11, s12, s13, s14, s15, s16, s17, s18, s19, s20, s21, s22, s23, s24, s25, s26, s27, s28, s29, s30, s31, s32, s33, s34, s35, s36, s37, s38, y 6, y 0, y 1, y 2, y 3, y 4, y 5, y 7, y 8, s48, s49, s50, s51, s52, s53, s54, s55, s56, s57, s58, s59, s60, s61, s62, s63, s64, s65, s66, s67, s68, s69, s70, s71, s72, s73, s74, s75, s76, s77, s78, s79, s80, s81, s82, s83, s84, s85, s86, s87, s88, s89, s90, s91, s92, s93, s94, s95, s96, s97, s98, s99, s100, s101, s102, s103, s104, s105, s106, s107, s108, s109, s110, s111, s112, s113, s114, s115, s116, s117, s118, s119, s120, s121], []⟩ w') : Code.wp Tryz.prog ((cRg 13 (Tryz.f6.body.getD .skip)).getD .skip) Q ⟨#[s0, s1, s2, s3, s4, s5, .slice a6 k6 c6, s7, .pointer (some ⟨bo, 0, none⟩), s9, s10, s11, s12, s13, s14, s15, s16, s17, s18, s19, s20, s21, s22, s23, s24, s25, s26, s27, s28, s29, s30, s31, s32, s33, s34, s35, s36, s37, s38, s39, s40, s41, s42, s43, s44, s45, s46, s47, s48, s49, s50, s51, s52, s53, s54, s55, s56, s57, s58, s59, s60, s61, s62, s63, s64, s65, s66, s67, s68, s69, s70, s71, s72, s73, s74, s75, s76, s77, s78, s79, s80, s81, s82, s83, s84, s85, s86, s87, s88, s89, s90, s91, s92, s93, s94, s95, s96, s97, s98, s99, s100, s101, s102, s103, s104, s105, s106, s107, s108, s109, s110, s111, s112, s113, s114, s115, s116, s117, s118, s119, s120, s121], []⟩ W := by
  have HE : Hid (∀ w, Below W.heap.size W w → ErX w ea ∧ 17 ≤ w.heap.size) := fun w hb => ⟨hE.below (Nat.le_refl _) hb, Nat.le_trans h17 hb.size⟩
  have HO : Hid (∀ w, Below W.heap.size W w → Cel w bo 44 (optD d [])) := fun w hb => ho.below hb ho.lt
  have HQ : Hid (∀ (y : Nat → Value) zb w', Box ea W.heap.size w' zb (r.2.1) (deepE m d) (r.1) → Below W.heap.size W w' → Q .normal ⟨#[s0, s1, s2, s3, s4, s5, .slice a6 k6 c6, s7, .pointer (some ⟨bo, 0, none⟩), .pointer (some ⟨zb, 0, none⟩), .nilIface, s11, s12, s13, s14, s15, s16, s17, s18, s19, s20, s21, s22, s23, s24, s25, s26, s27, s28, s29, s30, s31, s32, s33, s34, s35, s36, s37, s38, y 6, y 0, y 1, y 2, y 3, y 4, y 5, y 7, y 8, s48, s49, s50, s51, s52, s53, s54, s55, s56, s57, s58, s59, s60, s61, s62, s63, s64, s65, s66, s67, s68, s69, s70, s71, s72, s73, s74, s75, s76, s77, s78, s79, s80, s81, s82, s83, s84, s85, s86, s87, s88, s89, s90, s91, s92, s93, s94, s95, s96, s97, s98, s99, s100, s101, s102, s103, s104, s105, s106, s107, s108, s109, s110, s111, s112, s113, s114, s115, s116, s117, s118, s119, s120, s121], []⟩ w') := hQ
  have HV : Hid (∀ w, Below W.heap.size W w → NdAt w (.slice a6 k6 c6) (deepW m)) := fun w hb => hv.below hb (Nat.le_refl _)
  have HRUN : Hid (∀ v w, ErX w ea → 17 ≤ w.heap.size → NdAt w v (progW m) → Calls Tryz.prog 26 #[v, wV (.slice none 0 0) (.slice none 0 0), oV 1500 d []] w (RunC ea w (r.2.1) (deepE m d) (r.1))) := hrun
  clear hE h17 ho hQ hv hrun
  show Code.wp _ (Code.region 13 _ true) _ _ _
  refine wp_flow (m := 10) (M := [0, 1, 2, 3, 4, 5, 6, 7, 9]) (by kernel_rfl) (fun x => ⟨#[s0, s1, s2, s3, s4, s5, .slice a6 k6 c6, s7, .pointer (some ⟨bo, 0, none⟩), x 9, s10, s11, s12, s13, s14, s15, s16, s17, s18, s19, s20, s21, s22, s23, s24, s25, s26, s27, s28, s29, s30, s31, s32, s33, s34, s35, s36, s37, s38, x 6, x 0, x 1, x 2, x 3, x 4, x 5, x 7, x 8, s48, s49, s50, s51, s52, s53, s54, s55, s56, s57, s58, s59, s60, s61, s62, s63, s64, s65, s66, s67, s68, s69, s70, s71, s72, s73, s74, s75, s76, s77, s78, s79, s80, s81, s82, s83, s84, s85, s86, s87, s88, s89, s90, s91, s92, s93, s94, s95, s96, s97, s98, s99, s100, s101, s102, s103, s104, s105, s106, s107, s108, s109, s110, s111, s112, s113, s114, s115, s116, s117, s118, s119, s120, s121], []⟩) (regE_F ea W m d r) (fun w => Hid (Below W.heap.size W w)) (fun j => match j with | 0 => s40 | 1 => s41 | 2 => s42 | 3 => s43 | 4 => s44 | 5 => s45 | 6 => s39 | 7 => s46 | 8 => s47 | 9 => s9 | _ => .nilIface) rfl (by kernel_rfl) (regE_below m d r) ?hG (Below.refl _ _) ?hstep ?hstop
  case hG => exact fun w w' h hb => (h.out.trans (hb.mono h.out.size) : Below W.heap.size W w')
  case hstep =>
    intro i hi x w g pre
    clear HQ hP
    obtain rfl | rfl | rfl | rfl | rfl | rfl | rfl | rfl | rfl | rfl : i = 0 ∨ i = 1 ∨ i = 2 ∨ i = 3 ∨ i = 4 ∨ i = 5 ∨ i = 6 ∨ i = 7 ∨ i = 8 ∨ i = 9 := by omega
    · clear pre
      have hm : Hid (NdAt w (.slice a6 k6 c6) (deepW m)) := HV.out w g.out
      refine wpOp_now rfl (by rfl) ?_
      simp only [List.getElem_toArray, List.getElem_cons_zero]
      go_wp2_with fail
      exact ⟨_, rfl, hm.out, Below.refl _ _⟩
    · have h0 : NdAt w (x 0) (deepW m) := pre 0 (by kernel_rfl)
      obtain ⟨a0, c0, e0⟩ := h0.form
      rw [e0] at h0
      have H : Hid (KdL _ _ _) := kdl_one h0
      have HE : Hid (x 0 = .slice a0 (deepW m).length c0) := e0
      clear pre
      refine wpOp_now rfl (by rfl) ?_
      simp only [List.getElem_toArray, List.getElem_cons_succ, List.getElem_cons_zero]
      simp only [e0]
      clear e0 h0
      go_wp2_with fail
      refine ⟨_, ?_, H.out, below_new _ _⟩
      rw [← HE.out]
      rfl
    · have hp : Hid (KdL w (x 1) [(deepW m)]) := pre 1 (by kernel_rfl)
      clear pre
      refine wpOp_now rfl (by rfl) ?_
      simp only [List.getElem_toArray, List.getElem_cons_succ, List.getElem_cons_zero]
      go_wp2_with fail
      refine Calls.mono (newL_any 22 0 [120] _ _ _ hp.out (by simp) (by have := deepW_len m; simp only [List.flatten_cons, List.flatten_nil, List.append_nil]; omega)) ?_
      rintro e w' ⟨v', rfl, h1, h2⟩
      exact ⟨_, rfl, h1, h2⟩
    · clear pre
      refine wpOp_now rfl (by rfl) ?_
      simp only [List.getElem_toArray, List.getElem_cons_succ, List.getElem_cons_zero]
      go_wp2_with fail
      exact ⟨_, rfl, rfl, Below.refl _ _⟩
    · clear pre
      have ho := HO.out w g.out
      have o0 := ho.cell 0
      have o1 := ho.cell 1
      have o2 := ho.cell 2
      have o3 := ho.cell 3
      have o4 := ho.cell 4
      have o5 := ho.cell 5
      clear ho
      refine wpOp_now rfl (by rfl) ?_
      simp only [List.getElem_toArray, List.getElem_cons_succ, List.getElem_cons_zero]
      go_wp2_with fail
      exact ⟨_, rfl, rfl, Below.refl _ _⟩
    · have h5 : NdAt w (x 2) (progW m) := pre 2 (by kernel_rfl)
      have e6 : x 3 = wV (.slice none 0 0) (.slice none 0 0) := pre 3 (by kernel_rfl)
      have e7 : x 4 = oV 1500 d [] := pre 4 (by kernel_rfl)
      have hr := HRUN.out (x 2) w (HE.out w g.out).1 (HE.out w g.out).2 h5
      rw [← e6, ← e7] at hr
      have HR : Hid (Calls Tryz.prog 26 #[x 2, x 3, x 4] w (RunC ea w (r.2.1) (deepE m d) (r.1))) := hr
      clear pre hr h5 e6 e7
      refine wpOp_now rfl (by rfl) ?_
      simp only [List.getElem_toArray, List.getElem_cons_succ, List.getElem_cons_zero]
      go_wp2_with fail
      refine Calls.mono HR.out ?_
      intro e w' hc
      obtain ⟨u, rfl, h1, h2⟩ := hc.runV (B := W.heap.size) g.out.size
      exact ⟨_, rfl, ⟨u, rfl, h1⟩, h2⟩
    · have hp : Hid (∃ u, x 5 = .tuple #[u, .nilIface] ∧ RunV ea W.heap.size (r.2.1) (deepE m d) (r.1) u w) := pre 5 (by kernel_rfl)
      clear pre
      refine wpOp_now rfl (by rfl) ?_
      simp only [List.getElem_toArray, List.getElem_cons_succ, List.getElem_cons_zero]
      go_wp2_with fail
      exact ⟨_, rfl, hp.out, Below.refl _ _⟩
    · obtain ⟨u, e9, hu⟩ : ∃ u, x 6 = .tuple #[u, .nilIface] ∧ RunV ea W.heap.size (r.2.1) (deepE m d) (r.1) u w := pre 6 (by kernel_rfl)
      have HU : Hid (RunV ea W.heap.size (r.2.1) (deepE m d) (r.1) u w) := hu
      have H9 : Hid (x 6 = .tuple #[u, .nilIface]) := e9
      clear pre hu
      refine wpOp_now rfl (by rfl) ?_
      simp only [List.getElem_toArray, List.getElem_cons_succ, List.getElem_cons_zero]
      simp only [e9]
      clear e9
      go_wp2_with fail
      refine ⟨_, ?_, HU.out, Below.refl _ _⟩
      rw [← H9.out]
      rfl
    · obtain ⟨u, e9, hu⟩ : ∃ u, x 6 = .tuple #[u, .nilIface] ∧ RunV ea W.heap.size (r.2.1) (deepE m d) (r.1) u w := pre 6 (by kernel_rfl)
      have HU : Hid (RunV ea W.heap.size (r.2.1) (deepE m d) (r.1) u w) := hu
      have H9 : Hid (x 6 = .tuple #[u, .nilIface]) := e9
      clear pre hu
      refine wpOp_now rfl (by rfl) ?_
      simp only [List.getElem_toArray, List.getElem_cons_succ, List.getElem_cons_zero]
      simp only [e9]
      clear e9
      go_wp2_with fail
      refine ⟨_, ?_, rfl, Below.refl _ _⟩
      rw [← H9.out]
      rfl
    · clear pre
      refine wpOp_now rfl (by rfl) ?_
      simp only [List.getElem_toArray, List.getElem_cons_succ, List.getElem_cons_zero]
      go_wp2_with fail
      exact ⟨_, rfl, ⟨_, rfl, g.out.size, Cel.new _ _ _⟩, below_new _ _⟩
  case hstop =>
    intro l x w fuel g c hs hM hl hu
    clear HE HO HV HRUN
    have c0 : regE_F ea W m d r 7 (x 7) w := c 7 (hM 7 (by simp))
    have cz : regE_F ea W m d r 9 (x 9) w := c 9 (hM 9 (by simp))
    obtain ⟨b, rfl⟩ : ∃ b, l = #[true, true, true, true, true, true, true, true, b, true, false, false] := by
      refine ⟨l.getD 8 false, arr_ext (by rw [hs]; rfl) fun i hi => ?_⟩
      have hi2 : i < 12 := hi
      obtain rfl | rfl | rfl | rfl | rfl | rfl | rfl | rfl | rfl | rfl | rfl | rfl : i = 0 ∨ i = 1 ∨ i = 2 ∨ i = 3 ∨ i = 4 ∨ i = 5 ∨ i = 6 ∨ i = 7 ∨ i = 8 ∨ i = 9 ∨ i = 10 ∨ i = 11 := by omega
      · exact (hM 0 (by simp)).trans rfl
      · exact (hM 1 (by simp)).trans rfl
      · exact (hM 2 (by simp)).trans rfl
      · exact (hM 3 (by simp)).trans rfl
      · exact (hM 4 (by simp)).trans rfl
      · exact (hM 5 (by simp)).trans rfl
      · exact (hM 6 (by simp)).trans rfl
      · exact (hM 7 (by simp)).trans rfl
      · rfl
      · exact (hM 9 (by simp)).trans rfl
      · exact (hl 10 (by omega) (by simp)).trans rfl
      · exact (hl 11 (by omega) (by simp)).trans rfl
    rcases b with _ | _
    · obtain ⟨n, rfl⟩ : ∃ n, fuel = n + 3 := ⟨fuel - 3, by have : unl #[true, true, true, true, true, true, true, true, false, true, false, false] = 3 := (by rfl); omega⟩
      obtain ⟨u, e9, -⟩ : ∃ u, x 6 = .tuple #[u, .nilIface] ∧ RunV ea W.heap.size (r.2.1) (deepE m d) (r.1) u w := c 6 (hM 6 (by simp))
      have H9 : Hid (x 6 = .tuple #[u, .nilIface]) := e9
      clear c hs hM hl hu e9
      refine wpAny_take (i := 8) (v := .nilIface) rfl (by kernel_rfl) (by kernel_rfl) (by kernel_rfl) (fun c a w h => hP c a _ _ w h) (Or.inl ⟨by rfl, ?_⟩) ?_
      · intro wz
        simp only [H9.out]
        go_simp
      · show wpAny _ _ _ _ _ #[true, true, true, true, true, true, true, true, true, true, false, false] ((fun x => ⟨#[s0, s1, s2, s3, s4, s5, .slice a6 k6 c6, s7, .pointer (some ⟨bo, 0, none⟩), x 9, s10, s11, s12, s13, s14, s15, s16, s17, s18, s19, s20, s21, s22, s23, s24, s25, s26, s27, s28, s29, s30, s31, s32, s33, s34, s35, s36, s37, s38, x 6, x 0, x 1, x 2, x 3, x 4, x 5, x 7, x 8, s48, s49, s50, s51, s52, s53, s54, s55, s56, s57, s58, s59, s60, s61, s62, s63, s64, s65, s66, s67, s68, s69, s70, s71, s72, s73, s74, s75, s76, s77, s78, s79, s80, s81, s82, s83, s84, s85, s86, s87, s88, s89, s90, s91, s92, s93, s94, s95, s96, s97, s98, s99, s100, s101, s102, s103, s104, s105, s106, s107, s108, s109, s110, s111, s112, s113, s114, s115, s116, s117, s118, s119, s120, s121], []⟩ : (Nat → Value) → Act) (upd x 8 .nilIface)) w
        have c1 : regE_F ea W m d r 8 (upd x 8 .nilIface 8) w := rfl
        obtain ⟨x2, hx2⟩ : ∃ x2, x2 = upd x 8 .nilIface := ⟨_, rfl⟩
        rw [← hx2] at c1 ⊢
        replace c0 : regE_F ea W m d r 7 (x2 7) w := by rw [hx2]; exact c0
        replace cz : regE_F ea W m d r 9 (x2 9) w := by rw [hx2]; exact cz
        clear hx2 H9 x
        obtain ⟨x, rfl⟩ : ∃ x, x = x2 := ⟨x2, rfl⟩
        show wpAny _ _ _ _ _ #[true, true, true, true, true, true, true, true, true, true, false, false] ⟨#[s0, s1, s2, s3, s4, s5, .slice a6 k6 c6, s7, .pointer (some ⟨bo, 0, none⟩), x 9, s10, s11, s12, s13, s14, s15, s16, s17, s18, s19, s20, s21, s22, s23, s24, s25, s26, s27, s28, s29, s30, s31, s32, s33, s34, s35, s36, s37, s38, x 6, x 0, x 1, x 2, x 3, x 4, x 5, x 7, x 8, s48, s49, s50, s51, s52, s53, s54, s55, s56, s57, s58, s59, s60, s61, s62, s63, s64, s65, s66, s67, s68, s69, s70, s71, s72, s73, s74, s75, s76, s77, s78, s79, s80, s81, s82, s83, s84, s85, s86, s87, s88, s89, s90, s91, s92, s93, s94, s95, s96, s97, s98, s99, s100, s101, s102, s103, s104, s105, s106, s107, s108, s109, s110, s111, s112, s113, s114, s115, s116, s117, s118, s119, s120, s121], []⟩ w
        obtain ⟨zb, ez, hzB, hc⟩ : ∃ zb, x 9 = .pointer (some ⟨zb, 0, none⟩) ∧ W.heap.size ≤ zb ∧ Cel w zb 54 zero54 := cz
        obtain ⟨v1, ta, tn, tc, va, vn, vc, fa, fn, fc, e0, hv1, HB⟩ := box_set (ea := ea) hzB c0 hc rfl
        have e1 : x 8 = .nilIface := c1
        have q0 := hc.cell 0
        have q1 := hc.cell 1
        have q2 := hc.cell 2
        have q3 := hc.cell 3
        have q4 := hc.cell 4
        have q5 := hc.cell 5
        have z0 := hc.frozen 0
        have z1 := hc.frozen 1
        have z2 := hc.frozen 2
        have z3 := hc.frozen 3
        have z4 := hc.frozen 4
        have z5 := hc.frozen 5
        have HZ : Hid (W.heap.size ≤ zb) := hzB
        clear c0 c1 hc hzB
        simp only [e0, e1, ez]
        clear e0 e1 ez
        rcases hv1 with rfl | ⟨a9, rfl⟩
        · refine wpAny_ready (rs := [10]) (by kernel_rfl) (by simp) ?_
          refine AllReady.cons rfl (fun K hK => ?_) AllReady.nil
          go_wp2_with fail
          refine wpAny_ready (rs := [11]) (by kernel_rfl) (by simp) ?_
          refine AllReady.cons rfl (fun K hK => ?_) AllReady.nil
          go_wp2_with fail
          refine wpAny_done (by kernel_rfl) ?_ _
          exact HQ.out (upd (upd (upd x 7 (.agg #[.int .i64 (r.2.1), .nilIface, .slice ta tn tc, .slice va vn vc, .slice fa fn fc, .int .i64 ((r.1).st : Nat)])) 8 .nilIface) 9 .nilIface) zb _ HB.out.1 (g.out.trans (HB.out.2.below (fun i e => by rw [e]; exact HZ.out) g.out.size))
        · refine wpAny_ready (rs := [10]) (by kernel_rfl) (by simp) ?_
          refine AllReady.cons rfl (fun K hK => ?_) AllReady.nil
          go_wp2_with fail
          refine wpAny_ready (rs := [11]) (by kernel_rfl) (by simp) ?_
          refine AllReady.cons rfl (fun K hK => ?_) AllReady.nil
          go_wp2_with fail
          refine wpAny_done (by kernel_rfl) ?_ _
          exact HQ.out (upd (upd (upd x 7 (.agg #[.int .i64 (r.2.1), errV a9, .slice ta tn tc, .slice va vn vc, .slice fa fn fc, .int .i64 ((r.1).st : Nat)])) 8 .nilIface) 9 .nilIface) zb _ HB.out.1 (g.out.trans (HB.out.2.below (fun i e => by rw [e]; exact HZ.out) g.out.size))
    · obtain ⟨n, rfl⟩ : ∃ n, fuel = n + 2 := ⟨fuel - 2, by have : unl #[true, true, true, true, true, true, true, true, true, true, false, false] = 2 := (by rfl); omega⟩
      have c1 : regE_F ea W m d r 8 (x 8) w := c 8 rfl
      clear c hs hM hl hu
      show wpAny _ _ _ _ _ #[true, true, true, true, true, true, true, true, true, true, false, false] ⟨#[s0, s1, s2, s3, s4, s5, .slice a6 k6 c6, s7, .pointer (some ⟨bo, 0, none⟩), x 9, s10, s11, s12, s13, s14, s15, s16, s17, s18, s19, s20, s21, s22, s23, s24, s25, s26, s27, s28, s29, s30, s31, s32, s33, s34, s35, s36, s37, s38, x 6, x 0, x 1, x 2, x 3, x 4, x 5, x 7, x 8, s48, s49, s50, s51, s52, s53, s54, s55, s56, s57, s58, s59, s60, s61, s62, s63, s64, s65, s66, s67, s68, s69, s70, s71, s72, s73, s74, s75, s76, s77, s78, s79, s80, s81, s82, s83, s84, s85, s86, s87, s88, s89, s90, s91, s92, s93, s94, s95, s96, s97, s98, s99, s100, s101, s102, s103, s104, s105, s106, s107, s108, s109, s110, s111, s112, s113, s114, s115, s116, s117, s118, s119, s120, s121], []⟩ w
      obtain ⟨zb, ez, hzB, hc⟩ : ∃ zb, x 9 = .pointer (some ⟨zb, 0, none⟩) ∧ W.heap.size ≤ zb ∧ Cel w zb 54 zero54 := cz
      obtain ⟨v1, ta, tn, tc, va, vn, vc, fa, fn, fc, e0, hv1, HB⟩ := box_set (ea := ea) hzB c0 hc rfl
      have e1 : x 8 = .nilIface := c1
      have q0 := hc.cell 0
      have q1 := hc.cell 1
      have q2 := hc.cell 2
      have q3 := hc.cell 3
      have q4 := hc.cell 4
      have q5 := hc.cell 5
      have z0 := hc.frozen 0
      have z1 := hc.frozen 1
      have z2 := hc.frozen 2
      have z3 := hc.frozen 3
      have z4 := hc.frozen 4
      have z5 := hc.frozen 5
      have HZ : Hid (W.heap.size ≤ zb) := hzB
      clear c0 c1 hc hzB
      simp only [e0, e1, ez]
      clear e0 e1 ez
      rcases hv1 with rfl | ⟨a9, rfl⟩
      · refine wpAny_ready (rs := [10]) (by kernel_rfl) (by simp) ?_
        refine AllReady.cons rfl (fun K hK => ?_) AllReady.nil
        go_wp2_with fail
        refine wpAny_ready (rs := [11]) (by kernel_rfl) (by simp) ?_
        refine AllReady.cons rfl (fun K hK => ?_) AllReady.nil
        go_wp2_with fail
        refine wpAny_done (by kernel_rfl) ?_ _
        exact HQ.out (upd (upd (upd x 7 (.agg #[.int .i64 (r.2.1), .nilIface, .slice ta tn tc, .slice va vn vc, .slice fa fn fc, .int .i64 ((r.1).st : Nat)])) 8 .nilIface) 9 .nilIface) zb _ HB.out.1 (g.out.trans (HB.out.2.below (fun i e => by rw [e]; exact HZ.out) g.out.size))
      · refine wpAny_ready (rs := [10]) (by kernel_rfl) (by simp) ?_
        refine AllReady.cons rfl (fun K hK => ?_) AllReady.nil
        go_wp2_with fail
        refine wpAny_ready (rs := [11]) (by kernel_rfl) (by simp) ?_
        refine AllReady.cons rfl (fun K hK => ?_) AllReady.nil
        go_wp2_with fail
        refine wpAny_done (by kernel_rfl) ?_ _
        exact HQ.out (upd (upd (upd x 7 (.agg #[.int .i64 (r.2.1), errV a9, .slice ta tn tc, .slice va vn vc, .slice fa fn fc, .int .i64 ((r.1).st : Nat)])) 8 .nilIface) 9 .nilIface) zb _ HB.out.1 (g.out.trans (HB.out.2.below (fun i e => by rw [e]; exact HZ.out) g.out.size))
end Go.Proofs.YtfafhjglcaikoaaGreatDoor
