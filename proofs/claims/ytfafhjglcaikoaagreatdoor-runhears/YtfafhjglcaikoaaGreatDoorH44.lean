/- RunHears: its runs, whatever the order of their parts. -/
import Derived.Test.YtfafhjglcaikoaaGreatDoorH43
namespace Go.Proofs.YtfafhjglcaikoaaGreatDoor
open Go.RowKit
attribute [local go_sem] Oper.semAt_some
attribute [local go_sem] run_store_nilFunc

variable {W : World} {ea : Nat → Addr}
def regH_F (ea : Nat → Addr) (W : World) (k ga fb : Nat) (pp : Option Addr) (LL cc : Nat) (ss : Sh) : Nat → Value → World → Prop
  | 0, v, _ => v = .slice (some ⟨ga, 0, none⟩) 4 4
  | 1, v, _ => v = .int .i64 (k : Nat)
  | 2, v, _ => v = .pointer (some ⟨ga, k, none⟩)
  | 3, v, _ => v = .slice pp LL cc
  | 4, v, _ => v = wV (.slice (some ⟨fb, 0, none⟩) 1 1) (.slice none 0 0)
  | 5, v, _ => v = oV 1500 25 []
  | 6, v, w => ∃ u, v = .tuple #[u, (.bool true)] ∧ RunV ea W.heap.size (0) (.ok) (ss) u w
  | 7, v, w => ∃ u, v = .tuple #[u, (.bool true)] ∧ RunV ea W.heap.size (0) (.ok) (ss) u w
  | 8, v, w => RunV ea W.heap.size (0) (.ok) (ss) v w
  | 9, v, _ => v = (.bool true)
  | 10, v, w => ∃ zb, v = .pointer (some ⟨zb, 0, none⟩) ∧ W.heap.size ≤ zb ∧ Cel w zb 54 zero54
  | _, _, _ => True
theorem regH_below (k ga fb : Nat) (pp : Option Addr) (LL cc : Nat) (ss : Sh) (j : Nat) (u : Value) (w w' : World) (h : regH_F ea W k ga fb pp LL cc ss j u w) (hb : Below w.heap.size w w') : regH_F ea W k ga fb pp LL cc ss j u w' :=
  match j, h with
  | 0, h => h
  | 1, h => h
  | 2, h => h
  | 3, h => h
  | 4, h => h
  | 5, h => h
  | 6, h => h.elim fun u hu => ⟨u, hu.1, hu.2.below hb⟩
  | 7, h => h.elim fun u hu => ⟨u, hu.1, hu.2.below hb⟩
  | 8, h => RunV.below h hb
  | 9, h => h
  | 10, h => h.elim fun zb hz => ⟨zb, hz.1, hz.2.1, hz.2.2.below hb hz.2.2.lt⟩
  | _ + 11, _ => trivial
set_option maxRecDepth 100000 in
set_option maxHeartbeats 8000000 in
theorem regH {Q : Exit → Act → World → Prop} {s0 s1 s2 s3 s5 s6 s7 s8 s9 s12 s13 s14 s15 s16 s17 s18 s19 s20 s21 s22 s23 s24 s25 s26 s27 s28 s29 s30 s31 s32 s33 s34 s35 s36 s37 s38 s39 s40 s41 s42 s43 s44 s45 s46 s47 s48 s49 s50 s51 s52 s53 s54 s55 s56 s57 s58 s59 s60 s61 s62 s63 s64 s65 s66 s67 s68 s69 s70 s71 s72 s73 s74 s75 s76 s77 s78 s79 s80 s81 s82 s83 s84 s85 s86 s87 s88 s89 s90 s91 s92 s93 s94 s95 s96 s97 s98 s99 s100 s101 s102 s103 s104 s105 s106 s107 s108 s109 s110 s111 s112 s113 s114 s115 s116 s117 s118 s119 s120 s121 s122 s123 s124 s125 s126 s127 s128 s129 s130 s131 s132 s133 s134 s135 s136 s137 s138 s139 s140 s141 s142 s143 s144 s145 s146 s147 s148 s149 s150 s151 s152 s153 s154 s155 s156 s157 s158 s159 s160 s161 s162 s163 s164 s165 s166 s167 s168 s169 s170 s171 s172 s173 s174 s175 s176 s177 : Value} (k ga fb : Nat) (pp : Option Addr) (LL cc : Nat) (ss : Sh) {wb : Nat} (hk : k < 4) (hcell : ∀ w, Below W.heap.size W w → w.cell? ⟨ga, k, none⟩ = some (.slice pp LL cc)) (hwl : ∀ w, Below W.heap.size W w → Cel w wb 27 #[.slice (some ⟨fb, 0, none⟩) 1 1, .slice none 0 0]) (hrun : ∀ w, Below W.heap.size W w → Calls Tryz.prog 18 #[.slice pp LL cc, wV (.slice (some ⟨fb, 0, none⟩) 1 1) (.slice none 0 0), oV 1500 25 []] w fun e w' => ∃ u, e = .returned (.tuple #[u, .bool true]) ∧ RunV ea W.heap.size 0 .ok ss u w' ∧ Below w.heap.size w w') (hP : ∀ c (a : Act) d v w, Q (.panic c) (a.put (some d) v) w → Q (.panic c) a w)
    (hQ : ∀ (y : Nat → Value) zb w', Box ea W.heap.size w' zb (0) (.ok) (ss) → Below W.heap.size W w' → Q .normal ⟨#[s0, s1, s2, s3, .pointer (some ⟨wb, 0, none⟩), s5, s6, s7, s8, s9, .slice (some ⟨ga, 0, none⟩) 4 4, .int .i64 (k : Nat), .pointer (some ⟨zb, 0, none⟩), (.bool true), s14, s15, s16, s17, s18, s19, s20, s21, s22, s23, s24, s25, s26, s27, s28, s29, s30, s31, s32, s33, s34, s35, s36, s37, s38, s39, s40, s41, s42, s43, s44, s45, s46, s47, s48, s49, s50, s51, s52, s53, s54, s55, s56, s57, s58, s59, s60, s61, s62, s63, s64, s65, s66, s67, s68, s69, s70, s71, s72, s73, s74, s75, s76, s77, s78, s79, s80, s81, s82, s83, y 7, y 0, y 1, y 2, y 3, y 4, y 5, y 6, y 8, y 9, s94, s95, s96, s97, s98, s99, s100, s101, s102, s103, s104, s105, s106, s107, s108, s109, s110, s111, s112, s113, s114, s115, s116, s117, s118, s119, s120, s121, s122, s123, s124, s125, s126, s127, s128, s129, s130, s131, s132, s133, s134, s135, s136, s137, s138, s139, s140, s141, s142, s143, s144, s145, s146, s147, s148, s149, s150, s151, s152, s153, s154, s155, s156, s157, s158, s159, s160, s161, s162, s163, s164, s165, s166, s167, s168, s169, s170, s171, s172, s173, s174, s175, s176, s177], []⟩ w') : Code.wp Tryz.prog ((cRg 14 (Tryz.f5.body.getD .skip)).getD .skip) Q ⟨#[s0, s1, s2, s3, .pointer (some ⟨wb, 0, none⟩), s5, s6, s7, s8, s9, .slice (some ⟨ga, 0, none⟩) 4 4, .int .i64 (k : Nat), s12, s13, s14, s15, s16, s17, s18, s19, s20, s21, s22, s23, s24, s25, s26, s27, s28, s29, s30, s31, s32, s33, s34, s35, s36, s37, s38, s39, s40, s41, s42, s43, s44, s45, s46, s47, s48, s49, s50, s51, s52, s53, s54, s55, s56, s57, s58, s59, s60, s61, s62, s63, s64, s65, s66, s67, s68, s69, s70, s71, s72, s73, s74, s75, s76, s77, s78, s79, s80, s81, s82, s83, s84, s85, s86, s87, s88, s89, s90, s91, s92, s93, s94, s95, s96, s97, s98, s99, s100, s101, s102, s103, s104, s105, s106, s107, s108, s109, s110, s111, s112, s113, s114, s115, s116, s117, s118, s119, s120, s121, s122, s123, s124, s125, s126, s127, s128, s129, s130, s131, s132, s133, s134, s135, s136, s137, s138, s139, s140, s141, s142, s143, s144, s145, s146, s147, s148, s149, s150, s151, s152, s153, s154, s155, s156, s157, s158, s159, s160, s161, s162, s163, s164, s165, s166, s167, s168, s169, s170, s171, s172, s173, s174, s175, s176, s177], []⟩ W := by
  have HCELL : Hid (∀ w, Below W.heap.size W w → w.cell? ⟨ga, k, none⟩ = some (.slice pp LL cc)) := hcell
  have HWL : Hid (∀ w, Below W.heap.size W w → Cel w wb 27 #[.slice (some ⟨fb, 0, none⟩) 1 1, .slice none 0 0]) := hwl
  have HRUN : Hid (∀ w, Below W.heap.size W w → Calls Tryz.prog 18 #[.slice pp LL cc, wV (.slice (some ⟨fb, 0, none⟩) 1 1) (.slice none 0 0), oV 1500 25 []] w fun e w' => ∃ u, e = .returned (.tuple #[u, .bool true]) ∧ RunV ea W.heap.size 0 .ok ss u w' ∧ Below w.heap.size w w') := hrun
  have HQ : Hid (∀ (y : Nat → Value) zb w', Box ea W.heap.size w' zb (0) (.ok) (ss) → Below W.heap.size W w' → Q .normal ⟨#[s0, s1, s2, s3, .pointer (some ⟨wb, 0, none⟩), s5, s6, s7, s8, s9, .slice (some ⟨ga, 0, none⟩) 4 4, .int .i64 (k : Nat), .pointer (some ⟨zb, 0, none⟩), (.bool true), s14, s15, s16, s17, s18, s19, s20, s21, s22, s23, s24, s25, s26, s27, s28, s29, s30, s31, s32, s33, s34, s35, s36, s37, s38, s39, s40, s41, s42, s43, s44, s45, s46, s47, s48, s49, s50, s51, s52, s53, s54, s55, s56, s57, s58, s59, s60, s61, s62, s63, s64, s65, s66, s67, s68, s69, s70, s71, s72, s73, s74, s75, s76, s77, s78, s79, s80, s81, s82, s83, y 7, y 0, y 1, y 2, y 3, y 4, y 5, y 6, y 8, y 9, s94, s95, s96, s97, s98, s99, s100, s101, s102, s103, s104, s105, s106, s107, s108, s109, s110, s111, s112, s113, s114, s115, s116, s117, s118, s119, s120, s121, s122, s123, s124, s125, s126, s127, s128, s129, s130, s131, s132, s133, s134, s135, s136, s137, s138, s139, s140, s141, s142, s143, s144, s145, s146, s147, s148, s149, s150, s151, s152, s153, s154, s155, s156, s157, s158, s159, s160, s161, s162, s163, s164, s165, s166, s167, s168, s169, s170, s171, s172, s173, s174, s175, s176, s177], []⟩ w') := hQ
  clear hQ hcell hwl hrun
  show Code.wp _ (Code.region 14 _ true) _ _ _
  refine wp_flow (m := 11) (M := [0, 1, 2, 3, 4, 5, 6, 7, 8, 10]) (by kernel_rfl) (fun x => ⟨#[s0, s1, s2, s3, .pointer (some ⟨wb, 0, none⟩), s5, s6, s7, s8, s9, .slice (some ⟨ga, 0, none⟩) 4 4, .int .i64 (k : Nat), x 10, s13, s14, s15, s16, s17, s18, s19, s20, s21, s22, s23, s24, s25, s26, s27, s28, s29, s30, s31, s32, s33, s34, s35, s36, s37, s38, s39, s40, s41, s42, s43, s44, s45, s46, s47, s48, s49, s50, s51, s52, s53, s54, s55, s56, s57, s58, s59, s60, s61, s62, s63, s64, s65, s66, s67, s68, s69, s70, s71, s72, s73, s74, s75, s76, s77, s78, s79, s80, s81, s82, s83, x 7, x 0, x 1, x 2, x 3, x 4, x 5, x 6, x 8, x 9, s94, s95, s96, s97, s98, s99, s100, s101, s102, s103, s104, s105, s106, s107, s108, s109, s110, s111, s112, s113, s114, s115, s116, s117, s118, s119, s120, s121, s122, s123, s124, s125, s126, s127, s128, s129, s130, s131, s132, s133, s134, s135, s136, s137, s138, s139, s140, s141, s142, s143, s144, s145, s146, s147, s148, s149, s150, s151, s152, s153, s154, s155, s156, s157, s158, s159, s160, s161, s162, s163, s164, s165, s166, s167, s168, s169, s170, s171, s172, s173, s174, s175, s176, s177], []⟩) (regH_F ea W k ga fb pp LL cc ss) (fun w => Hid (Below W.heap.size W w)) (fun j => match j with | 0 => s85 | 1 => s86 | 2 => s87 | 3 => s88 | 4 => s89 | 5 => s90 | 6 => s91 | 7 => s84 | 8 => s92 | 9 => s93 | 10 => s12 | _ => .nilIface) rfl (by kernel_rfl) (regH_below k ga fb pp LL cc ss) ?hG (Below.refl _ _) ?hstep ?hstop
  case hG => exact fun w w' h hb => (h.out.trans (hb.mono h.out.size) : Below W.heap.size W w')
  case hstep =>
    intro i hi x w g pre
    clear HQ hP
    obtain rfl | rfl | rfl | rfl | rfl | rfl | rfl | rfl | rfl | rfl | rfl : i = 0 ∨ i = 1 ∨ i = 2 ∨ i = 3 ∨ i = 4 ∨ i = 5 ∨ i = 6 ∨ i = 7 ∨ i = 8 ∨ i = 9 ∨ i = 10 := by omega
    · clear pre
      refine wpOp_now rfl (by rfl) ?_
      simp only [List.getElem_toArray, List.getElem_cons_zero]
      go_wp2_with fail
      exact ⟨_, rfl, rfl, Below.refl _ _⟩
    · clear pre
      refine wpOp_now rfl (by rfl) ?_
      simp only [List.getElem_toArray, List.getElem_cons_succ, List.getElem_cons_zero]
      go_wp2_with fail
      exact ⟨_, rfl, rfl, Below.refl _ _⟩
    · have e1 : x 0 = .slice (some ⟨ga, 0, none⟩) 4 4 := pre 0 (by kernel_rfl)
      have e2 : x 1 = .int .i64 (k : Nat) := pre 1 (by kernel_rfl)
      have H9 : Hid (x 0 = .slice (some ⟨ga, 0, none⟩) 4 4 ∧ x 1 = .int .i64 (k : Nat)) := ⟨e1, e2⟩
      clear pre
      refine wpOp_now rfl (by rfl) ?_
      simp only [List.getElem_toArray, List.getElem_cons_succ, List.getElem_cons_zero]
      simp only [e1, e2]
      clear e1 e2
      go_wp2_with fail
      refine ⟨_, ?_, rfl, Below.refl _ _⟩
      rw [← H9.out.1, ← H9.out.2]
      rfl
    · have e1 : x 2 = .pointer (some ⟨ga, k, none⟩) := pre 2 (by kernel_rfl)
      have H9 : Hid (x 2 = .pointer (some ⟨ga, k, none⟩)) := e1
      have hc := HCELL.out w g.out
      clear pre
      refine wpOp_now rfl (by rfl) ?_
      simp only [List.getElem_toArray, List.getElem_cons_succ, List.getElem_cons_zero]
      simp only [e1]
      clear e1
      go_wp2_with fail
      refine ⟨_, ?_, rfl, Below.refl _ _⟩
      rw [← H9.out]
      rfl
    · clear pre
      have ho := HWL.out w g.out
      have o0 := ho.cell 0
      have o1 := ho.cell 1
      clear ho
      refine wpOp_now rfl (by rfl) ?_
      simp only [List.getElem_toArray, List.getElem_cons_succ, List.getElem_cons_zero]
      go_wp2_with fail
      exact ⟨_, rfl, rfl, Below.refl _ _⟩
    · clear pre
      refine wpOp_now rfl (by rfl) ?_
      simp only [List.getElem_toArray, List.getElem_cons_succ, List.getElem_cons_zero]
      go_wp2_with fail
      refine Calls.mono (defaults_any _) ?_
      rintro e w' ⟨rfl, hb⟩
      exact ⟨_, rfl, rfl, hb⟩
    · have e5 : x 3 = .slice pp LL cc := pre 3 (by kernel_rfl)
      have e6 : x 4 = wV (.slice (some ⟨fb, 0, none⟩) 1 1) (.slice none 0 0) := pre 4 (by kernel_rfl)
      have e7 : x 5 = oV 1500 25 [] := pre 5 (by kernel_rfl)
      have hr := HRUN.out w g.out
      rw [← e5, ← e6, ← e7] at hr
      have HR : Hid (Calls Tryz.prog 18 #[x 3, x 4, x 5] w fun e w' => ∃ u, e = .returned (.tuple #[u, (.bool true)]) ∧ RunV ea W.heap.size (0) (.ok) (ss) u w' ∧ Below w.heap.size w w') := hr
      clear pre hr e5 e6 e7
      refine wpOp_now rfl (by rfl) ?_
      simp only [List.getElem_toArray, List.getElem_cons_succ, List.getElem_cons_zero]
      go_wp2_with fail
      refine Calls.mono HR.out ?_
      rintro e w' ⟨u, rfl, h1, h2⟩
      exact ⟨_, rfl, ⟨u, rfl, h1⟩, h2⟩
    · have hp : Hid (∃ u, x 6 = .tuple #[u, (.bool true)] ∧ RunV ea W.heap.size (0) (.ok) (ss) u w) := pre 6 (by kernel_rfl)
      clear pre
      refine wpOp_now rfl (by rfl) ?_
      simp only [List.getElem_toArray, List.getElem_cons_succ, List.getElem_cons_zero]
      go_wp2_with fail
      exact ⟨_, rfl, hp.out, Below.refl _ _⟩
    · obtain ⟨u, e9, hu⟩ : ∃ u, x 7 = .tuple #[u, (.bool true)] ∧ RunV ea W.heap.size (0) (.ok) (ss) u w := pre 7 (by kernel_rfl)
      have HU : Hid (RunV ea W.heap.size (0) (.ok) (ss) u w) := hu
      have H9 : Hid (x 7 = .tuple #[u, (.bool true)]) := e9
      clear pre hu
      refine wpOp_now rfl (by rfl) ?_
      simp only [List.getElem_toArray, List.getElem_cons_succ, List.getElem_cons_zero]
      simp only [e9]
      clear e9
      go_wp2_with fail
      refine ⟨_, ?_, HU.out, Below.refl _ _⟩
      rw [← H9.out]
      rfl
    · obtain ⟨u, e9, hu⟩ : ∃ u, x 7 = .tuple #[u, (.bool true)] ∧ RunV ea W.heap.size (0) (.ok) (ss) u w := pre 7 (by kernel_rfl)
      have HU : Hid (RunV ea W.heap.size (0) (.ok) (ss) u w) := hu
      have H9 : Hid (x 7 = .tuple #[u, (.bool true)]) := e9
      clear pre hu
      refine wpOp_now rfl (by rfl) ?_
      simp only [List.getElem_toArray, List.getElem_cons_succ, List.getElem_cons_zero]
      simp only [e9]
      clear e9
      go_wp2_with fail
      refine ⟨_, ?_, rfl, Below.refl _ _⟩
      rw [← H9.out]
      rfl
    · clear pre
      refine wpOp_now rfl (by rfl) ?_
      simp only [List.getElem_toArray, List.getElem_cons_succ, List.getElem_cons_zero]
      go_wp2_with fail
      exact ⟨_, rfl, ⟨_, rfl, g.out.size, Cel.new _ _ _⟩, below_new _ _⟩
  case hstop =>
    intro l x w fuel g c hs hM hl hu
    clear HCELL HWL HRUN
    have c0 : regH_F ea W k ga fb pp LL cc ss 8 (x 8) w := c 8 (hM 8 (by simp))
    have cz : regH_F ea W k ga fb pp LL cc ss 10 (x 10) w := c 10 (hM 10 (by simp))
    obtain ⟨b, rfl⟩ : ∃ b, l = #[true, true, true, true, true, true, true, true, true, b, true, false, false] := by
      refine ⟨l.getD 9 false, arr_ext (by rw [hs]; rfl) fun i hi => ?_⟩
      have hi2 : i < 13 := hi
      obtain rfl | rfl | rfl | rfl | rfl | rfl | rfl | rfl | rfl | rfl | rfl | rfl | rfl : i = 0 ∨ i = 1 ∨ i = 2 ∨ i = 3 ∨ i = 4 ∨ i = 5 ∨ i = 6 ∨ i = 7 ∨ i = 8 ∨ i = 9 ∨ i = 10 ∨ i = 11 ∨ i = 12 := by omega
      · exact (hM 0 (by simp)).trans rfl
      · exact (hM 1 (by simp)).trans rfl
      · exact (hM 2 (by simp)).trans rfl
      · exact (hM 3 (by simp)).trans rfl
      · exact (hM 4 (by simp)).trans rfl
      · exact (hM 5 (by simp)).trans rfl
      · exact (hM 6 (by simp)).trans rfl
      · exact (hM 7 (by simp)).trans rfl
      · exact (hM 8 (by simp)).trans rfl
      · rfl
      · exact (hM 10 (by simp)).trans rfl
      · exact (hl 11 (by omega) (by simp)).trans rfl
      · exact (hl 12 (by omega) (by simp)).trans rfl
    rcases b with _ | _
    · obtain ⟨n, rfl⟩ : ∃ n, fuel = n + 3 := ⟨fuel - 3, by have : unl #[true, true, true, true, true, true, true, true, true, false, true, false, false] = 3 := (by rfl); omega⟩
      obtain ⟨u, e9, -⟩ : ∃ u, x 7 = .tuple #[u, (.bool true)] ∧ RunV ea W.heap.size (0) (.ok) (ss) u w := c 7 (hM 7 (by simp))
      have H9 : Hid (x 7 = .tuple #[u, (.bool true)]) := e9
      clear c hs hM hl hu e9
      refine wpAny_take (i := 9) (v := (.bool true)) rfl (by kernel_rfl) (by kernel_rfl) (by kernel_rfl) (fun c a w h => hP c a _ _ w h) (Or.inl ⟨by rfl, ?_⟩) ?_
      · intro wz
        simp only [H9.out]
        go_simp
      · show wpAny _ _ _ _ _ #[true, true, true, true, true, true, true, true, true, true, true, false, false] ((fun x => ⟨#[s0, s1, s2, s3, .pointer (some ⟨wb, 0, none⟩), s5, s6, s7, s8, s9, .slice (some ⟨ga, 0, none⟩) 4 4, .int .i64 (k : Nat), x 10, s13, s14, s15, s16, s17, s18, s19, s20, s21, s22, s23, s24, s25, s26, s27, s28, s29, s30, s31, s32, s33, s34, s35, s36, s37, s38, s39, s40, s41, s42, s43, s44, s45, s46, s47, s48, s49, s50, s51, s52, s53, s54, s55, s56, s57, s58, s59, s60, s61, s62, s63, s64, s65, s66, s67, s68, s69, s70, s71, s72, s73, s74, s75, s76, s77, s78, s79, s80, s81, s82, s83, x 7, x 0, x 1, x 2, x 3, x 4, x 5, x 6, x 8, x 9, s94, s95, s96, s97, s98, s99, s100, s101, s102, s103, s104, s105, s106, s107, s108, s109, s110, s111, s112, s113, s114, s115, s116, s117, s118, s119, s120, s121, s122, s123, s124, s125, s126, s127, s128, s129, s130, s131, s132, s133, s134, s135, s136, s137, s138, s139, s140, s141, s142, s143, s144, s145, s146, s147, s148, s149, s150, s151, s152, s153, s154, s155, s156, s157, s158, s159, s160, s161, s162, s163, s164, s165, s166, s167, s168, s169, s170, s171, s172, s173, s174, s175, s176, s177], []⟩ : (Nat → Value) → Act) (upd x 9 (.bool true))) w
        have c1 : regH_F ea W k ga fb pp LL cc ss 9 (upd x 9 (.bool true) 9) w := rfl
        obtain ⟨x2, hx2⟩ : ∃ x2, x2 = upd x 9 (.bool true) := ⟨_, rfl⟩
        rw [← hx2] at c1 ⊢
        replace c0 : regH_F ea W k ga fb pp LL cc ss 8 (x2 8) w := by rw [hx2]; exact c0
        replace cz : regH_F ea W k ga fb pp LL cc ss 10 (x2 10) w := by rw [hx2]; exact cz
        clear hx2 H9 x
        obtain ⟨x, rfl⟩ : ∃ x, x = x2 := ⟨x2, rfl⟩
        show wpAny _ _ _ _ _ #[true, true, true, true, true, true, true, true, true, true, true, false, false] ⟨#[s0, s1, s2, s3, .pointer (some ⟨wb, 0, none⟩), s5, s6, s7, s8, s9, .slice (some ⟨ga, 0, none⟩) 4 4, .int .i64 (k : Nat), x 10, s13, s14, s15, s16, s17, s18, s19, s20, s21, s22, s23, s24, s25, s26, s27, s28, s29, s30, s31, s32, s33, s34, s35, s36, s37, s38, s39, s40, s41, s42, s43, s44, s45, s46, s47, s48, s49, s50, s51, s52, s53, s54, s55, s56, s57, s58, s59, s60, s61, s62, s63, s64, s65, s66, s67, s68, s69, s70, s71, s72, s73, s74, s75, s76, s77, s78, s79, s80, s81, s82, s83, x 7, x 0, x 1, x 2, x 3, x 4, x 5, x 6, x 8, x 9, s94, s95, s96, s97, s98, s99, s100, s101, s102, s103, s104, s105, s106, s107, s108, s109, s110, s111, s112, s113, s114, s115, s116, s117, s118, s119, s120, s121, s122, s123, s124, s125, s126, s127, s128, s129, s130, s131, s132, s133, s134, s135, s136, s137, s138, s139, s140, s141, s142, s143, s144, s145, s146, s147, s148, s149, s150, s151, s152, s153, s154, s155, s156, s157, s158, s159, s160, s161, s162, s163, s164, s165, s166, s167, s168, s169, s170, s171, s172, s173, s174, s175, s176, s177], []⟩ w
        obtain ⟨zb, ez, hzB, hc⟩ : ∃ zb, x 10 = .pointer (some ⟨zb, 0, none⟩) ∧ W.heap.size ≤ zb ∧ Cel w zb 54 zero54 := cz
        obtain ⟨v1, ta, tn, tc, va, vn, vc, fa, fn, fc, e0, hv1, HB⟩ := box_set (ea := ea) hzB c0 hc rfl
        have e1 : x 9 = (.bool true) := c1
        have q0 := hc.cell 0
        have q1 := hc.cell 1
        have q2 := hc.cell 2
        have q3 := hc.cell 3
        have q4 := hc.cell 4
        have q5 := hc.cell 5
        have z0 := hc.frozen 0
        have z1 := hc.frozen 1
        have z2 := hc.frozen 2
        have z3 := hc.frozen 3
        have z4 := hc.frozen 4
        have z5 := hc.frozen 5
        have HZ : Hid (W.heap.size ≤ zb) := hzB
        clear c0 c1 hc hzB
        simp only [e0, e1, ez]
        clear e0 e1 ez
        rcases hv1 with rfl | ⟨a9, rfl⟩
        · refine wpAny_ready (rs := [11]) (by kernel_rfl) (by simp) ?_
          refine AllReady.cons rfl (fun K hK => ?_) AllReady.nil
          go_wp2_with fail
          refine wpAny_ready (rs := [12]) (by kernel_rfl) (by simp) ?_
          refine AllReady.cons rfl (fun K hK => ?_) AllReady.nil
          go_wp2_with fail
          refine wpAny_done (by kernel_rfl) ?_ _
          exact HQ.out (upd (upd (upd x 8 (.agg #[.int .i64 (0), .nilIface, .slice ta tn tc, .slice va vn vc, .slice fa fn fc, .int .i64 ((ss).st : Nat)])) 9 (.bool true)) 10 .nilIface) zb _ HB.out.1 (g.out.trans (HB.out.2.below (fun i e => by rw [e]; exact HZ.out) g.out.size))
        · refine wpAny_ready (rs := [11]) (by kernel_rfl) (by simp) ?_
          refine AllReady.cons rfl (fun K hK => ?_) AllReady.nil
          go_wp2_with fail
          refine wpAny_ready (rs := [12]) (by kernel_rfl) (by simp) ?_
          refine AllReady.cons rfl (fun K hK => ?_) AllReady.nil
          go_wp2_with fail
          refine wpAny_done (by kernel_rfl) ?_ _
          exact HQ.out (upd (upd (upd x 8 (.agg #[.int .i64 (0), errV a9, .slice ta tn tc, .slice va vn vc, .slice fa fn fc, .int .i64 ((ss).st : Nat)])) 9 (.bool true)) 10 .nilIface) zb _ HB.out.1 (g.out.trans (HB.out.2.below (fun i e => by rw [e]; exact HZ.out) g.out.size))
    · obtain ⟨n, rfl⟩ : ∃ n, fuel = n + 2 := ⟨fuel - 2, by have : unl #[true, true, true, true, true, true, true, true, true, true, true, false, false] = 2 := (by rfl); omega⟩
      have c1 : regH_F ea W k ga fb pp LL cc ss 9 (x 9) w := c 9 rfl
      clear c hs hM hl hu
      show wpAny _ _ _ _ _ #[true, true, true, true, true, true, true, true, true, true, true, false, false] ⟨#[s0, s1, s2, s3, .pointer (some ⟨wb, 0, none⟩), s5, s6, s7, s8, s9, .slice (some ⟨ga, 0, none⟩) 4 4, .int .i64 (k : Nat), x 10, s13, s14, s15, s16, s17, s18, s19, s20, s21, s22, s23, s24, s25, s26, s27, s28, s29, s30, s31, s32, s33, s34, s35, s36, s37, s38, s39, s40, s41, s42, s43, s44, s45, s46, s47, s48, s49, s50, s51, s52, s53, s54, s55, s56, s57, s58, s59, s60, s61, s62, s63, s64, s65, s66, s67, s68, s69, s70, s71, s72, s73, s74, s75, s76, s77, s78, s79, s80, s81, s82, s83, x 7, x 0, x 1, x 2, x 3, x 4, x 5, x 6, x 8, x 9, s94, s95, s96, s97, s98, s99, s100, s101, s102, s103, s104, s105, s106, s107, s108, s109, s110, s111, s112, s113, s114, s115, s116, s117, s118, s119, s120, s121, s122, s123, s124, s125, s126, s127, s128, s129, s130, s131, s132, s133, s134, s135, s136, s137, s138, s139, s140, s141, s142, s143, s144, s145, s146, s147, s148, s149, s150, s151, s152, s153, s154, s155, s156, s157, s158, s159, s160, s161, s162, s163, s164, s165, s166, s167, s168, s169, s170, s171, s172, s173, s174, s175, s176, s177], []⟩ w
      obtain ⟨zb, ez, hzB, hc⟩ : ∃ zb, x 10 = .pointer (some ⟨zb, 0, none⟩) ∧ W.heap.size ≤ zb ∧ Cel w zb 54 zero54 := cz
      obtain ⟨v1, ta, tn, tc, va, vn, vc, fa, fn, fc, e0, hv1, HB⟩ := box_set (ea := ea) hzB c0 hc rfl
      have e1 : x 9 = (.bool true) := c1
      have q0 := hc.cell 0
      have q1 := hc.cell 1
      have q2 := hc.cell 2
      have q3 := hc.cell 3
      have q4 := hc.cell 4
      have q5 := hc.cell 5
      have z0 := hc.frozen 0
      have z1 := hc.frozen 1
      have z2 := hc.frozen 2
      have z3 := hc.frozen 3
      have z4 := hc.frozen 4
      have z5 := hc.frozen 5
      have HZ : Hid (W.heap.size ≤ zb) := hzB
      clear c0 c1 hc hzB
      simp only [e0, e1, ez]
      clear e0 e1 ez
      rcases hv1 with rfl | ⟨a9, rfl⟩
      · refine wpAny_ready (rs := [11]) (by kernel_rfl) (by simp) ?_
        refine AllReady.cons rfl (fun K hK => ?_) AllReady.nil
        go_wp2_with fail
        refine wpAny_ready (rs := [12]) (by kernel_rfl) (by simp) ?_
        refine AllReady.cons rfl (fun K hK => ?_) AllReady.nil
        go_wp2_with fail
        refine wpAny_done (by kernel_rfl) ?_ _
        exact HQ.out (upd (upd (upd x 8 (.agg #[.int .i64 (0), .nilIface, .slice ta tn tc, .slice va vn vc, .slice fa fn fc, .int .i64 ((ss).st : Nat)])) 9 (.bool true)) 10 .nilIface) zb _ HB.out.1 (g.out.trans (HB.out.2.below (fun i e => by rw [e]; exact HZ.out) g.out.size))
      · refine wpAny_ready (rs := [11]) (by kernel_rfl) (by simp) ?_
        refine AllReady.cons rfl (fun K hK => ?_) AllReady.nil
        go_wp2_with fail
        refine wpAny_ready (rs := [12]) (by kernel_rfl) (by simp) ?_
        refine AllReady.cons rfl (fun K hK => ?_) AllReady.nil
        go_wp2_with fail
        refine wpAny_done (by kernel_rfl) ?_ _
        exact HQ.out (upd (upd (upd x 8 (.agg #[.int .i64 (0), errV a9, .slice ta tn tc, .slice va vn vc, .slice fa fn fc, .int .i64 ((ss).st : Nat)])) 9 (.bool true)) 10 .nilIface) zb _ HB.out.1 (g.out.trans (HB.out.2.below (fun i e => by rw [e]; exact HZ.out) g.out.size))
def regO_F (ea : Nat → Addr) (W : World) (fb : Nat) (pp : Option Addr) (LL cc : Nat) (ss : Sh) : Nat → Value → World → Prop
  | 0, v, _ => v = .slice pp LL cc
  | 1, v, _ => v = wV (.slice (some ⟨fb, 0, none⟩) 1 1) (.slice none 0 0)
  | 2, v, _ => v = oV 1500 25 []
  | 3, v, w => ∃ u, v = .tuple #[u, (.bool true)] ∧ RunV ea W.heap.size (0) (.ok) (ss) u w
  | 4, v, w => ∃ u, v = .tuple #[u, (.bool true)] ∧ RunV ea W.heap.size (0) (.ok) (ss) u w
  | 5, v, w => RunV ea W.heap.size (0) (.ok) (ss) v w
  | 6, v, _ => v = (.bool true)
  | 7, v, w => ∃ zb, v = .pointer (some ⟨zb, 0, none⟩) ∧ W.heap.size ≤ zb ∧ Cel w zb 54 zero54
  | _, _, _ => True
theorem regO_below (fb : Nat) (pp : Option Addr) (LL cc : Nat) (ss : Sh) (j : Nat) (u : Value) (w w' : World) (h : regO_F ea W fb pp LL cc ss j u w) (hb : Below w.heap.size w w') : regO_F ea W fb pp LL cc ss j u w' :=
  match j, h with
  | 0, h => h
  | 1, h => h
  | 2, h => h
  | 3, h => h.elim fun u hu => ⟨u, hu.1, hu.2.below hb⟩
  | 4, h => h.elim fun u hu => ⟨u, hu.1, hu.2.below hb⟩
  | 5, h => RunV.below h hb
  | 6, h => h
  | 7, h => h.elim fun zb hz => ⟨zb, hz.1, hz.2.1, hz.2.2.below hb hz.2.2.lt⟩
  | _ + 8, _ => trivial
set_option maxRecDepth 100000 in
set_option maxHeartbeats 8000000 in
theorem regO {Q : Exit → Act → World → Prop} {s0 s1 s2 s3 s5 s6 s7 s8 s10 s11 s12 s13 s14 s15 s16 s17 s18 s19 s20 s21 s22 s23 s24 s25 s26 s27 s28 s29 s30 s31 s32 s33 s34 s35 s36 s37 s38 s39 s40 s41 s42 s43 s44 s45 s46 s47 s48 s49 s50 s51 s52 s53 s54 s55 s56 s57 s58 s59 s60 s61 s62 s63 s64 s65 s66 s67 s68 s69 s70 s71 s72 s73 s74 s75 s76 s77 s78 s79 s80 s81 s82 s83 s84 s85 s86 s87 s88 s89 s90 s91 s92 s93 s94 s95 s96 s97 s98 s99 s100 s101 s102 s103 s104 s105 s106 s107 s108 s109 s110 s111 s112 s113 s114 s115 s116 s117 s118 s119 s120 s121 s122 s123 s124 s125 s126 s127 s128 s129 s130 s131 s132 s133 s134 s135 s136 s137 s138 s139 s140 s141 s142 s143 s144 s145 s146 s147 s148 s149 s150 s151 s152 s153 s154 s155 s156 s157 s158 s159 s160 s161 s162 s163 s164 s165 s166 s167 s168 s169 s170 s171 s172 s173 s174 s175 s176 s177 : Value} (fb : Nat) (pp : Option Addr) (LL cc : Nat) (ss : Sh) {wb : Nat} (hwl : ∀ w, Below W.heap.size W w → Cel w wb 27 #[.slice (some ⟨fb, 0, none⟩) 1 1, .slice none 0 0]) (hrun : ∀ w, Below W.heap.size W w → Calls Tryz.prog 18 #[.slice pp LL cc, wV (.slice (some ⟨fb, 0, none⟩) 1 1) (.slice none 0 0), oV 1500 25 []] w fun e w' => ∃ u, e = .returned (.tuple #[u, .bool true]) ∧ RunV ea W.heap.size 0 .ok ss u w' ∧ Below w.heap.size w w') (hP : ∀ c (a : Act) d v w, Q (.panic c) (a.put (some d) v) w → Q (.panic c) a w)
    (hQ : ∀ (y : Nat → Value) zb w', Box ea W.heap.size w' zb (0) (.ok) (ss) → Below W.heap.size W w' → Q .normal ⟨#[s0, s1, s2, s3, .pointer (some ⟨wb, 0, none⟩), s5, s6, s7, s8, .slice pp LL cc, s10, s11, s12, s13, s14, s15, s16, s17, .pointer (some ⟨zb, 0, none⟩), (.bool true), s20, s21, s22, s23, s24, s25, s26, s27, s28, s29, s30, s31, s32, s33, s34, s35, s36, s37, s38, s39, s40, s41, s42, s43, s44, s45, s46, s47, s48, s49, s50, s51, s52, s53, s54, s55, s56, s57, s58, s59, s60, s61, s62, s63, s64, s65, s66, s67, s68, s69, s70, s71, s72, s73, s74, s75, s76, s77, s78, s79, s80, s81, s82, s83, s84, s85, s86, s87, s88, s89, s90, s91, s92, s93, s94, s95, s96, s97, s98, s99, s100, s101, s102, s103, s104, s105, s106, s107, s108, s109, s110, s111, s112, s113, s114, s115, s116, s117, s118, s119, s120, s121, s122, s123, s124, s125, s126, s127, s128, s129, s130, s131, s132, s133, s134, s135, y 4, y 0, y 1, y 2, y 3, y 5, y 6, s143, s144, s145, s146, s147, s148, s149, s150, s151, s152, s153, s154, s155, s156, s157, s158, s159, s160, s161, s162, s163, s164, s165, s166, s167, s168, s169, s170, s171, s172, s173, s174, s175, s176, s177], []⟩ w') : Code.wp Tryz.prog ((cRg 27 (Tryz.f5.body.getD .skip)).getD .skip) Q ⟨#[s0, s1, s2, s3, .pointer (some ⟨wb, 0, none⟩), s5, s6, s7, s8, .slice pp LL cc, s10, s11, s12, s13, s14, s15, s16, s17, s18, s19, s20, s21, s22, s23, s24, s25, s26, s27, s28, s29, s30, s31, s32, s33, s34, s35, s36, s37, s38, s39, s40, s41, s42, s43, s44, s45, s46, s47, s48, s49, s50, s51, s52, s53, s54, s55, s56, s57, s58, s59, s60, s61, s62, s63, s64, s65, s66, s67, s68, s69, s70, s71, s72, s73, s74, s75, s76, s77, s78, s79, s80, s81, s82, s83, s84, s85, s86, s87, s88, s89, s90, s91, s92, s93, s94, s95, s96, s97, s98, s99, s100, s101, s102, s103, s104, s105, s106, s107, s108, s109, s110, s111, s112, s113, s114, s115, s116, s117, s118, s119, s120, s121, s122, s123, s124, s125, s126, s127, s128, s129, s130, s131, s132, s133, s134, s135, s136, s137, s138, s139, s140, s141, s142, s143, s144, s145, s146, s147, s148, s149, s150, s151, s152, s153, s154, s155, s156, s157, s158, s159, s160, s161, s162, s163, s164, s165, s166, s167, s168, s169, s170, s171, s172, s173, s174, s175, s176, s177], []⟩ W := by
  have HWL : Hid (∀ w, Below W.heap.size W w → Cel w wb 27 #[.slice (some ⟨fb, 0, none⟩) 1 1, .slice none 0 0]) := hwl
  have HRUN : Hid (∀ w, Below W.heap.size W w → Calls Tryz.prog 18 #[.slice pp LL cc, wV (.slice (some ⟨fb, 0, none⟩) 1 1) (.slice none 0 0), oV 1500 25 []] w fun e w' => ∃ u, e = .returned (.tuple #[u, .bool true]) ∧ RunV ea W.heap.size 0 .ok ss u w' ∧ Below w.heap.size w w') := hrun
  have HQ : Hid (∀ (y : Nat → Value) zb w', Box ea W.heap.size w' zb (0) (.ok) (ss) → Below W.heap.size W w' → Q .normal ⟨#[s0, s1, s2, s3, .pointer (some ⟨wb, 0, none⟩), s5, s6, s7, s8, .slice pp LL cc, s10, s11, s12, s13, s14, s15, s16, s17, .pointer (some ⟨zb, 0, none⟩), (.bool true), s20, s21, s22, s23, s24, s25, s26, s27, s28, s29, s30, s31, s32, s33, s34, s35, s36, s37, s38, s39, s40, s41, s42, s43, s44, s45, s46, s47, s48, s49, s50, s51, s52, s53, s54, s55, s56, s57, s58, s59, s60, s61, s62, s63, s64, s65, s66, s67, s68, s69, s70, s71, s72, s73, s74, s75, s76, s77, s78, s79, s80, s81, s82, s83, s84, s85, s86, s87, s88, s89, s90, s91, s92, s93, s94, s95, s96, s97, s98, s99, s100, s101, s102, s103, s104, s105, s106, s107, s108, s109, s110, s111, s112, s113, s114, s115, s116, s117, s118, s119, s120, s121, s122, s123, s124, s125, s126, s127, s128, s129, s130, s131, s132, s133, s134, s135, y 4, y 0, y 1, y 2, y 3, y 5, y 6, s143, s144, s145, s146, s147, s148, s149, s150, s151, s152, s153, s154, s155, s156, s157, s158, s159, s160, s161, s162, s163, s164, s165, s166, s167, s168, s169, s170, s171, s172, s173, s174, s175, s176, s177], []⟩ w') := hQ
  clear hQ hwl hrun
  show Code.wp _ (Code.region 27 _ true) _ _ _
  refine wp_flow (m := 8) (M := [0, 1, 2, 3, 4, 5, 7]) (by kernel_rfl) (fun x => ⟨#[s0, s1, s2, s3, .pointer (some ⟨wb, 0, none⟩), s5, s6, s7, s8, .slice pp LL cc, s10, s11, s12, s13, s14, s15, s16, s17, x 7, s19, s20, s21, s22, s23, s24, s25, s26, s27, s28, s29, s30, s31, s32, s33, s34, s35, s36, s37, s38, s39, s40, s41, s42, s43, s44, s45, s46, s47, s48, s49, s50, s51, s52, s53, s54, s55, s56, s57, s58, s59, s60, s61, s62, s63, s64, s65, s66, s67, s68, s69, s70, s71, s72, s73, s74, s75, s76, s77, s78, s79, s80, s81, s82, s83, s84, s85, s86, s87, s88, s89, s90, s91, s92, s93, s94, s95, s96, s97, s98, s99, s100, s101, s102, s103, s104, s105, s106, s107, s108, s109, s110, s111, s112, s113, s114, s115, s116, s117, s118, s119, s120, s121, s122, s123, s124, s125, s126, s127, s128, s129, s130, s131, s132, s133, s134, s135, x 4, x 0, x 1, x 2, x 3, x 5, x 6, s143, s144, s145, s146, s147, s148, s149, s150, s151, s152, s153, s154, s155, s156, s157, s158, s159, s160, s161, s162, s163, s164, s165, s166, s167, s168, s169, s170, s171, s172, s173, s174, s175, s176, s177], []⟩) (regO_F ea W fb pp LL cc ss) (fun w => Hid (Below W.heap.size W w)) (fun j => match j with | 0 => s137 | 1 => s138 | 2 => s139 | 3 => s140 | 4 => s136 | 5 => s141 | 6 => s142 | 7 => s18 | _ => .nilIface) rfl (by kernel_rfl) (regO_below fb pp LL cc ss) ?hG (Below.refl _ _) ?hstep ?hstop
  case hG => exact fun w w' h hb => (h.out.trans (hb.mono h.out.size) : Below W.heap.size W w')
  case hstep =>
    intro i hi x w g pre
    clear HQ hP
    obtain rfl | rfl | rfl | rfl | rfl | rfl | rfl | rfl : i = 0 ∨ i = 1 ∨ i = 2 ∨ i = 3 ∨ i = 4 ∨ i = 5 ∨ i = 6 ∨ i = 7 := by omega
    · clear pre
      refine wpOp_now rfl (by rfl) ?_
      simp only [List.getElem_toArray, List.getElem_cons_zero]
      go_wp2_with fail
      exact ⟨_, rfl, rfl, Below.refl _ _⟩
    · clear pre
      have ho := HWL.out w g.out
      have o0 := ho.cell 0
      have o1 := ho.cell 1
      clear ho
      refine wpOp_now rfl (by rfl) ?_
      simp only [List.getElem_toArray, List.getElem_cons_succ, List.getElem_cons_zero]
      go_wp2_with fail
      exact ⟨_, rfl, rfl, Below.refl _ _⟩
    · clear pre
      refine wpOp_now rfl (by rfl) ?_
      simp only [List.getElem_toArray, List.getElem_cons_succ, List.getElem_cons_zero]
      go_wp2_with fail
      refine Calls.mono (defaults_any _) ?_
      rintro e w' ⟨rfl, hb⟩
      exact ⟨_, rfl, rfl, hb⟩
    · have e5 : x 0 = .slice pp LL cc := pre 0 (by kernel_rfl)
      have e6 : x 1 = wV (.slice (some ⟨fb, 0, none⟩) 1 1) (.slice none 0 0) := pre 1 (by kernel_rfl)
      have e7 : x 2 = oV 1500 25 [] := pre 2 (by kernel_rfl)
      have hr := HRUN.out w g.out
      rw [← e5, ← e6, ← e7] at hr
      have HR : Hid (Calls Tryz.prog 18 #[x 0, x 1, x 2] w fun e w' => ∃ u, e = .returned (.tuple #[u, (.bool true)]) ∧ RunV ea W.heap.size (0) (.ok) (ss) u w' ∧ Below w.heap.size w w') := hr
      clear pre hr e5 e6 e7
      refine wpOp_now rfl (by rfl) ?_
      simp only [List.getElem_toArray, List.getElem_cons_succ, List.getElem_cons_zero]
      go_wp2_with fail
      refine Calls.mono HR.out ?_
      rintro e w' ⟨u, rfl, h1, h2⟩
      exact ⟨_, rfl, ⟨u, rfl, h1⟩, h2⟩
    · have hp : Hid (∃ u, x 3 = .tuple #[u, (.bool true)] ∧ RunV ea W.heap.size (0) (.ok) (ss) u w) := pre 3 (by kernel_rfl)
      clear pre
      refine wpOp_now rfl (by rfl) ?_
      simp only [List.getElem_toArray, List.getElem_cons_succ, List.getElem_cons_zero]
      go_wp2_with fail
      exact ⟨_, rfl, hp.out, Below.refl _ _⟩
    · obtain ⟨u, e9, hu⟩ : ∃ u, x 4 = .tuple #[u, (.bool true)] ∧ RunV ea W.heap.size (0) (.ok) (ss) u w := pre 4 (by kernel_rfl)
      have HU : Hid (RunV ea W.heap.size (0) (.ok) (ss) u w) := hu
      have H9 : Hid (x 4 = .tuple #[u, (.bool true)]) := e9
      clear pre hu
      refine wpOp_now rfl (by rfl) ?_
      simp only [List.getElem_toArray, List.getElem_cons_succ, List.getElem_cons_zero]
      simp only [e9]
      clear e9
      go_wp2_with fail
      refine ⟨_, ?_, HU.out, Below.refl _ _⟩
      rw [← H9.out]
      rfl
    · obtain ⟨u, e9, hu⟩ : ∃ u, x 4 = .tuple #[u, (.bool true)] ∧ RunV ea W.heap.size (0) (.ok) (ss) u w := pre 4 (by kernel_rfl)
      have HU : Hid (RunV ea W.heap.size (0) (.ok) (ss) u w) := hu
      have H9 : Hid (x 4 = .tuple #[u, (.bool true)]) := e9
      clear pre hu
      refine wpOp_now rfl (by rfl) ?_
      simp only [List.getElem_toArray, List.getElem_cons_succ, List.getElem_cons_zero]
      simp only [e9]
      clear e9
      go_wp2_with fail
      refine ⟨_, ?_, rfl, Below.refl _ _⟩
      rw [← H9.out]
      rfl
    · clear pre
      refine wpOp_now rfl (by rfl) ?_
      simp only [List.getElem_toArray, List.getElem_cons_succ, List.getElem_cons_zero]
      go_wp2_with fail
      exact ⟨_, rfl, ⟨_, rfl, g.out.size, Cel.new _ _ _⟩, below_new _ _⟩
  case hstop =>
    intro l x w fuel g c hs hM hl hu
    clear HWL HRUN
    have c0 : regO_F ea W fb pp LL cc ss 5 (x 5) w := c 5 (hM 5 (by simp))
    have cz : regO_F ea W fb pp LL cc ss 7 (x 7) w := c 7 (hM 7 (by simp))
    obtain ⟨b, rfl⟩ : ∃ b, l = #[true, true, true, true, true, true, b, true, false, false] := by
      refine ⟨l.getD 6 false, arr_ext (by rw [hs]; rfl) fun i hi => ?_⟩
      have hi2 : i < 10 := hi
      obtain rfl | rfl | rfl | rfl | rfl | rfl | rfl | rfl | rfl | rfl : i = 0 ∨ i = 1 ∨ i = 2 ∨ i = 3 ∨ i = 4 ∨ i = 5 ∨ i = 6 ∨ i = 7 ∨ i = 8 ∨ i = 9 := by omega
      · exact (hM 0 (by simp)).trans rfl
      · exact (hM 1 (by simp)).trans rfl
      · exact (hM 2 (by simp)).trans rfl
      · exact (hM 3 (by simp)).trans rfl
      · exact (hM 4 (by simp)).trans rfl
      · exact (hM 5 (by simp)).trans rfl
      · rfl
      · exact (hM 7 (by simp)).trans rfl
      · exact (hl 8 (by omega) (by simp)).trans rfl
      · exact (hl 9 (by omega) (by simp)).trans rfl
    rcases b with _ | _
    · obtain ⟨n, rfl⟩ : ∃ n, fuel = n + 3 := ⟨fuel - 3, by have : unl #[true, true, true, true, true, true, false, true, false, false] = 3 := (by rfl); omega⟩
      obtain ⟨u, e9, -⟩ : ∃ u, x 4 = .tuple #[u, (.bool true)] ∧ RunV ea W.heap.size (0) (.ok) (ss) u w := c 4 (hM 4 (by simp))
      have H9 : Hid (x 4 = .tuple #[u, (.bool true)]) := e9
      clear c hs hM hl hu e9
      refine wpAny_take (i := 6) (v := (.bool true)) rfl (by kernel_rfl) (by kernel_rfl) (by kernel_rfl) (fun c a w h => hP c a _ _ w h) (Or.inl ⟨by rfl, ?_⟩) ?_
      · intro wz
        simp only [H9.out]
        go_simp
      · show wpAny _ _ _ _ _ #[true, true, true, true, true, true, true, true, false, false] ((fun x => ⟨#[s0, s1, s2, s3, .pointer (some ⟨wb, 0, none⟩), s5, s6, s7, s8, .slice pp LL cc, s10, s11, s12, s13, s14, s15, s16, s17, x 7, s19, s20, s21, s22, s23, s24, s25, s26, s27, s28, s29, s30, s31, s32, s33, s34, s35, s36, s37, s38, s39, s40, s41, s42, s43, s44, s45, s46, s47, s48, s49, s50, s51, s52, s53, s54, s55, s56, s57, s58, s59, s60, s61, s62, s63, s64, s65, s66, s67, s68, s69, s70, s71, s72, s73, s74, s75, s76, s77, s78, s79, s80, s81, s82, s83, s84, s85, s86, s87, s88, s89, s90, s91, s92, s93, s94, s95, s96, s97, s98, s99, s100, s101, s102, s103, s104, s105, s106, s107, s108, s109, s110, s111, s112, s113, s114, s115, s116, s117, s118, s119, s120, s121, s122, s123, s124, s125, s126, s127, s128, s129, s130, s131, s132, s133, s134, s135, x 4, x 0, x 1, x 2, x 3, x 5, x 6, s143, s144, s145, s146, s147, s148, s149, s150, s151, s152, s153, s154, s155, s156, s157, s158, s159, s160, s161, s162, s163, s164, s165, s166, s167, s168, s169, s170, s171, s172, s173, s174, s175, s176, s177], []⟩ : (Nat → Value) → Act) (upd x 6 (.bool true))) w
        have c1 : regO_F ea W fb pp LL cc ss 6 (upd x 6 (.bool true) 6) w := rfl
        obtain ⟨x2, hx2⟩ : ∃ x2, x2 = upd x 6 (.bool true) := ⟨_, rfl⟩
        rw [← hx2] at c1 ⊢
        replace c0 : regO_F ea W fb pp LL cc ss 5 (x2 5) w := by rw [hx2]; exact c0
        replace cz : regO_F ea W fb pp LL cc ss 7 (x2 7) w := by rw [hx2]; exact cz
        clear hx2 H9 x
        obtain ⟨x, rfl⟩ : ∃ x, x = x2 := ⟨x2, rfl⟩
        show wpAny _ _ _ _ _ #[true, true, true, true, true, true, true, true, false, false] ⟨#[s0, s1, s2, s3, .pointer (some ⟨wb, 0, none⟩), s5, s6, s7, s8, .slice pp LL cc, s10, s11, s12, s13, s14, s15, s16, s17, x 7, s19, s20, s21, s22, s23, s24, s25, s26, s27, s28, s29, s30, s31, s32, s33, s34, s35, s36, s37, s38, s39, s40, s41, s42, s43, s44, s45, s46, s47, s48, s49, s50, s51, s52, s53, s54, s55, s56, s57, s58, s59, s60, s61, s62, s63, s64, s65, s66, s67, s68, s69, s70, s71, s72, s73, s74, s75, s76, s77, s78, s79, s80, s81, s82, s83, s84, s85, s86, s87, s88, s89, s90, s91, s92, s93, s94, s95, s96, s97, s98, s99, s100, s101, s102, s103, s104, s105, s106, s107, s108, s109, s110, s111, s112, s113, s114, s115, s116, s117, s118, s119, s120, s121, s122, s123, s124, s125, s126, s127, s128, s129, s130, s131, s132, s133, s134, s135, x 4, x 0, x 1, x 2, x 3, x 5, x 6, s143, s144, s145, s146, s147, s148, s149, s150, s151, s152, s153, s154, s155, s156, s157, s158, s159, s160, s161, s162, s163, s164, s165, s166, s167, s168, s169, s170, s171, s172, s173, s174, s175, s176, s177], []⟩ w
        obtain ⟨zb, ez, hzB, hc⟩ : ∃ zb, x 7 = .pointer (some ⟨zb, 0, none⟩) ∧ W.heap.size ≤ zb ∧ Cel w zb 54 zero54 := cz
        obtain ⟨v1, ta, tn, tc, va, vn, vc, fa, fn, fc, e0, hv1, HB⟩ := box_set (ea := ea) hzB c0 hc rfl
        have e1 : x 6 = (.bool true) := c1
        have q0 := hc.cell 0
        have q1 := hc.cell 1
        have q2 := hc.cell 2
        have q3 := hc.cell 3
        have q4 := hc.cell 4
        have q5 := hc.cell 5
        have z0 := hc.frozen 0
        have z1 := hc.frozen 1
        have z2 := hc.frozen 2
        have z3 := hc.frozen 3
        have z4 := hc.frozen 4
        have z5 := hc.frozen 5
        have HZ : Hid (W.heap.size ≤ zb) := hzB
        clear c0 c1 hc hzB
        simp only [e0, e1, ez]
        clear e0 e1 ez
        rcases hv1 with rfl | ⟨a9, rfl⟩
        · refine wpAny_ready (rs := [8]) (by kernel_rfl) (by simp) ?_
          refine AllReady.cons rfl (fun K hK => ?_) AllReady.nil
          go_wp2_with fail
          refine wpAny_ready (rs := [9]) (by kernel_rfl) (by simp) ?_
          refine AllReady.cons rfl (fun K hK => ?_) AllReady.nil
          go_wp2_with fail
          refine wpAny_done (by kernel_rfl) ?_ _
          exact HQ.out (upd (upd (upd x 5 (.agg #[.int .i64 (0), .nilIface, .slice ta tn tc, .slice va vn vc, .slice fa fn fc, .int .i64 ((ss).st : Nat)])) 6 (.bool true)) 7 .nilIface) zb _ HB.out.1 (g.out.trans (HB.out.2.below (fun i e => by rw [e]; exact HZ.out) g.out.size))
        · refine wpAny_ready (rs := [8]) (by kernel_rfl) (by simp) ?_
          refine AllReady.cons rfl (fun K hK => ?_) AllReady.nil
          go_wp2_with fail
          refine wpAny_ready (rs := [9]) (by kernel_rfl) (by simp) ?_
          refine AllReady.cons rfl (fun K hK => ?_) AllReady.nil
          go_wp2_with fail
          refine wpAny_done (by kernel_rfl) ?_ _
          exact HQ.out (upd (upd (upd x 5 (.agg #[.int .i64 (0), errV a9, .slice ta tn tc, .slice va vn vc, .slice fa fn fc, .int .i64 ((ss).st : Nat)])) 6 (.bool true)) 7 .nilIface) zb _ HB.out.1 (g.out.trans (HB.out.2.below (fun i e => by rw [e]; exact HZ.out) g.out.size))
    · obtain ⟨n, rfl⟩ : ∃ n, fuel = n + 2 := ⟨fuel - 2, by have : unl #[true, true, true, true, true, true, true, true, false, false] = 2 := (by rfl); omega⟩
      have c1 : regO_F ea W fb pp LL cc ss 6 (x 6) w := c 6 rfl
      clear c hs hM hl hu
      show wpAny _ _ _ _ _ #[true, true, true, true, true, true, true, true, false, false] ⟨#[s0, s1, s2, s3, .pointer (some ⟨wb, 0, none⟩), s5, s6, s7, s8, .slice pp LL cc, s10, s11, s12, s13, s14, s15, s16, s17, x 7, s19, s20, s21, s22, s23, s24, s25, s26, s27, s28, s29, s30, s31, s32, s33, s34, s35, s36, s37, s38, s39, s40, s41, s42, s43, s44, s45, s46, s47, s48, s49, s50, s51, s52, s53, s54, s55, s56, s57, s58, s59, s60, s61, s62, s63, s64, s65, s66, s67, s68, s69, s70, s71, s72, s73, s74, s75, s76, s77, s78, s79, s80, s81, s82, s83, s84, s85, s86, s87, s88, s89, s90, s91, s92, s93, s94, s95, s96, s97, s98, s99, s100, s101, s102, s103, s104, s105, s106, s107, s108, s109, s110, s111, s112, s113, s114, s115, s116, s117, s118, s119, s120, s121, s122, s123, s124, s125, s126, s127, s128, s129, s130, s131, s132, s133, s134, s135, x 4, x 0, x 1, x 2, x 3, x 5, x 6, s143, s144, s145, s146, s147, s148, s149, s150, s151, s152, s153, s154, s155, s156, s157, s158, s159, s160, s161, s162, s163, s164, s165, s166, s167, s168, s169, s170, s171, s172, s173, s174, s175, s176, s177], []⟩ w
      obtain ⟨zb, ez, hzB, hc⟩ : ∃ zb, x 7 = .pointer (some ⟨zb, 0, none⟩) ∧ W.heap.size ≤ zb ∧ Cel w zb 54 zero54 := cz
      obtain ⟨v1, ta, tn, tc, va, vn, vc, fa, fn, fc, e0, hv1, HB⟩ := box_set (ea := ea) hzB c0 hc rfl
      have e1 : x 6 = (.bool true) := c1
      have q0 := hc.cell 0
      have q1 := hc.cell 1
      have q2 := hc.cell 2
      have q3 := hc.cell 3
      have q4 := hc.cell 4
      have q5 := hc.cell 5
      have z0 := hc.frozen 0
      have z1 := hc.frozen 1
      have z2 := hc.frozen 2
      have z3 := hc.frozen 3
      have z4 := hc.frozen 4
      have z5 := hc.frozen 5
      have HZ : Hid (W.heap.size ≤ zb) := hzB
      clear c0 c1 hc hzB
      simp only [e0, e1, ez]
      clear e0 e1 ez
      rcases hv1 with rfl | ⟨a9, rfl⟩
      · refine wpAny_ready (rs := [8]) (by kernel_rfl) (by simp) ?_
        refine AllReady.cons rfl (fun K hK => ?_) AllReady.nil
        go_wp2_with fail
        refine wpAny_ready (rs := [9]) (by kernel_rfl) (by simp) ?_
        refine AllReady.cons rfl (fun K hK => ?_) AllReady.nil
        go_wp2_with fail
        refine wpAny_done (by kernel_rfl) ?_ _
        exact HQ.out (upd (upd (upd x 5 (.agg #[.int .i64 (0), .nilIface, .slice ta tn tc, .slice va vn vc, .slice fa fn fc, .int .i64 ((ss).st : Nat)])) 6 (.bool true)) 7 .nilIface) zb _ HB.out.1 (g.out.trans (HB.out.2.below (fun i e => by rw [e]; exact HZ.out) g.out.size))
      · refine wpAny_ready (rs := [8]) (by kernel_rfl) (by simp) ?_
        refine AllReady.cons rfl (fun K hK => ?_) AllReady.nil
        go_wp2_with fail
        refine wpAny_ready (rs := [9]) (by kernel_rfl) (by simp) ?_
        refine AllReady.cons rfl (fun K hK => ?_) AllReady.nil
        go_wp2_with fail
        refine wpAny_done (by kernel_rfl) ?_ _
        exact HQ.out (upd (upd (upd x 5 (.agg #[.int .i64 (0), errV a9, .slice ta tn tc, .slice va vn vc, .slice fa fn fc, .int .i64 ((ss).st : Nat)])) 6 (.bool true)) 7 .nilIface) zb _ HB.out.1 (g.out.trans (HB.out.2.below (fun i e => by rw [e]; exact HZ.out) g.out.size))
end Go.Proofs.YtfafhjglcaikoaaGreatDoor
