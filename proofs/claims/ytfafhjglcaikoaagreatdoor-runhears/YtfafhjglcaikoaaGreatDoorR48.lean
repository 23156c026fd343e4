/- RunHears. -/
import Derived.Test.YtfafhjglcaikoaaGreatDoorH42
import Derived.Test.YtfafhjglcaikoaaGreatDoorH44
import Derived.Test.YtfafhjglcaikoaaGreatDoorH45
import Derived.Test.YtfafhjglcaikoaaGreatDoorH18
namespace Go.Proofs.YtfafhjglcaikoaaGreatDoor
open Go.RowKit
attribute [local go_sem] Oper.semAt_some
attribute [local go_sem] run_store_nilFunc

variable {W W' : World} {ea : Nat → Addr}
theorem said_len (E : List Ev) (j : Nat) : (saidL (E.take j)).length ≤ (saidL E).length := by
  have h : saidL (E.take j) ++ saidL (E.drop j) = saidL E := by
    unfold saidL
    rw [← List.flatMap_append, ← List.filter_append, List.take_append_drop]
  rw [← h, List.length_append]
  omega
set_option maxRecDepth 100000 in
set_option maxHeartbeats 8000000 in
theorem hears_any (s : Txt) (hE : ErX W ea) (h17 : 17 ≤ W.heap.size) : Calls Tryz.prog 5 #[.string ⟨s.toArray⟩] W fun e w' => e = .returned (.bool true) ∧ Below W.heap.size W w' := by
  have HE : Hid (∀ w, Below W.heap.size W w → ErX w ea ∧ 17 ≤ w.heap.size) := fun w hb => ⟨hE.below (Nat.le_refl _) hb, Nat.le_trans h17 hb.size⟩
  have HF1 : Hid (Calls Tryz.prog 9 #[] W fun e w' => e = .returned (.bool true) ∧ Below W.heap.size W w') := first_any hE h17
  clear hE h17
  go_enter Tryz.func5, Tryz.ntmps5
  go_wp2_with fail
  refine Calls.mono HF1.out ?_
  rintro e w1 ⟨rfl, hb1⟩
  have HB1 : Hid (Below W.heap.size W w1) := hb1
  clear hb1 HF1
  by_cases h500 : 500 < s.length
  · go_wp2_with fail
    go_ret
    exact ⟨rfl, HB1.out⟩
  have hl5 : s.length ≤ 500 := by omega
  go_upto_region 5 with fail
  obtain ⟨w39, hw39⟩ : ∃ w39, (w1.alloc (.cells #[.string ⟨#[102]⟩, .string ⟨s.toArray⟩] 68)).alloc (.cells #[.slice (some ⟨w1.heap.size, 0, none⟩) 1 1, .slice none 0 0] 27) = w39 := ⟨_, rfl⟩
  obtain ⟨fb, hfb⟩ : ∃ fb, w1.heap.size = fb := ⟨_, rfl⟩
  have HB39 : Hid (Below W.heap.size W w39) := by
    unfold Hid
    rw [← hw39]
    exact (HB1.out.alloc HB1.out.size _).alloc (by have := HB1.out.size; simp; omega) _
  have HWL : Hid (∀ w, Below w39.heap.size w39 w → Cel w (fb + 1) 27 #[.slice (some ⟨fb, 0, none⟩) 1 1, .slice none 0 0] ∧ FlAt w (.slice (some ⟨fb, 0, none⟩) 1 1) [([102], s)]) := fun w hb => by
    have h1 : Cel w39 (fb + 1) 27 #[.slice (some ⟨fb, 0, none⟩) 1 1, .slice none 0 0] := by
      rw [← hw39, ← hfb]
      have := Cel.new (w1.alloc (.cells #[.string ⟨#[102]⟩, .string ⟨s.toArray⟩] 68)) 27 #[.slice (some ⟨w1.heap.size, 0, none⟩) 1 1, .slice none 0 0]
      rw [show (w1.alloc (.cells #[.string ⟨#[102]⟩, .string ⟨s.toArray⟩] 68)).heap.size = w1.heap.size + 1 by simp] at this
      exact this
    have h2 : FlAt w39 (.slice (some ⟨fb, 0, none⟩) 1 1) [([102], s)] := by
      rw [← hw39, ← hfb]
      exact (fl_one w1 [102] s).below (below_new _ _) (Nat.le_refl _)
    exact ⟨h1.below hb h1.lt, h2.below hb (Nat.le_refl _)⟩
  have T39 : Hid (Below w39.heap.size w39 w39) := Below.refl _ _
  rw [hw39, hfb]
  clear hw39 hfb HB1
  have C40 : Hid _ := call2_new w39 [112, 117, 116] s
  go_wp2_with fail
  refine Calls.mono C40.out ?_
  rintro e w40 ⟨p40, c40, rfl, N40, B40⟩
  have T40 := Bel.on T39 B40
  clear C40 T39 B40
  have C41 : Hid _ := call1_new w40 [99, 97, 116]
  go_wp2_with fail
  refine Calls.mono C41.out ?_
  rintro e w41 ⟨p41, c41, rfl, N41, B41⟩
  have T41 := Bel.on T40 B41
  have N40_41 := NdMade.on N40 B41
  clear C41 N40 T40 B41
  have C42 : Hid _ := call1_new w41 [99, 97, 116]
  go_wp2_with fail
  refine Calls.mono C42.out ?_
  rintro e w42 ⟨p42, c42, rfl, N42, B42⟩
  have T42 := Bel.on T41 B42
  have N40_42 := NdMade.on N40_41 B42
  have N41_42 := NdMade.on N41 B42
  clear C42 N40_41 N41 T41 B42
  have C43 : Hid _ := node3_new (32) (0) [] N40_42.out N41_42.out N42.out (L := 8) (by rfl) (by decide)
  go_wp2_with fail
  refine Calls.mono C43.out ?_
  rintro e w43 ⟨p43, c43, rfl, N43, B43⟩
  have T43 := Bel.on T42 B43
  clear C43 N40_42 N41_42 N42 T42 B43
  have C44 : Hid _ := lit_new w43 [102]
  go_wp2_with fail
  refine Calls.mono C44.out ?_
  rintro e w44 ⟨p44, c44, rfl, N44, B44⟩
  have T44 := Bel.on T43 B44
  have N43_44 := NdMade.on N43 B44
  clear C44 N43 T43 B44
  have C45 : Hid _ := call1_new w44 [99, 97, 116]
  go_wp2_with fail
  refine Calls.mono C45.out ?_
  rintro e w45 ⟨p45, c45, rfl, N45, B45⟩
  have T45 := Bel.on T44 B45
  have N43_45 := NdMade.on N43_44 B45
  have N44_45 := NdMade.on N44 B45
  clear C45 N43_44 N44 T44 B45
  have C46 : Hid _ := node2_new (33) (1) [] N44_45.out N45.out (L := 4) (by rfl) (by decide)
  go_wp2_with fail
  refine Calls.mono C46.out ?_
  rintro e w46 ⟨p46, c46, rfl, N46, B46⟩
  have T46 := Bel.on T45 B46
  have N43_46 := NdMade.on N43_45 B46
  clear C46 N43_45 N44_45 N45 T45 B46
  have C47 : Hid _ := lit_new w46 s
  go_wp2_with fail
  refine Calls.mono C47.out ?_
  rintro e w47 ⟨p47, c47, rfl, N47, B47⟩
  have T47 := Bel.on T46 B47
  have N43_47 := NdMade.on N43_46 B47
  have N46_47 := NdMade.on N46 B47
  clear C47 N43_46 N46 T46 B47
  have C48 : Hid _ := call1_new w47 [99, 97, 116]
  go_wp2_with fail
  refine Calls.mono C48.out ?_
  rintro e w48 ⟨p48, c48, rfl, N48, B48⟩
  have T48 := Bel.on T47 B48
  have N43_48 := NdMade.on N43_47 B48
  have N46_48 := NdMade.on N46_47 B48
  have N47_48 := NdMade.on N47 B48
  clear C48 N43_47 N46_47 N47 T47 B48
  have C49 : Hid _ := node2_new (34) (0) [] N47_48.out N48.out (L := 4) (by rfl) (by decide)
  go_wp2_with fail
  refine Calls.mono C49.out ?_
  rintro e w49 ⟨p49, c49, rfl, N49, B49⟩
  have T49 := Bel.on T48 B49
  have N43_49 := NdMade.on N43_48 B49
  have N46_49 := NdMade.on N46_48 B49
  clear C49 N43_48 N46_48 N47_48 N48 T48 B49
  have C50 : Hid _ := lit_new w49 [112, 117, 116]
  go_wp2_with fail
  refine Calls.mono C50.out ?_
  rintro e w50 ⟨p50, c50, rfl, N50, B50⟩
  have T50 := Bel.on T49 B50
  have N43_50 := NdMade.on N43_49 B50
  have N46_50 := NdMade.on N46_49 B50
  have N49_50 := NdMade.on N49 B50
  clear C50 N43_49 N46_49 N49 T49 B50
  have C51 : Hid _ := call2_new w50 [112, 117, 116] s
  go_wp2_with fail
  refine Calls.mono C51.out ?_
  rintro e w51 ⟨p51, c51, rfl, N51, B51⟩
  have T51 := Bel.on T50 B51
  have N43_51 := NdMade.on N43_50 B51
  have N46_51 := NdMade.on N46_50 B51
  have N49_51 := NdMade.on N49_50 B51
  have N50_51 := NdMade.on N50 B51
  clear C51 N43_50 N46_50 N49_50 N50 T50 B51
  have C52 : Hid _ := node1_new (12) (0) [] N51.out (L := 4) (by rfl) (by decide)
  go_wp2_with fail
  refine Calls.mono C52.out ?_
  rintro e w52 ⟨p52, c52, rfl, N52, B52⟩
  have T52 := Bel.on T51 B52
  have N43_52 := NdMade.on N43_51 B52
  have N46_52 := NdMade.on N46_51 B52
  have N49_52 := NdMade.on N49_51 B52
  have N50_52 := NdMade.on N50_51 B52
  clear C52 N43_51 N46_51 N49_51 N50_51 N51 T51 B52
  have C53 : Hid _ := node2_new (21) (0) [] N50_52.out N52.out (L := 6) (by rfl) (by decide)
  go_wp2_with fail
  refine Calls.mono C53.out ?_
  rintro e w53 ⟨p53, c53, rfl, N53, B53⟩
  have T53 := Bel.on T52 B53
  have N43_53 := NdMade.on N43_52 B53
  have N46_53 := NdMade.on N46_52 B53
  have N49_53 := NdMade.on N49_52 B53
  clear C53 N43_52 N46_52 N49_52 N50_52 N52 T52 B53
  have C54 : Hid _ := lit_new w53 [103]
  go_wp2_with fail
  refine Calls.mono C54.out ?_
  rintro e w54 ⟨p54, c54, rfl, N54, B54⟩
  have T54 := Bel.on T53 B54
  have N43_54 := NdMade.on N43_53 B54
  have N46_54 := NdMade.on N46_53 B54
  have N49_54 := NdMade.on N49_53 B54
  have N53_54 := NdMade.on N53 B54
  clear C54 N43_53 N46_53 N49_53 N53 T53 B54
  have C55 : Hid _ := call2_new w54 [112, 117, 116] s
  go_wp2_with fail
  refine Calls.mono C55.out ?_
  rintro e w55 ⟨p55, c55, rfl, N55, B55⟩
  have T55 := Bel.on T54 B55
  have N43_55 := NdMade.on N43_54 B55
  have N46_55 := NdMade.on N46_54 B55
  have N49_55 := NdMade.on N49_54 B55
  have N53_55 := NdMade.on N53_54 B55
  have N54_55 := NdMade.on N54 B55
  clear C55 N43_54 N46_54 N49_54 N53_54 N54 T54 B55
  have C56 : Hid _ := node2_new (33) (2) [] N54_55.out N55.out (L := 5) (by rfl) (by decide)
  go_wp2_with fail
  refine Calls.mono C56.out ?_
  rintro e w56 ⟨p56, c56, rfl, N56, B56⟩
  have T56 := Bel.on T55 B56
  have N43_56 := NdMade.on N43_55 B56
  have N46_56 := NdMade.on N46_55 B56
  have N49_56 := NdMade.on N49_55 B56
  have N53_56 := NdMade.on N53_55 B56
  clear C56 N43_55 N46_55 N49_55 N53_55 N54_55 N55 T55 B56
  have C57 : Hid _ := lit_new w56 [103]
  go_wp2_with fail
  refine Calls.mono C57.out ?_
  rintro e w57 ⟨p57, c57, rfl, N57, B57⟩
  have T57 := Bel.on T56 B57
  have N43_57 := NdMade.on N43_56 B57
  have N46_57 := NdMade.on N46_56 B57
  have N49_57 := NdMade.on N49_56 B57
  have N53_57 := NdMade.on N53_56 B57
  have N56_57 := NdMade.on N56 B57
  clear C57 N43_56 N46_56 N49_56 N53_56 N56 T56 B57
  have C58 : Hid _ := call2_new w57 [112, 117, 116] s
  go_wp2_with fail
  refine Calls.mono C58.out ?_
  rintro e w58 ⟨p58, c58, rfl, N58, B58⟩
  have T58 := Bel.on T57 B58
  have N43_58 := NdMade.on N43_57 B58
  have N46_58 := NdMade.on N46_57 B58
  have N49_58 := NdMade.on N49_57 B58
  have N53_58 := NdMade.on N53_57 B58
  have N56_58 := NdMade.on N56_57 B58
  have N57_58 := NdMade.on N57 B58
  clear C58 N43_57 N46_57 N49_57 N53_57 N56_57 N57 T57 B58
  have C59 : Hid _ := node2_new (33) (3) [] N57_58.out N58.out (L := 5) (by rfl) (by decide)
  go_wp2_with fail
  refine Calls.mono C59.out ?_
  rintro e w59 ⟨p59, c59, rfl, N59, B59⟩
  have T59 := Bel.on T58 B59
  have N43_59 := NdMade.on N43_58 B59
  have N46_59 := NdMade.on N46_58 B59
  have N49_59 := NdMade.on N49_58 B59
  have N53_59 := NdMade.on N53_58 B59
  have N56_59 := NdMade.on N56_58 B59
  clear C59 N43_58 N46_58 N49_58 N53_58 N56_58 N57_58 N58 T58 B59
  have C60 : Hid _ := seq2_new N56_59.out N59.out (L := 11) (by rfl) (by decide)
  go_wp2_with fail
  refine Calls.mono C60.out ?_
  rintro e w60 ⟨p60, c60, rfl, N60, B60⟩
  have T60 := Bel.on T59 B60
  have N43_60 := NdMade.on N43_59 B60
  have N46_60 := NdMade.on N46_59 B60
  have N49_60 := NdMade.on N49_59 B60
  have N53_60 := NdMade.on N53_59 B60
  clear C60 N43_59 N46_59 N49_59 N53_59 N56_59 N59 T59 B60
  go_upto_region 11 with fail
  obtain ⟨w61, hw61⟩ : ∃ w61, w60.alloc (.cells #[.slice p43 8 c43, .slice p46 4 c46, .slice p49 4 c49, .slice p53 6 c53] 22) = w61 := ⟨_, rfl⟩
  obtain ⟨ga, hga⟩ : ∃ ga, w60.heap.size = ga := ⟨_, rfl⟩
  have T61 : Hid (Below w39.heap.size w39 w61) := by unfold Hid; rw [← hw61]; exact T60.out.alloc T60.out.size _
  have HP : Hid (∀ k, k < 4 → ∃ p L c, w61.cell? ⟨ga, k, none⟩ = some (.slice p L c) ∧ NdAt w61 (.slice p L c) ([pipeN s, fileN, hereN s, subN s].getD k [])) := fun k hk => by
    have hc := Cel.new w60 22 #[.slice p43 8 c43, .slice p46 4 c46, .slice p49 4 c49, .slice p53 6 c53]
    rw [hw61, hga] at hc
    have hn : ∀ {v : Value} {X : List Nd}, NdAt w60 v X → NdAt w61 v X := fun h => by rw [← hw61]; exact h.more _
    obtain rfl | rfl | rfl | rfl : k = 0 ∨ k = 1 ∨ k = 2 ∨ k = 3 := by omega
    · exact ⟨_, _, _, hc.cell 0, hn N43_60.out⟩
    · exact ⟨_, _, _, hc.cell 1, hn N46_60.out⟩
    · exact ⟨_, _, _, hc.cell 2, hn N49_60.out⟩
    · exact ⟨_, _, _, hc.cell 3, hn N53_60.out⟩
  have HO : Hid (NdAt w61 (.slice p60 11 c60) (outN s)) := by unfold Hid; rw [← hw61]; exact N60.out.more _
  rw [hw61, hga]
  clear hw61 hga N43_60 N46_60 N49_60 N53_60 N60 T60
  go_wp2_with fail
  go_loopw [11] (fun v11 wr => ∃ k : Nat, v11 = .int .i64 (k : Nat) ∧ k ≤ 4 ∧ Hid (Below w61.heap.size w61 wr)) (fun v11 _ => 4 - (intOf v11).toNat)
  case atStart => exact ⟨0, rfl, by omega, Below.refl _ _⟩
  case round =>
    obtain ⟨k, rfl, hk, HW⟩ := hrel
    have HWW : Hid (Below w39.heap.size w39 wr) := T61.out.trans (HW.out.mono T61.out.size)
    by_cases hk4 : k < 4
    · obtain ⟨p, L, c, hcell, hnd⟩ := HP.out k hk4
      obtain ⟨X, E, st, n, hX, hXl, hXo, hXc, hev, hokr, hsaid⟩ := hears_at hl5 k hk4
      rw [← hX] at hnd
      have HRUN : ∀ w, Below wr.heap.size wr w → Calls Tryz.prog 18 #[.slice p L c, wV (.slice (some ⟨fb, 0, none⟩) 1 1) (.slice none 0 0), oV 1500 25 []] w fun e w' => ∃ u, e = .returned (.tuple #[u, .bool true]) ∧ RunV ea wr.heap.size 0 .ok (mkD (dS s) E st 0 [] none []) u w' ∧ Below w.heap.size w w' := fun w hb => by
        have hb39 : Below w39.heap.size w39 w := HWW.out.trans (hb.mono HWW.out.size)
        have hbW : Below W.heap.size W w := HB39.out.trans (hb39.mono HB39.out.size)
        have hb61 : Below w61.heap.size w61 w := HW.out.trans (hb.mono HW.out.size)
        refine Calls.mono (plain_v (ea := ea) (X := X) (Fl := [([102], s)]) (n := n) (inp := []) (r := (mkD (dS s) E st 0 [] none [], 0, .ok)) _ _ w (HE.out _ hbW).1 (HE.out _ hbW).2 (hnd.below hb61 (Nat.le_refl _)) hXl hXo hXc (HWL.out w hb39).2 (by simp) (fun p hp => by rw [List.mem_singleton] at hp; subst hp; simp) (may_one s hl5) (by decide) (by decide) (by simp) hev hokr rfl) ?_
        rintro e w' ⟨u, h1, ⟨ta, tn, tc, va, vn, vc, fa, fn, fc, h2, h3⟩, h4⟩
        exact ⟨u, h1, ⟨ta, tn, tc, va, vn, vc, fa, fn, fc, h2, Res.low h3 hb.size⟩, h4⟩
      have HCELL : ∀ w, Below wr.heap.size wr w → w.cell? ⟨ga, k, none⟩ = some (.slice p L c) := fun w hb => cell_on hb (cell_on HW.out hcell)
      have HSAID : Hid (saidL (erased E) = (if k = 3 then Lib.trimRightB s 10 else s)) := hsaid
      go_upto_region 14 with fail
      refine regH (ea := ea) (W := wr) k ga fb p L c (mkD (dS s) E st 0 [] none []) hk4 HCELL (fun w hb => (HWL.out w (HWW.out.trans (hb.mono HWW.out.size))).1) HRUN (fun _ _ _ _ _ h => h) fun y zb w3 hxb hb3 => ?_
      have HB3 : Hid (Below w61.heap.size w61 w3) := HW.out.trans (hb3.mono HW.out.size)
      obtain ⟨ta, tc, va, vc, fa, fc, Xv, Yv, hc, hXv, hXe, -⟩ := hxb.seen
      have hXe' : Xv.map Prod.fst = E := hXe
      have hlE : (mkD (dS s) E st 0 [] none []).E.length = Xv.length := by
        show E.length = _
        rw [← hXe', List.length_map]
      rw [hlE] at hXv hc
      have q2 := hc.cell 2
      have hEl : Xv.length < 4294967296 := by
        have h9 : E.length < 4294967296 := hokr.E
        rw [← hXe', List.length_map] at h9
        exact h9
      have HER : Hid (Calls Tryz.prog 24 #[.slice ta Xv.length tc] w3 fun e w' => ∃ ta' tc' X', e = .returned (.slice ta' X'.length tc') ∧ Hid (EvAt w' (.slice ta' X'.length tc') X') ∧ Hid (X'.map Prod.fst = erased E) ∧ X'.length < 4294967296 ∧ Hid (Below w3.heap.size w3 w')) := by
        refine Calls.mono (rerase_any hXv.at hEl) ?_
        rintro e w' ⟨v', X', h1, h2, h3, h4, h5⟩
        obtain ⟨ta', tc', hv⟩ := h2.form
        subst hv
        exact ⟨ta', tc', X', h1, h2, by unfold Hid; rw [h4, hXe'], by omega, h5⟩
      clear hcell hnd hX hXl hXo hXc hev hokr hsaid HRUN HCELL hxb hb3 hc hXv hXe hXe' hlE
      go_wp2_with fail
      refine Calls.mono HER.out ?_
      rintro e w4 ⟨ta', tc', X', rfl, HX', HXM, hX'l, HB4'⟩
      have HB4 : Hid (Below w61.heap.size w61 w4) := HB3.out.trans (HB4'.out.mono HB3.out.size)
      clear HER HB3 HB4' q2 hEl
      go_wp2_with fail
      go_loopw [15, 16] (fun v15 v16 wq => ∃ j : Nat, v15 = .string ⟨(saidL ((X'.map Prod.fst).take j)).toArray⟩ ∧ v16 = .int .i64 (j : Nat) ∧ j ≤ X'.length ∧ wq = w4) (fun _ v16 _ => X'.length - (intOf v16).toNat)
      case atStart => exact ⟨0, rfl, rfl, by omega, rfl⟩
      case round =>
        obtain ⟨j, rfl, rfl, hj, rfl⟩ := hrel
        by_cases hjl : j < X'.length
        · obtain ⟨q, hq⟩ : ∃ q, X'[j]? = some q := ⟨_, List.getElem?_eq_getElem hjl⟩
          obtain ⟨g, o, cap, hv, hg, c0, c1, c2, c3, c4⟩ := HX'.out.at hq
          cases hv
          have hst : saidL ((X'.map Prod.fst).take (j + 1)) = saidL ((X'.map Prod.fst).take j) ++ (if q.1.kind = 3 ∧ q.1.a = [] then q.1.b else []) := by
            rw [List.take_add_one, List.getElem?_map, hq]
            unfold saidL
            rw [List.filter_append, List.flatMap_append]
            congr 1
            by_cases h : q.1.kind = 3 ∧ q.1.a = []
            · simp [h.1, h.2]
            · rw [if_neg h]
              have : (decide (q.1.kind = 3) && q.1.a.isEmpty) = false := by
                rw [Bool.and_eq_false_iff, decide_eq_false_iff_not]
                rcases Classical.em (q.1.kind = 3) with h3 | h3
                · right
                  cases ha : q.1.a with
                  | nil => exact absurd ⟨h3, ha⟩ h
                  | cons _ _ => rfl
                · exact .inl h3
              simp [this]
          have hsl : (saidL ((X'.map Prod.fst).take (j + 1))).length ≤ 500 := by
            refine Nat.le_trans (said_len _ _) ?_
            rw [HXM.out, HSAID.out]
            split
            · have := trim_len s
              omega
            · exact hl5
          have HST : Hid _ := hst
          have hsl2 : (saidL ((X'.map Prod.fst).take j)).length + (if q.1.kind = 3 ∧ q.1.a = [] then q.1.b else []).length ≤ 500 := by
            rw [hst, List.length_append] at hsl
            exact hsl
          obtain ⟨sd, hsd⟩ : ∃ sd, saidL ((X'.map Prod.fst).take j) = sd := ⟨_, rfl⟩
          rw [hsd] at HST hsl2 ⊢
          clear hst hsd hq hg hsl
          by_cases hk3 : q.1.kind = 3
          · by_cases ha : q.1.a = []
            · rw [ha] at c2
              rw [hk3] at c0
              have h5 := HST.out
              rw [if_pos ⟨hk3, ha⟩] at h5 hsl2
              have HS5 : Hid (saidL ((X'.map Prod.fst).take (j + 1)) = sd ++ q.1.b) := h5
              have hsum : ¬ 9223372036854775807 < sd.length + q.1.b.length := by omega
              clear h5 HST hsl2
              go_wp2_with fail
              refine ⟨⟨j + 1, ?_, by simp, by omega, trivial⟩, by simp [intOf]; omega⟩
              rw [HS5.out, bytes_app]
            · have hae : List.isEmpty q.1.a = false := by
                cases h : q.1.a with
                | nil => exact absurd h ha
                | cons _ _ => rfl
              have h5 := HST.out
              rw [if_neg (fun h => ha h.2), List.append_nil] at h5
              have HS5 : Hid (saidL ((X'.map Prod.fst).take (j + 1)) = sd) := h5
              clear h5 HST hsl2 ha
              go_wp2_with fail
              refine ⟨⟨j + 1, ?_, by simp, by omega, trivial⟩, by simp [intOf]; omega⟩
              rw [HS5.out]
          · have h5 := HST.out
            rw [if_neg (fun h => hk3 h.1), List.append_nil] at h5
            have HS5 : Hid (saidL ((X'.map Prod.fst).take (j + 1)) = sd) := h5
            clear h5 HST hsl2
            go_wp2_with fail
            refine ⟨⟨j + 1, ?_, by simp, by omega, trivial⟩, by simp [intOf]; omega⟩
            rw [HS5.out]
        · have hjz : j = X'.length := by omega
          subst hjz
          have h5 : saidL ((X'.map Prod.fst).take X'.length) = (if k = 3 then Lib.trimRightB s 10 else s) := by
            rw [← HSAID.out, ← HXM.out, show X'.length = (X'.map Prod.fst).length by simp, List.take_length]
          rw [h5]
          clear h5 HSAID HXM HX'
          by_cases hk3 : k = 3
          · subst hk3
            rw [if_pos rfl]
            have HTR : Hid (∀ w, Calls Tryz.prog 25 #[.string ⟨s.toArray⟩] w fun e w' => e = .returned (.string ⟨(Lib.trimRightB s 10).toArray⟩) ∧ w' = w) := fun w => trim_any ⟨s.toArray⟩ (by show s.toArray.size < 4294967296; simp; omega) w
            go_wp2_with fail
            refine Calls.mono (HTR.out _) ?_
            rintro e w5 ⟨rfl, hw5⟩
            obtain rfl := hw5.symm
            clear HTR hw5
            go_wp2_with fail
            exact ⟨⟨4, by simp, by omega, HB4⟩, by simp [intOf]⟩
          · rw [if_neg hk3]
            have hk3' : ((k : Int) == 3) = false := by
              rw [beq_eq_false_iff_ne]
              omega
            go_wp2_with fail
            exact ⟨⟨k + 1, by simp, by omega, HB4⟩, by simp [intOf]; omega⟩
    · have hkz : k = 4 := by omega
      subst hkz
      obtain ⟨hXl, hXo, hXc, E, hev, hokr⟩ := out_at hl5
      have HRUN : ∀ w, Below wr.heap.size wr w → Calls Tryz.prog 18 #[.slice p60 11 c60, wV (.slice (some ⟨fb, 0, none⟩) 1 1) (.slice none 0 0), oV 1500 25 []] w fun e w' => ∃ u, e = .returned (.tuple #[u, .bool true]) ∧ RunV ea wr.heap.size 0 .ok (mkD (dG s (s ++ s)) E 4 0 [] none []) u w' ∧ Below w.heap.size w w' := fun w hb => by
        have hb39 : Below w39.heap.size w39 w := HWW.out.trans (hb.mono HWW.out.size)
        have hbW : Below W.heap.size W w := HB39.out.trans (hb39.mono HB39.out.size)
        have hb61 : Below w61.heap.size w61 w := HW.out.trans (hb.mono HW.out.size)
        refine Calls.mono (plain_v (ea := ea) (X := outN s) (Fl := [([102], s)]) (n := 7) (inp := []) (r := (mkD (dG s (s ++ s)) E 4 0 [] none [], 0, .ok)) _ _ w (HE.out _ hbW).1 (HE.out _ hbW).2 (HO.out.below hb61 (Nat.le_refl _)) hXl hXo hXc (HWL.out w hb39).2 (by simp) (fun p hp => by rw [List.mem_singleton] at hp; subst hp; simp) (may_one s hl5) (by decide) (by decide) (by simp) hev hokr rfl) ?_
        rintro e w' ⟨u, h1, ⟨ta, tn, tc, va, vn, vc, fa, fn, fc, h2, h3⟩, h4⟩
        exact ⟨u, h1, ⟨ta, tn, tc, va, vn, vc, fa, fn, fc, h2, Res.low h3 hb.size⟩, h4⟩
      go_upto_region 27 with fail
      refine regO (ea := ea) (W := wr) fb p60 11 c60 (mkD (dG s (s ++ s)) E 4 0 [] none []) (fun w hb => (HWL.out w (HWW.out.trans (hb.mono HWW.out.size))).1) HRUN (fun _ _ _ _ _ h => h) fun y zb w3 hxb hb3 => ?_
      have HB3 : Hid (Below W.heap.size W w3) := by
        have h1 : Below w39.heap.size w39 w3 := HWW.out.trans (hb3.mono HWW.out.size)
        exact HB39.out.trans (h1.mono HB39.out.size)
      obtain ⟨ta, tc, va, vc, fa, fc, Xv, Yv, hc, -, -, -, -, hfo⟩ := hxb.seen
      have hfl : FlAt w3 (.slice fa 2 fc) (dG s (s ++ s)) := FlAt.owned hfo
      obtain ⟨g, o, cap, hv, -, -, d0, d1⟩ := hfl.at (j := 0) rfl
      obtain ⟨g', o', cap', hv', -, -, d2, d3⟩ := hfl.at (j := 1) rfl
      have q4 : w3.cell? ⟨zb, 4, none⟩ = some (.slice fa 2 fc) := hc.cell 4
      cases hv
      cases hv'
      have d3' : w3.cell? ⟨g, o + 1 * 2 + 1, none⟩ = some (.string (⟨s.toArray⟩ ++ ⟨s.toArray⟩)) := by rw [bytes_app]; exact d3
      have hsum : ¬ 9223372036854775807 < s.length + s.length := by omega
      clear hXl hXo hXc hev hokr HRUN hxb hb3 hc hfo hfl d3 HP HO HWL
      go_wp2_with fail
      go_ret
      exact ⟨rfl, HB3.out⟩
end Go.Proofs.YtfafhjglcaikoaaGreatDoor
