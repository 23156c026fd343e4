/- RunFors. -/
import Derived.Test.YtfafhjglcaikoaaGreatDoorR35
import Derived.Test.YtfafhjglcaikoaaGreatDoorR44
namespace Go.Proofs.YtfafhjglcaikoaaGreatDoor
open Go.RowKit
attribute [local go_sem] Oper.semAt_some
attribute [local go_sem] run_store_nilFunc

variable {W W' : World} {ea : Nat → Addr}
theorem cat_len (l : List Txt) : (newN 3 0 [] (l.map lN9)).length = l.length + 1 := by
  have := lits_len l
  simp only [newN, List.length_cons, this]
theorem cat_new {w : World} {v : Value} {K : List (Value × List Nd)} {l : List Txt} (h : KdAt w v K) (hK : K.map Prod.snd = l.map lN9) (hl : l.length ≤ 1000) : Calls Tryz.prog 16 #[.int .i64 3, .int .i64 0, .string ⟨#[]⟩, v] w (Made w (l.length + 1) (newN 3 0 [] (l.map lN9))) := by
  refine (newL_any 3 0 [] v (l.map lN9) w ⟨K, hK, h⟩ (by simp; omega) (by rw [lits_len]; omega)).mono ?_
  rintro e w' ⟨v', h1, h2, h3⟩
  exact Made.of h1 h2 h3 (Below.refl _ _) (cat_len l)
set_option maxRecDepth 100000 in
set_option maxHeartbeats 8000000 in
theorem fors_any (v : Value) (l : List Txt) (hT : Tx W v l) (_hlb : l.length < 140737488355328) (hE : ErX W ea) (h17 : 17 ≤ W.heap.size) : Calls Tryz.prog 4 #[v] W fun e w' => e = .returned (.bool true) ∧ Below W.heap.size W w' := by
  obtain ⟨i0, hi0, hz0, hz1, hz2⟩ := info_parts info25
  have HE : Hid (∀ w, Below W.heap.size W w → ErX w ea ∧ 17 ≤ w.heap.size) := fun w hb => ⟨hE.below (Nat.le_refl _) hb, Nat.le_trans h17 hb.size⟩
  have HF1 : Hid (Calls Tryz.prog 9 #[] W fun e w' => e = .returned (.bool true) ∧ Below W.heap.size W w') := first_any hE h17
  have HT : Hid (∀ w, Below W.heap.size W w → Tx w v l) := fun w hb => hT.below hb (Nat.le_refl _)
  obtain ⟨ad, cap, rfl⟩ := hT.form
  clear hE h17 hT
  go_enter Tryz.func4, Tryz.ntmps4
  go_wp2_with fail
  refine Calls.mono HF1.out ?_
  rintro e w1 ⟨rfl, hb1⟩
  have HB1 : Hid (Below W.heap.size W w1) := hb1
  clear hb1 HF1
  by_cases h30 : 30 < l.length
  · go_wp2_with fail
    go_ret
    exact ⟨rfl, HB1.out⟩
  go_wp2_with fail
  go_loopw [4, 5] (fun v4 v5 wr => ∃ (k : Nat) (L : List (Value × List Nd)), v5 = .int .i64 k ∧ k ≤ l.length ∧ L.length = k ∧ Hid (L.map Prod.snd = (l.take k).map lN9) ∧ Hid (KdOwn wr W.heap.size v4 L) ∧ Hid (Below W.heap.size W wr) ∧ Hid (∀ t ∈ l.take k, t.length ≤ 50)) (fun _ v5 _ => l.length - (intOf v5).toNat)
  case atStart => exact ⟨0, [], rfl, by omega, rfl, by simp [Hid], KdOwn.nil _ _, HB1.out, by simp [Hid]⟩
  case round =>
    clear HB1
    obtain ⟨k, L, rfl, hk, hL, HM, HO, HBR, H50⟩ := hrel
    by_cases hkl : k < l.length
    · obtain ⟨x, hx⟩ : ∃ x, l[k]? = some x := ⟨_, List.getElem?_eq_getElem hkl⟩
      obtain ⟨g9, o9, cap9, hv9, _, _, hcl⟩ := (HT.out _ HBR.out).inRow (fun e => by rw [e] at hkl; simp at hkl)
      cases hv9
      have c9 := hcl k x hx
      by_cases hx50 : 50 < x.length
      · clear hcl hx
        go_wp2_with fail
        go_ret
        exact ⟨rfl, HBR.out⟩
      have HLI : Hid _ := lit_any ⟨x.toArray⟩ wr
      have HSN : Hid ((l.take (k + 1)).map lN9 = (l.take k).map lN9 ++ [lN9 x] ∧ ∀ t ∈ l.take (k + 1), t.length ≤ 50) := by
        have ht : l.take (k + 1) = l.take k ++ [x] := by rw [List.take_add_one, hx]; rfl
        unfold Hid
        rw [ht]
        refine ⟨by simp, fun t h => ?_⟩
        rcases List.mem_append.1 h with h | h
        · exact H50.out t h
        · rw [List.mem_singleton] at h
          subst h
          omega
      have hws := HBR.out.size
      clear hcl hx
      go_wp2_with fail
      refine Calls.mono HLI.out ?_
      rintro e w2 ⟨pv, rfl, hnd, hb2⟩
      obtain ⟨pa, pc, rfl⟩ : ∃ pa pc, pv = .slice pa 1 pc := hnd.at.form
      have ho2 := (HO.out.below hb2).1.alloc (.cells #[.slice pa 1 pc] 22)
      rw [hL] at ho2
      have hw2 := hb2.size
      have HND : Hid (NdOwn w2 wr.heap.size (.slice pa 1 pc) [litN x]) := hnd
      have HB2 : Hid (Below wr.heap.size wr w2) := hb2
      clear hnd hb2 HLI
      go_wp2_with (at_builtin; refine wpList_append_own _ rfl _ _ 46 rfl W.heap.size 22 i0 _ 1 24 Tryz.underlying46 hi0 hz0 hz1 hz2 rfl (by decide) _ _ _ rfl ho2 ⟨w2.heap.size, 0, none⟩ 1 1 [.slice pa 1 pc] rfl rfl (cells_new _ [.slice pa 1 pc] _) (by simp [Value.oneCell']) (by have := maxLen_big; omega) (by omega) (by simp; omega) ?_; intro v4 w4 hown hgrow _)
      obtain ⟨f1, f2⟩ := KdOwn.snoc HO.out HB2.out hws hws HND.out (by rw [hL]; exact hown) hgrow
      have HF1 : Hid (KdOwn w4 W.heap.size v4 (L ++ [(.slice pa 1 pc, [litN x])])) := f1
      have HF2 : Hid (Below W.heap.size W w4) := HBR.out.trans f2
      have HSX : Hid (∀ t ∈ l.take (k + 1), t.length ≤ 50) := HSN.out.2
      refine ⟨⟨k + 1, L ++ [(.slice pa 1 pc, [litN x])], by simp, by omega, by simp [hL], ?_, HF1, HF2, HSX⟩, by simp [intOf]; omega⟩
      unfold Hid
      rw [HSN.out.1, List.map_append, HM.out]
      rfl
    · have hkz : k = l.length := by omega
      subst hkz
      have hm := HM.out
      have h50 := H50.out
      rw [List.take_length] at hm h50
      replace HM : Hid (L.map Prod.snd = l.map lN9) := hm
      have HL50 : Hid (∀ t ∈ l, t.length ≤ 50) := h50
      have hl30 : l.length ≤ 30 := by omega
      have HK39 : Hid (KdAt wr u4 L) := HO.out.at
      obtain ⟨la, lc, rfl⟩ := owns_slice HO.out.1
      rw [hL] at HK39
      have T39 : Hid (Below W.heap.size W wr) := HBR.out
      clear hm h50 HO H50
      have C40 : Hid _ := cat_new HK39.out HM.out (by omega)
      go_wp2_with fail
      refine Calls.mono C40.out ?_
      rintro e w40 ⟨p40, c40, rfl, N40, B40⟩
      have HK40 : Hid (KdAt w40 (.slice la l.length lc) L) := HK39.out.below B40.out (Nat.le_refl _)
      have T40 := Bel.on T39 B40
      clear C40 T39 B40
      have C41 : Hid _ := call2_new w40 [112, 117, 116] [46]
      go_wp2_with fail
      refine Calls.mono C41.out ?_
      rintro e w41 ⟨p41, c41, rfl, N41, B41⟩
      have HK41 : Hid (KdAt w41 (.slice la l.length lc) L) := HK40.out.below B41.out (Nat.le_refl _)
      have T41 := Bel.on T40 B41
      have N40_41 := NdMade.on N40 B41
      clear C41 N40 T40 B41
      have C42 : Hid _ := node2_new (29) (0) [105] N40_41.out N41.out (L := l.length + 5) (by rw [cat_len]; rfl) (by omega)
      go_wp2_with fail
      refine Calls.mono C42.out ?_
      rintro e w42 ⟨p42, c42, rfl, N42, B42⟩
      have HK42 : Hid (KdAt w42 (.slice la l.length lc) L) := HK41.out.below B42.out (Nat.le_refl _)
      have T42 := Bel.on T41 B42
      clear C42 N40_41 N41 T41 B42
      have C43 : Hid _ := cat_new HK42.out HM.out (by omega)
      go_wp2_with fail
      refine Calls.mono C43.out ?_
      rintro e w43 ⟨p43, c43, rfl, N43, B43⟩
      have T43 := Bel.on T42 B43
      have N42_43 := NdMade.on N42 B43
      clear C43 N42 T42 B43
      have C44 : Hid _ := lit_new w43 [110, 111]
      go_wp2_with fail
      refine Calls.mono C44.out ?_
      rintro e w44 ⟨p44, c44, rfl, N44, B44⟩
      have T44 := Bel.on T43 B44
      have N42_44 := NdMade.on N42_43 B44
      have N43_44 := NdMade.on N43 B44
      clear C44 N42_43 N43 T43 B44
      have C45 : Hid _ := leaf_new w44 (2) (0) [105]
      go_wp2_with fail
      refine Calls.mono C45.out ?_
      rintro e w45 ⟨p45, c45, rfl, N45, B45⟩
      have T45 := Bel.on T44 B45
      have N42_45 := NdMade.on N42_44 B45
      have N43_45 := NdMade.on N43_44 B45
      have N44_45 := NdMade.on N44 B45
      clear C45 N42_44 N43_44 N44 T44 B45
      have C46 : Hid _ := node2_new (21) (0) [] N44_45.out N45.out (L := 3) (by rfl) (by decide)
      go_wp2_with fail
      refine Calls.mono C46.out ?_
      rintro e w46 ⟨p46, c46, rfl, N46, B46⟩
      have T46 := Bel.on T45 B46
      have N42_46 := NdMade.on N42_45 B46
      have N43_46 := NdMade.on N43_45 B46
      clear C46 N42_45 N43_45 N44_45 N45 T45 B46
      have C47 : Hid _ := node2_new (29) (0) [105] N43_46.out N46.out (L := l.length + 5) (by rw [cat_len]; rfl) (by omega)
      go_wp2_with fail
      refine Calls.mono C47.out ?_
      rintro e w47 ⟨p47, c47, rfl, N47, B47⟩
      have T47 := Bel.on T46 B47
      have N42_47 := NdMade.on N42_46 B47
      clear C47 N42_46 N43_46 N46 T46 B47
      obtain ⟨FA, hFA, hevA⟩ := forA_at hl30 HL50.out
      obtain ⟨FB, hFB, hevB⟩ := forB_at hl30 HL50.out
      have okA := forA_ok hl30 HL50.out
      have okB' := forB_ok hl30 HL50.out
      obtain ⟨sb, hsb⟩ : ∃ sb : Int, (if l = [] then 0 else 127) = sb := ⟨_, rfl⟩
      rw [hsb] at hevB
      have HEA : Hid ((ev 6).1 (forN l (callN [tPut, [46]])) (mkS F0 [] 0 []) = some (mkS FA (List.replicate l.length evPut) (2 * l.length) [], 0, .ok)) := hevA
      have HEB : Hid ((ev 6).1 (forN l (noN [105])) (mkS F0 [] 0 []) = some (mkS FB (l.map evNo) (2 * l.length) [], sb, .ok)) := hevB
      have OKA : Hid (Okr (mkS FA (List.replicate l.length evPut) (2 * l.length) [])) := okr_mk hFA (by decide) _ _ _ (by simp; omega) (fun q hq => by rw [List.eq_of_mem_replicate hq]; simp)
      have OKB : Hid (Okr (mkS FB (l.map evNo) (2 * l.length) [])) := okr_mk hFB (by decide) _ _ _ (by simp; omega) (fun q hq => by obtain ⟨x, _, rfl⟩ := List.mem_map.1 hq; simp)
      have HOA : Hid _ := okA
      have HOB : Hid _ := okB'
      have HSB : Hid ((if l = [] then (0 : Int) else 127) = sb) := hsb
      clear hevA hevB okA okB' hFA hFB hsb
      go_wp2_with fail
      refine Calls.mono (defaults_any _) ?_
      rintro e w48 ⟨rfl, B48'⟩
      have B48 : Hid (Below w47.heap.size w47 w48) := B48'
      have T48 := Bel.on T47 B48
      have N42_48 := NdMade.on N42_47 B48
      have N47_48 := NdMade.on N47 B48
      have HR48 : Hid (Calls Tryz.prog 18 #[.slice p42 (l.length + 5) c42, wV (.slice none 0 0) (.slice none 0 0), oV 1500 25 []] w48 (PlainC ea w48 (0) (mkS FA (List.replicate l.length evPut) (2 * l.length) []))) := plain_mem (ea := ea) (X := forN l (callN [tPut, [46]])) (Fl := []) (n := 6) (inp := []) (r := (mkS FA (List.replicate l.length evPut) (2 * l.length) [], 0, .ok)) _ (.slice none 0 0) w48 (HE.out _ T48.out).1 (HE.out _ T48.out).2 N42_48.out HOA.out.1 HOA.out.2.1 HOA.out.2.2 (fl_nil _) (by simp) (fun p hp => by simp at hp) may_nil (by decide) (by decide) (by simp) HEA.out OKA.out rfl
      clear B48' N42_48 N42_47 T47
      go_wp2_with fail
      refine Calls.mono HR48.out ?_
      rintro e w49 ⟨ta, tn, tc, va, vn, vc, fa, fn, fc, rfl, HA, HBL⟩
      go_upto_region 14 with fail
      obtain ⟨w50, hw⟩ : ∃ w50, w49.alloc (.cells #[.int .i64 (0), .nilIface, .slice ta tn tc, .slice va vn vc, .slice fa fn fc, .int .i64 ((mkS FA (List.replicate l.length evPut) (2 * l.length) []).st : Nat)] 54) = w50 := ⟨_, rfl⟩
      rw [hw] at HA HBL ⊢
      obtain ⟨bA, hbb⟩ : ∃ b, w49.heap.size = b := ⟨_, rfl⟩
      rw [hbb] at HA ⊢
      have T50 := Bel.on T48 HBL
      have N47_50 := NdMade.on N47_48 HBL
      clear hw hbb HR48 T48 B48 HBL
      go_wp2_with fail
      refine Calls.mono (defaults_any _) ?_
      rintro e w51 ⟨rfl, B51'⟩
      have B51 : Hid (Below w50.heap.size w50 w51) := B51'
      have T51 := Bel.on T50 B51
      have N47_51 := NdMade.on N47_50 B51
      have HA51 := Box.below HA.out B51.out
      have HR51 : Hid (Calls Tryz.prog 18 #[.slice p47 (l.length + 5) c47, wV (.slice none 0 0) (.slice none 0 0), oV 1500 25 []] w51 (PlainC ea w51 (sb) (mkS FB (l.map evNo) (2 * l.length) []))) := plain_mem (ea := ea) (X := forN l (noN [105])) (Fl := []) (n := 6) (inp := []) (r := (mkS FB (l.map evNo) (2 * l.length) [], sb, .ok)) _ (.slice none 0 0) w51 (HE.out _ T51.out).1 (HE.out _ T51.out).2 N47_51.out HOB.out.1 HOB.out.2.1 HOB.out.2.2 (fl_nil _) (by simp) (fun p hp => by simp at hp) may_nil (by decide) (by decide) (by simp) HEB.out OKB.out rfl
      clear B51' N47_51 N47_50 T50
      go_wp2_with fail
      refine Calls.mono HR51.out ?_
      rintro e w52 ⟨ta, tn, tc, va, vn, vc, fa, fn, fc, rfl, HB, HBL⟩
      go_upto_region 15 with fail
      obtain ⟨w53, hw⟩ : ∃ w53, w52.alloc (.cells #[.int .i64 (sb), .nilIface, .slice ta tn tc, .slice va vn vc, .slice fa fn fc, .int .i64 ((mkS FB (l.map evNo) (2 * l.length) []).st : Nat)] 54) = w53 := ⟨_, rfl⟩
      rw [hw] at HB HBL ⊢
      obtain ⟨bB, hbb⟩ : ∃ b, w52.heap.size = b := ⟨_, rfl⟩
      rw [hbb] at HB ⊢
      have T53 := Bel.on T51 HBL
      have HA53 : Hid (Box ea w48.heap.size w53 bA 0 .ok (mkS FA (List.replicate l.length evPut) (2 * l.length) [])) := HA51.below HBL.out
      clear hw hbb HR51 T51 B51 HBL
      obtain ⟨tA, cA, fA2, evA⟩ := HA53.out.event
      obtain ⟨tB, cB, fB2, evB⟩ := HB.out.event
      have hlA : (mkS FA (List.replicate l.length evPut) (2 * l.length) []).E.length = l.length := by show (List.replicate l.length evPut).length = _; simp
      have hlB : (mkS FB (l.map evNo) (2 * l.length) []).E.length = l.length := by show (l.map evNo).length = _; simp
      rw [hlA] at fA2
      rw [hlB] at fB2
      have fA5 : w53.cell? ⟨bA, 5, none⟩ = some (.int .i64 (2 * (l.length : Int))) := by
        obtain ⟨_, _, _, _, _, _, _, _, hc, -⟩ := HA53.out.seen
        have := hc.cell 5
        rw [show ((mkS FA (List.replicate l.length evPut) (2 * l.length) []).st : Int) = 2 * (l.length : Int) by show ((2 * l.length : Nat) : Int) = _; omega] at this
        exact this
      have fB0 : w53.cell? ⟨bB, 0, none⟩ = some (.int .i64 sb) := by
        obtain ⟨_, _, _, _, _, _, _, _, hc, -⟩ := HB.out.seen
        exact hc.cell 0
      have HFA : Hid (w53.cell? ⟨bA, 2, none⟩ = some (.slice tA l.length cA)) := fA2
      have HFB : Hid (w53.cell? ⟨bB, 2, none⟩ = some (.slice tB l.length cB) ∧ w53.cell? ⟨bB, 0, none⟩ = some (.int .i64 sb)) := ⟨fB2, fB0⟩
      have HEVA : Hid (∀ i, i < l.length → ∃ g o, tA = some ⟨g, o, none⟩ ∧ w53.cell? ⟨g, o + i * 5 + 3, none⟩ = some (str [46])) := fun i hi => by
        obtain ⟨g, o, v, h1, -, -, h2, -⟩ := evA i evPut (by show (List.replicate l.length evPut)[i]? = _; simp [hi])
        exact ⟨g, o, h1, h2⟩
      have HEVB : Hid (∀ i x, l[i]? = some x → ∃ g o v, tB = some ⟨g, o, none⟩ ∧ w53.cell? ⟨g, o + i * 5 + 4, none⟩ = some v ∧ Tx w53 v [x]) := fun i x hx => by
        obtain ⟨g, o, v, h1, -, -, -, h2, h3⟩ := evB i (evNo x) (by show (l.map evNo)[i]? = _; rw [List.getElem?_map, hx]; rfl)
        exact ⟨g, o, v, h1, h2, h3⟩
      clear evA evB hlA hlB HA53 HB fB0
      go_wp2_with fail
      clear fA2 fB2 fA5
      go_loopw [12] (fun v12 wr => ∃ k : Nat, v12 = .int .i64 (k : Nat) ∧ k ≤ l.length ∧ Hid (Below w53.heap.size w53 wr)) (fun v12 _ => l.length - (intOf v12).toNat)
      case atStart => exact ⟨0, rfl, Nat.zero_le _, Below.refl _ _⟩
      case round =>
        obtain ⟨k, rfl, hk, HW⟩ := hrel
        by_cases hkl : k < l.length
        · obtain ⟨x, hx⟩ : ∃ x, l[k]? = some x := ⟨_, List.getElem?_eq_getElem hkl⟩
          have HWW : Hid (Below W.heap.size W wr) := T53.out.trans (HW.out.mono T53.out.size)
          obtain ⟨g9, o9, cap9, hv9, _, _, hcl⟩ := (HT.out _ HWW.out).inRow (fun e => by rw [e] at hkl; simp at hkl)
          cases hv9
          have c9 := hcl k x hx
          obtain ⟨ga, oa, rfl, ka⟩ := HEVA.out k hkl
          obtain ⟨gb, ob, vb, rfl, kb, hTv⟩ := HEVB.out k x hx
          have d1 := cell_on HW.out HFA.out
          have d2 := cell_on HW.out ka
          have d3 := cell_on HW.out HFB.out.1
          have d4 := cell_on HW.out kb
          have hTr : Tx wr vb [x] := hTv.below HW.out (Nat.le_refl _)
          obtain ⟨g2, o2, cap2, rfl, -⟩ := hTr.inRow (by simp)
          have HSx : Hid (∀ w', Below wr.heap.size wr w' → w'.cell? ⟨bA, 2, none⟩ = some (.slice (some ⟨ga, oa, none⟩) l.length cA) ∧ w'.cell? ⟨ga, oa + k * 5 + 3, none⟩ = some (.string ⟨#[46]⟩) ∧ w'.cell? ⟨bB, 2, none⟩ = some (.slice (some ⟨gb, ob, none⟩) l.length cB) ∧ w'.cell? ⟨gb, ob + k * 5 + 4, none⟩ = some (.slice (some ⟨g2, o2, none⟩) 1 cap2) ∧ w'.cell? ⟨g9, o9 + k, none⟩ = some (.string ⟨x.toArray⟩)) := fun w' hb => ⟨cell_on hb d1, cell_on hb d2, cell_on hb d3, cell_on hb d4, cell_on hb c9⟩
          have HSm : Hid (∀ (w : World) (v2 : Value), Below wr.heap.size wr w → Tx w v2 [x] → Calls Tryz.prog 21 #[.slice (some ⟨g2, o2, none⟩) 1 cap2, v2] w fun e w' => e = .returned (.bool true) ∧ Below wr.heap.size wr w') := fun w v2 hb h2 => by
            refine (sameTexts_any _ _ [x] [x] w (hTr.below hb (Nat.le_refl _)) h2 (by simp) (by simp)).mono ?_
            rintro e w' ⟨rfl, h3⟩
            exact ⟨by simp, hb.trans (h3.mono hb.size)⟩
          have hd1 : Below wr.heap.size wr wr.drew := (Below.refl _ wr).drew
          have hd2 : Below wr.heap.size wr (wr.alloc (.cells #[.string ⟨x.toArray⟩] 9)).drew := ((Below.refl _ wr).alloc (Nat.le_refl _) _).drew
          have hV0 : Tx (wr.alloc (.cells #[.string ⟨x.toArray⟩] 9)).drew (.slice (some ⟨wr.heap.size, 0, none⟩) 1 1) [x] := (tx_one9 wr x).below (Below.refl _ _).drew (Nat.le_refl _)
          clear hcl hx ka kb hTv hTr d1 d2 d3 d4 HEVA HEVB HFA HFB
          go_wp2_with fail
          go_region_held3 (fun w' => w'.cell? ⟨bA, 2, none⟩ = some (.slice (some ⟨ga, oa, none⟩) l.length cA) ∧ w'.cell? ⟨ga, oa + k * 5 + 3, none⟩ = some (.string ⟨#[46]⟩) ∧ w'.cell? ⟨bB, 2, none⟩ = some (.slice (some ⟨gb, ob, none⟩) l.length cB) ∧ w'.cell? ⟨gb, ob + k * 5 + 4, none⟩ = some (.slice (some ⟨g2, o2, none⟩) 1 cap2) ∧ w'.cell? ⟨g9, o9 + k, none⟩ = some (.string ⟨x.toArray⟩)) (first | exact HSx.out _ (by assumption) | go_keep)
            (first | (go_at_call 21; refine Calls.mono (HSm.out _ _ (by assumption) (by assumption)) ?_; rintro e w6 ⟨rfl, hk6⟩))
          all_goals
            have HB6 : Hid (Below w53.heap.size w53 w6) := HW.out.trans (hk6.mono HW.out.size)
            clear hk6 HSx HSm hd1 hd2 hV0
            go_wp2_with fail
            exact ⟨⟨k + 1, by simp, by omega, HB6⟩, by simp [intOf]; omega⟩
        · have hkz : k = l.length := by omega
          have HWW : Hid (Below W.heap.size W wr) := T53.out.trans (HW.out.mono T53.out.size)
          have e0 := cell_on HW.out HFB.out.2
          clear HEVA HEVB HFA HFB
          by_cases hl0 : l.length = 0
          · have hs0 : sb = 0 := by rw [← HSB.out, if_pos (List.eq_nil_of_length_eq_zero hl0)]
            subst hs0
            clear HSB
            go_wp2_with fail
            go_ret
            exact ⟨rfl, HWW.out⟩
          · have hs0 : sb = 127 := by rw [← HSB.out, if_neg (fun h => hl0 (by rw [h]; rfl))]
            subst hs0
            clear HSB
            have hp : 0 < l.length := by omega
            go_wp2_with fail
            go_ret
            exact ⟨rfl, HWW.out⟩
end Go.Proofs.YtfafhjglcaikoaaGreatDoor
