/- RunWhiles. -/
import Derived.Test.YtfafhjglcaikoaaGreatDoorR35
import Derived.Test.YtfafhjglcaikoaaGreatDoorR44
namespace Go.Proofs.YtfafhjglcaikoaaGreatDoor
open Go.RowKit
attribute [local go_sem] Oper.semAt_some
attribute [local go_sem] run_store_nilFunc

variable {W W' : World} {ea : Nat → Addr}
theorem lines_snoc (l : List Txt) (x : Txt) : linesB (l ++ [x]) = linesB l ++ x ++ [10] := by simp [linesB]
set_option maxRecDepth 100000 in
set_option maxHeartbeats 8000000 in
theorem whiles_any (v : Value) (l : List Txt) (hT : Tx W v l) (_hlb : l.length < 140737488355328) (hE : ErX W ea) (h17 : 17 ≤ W.heap.size) : Calls Tryz.prog 8 #[v] W fun e w' => e = .returned (.bool true) ∧ Below W.heap.size W w' := by
  have HE : Hid (∀ w, Below W.heap.size W w → ErX w ea ∧ 17 ≤ w.heap.size) := fun w hb => ⟨hE.below (Nat.le_refl _) hb, Nat.le_trans h17 hb.size⟩
  have HF1 : Hid (Calls Tryz.prog 9 #[] W fun e w' => e = .returned (.bool true) ∧ Below W.heap.size W w') := first_any hE h17
  have HT : Hid (∀ w, Below W.heap.size W w → Tx w v l) := fun w hb => hT.below hb (Nat.le_refl _)
  obtain ⟨ad, cap, rfl⟩ := hT.form
  clear hE h17 hT
  go_enter Tryz.func8, Tryz.ntmps8
  go_wp2_with fail
  refine Calls.mono HF1.out ?_
  rintro e w1 ⟨rfl, hb1⟩
  have HB1 : Hid (Below W.heap.size W w1) := hb1
  clear hb1 HF1
  by_cases h30 : 30 < l.length
  · go_wp2_with fail
    go_ret
    exact ⟨rfl, HB1.out⟩
  go_wp2_with fail
  go_loopw [4, 5] (fun v4 v5 wr => ∃ k : Nat, v4 = .string ⟨(linesB (l.take k)).toArray⟩ ∧ v5 = .int .i64 (k : Nat) ∧ k ≤ l.length ∧ Hid (Below W.heap.size W wr) ∧ Hid ((∀ t ∈ l.take k, t.length ≤ 30) ∧ ∀ t ∈ l.take k, ¬ (10 : UInt8) ∈ t)) (fun _ v5 _ => l.length - (intOf v5).toNat)
  case atStart => exact ⟨0, rfl, rfl, Nat.zero_le _, HB1.out, by simp [Hid]⟩
  case round =>
    clear HB1
    obtain ⟨k, rfl, rfl, hk, HBR, H30⟩ := hrel
    by_cases hkl : k < l.length
    · obtain ⟨x, hx⟩ : ∃ x, l[k]? = some x := ⟨_, List.getElem?_eq_getElem hkl⟩
      obtain ⟨g9, o9, cap9, hv9, _, _, hcl⟩ := (HT.out _ HBR.out).inRow (fun e => by rw [e] at hkl; simp at hkl)
      cases hv9
      have c9 := hcl k x hx
      by_cases hx50 : 30 < x.length
      · clear hcl hx
        go_wp2_with fail
        go_ret
        exact ⟨rfl, HBR.out⟩
      have hlt := lines_len (l.take k) H30.out.1
      have hlk : (l.take k).length = k := by simp; omega
      rw [hlk] at hlt
      have ht : l.take (k + 1) = l.take k ++ [x] := by rw [List.take_add_one, hx]; rfl
      have HSN : Hid (linesB (l.take (k + 1)) = linesB (l.take k) ++ x ++ [10]) := by
        unfold Hid
        rw [ht, lines_snoc]
      have HXI : Hid (¬ (10 : UInt8) ∈ x → (∀ t ∈ l.take (k + 1), t.length ≤ 30) ∧ ∀ t ∈ l.take (k + 1), ¬ (10 : UInt8) ∈ t) := fun h10 => by
        rw [ht]
        refine ⟨fun t h => ?_, fun t h => ?_⟩
        · rcases List.mem_append.1 h with h | h
          · exact H30.out.1 t h
          · rw [List.mem_singleton] at h
            subst h
            omega
        · rcases List.mem_append.1 h with h | h
          · exact H30.out.2 t h
          · rw [List.mem_singleton] at h
            subst h
            exact h10
      obtain ⟨ls, hls⟩ : ∃ ls, linesB (l.take k) = ls := ⟨_, rfl⟩
      rw [hls] at hlt HSN ⊢
      clear hcl hx ht hls hlk
      go_wp2_with fail
      go_loopw [6] (fun v6 wq => ∃ j : Nat, v6 = .int .i64 (j : Nat) ∧ j ≤ x.length ∧ wq = wr ∧ ∀ i, i < j → ∀ b, x[i]? = some b → b ≠ 10) (fun v6 _ => x.length - (intOf v6).toNat)
      case atStart => exact ⟨0, rfl, Nat.zero_le _, rfl, fun i hi => by omega⟩
      case round =>
        obtain ⟨j, rfl, hj, rfl, h10⟩ := hrel
        by_cases hjx : j < x.length
        · obtain ⟨b, hb⟩ : ∃ b, x[j]? = some b := ⟨_, List.getElem?_eq_getElem hjx⟩
          go_wp2_with fail
          · go_ret
            exact ⟨rfl, HBR.out⟩
          · rename_i hne
            refine ⟨⟨j + 1, by simp, by omega, trivial, fun i hi b' hb' => ?_⟩, by simp [intOf]; omega⟩
            by_cases hij : i < j
            · exact h10 i hij b' hb'
            · obtain rfl : i = j := by omega
              rw [hb] at hb'
              cases hb'
              rintro rfl
              have h1 : (⟨x.toArray⟩ : ByteArray)[i]'(by show i < x.toArray.size; simpa using hjx) = 10 := by
                show x.toArray[i]'(by simpa using hjx) = 10
                rw [List.getElem_toArray]
                exact (List.getElem?_eq_some_iff.1 hb).2
              rw [h1] at hne
              exact absurd hne (by decide)
        · have hjz : j = x.length := by omega
          subst hjz
          have h10x : ¬ (10 : UInt8) ∈ x := fun hm => by
            obtain ⟨i, hi⟩ := List.mem_iff_getElem?.1 hm
            exact h10 i (List.getElem?_eq_some_iff.1 hi).1 10 hi rfl
          go_wp2_with fail
          refine ⟨⟨k + 1, ?_, by simp, by omega, HBR, HXI.out h10x⟩, by simp [intOf]; omega⟩
          rw [HSN.out]
          show Value.string ((⟨ls.toArray⟩ ++ ⟨x.toArray⟩ : ByteArray) ++ ⟨([10] : Txt).toArray⟩) = _
          rw [bytes_app ls x, bytes_app]
    · have hkz : k = l.length := by omega
      subst hkz
      have h30a := H30.out
      rw [List.take_length] at h30a
      rw [List.take_length]
      have HL30 : Hid ((∀ t ∈ l, t.length ≤ 30) ∧ ∀ t ∈ l, ¬ (10 : UInt8) ∈ t) := h30a
      obtain ⟨ls, hls⟩ : ∃ ls, linesB l = ls := ⟨_, rfl⟩
      have hll := lines_len l h30a.1
      rw [hls] at hll ⊢
      have HLS : Hid (linesB l = ls) := hls
      clear h30a hls H30
      have hl30 : l.length ≤ 30 := by omega
      go_wp2_with fail
      refine Calls.mono (defaults_any _) ?_
      rintro e w2 ⟨rfl, hb2⟩
      have HB2 : Hid (Below W.heap.size W w2) := HBR.out.trans (hb2.mono HBR.out.size)
      clear hb2 HBR
      go_upto_region 18 with fail
      obtain ⟨w39, hw39⟩ : ∃ w39, w2.alloc (.cells #[.nilFunc, .int .i64 1500, .int .i64 25, .slice none 0 0, .slice none 0 0, .string ⟨ls.toArray⟩] 44) = w39 := ⟨_, rfl⟩
      have T39 : Hid (Below W.heap.size W w39) := by unfold Hid; rw [← hw39]; exact HB2.out.alloc HB2.out.size _
      obtain ⟨bo, hbo⟩ : ∃ bo, w2.heap.size = bo := ⟨_, rfl⟩
      have HO39 : Hid (Cel w39 bo 44 (optD 25 ls)) := by unfold Hid; rw [← hw39, ← hbo]; exact Cel.new _ _ _
      rw [hw39, hbo]
      clear hw39 hbo HB2
      have C40 : Hid _ := call2_new w39 [114, 101, 97, 100] [118]
      go_wp2_with fail
      refine Calls.mono C40.out ?_
      rintro e w40 ⟨p40, c40, rfl, N40, B40⟩
      have HO40 : Hid (Cel w40 bo 44 (optD 25 ls)) := HO39.out.below B40.out HO39.out.lt
      have T40 := Bel.on T39 B40
      clear C40 T39 B40
      have C41 : Hid _ := lit_new w40 [110, 111]
      go_wp2_with fail
      refine Calls.mono C41.out ?_
      rintro e w41 ⟨p41, c41, rfl, N41, B41⟩
      have HO41 : Hid (Cel w41 bo 44 (optD 25 ls)) := HO40.out.below B41.out HO40.out.lt
      have T41 := Bel.on T40 B41
      have N40_41 := NdMade.on N40 B41
      clear C41 N40 T40 B41
      have C42 : Hid _ := leaf_new w41 (2) (0) [118]
      go_wp2_with fail
      refine Calls.mono C42.out ?_
      rintro e w42 ⟨p42, c42, rfl, N42, B42⟩
      have HO42 : Hid (Cel w42 bo 44 (optD 25 ls)) := HO41.out.below B42.out HO41.out.lt
      have T42 := Bel.on T41 B42
      have N40_42 := NdMade.on N40_41 B42
      have N41_42 := NdMade.on N41 B42
      clear C42 N40_41 N41 T41 B42
      have C43 : Hid _ := node2_new (21) (0) [] N41_42.out N42.out (L := 3) (by rfl) (by decide)
      go_wp2_with fail
      refine Calls.mono C43.out ?_
      rintro e w43 ⟨p43, c43, rfl, N43, B43⟩
      have HO43 : Hid (Cel w43 bo 44 (optD 25 ls)) := HO42.out.below B43.out HO42.out.lt
      have T43 := Bel.on T42 B43
      have N40_43 := NdMade.on N40_42 B43
      clear C43 N40_42 N41_42 N42 T42 B43
      have C44 : Hid _ := node2_new (28) (0) [] N40_43.out N43.out (L := 7) (by rfl) (by decide)
      go_wp2_with fail
      refine Calls.mono C44.out ?_
      rintro e w44 ⟨p44, c44, rfl, N44, B44⟩
      have HO44 : Hid (Cel w44 bo 44 (optD 25 ls)) := HO43.out.below B44.out HO43.out.lt
      have T44 := Bel.on T43 B44
      clear C44 N40_43 N43 T43 B44
      obtain ⟨FA, hFA, hevA⟩ := while_at hl30 HL30.out.1 HL30.out.2
      obtain ⟨sb, hsb⟩ : ∃ sb : Int, (if l = [] then 0 else 127) = sb := ⟨_, rfl⟩
      rw [hsb, HLS.out] at hevA
      have HEA : Hid ((ev 43).1 whileN (mkS F0 [] 0 ls) = some (mkS FA (l.map evNo) (3 * l.length + 2) [], sb, .ok)) := hevA
      have OKA : Hid (Okr (mkS FA (l.map evNo) (3 * l.length + 2) [])) := okr_mk hFA (by decide) _ _ _ (by simp; omega) (fun q hq => by obtain ⟨x, _, rfl⟩ := List.mem_map.1 hq; simp)
      have HOA : Hid _ := while_ok
      have HSB : Hid ((if l = [] then (0 : Int) else 127) = sb) := hsb
      have hll2 : ls.length ≤ 2000 := by omega
      have hx := HO44.out
      have o0 := hx.cell 0
      have o1 := hx.cell 1
      have o2 := hx.cell 2
      have o3 := hx.cell 3
      have o4 := hx.cell 4
      have o5 := hx.cell 5
      have N44_44 := N44
      clear hevA hFA hsb hx HO39 HO40 HO41 HO42 HO43 HO44 N44
      have HR44 : Hid (Calls Tryz.prog 18 #[.slice p44 (7) c44, wV (.slice none 0 0) (.slice none 0 0), oV 1500 25 ls] w44 (PlainC ea w44 (sb) (mkS FA (l.map evNo) (3 * l.length + 2) []))) := plain_mem (ea := ea) (X := whileN) (Fl := []) (n := 43) (inp := ls) (r := (mkS FA (l.map evNo) (3 * l.length + 2) [], sb, .ok)) _ (.slice none 0 0) w44 (HE.out _ T44.out).1 (HE.out _ T44.out).2 N44_44.out HOA.out.1 HOA.out.2.1 HOA.out.2.2 (fl_nil _) (by simp) (fun p hp => by simp at hp) may_nil (by decide) (by decide) hll2 HEA.out OKA.out rfl
      clear N44_44
      go_wp2_with fail
      refine Calls.mono HR44.out ?_
      rintro e w45 ⟨ta, tn, tc, va, vn, vc, fa, fn, fc, rfl, HA, HBL⟩
      go_upto_region 20 with fail
      obtain ⟨w46, hw⟩ : ∃ w46, w45.alloc (.cells #[.int .i64 (sb), .nilIface, .slice ta tn tc, .slice va vn vc, .slice fa fn fc, .int .i64 ((mkS FA (l.map evNo) (3 * l.length + 2) []).st : Nat)] 54) = w46 := ⟨_, rfl⟩
      rw [hw] at HA HBL ⊢
      obtain ⟨bA, hbb⟩ : ∃ b, w45.heap.size = b := ⟨_, rfl⟩
      rw [hbb] at HA ⊢
      have T46 := Bel.on T44 HBL
      clear hw hbb HR44 T44 HBL
      obtain ⟨tA, cA, fA2, evA⟩ := HA.out.event
      have hlA : (mkS FA (l.map evNo) (3 * l.length + 2) []).E.length = l.length := by show (l.map evNo).length = _; simp
      rw [hlA] at fA2
      have HFA : Hid (w46.cell? ⟨bA, 2, none⟩ = some (.slice tA l.length cA) ∧ w46.cell? ⟨bA, 0, none⟩ = some (.int .i64 sb) ∧ w46.cell? ⟨bA, 5, none⟩ = some (.int .i64 (3 * (l.length : Int) + 2))) := by
        obtain ⟨_, _, _, _, _, _, _, _, hc, -⟩ := HA.out.seen
        have := hc.cell 5
        rw [show ((mkS FA (l.map evNo) (3 * l.length + 2) []).st : Int) = 3 * (l.length : Int) + 2 by show ((3 * l.length + 2 : Nat) : Int) = _; omega] at this
        exact ⟨fA2, hc.cell 0, this⟩
      have HEVA : Hid (∀ i x, l[i]? = some x → ∃ g o v, tA = some ⟨g, o, none⟩ ∧ w46.cell? ⟨g, o + i * 5 + 4, none⟩ = some v ∧ Tx w46 v [x]) := fun i x hx => by
        obtain ⟨g, o, v, h1, -, -, -, h2, h3⟩ := evA i (evNo x) (by show (l.map evNo)[i]? = _; rw [List.getElem?_map, hx]; rfl)
        exact ⟨g, o, v, h1, h2, h3⟩
      clear evA hlA HA o0 o1 o2 o3 o4 o5
      go_wp2_with fail
      clear fA2
      go_loopw [11] (fun v11 wr => ∃ k : Nat, v11 = .int .i64 (k : Nat) ∧ k ≤ l.length ∧ Hid (Below w46.heap.size w46 wr)) (fun v11 _ => l.length - (intOf v11).toNat)
      case atStart => exact ⟨0, rfl, Nat.zero_le _, Below.refl _ _⟩
      case round =>
        obtain ⟨k, rfl, hk, HW⟩ := hrel
        by_cases hkl : k < l.length
        · obtain ⟨x, hx⟩ : ∃ x, l[k]? = some x := ⟨_, List.getElem?_eq_getElem hkl⟩
          have HWW : Hid (Below W.heap.size W wr) := T46.out.trans (HW.out.mono T46.out.size)
          obtain ⟨g9, o9, cap9, hv9, _, _, hcl⟩ := (HT.out _ HWW.out).inRow (fun e => by rw [e] at hkl; simp at hkl)
          cases hv9
          have c9 := hcl k x hx
          obtain ⟨gb, ob, vb, rfl, kb, hTv⟩ := HEVA.out k x hx
          have d3 := cell_on HW.out HFA.out.1
          have d4 := cell_on HW.out kb
          have hTr : Tx wr vb [x] := hTv.below HW.out (Nat.le_refl _)
          obtain ⟨g2, o2, cap2, rfl, -⟩ := hTr.inRow (by simp)
          have HSx : Hid (∀ w', Below wr.heap.size wr w' → w'.cell? ⟨bA, 2, none⟩ = some (.slice (some ⟨gb, ob, none⟩) l.length cA) ∧ w'.cell? ⟨gb, ob + k * 5 + 4, none⟩ = some (.slice (some ⟨g2, o2, none⟩) 1 cap2) ∧ w'.cell? ⟨g9, o9 + k, none⟩ = some (.string ⟨x.toArray⟩)) := fun w' hb => ⟨cell_on hb d3, cell_on hb d4, cell_on hb c9⟩
          have HSm : Hid (∀ (w : World) (v2 : Value), Below wr.heap.size wr w → Tx w v2 [x] → Calls Tryz.prog 21 #[.slice (some ⟨g2, o2, none⟩) 1 cap2, v2] w fun e w' => e = .returned (.bool true) ∧ Below wr.heap.size wr w') := fun w v2 hb h2 => by
            refine (sameTexts_any _ _ [x] [x] w (hTr.below hb (Nat.le_refl _)) h2 (by simp) (by simp)).mono ?_
            rintro e w' ⟨rfl, h3⟩
            exact ⟨by simp, hb.trans (h3.mono hb.size)⟩
          have hd1 : Below wr.heap.size wr wr.drew := (Below.refl _ wr).drew
          have hd2 : Below wr.heap.size wr (wr.alloc (.cells #[.string ⟨x.toArray⟩] 9)).drew := ((Below.refl _ wr).alloc (Nat.le_refl _) _).drew
          have hV0 : Tx (wr.alloc (.cells #[.string ⟨x.toArray⟩] 9)).drew (.slice (some ⟨wr.heap.size, 0, none⟩) 1 1) [x] := (tx_one9 wr x).below (Below.refl _ _).drew (Nat.le_refl _)
          clear hcl hx kb hTv hTr d3 d4 HEVA HFA
          go_wp2_with fail
          go_region_held3 (fun w' => w'.cell? ⟨bA, 2, none⟩ = some (.slice (some ⟨gb, ob, none⟩) l.length cA) ∧ w'.cell? ⟨gb, ob + k * 5 + 4, none⟩ = some (.slice (some ⟨g2, o2, none⟩) 1 cap2) ∧ w'.cell? ⟨g9, o9 + k, none⟩ = some (.string ⟨x.toArray⟩)) (first | exact HSx.out _ (by assumption) | go_keep)
            (first | (go_at_call 21; refine Calls.mono (HSm.out _ _ (by assumption) (by assumption)) ?_; rintro e w6 ⟨rfl, hk6⟩))
          all_goals
            have HB6 : Hid (Below w46.heap.size w46 w6) := HW.out.trans (hk6.mono HW.out.size)
            clear hk6 HSx HSm hd1 hd2 hV0
            go_wp2_with fail
            exact ⟨⟨k + 1, by simp, by omega, HB6⟩, by simp [intOf]; omega⟩
        · have hkz : k = l.length := by omega
          have HWW : Hid (Below W.heap.size W wr) := T46.out.trans (HW.out.mono T46.out.size)
          have e0 := cell_on HW.out HFA.out.2.1
          have e5 := cell_on HW.out HFA.out.2.2
          clear HEVA HFA
          by_cases hl0 : l.length = 0
          · have hs0 : sb = 0 := by rw [← HSB.out, if_pos (List.eq_nil_of_length_eq_zero hl0)]
            subst hs0
            clear HSB HEA
            go_wp2_with fail
            go_ret
            exact ⟨rfl, HWW.out⟩
          · have hs0 : sb = 127 := by rw [← HSB.out, if_neg (fun h => hl0 (by rw [h]; rfl))]
            subst hs0
            clear HSB HEA
            have hli : ((l.length : Int) == 0) = false := by
              rw [beq_eq_false_iff_ne]
              omega
            go_wp2_with fail
            go_ret
            exact ⟨rfl, HWW.out⟩
end Go.Proofs.YtfafhjglcaikoaaGreatDoor
