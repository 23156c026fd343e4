/- RunDeep. -/
import Derived.Test.YtfafhjglcaikoaaGreatDoorR38
import Derived.Test.YtfafhjglcaikoaaGreatDoorR39
import Derived.Test.YtfafhjglcaikoaaGreatDoorR43
namespace Go.Proofs.YtfafhjglcaikoaaGreatDoor
open Go.RowKit
attribute [local go_sem] Oper.semAt_some
attribute [local go_sem] run_store_nilFunc

variable {W W' : World} {ea : Nat → Addr}
theorem tmod_near (n : Int) (b : Nat) (hb : 0 < b) : -(b : Int) < n.tmod b ∧ n.tmod b < b := by
  rw [Int.tmod_eq_emod]
  have h1 := Int.emod_nonneg n (show (b : Int) ≠ 0 by omega)
  have h2 := Int.emod_lt_of_pos n (show (0 : Int) < b by omega)
  split
  · omega
  · rename_i h
    have : n % b ≠ 0 := fun h0 => h (.inr (Int.dvd_of_emod_eq_zero h0))
    omega
theorem err_nil (a : Addr) (w : World) : (binOp .eql 51 .nilIface (errV a)).run Tryz.prog w = .ok (.bool false) w := run_eql_iface_nil_left (w := w) _ _ Tryz.underlying51
set_option maxRecDepth 100000 in
set_option maxHeartbeats 8000000 in
theorem deep_any (n dep : Int) (hE : ErX W ea) (h17 : 17 ≤ W.heap.size) : Calls Tryz.prog 6 #[.int .i64 n, .int .i64 dep] W fun e w' => e = .returned (.bool true) ∧ Below W.heap.size W w' := by
  obtain ⟨q, hq, hq1, hq2⟩ : ∃ q, n.tmod 12 = q ∧ -12 < q ∧ q < 12 := ⟨_, rfl, (tmod_near n 12 (by omega)).1, (tmod_near n 12 (by omega)).2⟩
  obtain ⟨p, hp, hp1, hp2⟩ : ∃ p, dep.tmod 20 = p ∧ -20 < p ∧ p < 20 := ⟨_, rfl, (tmod_near dep 20 (by omega)).1, (tmod_near dep 20 (by omega)).2⟩
  obtain ⟨d, hd, hd20⟩ : ∃ d : Nat, (p + 20).tmod 20 = (d : Int) ∧ d < 20 := ⟨((p + 20) % 20).toNat, by rw [Int.tmod_eq_emod, if_pos (.inl (by omega))]; omega, by omega⟩
  have HE : Hid (∀ w, Below W.heap.size W w → ErX w ea ∧ 17 ≤ w.heap.size) := fun w hb => ⟨hE.below (Nat.le_refl _) hb, Nat.le_trans h17 hb.size⟩
  have HF1 : Hid (Calls Tryz.prog 9 #[] W fun e w' => e = .returned (.bool true) ∧ Below W.heap.size W w') := first_any hE h17
  clear hE h17
  go_enter Tryz.func6, Tryz.ntmps6
  go_wp2_with fail
  refine Calls.mono HF1.out ?_
  rintro e w1 ⟨rfl, hb1⟩
  have HB1 : Hid (Below W.heap.size W w1) := hb1
  clear hb1 HF1
  go_upto_region 3 with fail
  obtain ⟨m, hm0, hm1, hm12⟩ : ∃ m : Nat, (q < 0 → q + 12 = (m : Int)) ∧ (¬ q < 0 → q = (m : Int)) ∧ m < 12 := by
    by_cases h : q < 0
    · exact ⟨(q + 12).toNat, fun _ => by omega, fun h' => absurd h h', by omega⟩
    · exact ⟨q.toNat, fun h' => absurd h' h, fun _ => by omega, by omega⟩
  go_cut [17] from 16 to 17 (fun v17 wx => v17 = .bool (decide (q < 0)) ∧ w1 = wx)
  case first => as_aux_lemma =>
    go_wp2_with fail
    go_meet
    exact ⟨rfl, rfl⟩
  case rest =>
    obtain ⟨rfl, rfl⟩ := hcut
    rename_i k9 a9
    refine a9 _ _ ?_
    go_cut [0] from 18 to 19 (fun v0 wx => v0 = .int .i64 (m : Nat) ∧ w1 = wx)
    case first => as_aux_lemma =>
      by_cases h : q < 0
      · have h2 := hm0 h
        clear hm0 hm1
        go_wp2_with fail
        go_meet
        exact ⟨rfl, rfl⟩
      · have H2 : Hid (q = (m : Int)) := hm1 h
        clear hm0 hm1
        go_wp2_with fail
        go_meet
        exact ⟨by rw [H2.out], rfl⟩
    case rest =>
    obtain ⟨rfl, rfl⟩ := hcut
    clear hm0 hm1 hq hq1 hq2
    have HL1 : Hid (∀ w, Calls Tryz.prog 15 #[.string ⟨#[97]⟩] w fun e w' => ∃ a c, e = .returned (.slice a 1 c) ∧ NdAt w' (.slice a 1 c) (deepW 0) ∧ Below w.heap.size w w') := fun w => by
      refine (lit_any ⟨#[97]⟩ w).mono ?_
      rintro e w' ⟨v', rfl, h1, h2⟩
      obtain ⟨a, c, rfl⟩ : ∃ a c, v' = .slice a 1 c := h1.at.form
      exact ⟨a, c, rfl, h1.at, h2⟩
    go_wp2_with fail
    refine Calls.mono (HL1.out _) ?_
    rintro e w2 ⟨a2, c2, rfl, hn2, hb2⟩
    have HN2 : Hid (NdAt w2 (.slice a2 1 c2) (deepW 0)) := hn2
    have HB2 : Hid (Below W.heap.size W w2) := HB1.out.trans (hb2.mono HB1.out.size)
    clear hn2 hb2 HB1
    go_wp2_with fail
    go_loopw [6, 7] (fun v6 v7 wr => ∃ k : Nat, v7 = .int .i64 (k : Nat) ∧ k ≤ m ∧ (∃ a c, v6 = .slice a (3 * k + 1) c) ∧ Hid (NdAt wr v6 (deepW k)) ∧ Hid (Below W.heap.size W wr)) (fun _ v7 _ => m - (intOf v7).toNat)
    case atStart => exact ⟨0, rfl, Nat.zero_le _, ⟨a2, c2, rfl⟩, HN2.out, HB2.out⟩
    case round =>
      clear HN2 HB2
      obtain ⟨k, rfl, hk, ⟨a6, c6, rfl⟩, HN, HBR⟩ := hrel
      by_cases hkm : k < m
      · have HLP : Hid _ := lit_any ⟨#[112, 117, 116]⟩ wr
        have hws := HBR.out.size
        go_wp2_with fail
        refine Calls.mono HLP.out ?_
        rintro e y1 ⟨z1, rfl, g1, b1⟩
        obtain ⟨za1, zc1, rfl⟩ : ∃ a c, z1 = .slice a 1 c := g1.at.form
        have HC : Hid (Calls Tryz.prog 16 #[.int .i64 21, .int .i64 0, str [], .slice (some ⟨y1.heap.size, 0, none⟩) 2 2] (y1.alloc (.cells #[.slice za1 1 zc1, .slice a6 (3 * k + 1) c6] 22)) fun e w' => ∃ v', e = .returned v' ∧ NdAt w' v' (newN 21 0 [] [lN9 [112, 117, 116], deepW k]) ∧ Below (y1.alloc (.cells #[.slice za1 1 zc1, .slice a6 (3 * k + 1) c6] 22)).heap.size (y1.alloc (.cells #[.slice za1 1 zc1, .slice a6 (3 * k + 1) c6] 22)) w') := newL_any 21 0 [] _ [lN9 [112, 117, 116], deepW k] _ (kdl_two g1.at (HN.out.below b1 (Nat.le_refl _))) (by simp) (by simp [newN, deepW_len]; omega)
        have HB1 : Hid (Below W.heap.size W (y1.alloc (.cells #[.slice za1 1 zc1, .slice a6 (3 * k + 1) c6] 22))) := (HBR.out.trans (b1.mono hws)).alloc (Nat.le_trans hws b1.size) _
        clear g1 b1 HLP HN
        go_wp2_with fail
        refine Calls.mono HC.out ?_
        rintro e y2 ⟨z2, rfl, g2, b2⟩
        obtain ⟨za2, zc2, hz2⟩ := g2.form
        obtain ⟨l2, hl2⟩ : ∃ l2, (newN 21 0 [] [lN9 [112, 117, 116], deepW k]).length = l2 := ⟨_, rfl⟩
        rw [hl2] at hz2
        subst hz2
        have HD : Hid (Calls Tryz.prog 16 #[.int .i64 12, .int .i64 0, str [], .slice (some ⟨y2.heap.size, 0, none⟩) 1 1] (y2.alloc (.cells #[.slice za2 l2 zc2] 22)) fun e w' => ∃ v', e = .returned v' ∧ NdAt w' v' (deepW (k + 1)) ∧ Below (y2.alloc (.cells #[.slice za2 l2 zc2] 22)).heap.size (y2.alloc (.cells #[.slice za2 l2 zc2] 22)) w') := newL_any 12 0 [] _ [newN 21 0 [] [lN9 [112, 117, 116], deepW k]] _ (kdl_one g2) (by simp) (by simp [newN, deepW_len]; omega)
        have HB3 : Hid (Below W.heap.size W (y2.alloc (.cells #[.slice za2 l2 zc2] 22))) := (HB1.out.trans (b2.mono HB1.out.size)).alloc (Nat.le_trans HB1.out.size b2.size) _
        clear g2 b2 HC HB1 hl2
        go_wp2_with fail
        refine Calls.mono HD.out ?_
        rintro e y3 ⟨z3, rfl, g3, b3⟩
        have HB4 : Hid (Below W.heap.size W y3) := HB3.out.trans (b3.mono HB3.out.size)
        have HG : Hid (NdAt y3 z3 (deepW (k + 1))) := g3
        have hfm := g3.form
        rw [deepW_len] at hfm
        clear HD HB3 b3 g3
        go_wp2_with fail
        exact ⟨⟨k + 1, by simp, by omega, hfm, HG, HB4⟩, by simp [intOf]; omega⟩
      · have hkz : k = m := by omega
        subst hkz
        have HDF : Hid (∀ w, Calls Tryz.prog 23 #[] w fun e w' => e = .returned (oV 1500 25 []) ∧ Below w.heap.size w w') := fun w => defaults_any w
        go_wp2_with fail
        refine Calls.mono (HDF.out _) ?_
        rintro e w3 ⟨rfl, hb3⟩
        have HB3 : Hid (Below W.heap.size W w3) := HBR.out.trans (hb3.mono HBR.out.size)
        have HN3 : Hid (NdAt w3 (.slice a6 (3 * k + 1) c6) (deepW k)) := HN.out.below hb3 (Nat.le_refl _)
        clear hb3 HN HBR
        go_upto_region 13 with fail
        obtain ⟨hs, r, hev, hx, hF, hr⟩ := deep_at hm12 hd20
        have HRUN : ∀ v w, ErX w ea → 17 ≤ w.heap.size → NdAt w v (progW k) → Calls Tryz.prog 26 #[v, wV (.slice none 0 0) (.slice none 0 0), oV 1500 d []] w (RunC ea w r.2.1 (deepE k d) r.1) := fun v w h1 h2 h3 => by
          have := run_mem (ea := ea) v w h1 h2 h3 hs (st := 1500) (dp := d) (n := 60) (inp := []) (by decide) (by omega) (by decide) hev hr (by rw [hx]; unfold deepE; split <;> simp)
          rw [hx] at this
          exact this
        obtain ⟨w4, hw4⟩ : ∃ w4, w3.alloc (.cells #[.nilFunc, .int .i64 1500, .int .i64 (d : Nat), .slice none 0 0, .slice none 0 0, .string ⟨#[]⟩] 44) = w4 := ⟨_, rfl⟩
        have HB4 : Hid (Below W.heap.size W w4) := by unfold Hid; rw [← hw4]; exact HB3.out.alloc HB3.out.size _
        have HO : Hid (Cel w4 w3.heap.size 44 (optD d [])) := by unfold Hid; rw [← hw4]; exact Cel.new _ _ _
        have HN4 : Hid (NdAt w4 (.slice a6 (3 * k + 1) c6) (deepW k)) := by unfold Hid; rw [← hw4]; exact HN3.out.below (below_new _ _) (Nat.le_refl _)
        rw [hw4]
        obtain ⟨bo, hbo⟩ : ∃ bo, w3.heap.size = bo := ⟨_, rfl⟩
        rw [hbo] at HO ⊢
        have HF : Hid (k ≤ d → noStar r.1.F = [([120], [[97]])]) := hF
        clear hw4 hbo HN3 HB3 hev hr hs hx hF
        refine regE (ea := ea) k d r (HE.out _ HB4.out).1 (HE.out _ HB4.out).2 hm12 HO.out HN4.out HRUN (fun _ _ _ _ _ h => h) fun y zb w5 hxb hb5 => ?_
        have HB5 : Hid (Below W.heap.size W w5) := HB4.out.trans (hb5.mono HB4.out.size)
        have HO5 : Hid (Cel w5 bo 44 (optD d [])) := HO.out.below hb5 HO.out.lt
        have HX : Hid (Box ea w4.heap.size w5 zb r.2.1 (deepE k d) r.1) := hxb
        clear hxb hb5 HN4 HB4 HRUN HO
        obtain ⟨xv, hxv, hxc⟩ : ∃ xv, xrV ea (deepE k d) = xv ∧ ((d < k ∧ xv = errV (ea 0)) ∨ (¬ d < k ∧ xv = .nilIface)) := by
          by_cases h : d < k
          · exact ⟨_, rfl, .inl ⟨h, by rw [show deepE k d = .deep from if_pos h]; rfl⟩⟩
          · exact ⟨_, rfl, .inr ⟨h, by rw [show deepE k d = .ok from if_neg h]; rfl⟩⟩
        have b1 : w5.cell? ⟨zb, 1, none⟩ = some xv := by
          obtain ⟨_, _, _, _, _, _, _, _, hc, -⟩ := HX.out.seen
          rw [← hxv]
          exact hc.cell 1
        have e0 := ((HE.out w5 HB5.out).1.er 0 (by omega)).1
        have s0 := err_same (ea 0) w5
        have s1 := err_nil (ea 0) w5
        go_upto_region 14 with fail
        go_cut [59] from 48 to 59 (fun v wx => v = .bool false ∧ w5 = wx)
        case first => as_aux_lemma =>
          rcases hxc with ⟨hdk, rfl⟩ | ⟨hdk, rfl⟩
          · go_wp2_with fail
            go_meet
            exact ⟨rfl, rfl⟩
          · go_wp2_with fail
            go_meet
            exact ⟨rfl, rfl⟩
        case rest =>
          obtain ⟨rfl, rfl⟩ := hcut
          clear b1 e0 s0 s1
          have HXS : Hid (∀ w, Below w5.heap.size w5 w → Box ea w4.heap.size w zb r.2.1 (deepE k d) r.1 ∧ Cel w bo 44 (optD d [])) := fun w hb => ⟨HX.out.below hb, HO5.out.below hb HO5.out.lt⟩
          have T19 : Hid (Below w5.heap.size w5 w5) := Below.refl _ _
          clear HX HO5
          have C20 : Hid _ := call2_new w5 [112, 117, 116] [46]
          go_wp2_with fail
          refine Calls.mono C20.out ?_
          rintro e w20 ⟨p20, c20, rfl, N20, B20⟩
          have T20 := Bel.on T19 B20
          clear C20 T19 B20
          have C21 : Hid _ := call1_new w20 [102]
          go_wp2_with fail
          refine Calls.mono C21.out ?_
          rintro e w21 ⟨p21, c21, rfl, N21, B21⟩
          have T21 := Bel.on T20 B21
          have N20_21 := NdMade.on N20 B21
          clear C21 N20 T20 B21
          have C22 : Hid _ := seq2_new N20_21.out N21.out (L := 6) (by rfl) (by decide)
          go_wp2_with fail
          refine Calls.mono C22.out ?_
          rintro e w22 ⟨p22, c22, rfl, N22, B22⟩
          have T22 := Bel.on T21 B22
          clear C22 N20_21 N21 T21 B22
          have C23 : Hid _ := node1_new (31) (0) [102] N22.out (L := 7) (by rfl) (by decide)
          go_wp2_with fail
          refine Calls.mono C23.out ?_
          rintro e w23 ⟨p23, c23, rfl, N23, B23⟩
          have T23 := Bel.on T22 B23
          clear C23 N22 T22 B23
          have C24 : Hid _ := call1_new w23 [102]
          go_wp2_with fail
          refine Calls.mono C24.out ?_
          rintro e w24 ⟨p24, c24, rfl, N24, B24⟩
          have T24 := Bel.on T23 B24
          have N23_24 := NdMade.on N23 B24
          clear C24 N23 T23 B24
          have C25 : Hid _ := seq2_new N23_24.out N24.out (L := 10) (by rfl) (by decide)
          go_wp2_with fail
          refine Calls.mono C25.out ?_
          rintro e w25 ⟨p25, c25, rfl, N25, B25⟩
          have T25 := Bel.on T24 B25
          clear C25 N23_24 N24 T24 B25
          obtain ⟨hs2, r2, hev2, hx2, hE2, hr2⟩ := deepG_at hd20
          have T25W : Hid (Below W.heap.size W w25) := HB5.out.trans (T25.out.mono HB5.out.size)
          have HR2 : Hid (Calls Tryz.prog 26 #[.slice p25 10 c25, wV (.slice none 0 0) (.slice none 0 0), oV 1500 d []] w25 (RunC ea w25 r2.2.1 .deep r2.1)) := by
            have := run_mem (ea := ea) (.slice p25 10 c25) w25 (HE.out _ T25W.out).1 (HE.out _ T25W.out).2 N25.out hs2 (st := 1500) (dp := d) (n := 120) (inp := []) (by decide) (by omega) (by decide) hev2 hr2 (by rw [hx2]; simp)
            rw [hx2] at this
            exact this
          have HE2 : Hid (r2.1.E.length = d) := hE2
          have hx25 := (HXS.out w25 T25.out).2
          have o0 := hx25.cell 0
          have o1 := hx25.cell 1
          have o2 := hx25.cell 2
          have o3 := hx25.cell 3
          have o4 := hx25.cell 4
          have o5 := hx25.cell 5
          clear hs2 hev2 hx2 hE2 hr2 hx25 N25
          go_wp2_with fail
          refine Calls.mono HR2.out ?_
          intro e w26 hc
          obtain ⟨u, rfl, hru, hxb⟩ := hc.runV (Nat.le_refl _)
          obtain ⟨ta, tn, tc, va, vn, vc, fa, fn, fc, rfl, h2⟩ := hru
          have HB : Hid (Box ea w25.heap.size (w26.alloc (.cells #[.int .i64 r2.2.1, errV (ea 0), .slice ta tn tc, .slice va vn vc, .slice fa fn fc, .int .i64 (r2.1.st : Nat)] 54)) w26.heap.size r2.2.1 .deep r2.1) := box_new h2 hxb.size
          have TW : Hid (Below w5.heap.size w5 (w26.alloc (.cells #[.int .i64 r2.2.1, errV (ea 0), .slice ta tn tc, .slice va vn vc, .slice fa fn fc, .int .i64 (r2.1.st : Nat)] 54))) := (T25.out.trans (hxb.mono T25.out.size)).alloc (Nat.le_trans T25.out.size hxb.size) _
          rw [show xrV ea .deep = errV (ea 0) from rfl]
          clear h2 hc hxb HR2 o0 o1 o2 o3 o4 o5 T25 T25W
          go_upto_region 18 with fail
          obtain ⟨w27, hw27⟩ : ∃ w27, w26.alloc (.cells #[.int .i64 r2.2.1, errV (ea 0), .slice ta tn tc, .slice va vn vc, .slice fa fn fc, .int .i64 (r2.1.st : Nat)] 54) = w27 := ⟨_, rfl⟩
          rw [hw27] at HB TW ⊢
          clear hw27
          have TWW : Hid (Below W.heap.size W w27) := HB5.out.trans (TW.out.mono HB5.out.size)
          obtain ⟨ta', tc', va', vc', fa', fc', X', Y', hc2, -⟩ := HB.out.seen
          have g1 : w27.cell? ⟨w26.heap.size, 1, none⟩ = some (errV (ea 0)) := hc2.cell 1
          have g2 := hc2.cell 2
          rw [HE2.out] at g2
          have hbx := (HXS.out w27 TW.out).1
          have e0 := ((HE.out w27 TWW.out).1.er 0 (by omega)).1
          have s0 := err_same (ea 0) w27
          clear hc2 HE2 HB HE HXS
          by_cases hdk : d < k
          · clear HF hbx hxc
            go_wp2_with fail
            go_ret
            exact ⟨rfl, TWW.out⟩
          · obtain ⟨g, o, cap, h1, o1, cap1, f1, f3, f5, f6, f7, f8⟩ := boxV hbx (HF.out (by omega))
            rw [show deepE k d = .ok from if_neg hdk] at f1
            have f1' : w27.cell? ⟨zb, 1, none⟩ = some .nilIface := f1
            have HS : Hid (Calls Tryz.prog 21 #[.slice (some ⟨h1, o1, none⟩) 1 cap1, .slice (some ⟨w27.heap.size, 0, none⟩) 1 1] (w27.alloc (.cells #[.string ⟨#[97]⟩] 9)) fun e w' => e = .returned (.bool true) ∧ Below (w27.alloc (.cells #[.string ⟨#[97]⟩] 9)).heap.size (w27.alloc (.cells #[.string ⟨#[97]⟩] 9)) w') := by
              refine (sameTexts_any _ _ [[97]] [[97]] _ (f8.more _) (tx_one9 w27 [97]) (by decide) (by decide)).mono ?_
              rintro e w' ⟨rfl, hb⟩
              exact ⟨rfl, hb⟩
            clear HF hbx hxc f1 f8 f7
            go_wp2_with fail
            refine Calls.mono HS.out ?_
            rintro e w28 ⟨rfl, hb⟩
            have HB28 : Hid (Below W.heap.size W w28) := (TWW.out.alloc TWW.out.size _).trans (hb.mono (Nat.le_trans TWW.out.size (by simp)))
            clear hb HS
            go_wp2_with fail
            go_ret
            exact ⟨rfl, HB28.out⟩
end Go.Proofs.YtfafhjglcaikoaaGreatDoor
