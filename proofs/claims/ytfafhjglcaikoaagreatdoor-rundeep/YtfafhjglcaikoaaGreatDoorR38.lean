/- RunBig. -/
import Derived.Test.YtfafhjglcaikoaaGreatDoorR35
import Derived.Test.YtfafhjglcaikoaaGreatDoorR43
namespace Go.Proofs.YtfafhjglcaikoaaGreatDoor
open Go.RowKit
attribute [local go_sem] Oper.semAt_some
attribute [local go_sem] run_store_nilFunc

variable {W W' : World} {ea : Nat → Addr}
/-- A program in a row of its own. -/
theorem kdo_one {B : Nat} {v : Value} {X : List Nd} (h : NdOwn W B v X) (hB : B ≤ W.heap.size) : KdOwn (W.alloc (.cells #[v] 22)) B (.slice (some ⟨W.heap.size, 0, none⟩) 1 1) [(v, X)] :=
  ⟨⟨rfl, .inr ⟨W.heap.size, 1, #[v], rfl, hB, Cel.new W 22 #[v], Nat.le_refl _, by decide, rfl, rfl⟩⟩, fun p hp => by
    rw [List.mem_singleton] at hp
    subst hp
    exact h.below (below_new _ _)⟩
theorem big_len : ∀ m : Nat, (bigA :: List.replicate m bigJ).flatten.length = 2 + m * 6 := by
  intro m
  have h1 : bigA.length = 2 := rfl
  have h2 : bigJ.length = 6 := rfl
  simp [h1, h2]
/-- What a run's result shows where one variable of one text is left. -/
theorem boxV {B b : Nat} {st : Int} {x : Xr} {s : Sh} {nm t : Txt} (h : Box ea B W b st x s) (hF : noStar s.F = [(nm, [t])]) :
    ∃ g o cap g2 o2 cap2, W.cell? ⟨b, 1, none⟩ = some (xrV ea x) ∧ W.cell? ⟨b, 3, none⟩ = some (.slice (some ⟨g, o, none⟩) 1 cap) ∧ W.cell? ⟨b, 5, none⟩ = some (.int .i64 (s.st : Nat)) ∧
      W.cell? ⟨g, o + 1, none⟩ = some (.slice (some ⟨g2, o2, none⟩) 1 cap2) ∧ W.cell? ⟨g2, o2, none⟩ = some (str t) ∧ Tx W (.slice (some ⟨g2, o2, none⟩) 1 cap2) [t] := by
  obtain ⟨ta, tc, va, vc, fa, fc, X, Y, hc, -, -, hY, hYc, -⟩ := h.seen
  rw [hF] at hYc hc hY
  obtain ⟨p, rfl⟩ : ∃ p, Y = [p] := by
    have := congrArg List.length hYc
    rw [cont_length] at this
    exact List.length_eq_one_iff.1 this
  obtain ⟨n, v, l⟩ := p
  have hl : l = [t] := by simpa [cont] using (congrArg (List.map Prod.snd) hYc)
  subst hl
  obtain ⟨g, o, cap, hv, -, -, k1, hT⟩ := hY.at.at (j := 0) rfl
  obtain ⟨g2, o2, cap2, hv2, -, -, hcl⟩ := hT.inRow (by simp)
  have e3 := hc.cell 3
  rw [hv] at e3
  rw [show v = _ from hv2] at k1 hT
  refine ⟨g, o, cap, g2, o2, cap2, hc.cell 1, e3, hc.cell 5, ?_, hcl 0 t rfl, hT⟩
  simpa using k1
set_option maxRecDepth 100000 in
set_option maxHeartbeats 8000000 in
theorem big_any (n : Int) (hE : ErX W ea) (h17 : 17 ≤ W.heap.size) : Calls Tryz.prog 7 #[.int .i64 n] W fun e w' => e = .returned (.bool true) ∧ Below W.heap.size W w' := by
  obtain ⟨i0, hi0, hz0, hz1, hz2⟩ := info_parts info25
  obtain ⟨m, hm, hm16⟩ : ∃ m : Nat, bits .and .i64 n 15 = (m : Int) ∧ m < 16 := ⟨(n % 16).toNat, by rw [i64_and15]; omega, by omega⟩
  have HE : Hid (∀ w, Below W.heap.size W w → ErX w ea ∧ 17 ≤ w.heap.size) := fun w hb => ⟨hE.below (Nat.le_refl _) hb, Nat.le_trans h17 hb.size⟩
  have HF1 : Hid (Calls Tryz.prog 9 #[] W fun e w' => e = .returned (.bool true) ∧ Below W.heap.size W w') := first_any hE h17
  clear hE h17
  go_enter Tryz.func7, Tryz.ntmps7
  go_wp2_with fail
  refine Calls.mono HF1.out ?_
  rintro e w1 ⟨rfl, hb1⟩
  have HB1 : Hid (Below W.heap.size W w1) := hb1
  have HL1 : Hid _ := lit_any ⟨#[97]⟩ w1
  clear hb1 HF1
  go_wp2_with fail
  refine Calls.mono HL1.out ?_
  rintro e w2 ⟨v2, rfl, hn2, hb2⟩
  obtain ⟨a2, c2, rfl⟩ : ∃ a c, v2 = .slice a 1 c := hn2.at.form
  have HN2 : Hid (Calls Tryz.prog 16 #[.int .i64 22, .int .i64 0, str [120], .slice (some ⟨w2.heap.size, 0, none⟩) 1 1] (w2.alloc (.cells #[.slice a2 1 c2] 22)) fun e w' => ∃ v', e = .returned v' ∧ NdOwn w' (w2.alloc (.cells #[.slice a2 1 c2] 22)).heap.size v' bigA ∧ Below (w2.alloc (.cells #[.slice a2 1 c2] 22)).heap.size (w2.alloc (.cells #[.slice a2 1 c2] 22)) w') := newO_any 22 0 [120] _ [lN9 [97]] _ (kdl_one hn2.at) (by decide) (by decide)
  have HB2 : Hid (Below W.heap.size W (w2.alloc (.cells #[.slice a2 1 c2] 22))) := (HB1.out.trans (hb2.mono HB1.out.size)).alloc (Nat.le_trans HB1.out.size hb2.size) _
  clear hn2 hb2 HL1 HB1
  go_wp2_with fail
  refine Calls.mono HN2.out ?_
  rintro e w3 ⟨v3, rfl, hn3, hb3⟩
  obtain ⟨a3, c3, rfl⟩ : ∃ a c, v3 = .slice a 2 c := hn3.at.form
  have HK3 : Hid (KdOwn (w3.alloc (.cells #[.slice a3 2 c3] 22)) W.heap.size (.slice (some ⟨w3.heap.size, 0, none⟩) 1 1) [(.slice a3 2 c3, bigA)]) := kdo_one (owns_lower hn3 HB2.out.size) (Nat.le_trans HB2.out.size hb3.size)
  have HB3 : Hid (Below W.heap.size W (w3.alloc (.cells #[.slice a3 2 c3] 22))) := (HB2.out.trans (hb3.mono HB2.out.size)).alloc (Nat.le_trans HB2.out.size hb3.size) _
  clear hn3 hb3 HN2 HB2
  go_wp2_with fail
  go_loopw [4, 5] (fun v4 v5 wr => ∃ (k : Nat) (L : List (Value × List Nd)), v5 = .int .i64 k ∧ k ≤ m ∧ L.length = k + 1 ∧ Hid (L.map Prod.snd = bigA :: List.replicate k bigJ) ∧ Hid (KdOwn wr W.heap.size v4 L) ∧ Hid (Below W.heap.size W wr)) (fun _ v5 _ => m - (intOf v5).toNat)
  case atStart => exact ⟨0, [(.slice a3 2 c3, bigA)], rfl, Nat.zero_le _, rfl, rfl, HK3.out, HB3.out⟩
  case round =>
    clear HK3 HB3
    obtain ⟨k, L, rfl, hk, hL, HM, HO, HBR⟩ := hrel
    by_cases hkm : k < m
    · have HZ : Hid (Calls Tryz.prog 16 #[.int .i64 2, .int .i64 0, str [120], .slice none 0 0] wr fun e w' => ∃ v', e = .returned v' ∧ NdOwn w' wr.heap.size v' bigZ ∧ Below wr.heap.size wr w') := newO_any 2 0 [120] _ [] wr ⟨[], rfl, KdAt.nil wr⟩ (by decide) (by decide)
      have hws := HBR.out.size
      go_wp2_with fail
      refine Calls.mono HZ.out ?_
      rintro e y1 ⟨z1, rfl, g1, b1⟩
      obtain ⟨za1, zc1, rfl⟩ : ∃ a c, z1 = .slice a 1 c := g1.at.form
      have HX : Hid (Calls Tryz.prog 16 #[.int .i64 9, .int .i64 0, str [], .slice (some ⟨y1.heap.size, 0, none⟩) 1 1] (y1.alloc (.cells #[.slice za1 1 zc1] 22)) fun e w' => ∃ v', e = .returned v' ∧ NdOwn w' (y1.alloc (.cells #[.slice za1 1 zc1] 22)).heap.size v' bigX ∧ Below (y1.alloc (.cells #[.slice za1 1 zc1] 22)).heap.size (y1.alloc (.cells #[.slice za1 1 zc1] 22)) w') := newO_any 9 0 [] _ [bigZ] _ (kdl_one g1.at) (by decide) (by decide)
      have HB1 : Hid (Below wr.heap.size wr (y1.alloc (.cells #[.slice za1 1 zc1] 22))) := b1.alloc b1.size _
      clear g1 b1 HZ
      go_wp2_with fail
      refine Calls.mono HX.out ?_
      rintro e y2 ⟨z2, rfl, g2, b2⟩
      obtain ⟨za2, zc2, rfl⟩ : ∃ a c, z2 = .slice a 2 c := g2.at.form
      have HY : Hid (Calls Tryz.prog 16 #[.int .i64 4, .int .i64 0, str [], .slice (some ⟨y2.heap.size, 0, none⟩) 2 2] (y2.alloc (.cells #[.slice za2 2 zc2, .slice za2 2 zc2] 22)) fun e w' => ∃ v', e = .returned v' ∧ NdOwn w' (y2.alloc (.cells #[.slice za2 2 zc2, .slice za2 2 zc2] 22)).heap.size v' bigY ∧ Below (y2.alloc (.cells #[.slice za2 2 zc2, .slice za2 2 zc2] 22)).heap.size (y2.alloc (.cells #[.slice za2 2 zc2, .slice za2 2 zc2] 22)) w') := newO_any 4 0 [] _ [bigX, bigX] _ (kdl_two g2.at g2.at) (by decide) (by decide)
      have HB2 : Hid (Below wr.heap.size wr (y2.alloc (.cells #[.slice za2 2 zc2, .slice za2 2 zc2] 22))) := (HB1.out.trans (b2.mono HB1.out.size)).alloc (Nat.le_trans HB1.out.size b2.size) _
      clear g2 b2 HX HB1
      go_wp2_with fail
      refine Calls.mono HY.out ?_
      rintro e y3 ⟨z3, rfl, g3, b3⟩
      obtain ⟨za3, zc3, rfl⟩ : ∃ a c, z3 = .slice a 5 c := g3.at.form
      have HJ : Hid (Calls Tryz.prog 16 #[.int .i64 22, .int .i64 0, str [120], .slice (some ⟨y3.heap.size, 0, none⟩) 1 1] (y3.alloc (.cells #[.slice za3 5 zc3] 22)) fun e w' => ∃ v', e = .returned v' ∧ NdOwn w' (y3.alloc (.cells #[.slice za3 5 zc3] 22)).heap.size v' bigJ ∧ Below (y3.alloc (.cells #[.slice za3 5 zc3] 22)).heap.size (y3.alloc (.cells #[.slice za3 5 zc3] 22)) w') := newO_any 22 0 [120] _ [bigY] _ (kdl_one g3.at) (by decide) (by decide)
      have HB3 : Hid (Below wr.heap.size wr (y3.alloc (.cells #[.slice za3 5 zc3] 22))) := (HB2.out.trans (b3.mono HB2.out.size)).alloc (Nat.le_trans HB2.out.size b3.size) _
      clear g3 b3 HY HB2
      go_wp2_with fail
      refine Calls.mono HJ.out ?_
      rintro e y4 ⟨z4, rfl, g4, b4⟩
      obtain ⟨za4, zc4, rfl⟩ : ∃ a c, z4 = .slice a 6 c := g4.at.form
      have HB4 : Hid (Below wr.heap.size wr y4) := HB3.out.trans (b4.mono HB3.out.size)
      have HND : Hid (NdOwn y4 wr.heap.size (.slice za4 6 zc4) bigJ) := owns_lower g4 HB3.out.size
      have ho4 := (HO.out.below HB4.out).1.alloc (.cells #[.slice za4 6 zc4] 22)
      rw [hL] at ho4
      have hw4 := HB4.out.size
      clear g4 b4 HJ HB3
      go_wp2_with (at_builtin; refine wpList_append_own _ rfl _ _ 46 rfl W.heap.size 22 i0 _ 1 24 Tryz.underlying46 hi0 hz0 hz1 hz2 rfl (by decide) _ _ _ rfl ho4 ⟨y4.heap.size, 0, none⟩ 1 1 [.slice za4 6 zc4] rfl rfl (cells_new _ [.slice za4 6 zc4] _) (by simp [Value.oneCell']) (by have := maxLen_big; omega) (by omega) (by simp; omega) ?_; intro v5 w5 hown hgrow _)
      obtain ⟨f1, f2⟩ := KdOwn.snoc HO.out HB4.out hws hws HND.out (by rw [hL]; exact hown) hgrow
      have HF1 : Hid (KdOwn w5 W.heap.size v5 (L ++ [(.slice za4 6 zc4, bigJ)])) := f1
      have HBF : Hid (Below W.heap.size W w5) := HBR.out.trans f2
      refine ⟨⟨k + 1, L ++ [(.slice za4 6 zc4, bigJ)], by simp, by omega, by simp [hL], ?_, HF1, HBF⟩, by simp [intOf]; omega⟩
      unfold Hid
      rw [List.map_append, HM.out, List.replicate_succ']
      rfl
    · have hkz : k = m := by omega
      subst hkz
      obtain ⟨hs, r, hev, hF, hst, hx, hr, hz⟩ := big_at hm16
      have hkl : (kidL L).length < 4294967296 := by
        unfold kidL
        rw [HM.out, big_len]
        omega
      have HSQ : Hid (Calls Tryz.prog 17 #[u4] wr fun e w' => ∃ v', e = .returned v' ∧ NdAt w' v' (progBig k) ∧ Below wr.heap.size wr w') := by
        have := seqN_any u4 L wr HO.out.at (by omega) (by omega) hkl
        rw [HM.out] at this
        exact this
      clear HM HO hkl
      go_wp2_with fail
      refine Calls.mono HSQ.out ?_
      rintro e x1 ⟨v', rfl, hp, hxb⟩
      have HP : Hid (NdAt x1 v' (progBig k)) := hp
      have HBX : Hid (Below W.heap.size W x1) := HBR.out.trans (hxb.mono HBR.out.size)
      clear hp hxb HSQ HBR
      go_wp2_with fail
      refine Calls.mono (defaults_any _) ?_
      rintro e x2 ⟨rfl, hxb⟩
      have HBX2 : Hid (Below W.heap.size W x2) := HBX.out.trans (hxb.mono HBX.out.size)
      have HR : Hid (Calls Tryz.prog 26 #[v', wV (.slice none 0 0) (.slice none 0 0), oV 1500 25 []] x2 (RunC ea x2 r.2.1 r.2.2 r.1)) := run_mem v' x2 (HE.out _ HBX2.out).1 (HE.out _ HBX2.out).2 (HP.out.below hxb (Nat.le_refl _)) hs (by decide) (by decide) (by decide) hev hr (by rw [hx]; unfold bigE; split <;> simp)
      clear hxb HP HBX
      go_wp2_with fail
      refine Calls.mono HR.out ?_
      intro e x3 hc
      obtain ⟨u, rfl, hru, hxb⟩ := hc.runV (Nat.le_refl _)
      have HBX3 : Hid (Below W.heap.size W x3) := HBX2.out.trans (hxb.mono HBX2.out.size)
      rw [hx, hz] at hru
      have HST : Hid (r.1.st = bigS k) := hst
      clear hst hx hz hev hr hs
      have hxb' : Hid (Below x2.heap.size x2 x3) := hxb
      clear hc hxb HR HBX2
      have HFF : Hid (noStar r.1.F = [([120], [List.replicate (bigN k) 97])]) := hF
      clear hF
      have hsz3 := hxb'.out.size
      by_cases h10 : k ≤ 10
      · have hx1 : bigE k = .ok := if_pos h10
        rw [hx1] at hru
        obtain ⟨ta, tn, tc, va, vn, vc, fa, fn, fc, rfl, h2⟩ := hru
        have HB : Hid (Box ea x2.heap.size (x3.alloc (.cells #[.int .i64 0, .nilIface, .slice ta tn tc, .slice va vn vc, .slice fa fn fc, .int .i64 (r.1.st : Nat)] 54)) x3.heap.size 0 .ok r.1) := box_new h2 hsz3
        have HBX4 : Hid (Below W.heap.size W (x3.alloc (.cells #[.int .i64 0, .nilIface, .slice ta tn tc, .slice va vn vc, .slice fa fn fc, .int .i64 (r.1.st : Nat)] 54))) := HBX3.out.alloc HBX3.out.size _
        rw [show xrV ea .ok = .nilIface from rfl]
        clear h2
        go_upto_region 10 with fail
        obtain ⟨x4, hx4⟩ : ∃ x4, x3.alloc (.cells #[.int .i64 0, .nilIface, .slice ta tn tc, .slice va vn vc, .slice fa fn fc, .int .i64 (r.1.st : Nat)] 54) = x4 := ⟨_, rfl⟩
        rw [hx4] at HB HBX4 ⊢
        clear hx4
        obtain ⟨g, o, cap, g2, o2, cap2, f1, f3, f5, f6, f7, -⟩ := boxV HB.out HFF.out
        rw [HST.out, show bigS k = k + 1 from if_pos h10] at f5
        rw [show bigN k = 2 ^ k from if_pos h10] at f7
        obtain ⟨bs, hbs⟩ : ∃ bs : ByteArray, ⟨(List.replicate (2 ^ k) (97 : UInt8)).toArray⟩ = bs := ⟨_, rfl⟩
        have hbl : bs.size = 2 ^ k := by rw [← hbs]; show (List.replicate (2 ^ k) (97 : UInt8)).toArray.size = _; simp
        unfold str at f7
        rw [hbs] at f7
        have f1' : x4.cell? ⟨x3.heap.size, 1, none⟩ = some .nilIface := f1
        clear f1 hbs HB HFF HST
        go_upto_region 13 with fail
        clear hm hL hkm hm16 hsz3 hx1 hk
        obtain rfl | rfl | rfl | rfl | rfl | rfl | rfl | rfl | rfl | rfl | rfl : k = 0 ∨ k = 1 ∨ k = 2 ∨ k = 3 ∨ k = 4 ∨ k = 5 ∨ k = 6 ∨ k = 7 ∨ k = 8 ∨ k = 9 ∨ k = 10 := by omega
        all_goals
          simp only [Nat.reducePow] at hbl
          go_wp2_with fail
          go_ret
          exact ⟨rfl, HBX4.out⟩
      · have hx1 : bigE k = .big := if_neg h10
        rw [hx1] at hru
        obtain ⟨ta, tn, tc, va, vn, vc, fa, fn, fc, rfl, h2⟩ := hru
        have HB : Hid (Box ea x2.heap.size (x3.alloc (.cells #[.int .i64 0, errV (ea 1), .slice ta tn tc, .slice va vn vc, .slice fa fn fc, .int .i64 (r.1.st : Nat)] 54)) x3.heap.size 0 .big r.1) := box_new h2 hsz3
        have HBX4 : Hid (Below W.heap.size W (x3.alloc (.cells #[.int .i64 0, errV (ea 1), .slice ta tn tc, .slice va vn vc, .slice fa fn fc, .int .i64 (r.1.st : Nat)] 54))) := HBX3.out.alloc HBX3.out.size _
        rw [show xrV ea .big = errV (ea 1) from rfl]
        clear h2
        go_upto_region 10 with fail
        obtain ⟨x4, hx4⟩ : ∃ x4, x3.alloc (.cells #[.int .i64 0, errV (ea 1), .slice ta tn tc, .slice va vn vc, .slice fa fn fc, .int .i64 (r.1.st : Nat)] 54) = x4 := ⟨_, rfl⟩
        rw [hx4] at HB HBX4 ⊢
        clear hx4
        obtain ⟨g, o, cap, g2, o2, cap2, f1, f3, f5, f6, f7, -⟩ := boxV HB.out HFF.out
        rw [HST.out, show bigS k = 12 from if_neg h10] at f5
        rw [show bigN k = 1024 from if_neg h10] at f7
        obtain ⟨bs, hbs⟩ : ∃ bs : ByteArray, ⟨(List.replicate 1024 (97 : UInt8)).toArray⟩ = bs := ⟨_, rfl⟩
        have hbl : bs.size = 1024 := by rw [← hbs]; show (List.replicate 1024 (97 : UInt8)).toArray.size = _; simp
        unfold str at f7
        rw [hbs] at f7
        have f1' : x4.cell? ⟨x3.heap.size, 1, none⟩ = some (errV (ea 1)) := f1
        have e1 := ((HE.out x4 HBX4.out).1.er 1 (by omega)).1
        have s1 := err_same (ea 1) x4
        clear f1 hbs HB HFF HST
        go_wp2_with fail
        go_ret
        exact ⟨rfl, HBX4.out⟩
end Go.Proofs.YtfafhjglcaikoaaGreatDoor
