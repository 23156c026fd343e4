/- The law, where the source has commands. -/
import Derived.Test.YtlihkblllakhmaaGreatDoorSay1
namespace Go.Proofs.YtlihkblllakhmaaGreatDoor
open Go.RowKit
attribute [local go_sem] Oper.semAt_some

theorem txt_form (o : Option (List UInt8)) : ∃ (l : List UInt8) (b : Bool), txtV o = #[str l, .bool b] := by
  cases o with
  | none => exact ⟨[], false, rfl⟩
  | some l => exact ⟨l, true, rfl⟩
/-- The program's commands and the document's, side by side. -/
theorem two_views {W : World} {ad am : Option Addr} {n cap cm : Nat} {K M : List Mc} (h1 : CmsAt W (.slice ad n cap) K) (h2 : QmAt W (.slice am n cm) M) (hK : K.map toCm = M.map toCm) (hl : K.length = n) (hF : Few K) :
    ∀ i, i < n → ∃ g1 o1 g2 o2 aw1 cw1 aw2 cw2 len, ad = some ⟨g1, o1, none⟩ ∧ am = some ⟨g2, o2, none⟩ ∧ len ≤ 10000 ∧ (∀ w, Below W.heap.size W w → w.cell? ⟨g1, o1 + i * 2 + 1, none⟩ = some (.slice aw1 len cw1) ∧ w.cell? ⟨g2, o2 + i * 2 + 1, none⟩ = some (.slice aw2 len cw2)) ∧
      ∀ k, k < len → ∃ h1 p1 h2 p2 wp wb pa1 pc1 pa2 pc2 ps, aw1 = some ⟨h1, p1, none⟩ ∧ aw2 = some ⟨h2, p2, none⟩ ∧ ∀ w, Below W.heap.size W w →
        (w.cell? ⟨h1, p1 + k * 3, none⟩ = some (.int .i64 ((wp : Nat) : Int)) ∧ w.cell? ⟨h1, p1 + k * 3 + 1, none⟩ = some (.bool wb) ∧ w.cell? ⟨h1, p1 + k * 3 + 2, none⟩ = some (.slice pa1 (List.length ps) pc1)) ∧
        (w.cell? ⟨h2, p2 + k * 3, none⟩ = some (.int .i64 ((wp : Nat) : Int)) ∧ w.cell? ⟨h2, p2 + k * 3 + 1, none⟩ = some (.bool wb) ∧ w.cell? ⟨h2, p2 + k * 3 + 2, none⟩ = some (.slice pa2 (List.length ps) pc2)) ∧
        PtOwn w 0 (.slice pa1 (List.length ps) pc1) ps ∧ PtsAt w (.slice pa2 (List.length ps) pc2) ps := by
  intro i hi
  obtain ⟨q, hq⟩ : ∃ q, K[i]? = some q := ⟨K[i]'(by omega), List.getElem?_eq_getElem _⟩
  have hq2 : (M.map toCm)[i]? = some (toCm q) := by rw [← hK, List.getElem?_map, hq]; rfl
  rw [List.getElem?_map] at hq2
  obtain ⟨r, hr, hqr⟩ := Option.map_eq_some_iff.1 hq2
  simp only [toCm, Cm.mk.injEq] at hqr
  obtain ⟨g1, o1, c1, hv1, _, hg1, _, x1, hw1⟩ := h1.get hq
  obtain ⟨g2, o2, c2, hv2, _, hg2, y⟩ := h2.row.get (i := i) (cs := cmC r) (by rw [List.getElem?_map, hr]; rfl)
  have hw2 := h2.words r (List.mem_of_getElem? hr)
  obtain ⟨aw1, cw1, f1⟩ := hw1.form
  obtain ⟨aw2, cw2, f2⟩ := hw2.form
  have hll : r.2.2.length = q.2.2.length := by
    have := congrArg List.length hqr.2
    simpa using this
  rw [hll] at f2
  rw [f1] at hw1
  rw [f2] at hw2
  have y1 : W.cell? ⟨g2, o2 + i * 2 + 1, none⟩ = some r.1 := y 1 _ rfl
  rw [f1] at x1
  rw [f2] at y1
  injection hv1 with e1 _ _
  injection hv2 with e2 _ _
  refine ⟨g1, o1, g2, o2, aw1, cw1, aw2, cw2, q.2.2.length, e1, e2, (hF.2 q (List.mem_of_getElem? hq)).1, fun w hb => ⟨(hb.cell hg1).trans x1, (hb.cell hg2).trans y1⟩, fun k hk => ?_⟩
  obtain ⟨p, hp⟩ : ∃ p, q.2.2[k]? = some p := ⟨q.2.2[k]'hk, List.getElem?_eq_getElem _⟩
  have hp2 : (r.2.2.map Prod.snd)[k]? = some p.2 := by rw [hqr.2, List.getElem?_map, hp]; rfl
  rw [List.getElem?_map] at hp2
  obtain ⟨u, hu, hpu⟩ := Option.map_eq_some_iff.1 hp2
  obtain ⟨k1, p1, d1, hz1, _, hk1, a0, a1, a2, hpt⟩ := hw1.get hp
  obtain ⟨k2, p2, d2, hz2, _, hk2, b⟩ := hw2.row.get (i := k) (cs := wdC u) (by rw [List.getElem?_map, hu]; rfl)
  have hqt := hw2.parts u (List.mem_of_getElem? hu)
  have b0 := b 0 _ rfl
  have b1 := b 1 _ rfl
  have b2 : W.cell? ⟨k2, p2 + k * 3 + 2, none⟩ = some u.1 := b 2 _ rfl
  rw [hpu] at b0 b1 hqt
  obtain ⟨pa1, pc1, m1⟩ := hpt.form
  obtain ⟨pa2, pc2, m2⟩ := hqt.form
  rw [m1] at a2 hpt
  rw [m2] at b2 hqt
  injection hz1 with e3 _ _
  injection hz2 with e4 _ _
  exact ⟨k1, p1, k2, p2, p.2.pos, p.2.braced, pa1, pc1, pa2, pc2, p.2.parts, e3, e4, fun w hb => ⟨⟨(hb.cell hk1).trans a0, (hb.cell hk1).trans a1, (hb.cell hk1).trans a2⟩, ⟨(hb.cell hk2).trans b0, (hb.cell hk2).trans b1, (hb.cell hk2).trans b2⟩, hpt.below hb, PtsAt.below hqt hb (Nat.le_refl _)⟩⟩
set_option maxRecDepth 100000 in
set_option maxHeartbeats 8000000 in
theorem says_ok (s : ByteArray) (W : World) (ea : Nat → Addr) (hE : Env W ea) (hW : (ea 64).block ≤ W.heap.size) (hs : s.size ≤ 1500) (ms : List Cm) (hx : scanL s.data.toList = .ok ms) :
    Calls Tryz.prog 3 #[.string s] W fun e w' => e = .returned (.bool true) ∧ Below W.heap.size W w' := by
  have HF : Hid _ := first_any W ea hE hW
  have hs' : ¬ (1500 : Int) < (s.size : Int) := by omega
  have hd' : decide ((1500 : Int) < (s.size : Int)) = false := by simp; omega
  have HE : Hid (∀ w, Below W.heap.size W w → Env w ea) := fun w hb => hE.below hb
  have HX : Hid (scanL s.data.toList = .ok ms) := hx
  have hsz : s.data.toList.length = s.size := by rw [Array.length_toList]; rfl
  have HFW : Hid (∀ K : List Mc, K.map toCm = ms → Few K) := fun K hK => (few_of hsz (by omega) hx hK).1
  clear hE hx hsz
  go_enter Tryz.func3, Tryz.ntmps3
  go_wp2_with fail
  refine Calls.mono HF.out ?_
  rintro e w1 ⟨rfl, hb1⟩
  have HB1 : Hid (Below W.heap.size W w1) := hb1
  have HL := scan_any s w1 ea (HE.out _ hb1) (Nat.le_trans hW hb1.size) (by omega)
  rw [HX.out] at HL
  have HLX : Hid _ := HL
  clear HL hb1 HF
  go_wp2_with fail
  refine Calls.mono HLX.out ?_
  rintro e w2 ⟨v, ev, rfl, ⟨rfl, K, hK, hO⟩, hb2⟩
  have HB2 : Hid (Below W.heap.size W w2) := HB1.out.trans (Below.mono hb2 HB1.out.size)
  have HO2 : Hid (CmsAt w2 v K) := CmsAt.own hO
  have HKT : Hid (K.map toCm = ms) := hK
  have HL := dscan_any s w2 (by omega)
  rw [HX.out] at HL
  have HLR : Hid _ := HL
  have hKl : K.length = ms.length := by rw [← hK, List.length_map]
  clear HL hb2 HLX hO hK HB1
  go_wp2_with fail
  refine Calls.mono HLR.out ?_
  rintro e w3 ⟨v3, fv3, rfl, hb3, rfl, M, hM, hR⟩
  have HB3 : Hid (Below W.heap.size W w3) := HB2.out.trans (hb3.mono HB2.out.size)
  obtain ⟨W4, hW4⟩ : ∃ W4, W4 = w3.alloc (.cells #[.int .i64 0, .slice none 0 0] 31) := ⟨_, rfl⟩
  have HB4 : Hid (Below W.heap.size W W4) := by rw [hW4]; exact HB3.out.alloc HB3.out.size _
  have HW4 : Hid (w3.alloc (.cells #[.int .i64 0, .slice none 0 0] 31) = W4) := hW4.symm
  have q0 : W4.cell? ⟨w3.heap.size, 0, none⟩ = some (.int .i64 0) := by rw [hW4]; exact (Cel.new w3 _ _).cell 0
  have q1 : W4.cell? ⟨w3.heap.size, 1, none⟩ = some (.slice none 0 0) := by rw [hW4]; exact (Cel.new w3 _ _).cell 1
  have HO4 : Hid (CmsAt W4 v K) := by rw [hW4]; exact (HO2.out.below hb3).below (below_new _ _)
  have HR4 : Hid (QmAt W4 v3 M) := by rw [hW4]; exact hR.at_.below (below_new _ _)
  have HMT : Hid (M.map toCm = ms) := hM
  have hMl : M.length = ms.length := by rw [← hM, List.length_map]
  have HSA : Hid _ := same_nil W4
  obtain ⟨ad, cap, rfl⟩ := HO4.out.form
  obtain ⟨am, cm, rfl⟩ := HR4.out.form
  rw [hKl] at HO4 HO2 ⊢
  rw [hMl] at HR4 ⊢
  clear hb3 HLR HB2 HO2 hR hM hW4
  go_upto_region 6 with fail
  rw [HW4.out]
  go_wp2_with fail
  refine Calls.mono HSA.out ?_
  rintro e w4 ⟨rfl, hb4⟩
  have HB5 : Hid (Below W.heap.size W w4) := HB4.out.trans (hb4.mono HB4.out.size)
  have HO5 : Hid (CmsAt w4 (.slice ad ms.length cap) K) := HO4.out.below hb4
  have HR5 : Hid (QmAt w4 (.slice am ms.length cm) M) := HR4.out.below hb4
  have HMA : Hid _ := made_any w4 _ K HO5.out (HFW.out K HKT.out)
  clear hb4 HSA HB3 HB4 q0 q1 HO4 HR4
  go_wp2_with fail
  refine Calls.mono HMA.out ?_
  rintro e w5 ⟨v5, K5, rfl, hK5, hr5, hb5⟩
  have HB6 : Hid (Below W.heap.size W w5) := HB5.out.trans (hb5.mono HB5.out.size)
  have HO6 : Hid (CmsAt w5 (.slice ad ms.length cap) K) := HO5.out.below hb5
  have HR6 : Hid (QmAt w5 (.slice am ms.length cm) M) := HR5.out.below hb5
  have hK5m : K5.map toCm = ms := by rw [hK5, HKT.out]
  have HST : Hid _ := sameCommands_any w5 v5 _ K5 M hr5.at_ HR6.out (by rw [hK5m, HMT.out]) (HFW.out K5 hK5m)
  clear hb5 HMA hK5 hK5m hr5 HB5 HO5 HR5
  go_wp2_with fail
  refine Calls.mono HST.out ?_
  rintro e w6 ⟨rfl, hb6⟩
  have HB7 : Hid (Below W.heap.size W w6) := HB6.out.trans (hb6.mono HB6.out.size)
  have HG : Hid _ := two_views (HO6.out.below hb6) (HR6.out.below hb6) (by rw [HKT.out, HMT.out]) hKl (HFW.out K HKT.out)
  have hn : ms.length ≤ 10000 := by rw [← hKl]; exact (HFW.out K HKT.out).1
  clear hb6 HST HB6 HO6 HR6 HKT HMT HFW HX hKl hMl
  go_wp2_with fail
  go_loopw [8] (fun v8 wr => ∃ i : Nat, v8 = .int .i64 (i : Nat) ∧ i ≤ ms.length ∧ Hid (Below w6.heap.size w6 wr)) (fun v8 _ => ms.length - (intOf v8).toNat)
  case atStart => exact ⟨0, rfl, Nat.zero_le _, Below.refl _ _⟩
  case round =>
    obtain ⟨i, rfl, hi, HBr⟩ := hrel
    by_cases hlt : i < ms.length
    · have hlt' : (i : Int) < (ms.length : Int) := by omega
      obtain ⟨g1, o1, g2, o2, aw1, cw1, aw2, cw2, len, rfl, rfl, hln, hcw, hwd⟩ := HG.out i hlt
      have HCW : Hid (∀ w, Below w6.heap.size w6 w → w.cell? ⟨g1, o1 + i * 2 + 1, none⟩ = some (.slice aw1 len cw1) ∧ w.cell? ⟨g2, o2 + i * 2 + 1, none⟩ = some (.slice aw2 len cw2)) := hcw
      have HWD : Hid _ := hwd
      clear hcw hwd HG
      go_wp2_with fail
      go_loopw [9] (fun v9 wr => ∃ k : Nat, v9 = .int .i64 (k : Nat) ∧ k ≤ len ∧ Hid (Below w6.heap.size w6 wr)) (fun v9 _ => len - (intOf v9).toNat)
      case atStart => exact ⟨0, rfl, Nat.zero_le _, HBr.out⟩
      case round =>
        obtain ⟨k, rfl, hk, HBk⟩ := hrel
        obtain ⟨x1, y1⟩ := HCW.out wr HBk.out
        by_cases hkt : k < len
        · have hkt' : (k : Int) < (len : Int) := by omega
          obtain ⟨h1, p1, h2, p2, wp, wb, pa1, pc1, pa2, pc2, ps, rfl, rfl, hrd⟩ := HWD.out k hkt
          have HRD : Hid _ := hrd
          obtain ⟨⟨u0, u1, u2⟩, _, hpt, _⟩ := hrd wr HBk.out
          obtain ⟨tl, tb, htx⟩ := txt_form (textL ⟨wp, wb, ps⟩)
          have hta := text_any (n := wp) (b := wb) hpt
          rw [htx] at hta
          have HTA : Hid _ := hta
          have HQA : Hid (∀ w, Below w6.heap.size w6 w → Calls Tryz.prog 14 #[.agg #[.int .i64 (wp : Nat), .bool wb, .slice pa2 ps.length pc2]] w fun e w' => e = .returned (.tuple #[str tl, .bool tb]) ∧ Below w.heap.size w w') := fun w hb => by
            have := qtext_any (n := wp) (b := wb) (hrd w hb).2.2.2
            rw [htx] at this
            exact this
          clear hrd hta htx hpt HWD
          go_wp2_with fail
          refine Calls.mono HTA.out ?_
          rintro e w7 ⟨rfl, hb7⟩
          have HB8 : Hid (Below w6.heap.size w6 w7) := HBk.out.trans (hb7.mono HBk.out.size)
          obtain ⟨_, z1⟩ := HCW.out w7 HB8.out
          obtain ⟨_, ⟨t0, t1, t2⟩, _, _⟩ := HRD.out w7 HB8.out
          have HQ7 : Hid _ := HQA.out w7 HB8.out
          clear hb7 HTA HQA x1 y1 u0 u1 u2
          go_wp2_with fail
          refine Calls.mono HQ7.out ?_
          rintro e w8 ⟨rfl, hb8⟩
          have HB9 : Hid (Below w6.heap.size w6 w8) := HB8.out.trans (hb8.mono HB8.out.size)
          clear hb8 HQ7 HRD z1 t0 t1 t2 HB8
          go_wp2_with fail
          exact ⟨⟨k + 1, by simp, by omega, HB9.out⟩, by simp [intOf]; omega⟩
        · have hkt' : ¬ (k : Int) < (len : Int) := by omega
          go_wp2_with fail
          exact ⟨⟨i + 1, by simp, by omega, HBk.out⟩, by simp [intOf]; omega⟩
    · have hlt' : ¬ (i : Int) < (ms.length : Int) := by omega
      go_wp2_with fail
      go_ret
      exact ⟨rfl, HB7.out.trans (HBr.out.mono HB7.out.size)⟩
/-- THE LAW CscanSays. -/
theorem says_any (s : ByteArray) (W : World) (ea : Nat → Addr) (hE : Env W ea) (hW : (ea 64).block ≤ W.heap.size) :
    Calls Tryz.prog 3 #[.string s] W fun e w' => e = .returned (.bool true) ∧ Below W.heap.size W w' := by
  by_cases h1 : s.size ≤ 1500
  · cases hx : scanL s.data.toList with
    | error x => exact says_err s W ea hE hW h1 x hx
    | ok ts => exact says_ok s W ea hE hW h1 ts hx
  · by_cases h2 : s.size ≤ 8192
    · exact says_mid s W ea hE hW (by omega) h2
    · exact says_great s W ea hE hW (by omega)
end Go.Proofs.YtlihkblllakhmaaGreatDoor
