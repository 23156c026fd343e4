/- CscanQuotes: what Quote makes of a text is read as that text. -/
import Derived.Test.YtlihkblllakhmaaGreatDoorBraces
import Derived.Test.YtlihkblllakhmaaGreatDoorVw2
import Derived.Test.YtlihkblllakhmaaGreatDoorPQ3
namespace Go.Proofs.YtlihkblllakhmaaGreatDoor
open Go.RowKit
attribute [local go_sem] Oper.semAt_some

theorem str_self (s : ByteArray) : str s.data.toList = .string s := by simp [str]
theorem quoteB_len (l : List UInt8) : (quoteB l).length ≤ 2 * l.length + 2 := by
  unfold quoteB
  split
  · omega
  · have := escP_len l
    have h2 : l.countP isE ≤ l.length := List.countP_le_length
    simp
    omega
theorem q_among (Q T : List UInt8) : ⟨#[120, 32]⟩ ++ (⟨Q.toArray⟩ : ByteArray) ++ ⟨#[32]⟩ ++ ⟨T.toArray⟩ ++ ⟨#[59, 121]⟩ = ⟨([120, 32] ++ Q ++ [32] ++ T ++ [59, 121]).toArray⟩ := by
  apply ByteArray.ext
  apply Array.toList_inj.1
  simp
theorem b_among (s : ByteArray) : ⟨#[120, 32, 123]⟩ ++ s ++ ⟨#[125, 32, 121]⟩ = (⟨(amongL s.data.toList).toArray⟩ : ByteArray) := by
  apply ByteArray.ext
  apply Array.toList_inj.1
  simp [amongL]
set_option maxRecDepth 100000 in
set_option maxHeartbeats 8000000 in
theorem quotes_any (s t : ByteArray) (W : World) (ea : Nat → Addr) (hE : Env W ea) (hW : (ea 64).block ≤ W.heap.size) :
    Calls Tryz.prog 4 #[.string s, .string t] W fun e w' => e = .returned (.bool true) ∧ Below W.heap.size W w' := by
  have HF : Hid _ := first_any W ea hE hW
  have HW : Hid ((ea 64).block ≤ W.heap.size) := hW
  have HE : Hid (Env W ea) := hE
  clear hE hW
  by_cases hs : 300 < s.size
  · have hs' : (300 : Int) < (s.size : Nat) := by omega
    go_enter Tryz.func4, Tryz.ntmps4
    go_wp2_with fail
    refine Calls.mono HF.out ?_
    rintro e w1 ⟨rfl, hb⟩
    have HB : Hid (Below W.heap.size W w1) := hb
    clear hb HF
    go_wp2_with fail
    go_ret
    exact ⟨rfl, HB.out⟩
  by_cases ht : 300 < t.size
  · have hs' : ¬ ((300 : Int) < (s.size : Nat)) := by omega
    have ht' : (300 : Int) < (t.size : Nat) := by omega
    go_enter Tryz.func4, Tryz.ntmps4
    go_wp2_with fail
    refine Calls.mono HF.out ?_
    rintro e w1 ⟨rfl, hb⟩
    have HB : Hid (Below W.heap.size W w1) := hb
    clear hb HF
    go_wp2_with fail
    go_ret
    exact ⟨rfl, HB.out⟩
  have hs1 : s.size ≤ 300 := by omega
  have ht1 : t.size ≤ 300 := by omega
  have HSL : Hid (s.data.toList.length ≤ 300) := by unfold Hid; rw [Array.length_toList]; exact hs1
  have HTL : Hid (t.data.toList.length ≤ 300) := by unfold Hid; rw [Array.length_toList]; exact ht1
  have hs' : ¬ ((300 : Int) < (s.size : Nat)) := by omega
  have ht' : ¬ ((300 : Int) < (t.size : Nat)) := by omega
  have HL : Hid (∀ (l : List UInt8) (w : World), l.length ≤ 8192 → Below W.heap.size W w → Calls Tryz.prog 8 #[.string ⟨l.toArray⟩] w fun e w' => ∃ v ev, e = .returned (.tuple #[v, ev]) ∧ ScanV w ea (scanL l) v ev w' ∧ Below w.heap.size w w') := fun l w hl hb => scan_any ⟨l.toArray⟩ w ea (HE.out.below hb) (Nat.le_trans HW.out hb.size) hl
  have HQ : Hid (∀ (x : ByteArray) (w : World), x.size ≤ 300 → Below W.heap.size W w → Calls Tryz.prog 15 #[.string x] w fun e w' => e = .returned (str (quoteB x.data.toList)) ∧ Below w.heap.size w w') := fun x w hx hb => quote_any x w ea (HE.out.below hb) (Nat.le_trans HW.out hb.size) (by omega)
  have HBr : Hid (∀ (w : World), Below W.heap.size W w → Calls Tryz.prog 16 #[.string s] w fun e w' => e = .returned (.tuple (txtV (braceB s.data.toList))) ∧ Below w.heap.size w w') := fun w hb => brace_any s w ea (HE.out.below hb) (Nat.le_trans HW.out hb.size) (by omega)
  obtain ⟨wq, hq1, hq2, hq3⟩ := quote_alone s.data.toList
  obtain ⟨m0, m1, m2, m3, mn, hm1, hm2, hm3⟩ := quote_among s.data.toList t.data.toList
  have HA := among_brace s.data.toList (by rw [Array.length_toList]; exact hs1)
  have HAB : Hid _ := HA
  have HQ1 : Hid (scanL (quoteB s.data.toList) = .ok [⟨0, [wq]⟩]) := hq1
  have HM1 : Hid (scanL ([120, 32] ++ quoteB s.data.toList ++ [32] ++ quoteB t.data.toList ++ [59, 121]) = .ok [⟨0, [m0, m1, m2]⟩, ⟨mn, [m3]⟩]) := hm1
  have HQ2 : Hid (txtV (textL ⟨wq.pos, wq.braced, wq.parts⟩) = #[.string s, .bool true]) := by
    unfold Hid
    rw [show (⟨wq.pos, wq.braced, wq.parts⟩ : Wd) = wq from rfl, hq2]
    simp only [txtV, str_self]
  have HM2 : Hid (txtV (textL ⟨m1.pos, m1.braced, m1.parts⟩) = #[.string s, .bool true]) := by
    unfold Hid
    rw [show (⟨m1.pos, m1.braced, m1.parts⟩ : Wd) = m1 from rfl, hm2]
    simp only [txtV, str_self]
  have HM3 : Hid (txtV (textL ⟨m2.pos, m2.braced, m2.parts⟩) = #[.string t, .bool true]) := by
    unfold Hid
    rw [show (⟨m2.pos, m2.braced, m2.parts⟩ : Wd) = m2 from rfl, hm3]
    simp only [txtV, str_self]
  have HQ3 : Hid (wq.braced = false) := hq3
  have HLQ : Hid ((quoteB s.data.toList).length ≤ 602) := by unfold Hid; have h1 := quoteB_len s.data.toList; have h2 := HSL.out; omega
  have HLT : Hid ((quoteB t.data.toList).length ≤ 602) := by unfold Hid; have h1 := quoteB_len t.data.toList; have h2 := HTL.out; omega
  have HZ : Hid _ := q_among (quoteB s.data.toList) (quoteB t.data.toList)
  clear hq1 hq2 hq3 hm1 hm2 hm3 HA HE
  obtain ⟨QL, hQ⟩ : ∃ QL, QL = quoteB s.data.toList := ⟨_, rfl⟩
  obtain ⟨TL, hT⟩ : ∃ TL, TL = quoteB t.data.toList := ⟨_, rfl⟩
  have HQS : Hid (∀ (w : World), Below W.heap.size W w → Calls Tryz.prog 15 #[.string s] w fun e w' => e = .returned (str QL) ∧ Below w.heap.size w w') := fun w hb => hQ ▸ HQ.out s w hs1 hb
  have HQT : Hid (∀ (w : World), Below W.heap.size W w → Calls Tryz.prog 15 #[.string t] w fun e w' => e = .returned (str TL) ∧ Below w.heap.size w w') := fun w hb => hT ▸ HQ.out t w ht1 hb
  have hQL := HLQ.out
  have hTL := HLT.out
  rw [← hQ] at HQ1 HM1 HZ hQL
  rw [← hT] at HM1 HZ hTL
  clear HLQ HLT HQ hQ hT
  have hz1 : ¬ 9223372036854775807 < 2 + QL.length := by omega
  have hz2 : ¬ 9223372036854775807 < 2 + QL.length + 1 := by omega
  have hz3 : ¬ 9223372036854775807 < 2 + QL.length + 1 + TL.length := by omega
  have hz4 : ¬ 9223372036854775807 < 2 + QL.length + 1 + TL.length + 2 := by omega
  go_enter Tryz.func4, Tryz.ntmps4
  go_wp2_with fail
  refine Calls.mono HF.out ?_
  rintro e w1 ⟨rfl, hb⟩
  have HB1 : Hid (Below W.heap.size W w1) := hb
  have HC : Hid _ := HQS.out w1 hb
  clear hb HF
  go_wp2_with fail
  refine Calls.mono HC.out ?_
  rintro e w2 ⟨rfl, hb⟩
  have HB2 : Hid (Below W.heap.size W w2) := HB1.out.trans (Below.mono hb HB1.out.size)
  clear hb HC
  have LA := HL.out QL w2 (by omega) HB2.out
  rw [HQ1.out] at LA
  have HLA : Hid _ := LA
  clear LA
  go_wp2_with fail
  refine Calls.mono HLA.out ?_
  rintro e w3 ⟨v1, ev1, rfl, ⟨rfl, K1, hK1, hO1⟩, hb1⟩
  obtain ⟨g, o, c, g1, o1, c1, pa, pc, rfl, x1, x2, x3, x4, xp⟩ := seenW w3 v1 K1 0 wq (CmsAt.own hO1) hK1
  rw [HQ3.out] at x3
  have HX : Hid (∀ w, Below w3.heap.size w3 w → (w.cell? ⟨g, o + 1, none⟩ = some (.slice (some ⟨g1, o1, none⟩) 1 c1) ∧ w.cell? ⟨g1, o1, none⟩ = some (.int .i64 (wq.pos : Nat)) ∧ w.cell? ⟨g1, o1 + 1, none⟩ = some (.bool false) ∧ w.cell? ⟨g1, o1 + 2, none⟩ = some (.slice pa wq.parts.length pc)) ∧ PtOwn w 0 (.slice pa wq.parts.length pc) wq.parts) := fun w hb => ⟨⟨(hb.cell (World.block_lt_of_cell? w3 _ x1)).trans x1, (hb.cell (World.block_lt_of_cell? w3 _ x2)).trans x2, (hb.cell (World.block_lt_of_cell? w3 _ x3)).trans x3, (hb.cell (World.block_lt_of_cell? w3 _ x4)).trans x4⟩, xp.below hb⟩
  have HB3 : Hid (Below W.heap.size W w3) := HB2.out.trans (Below.mono hb1 HB2.out.size)
  clear hO1 hb1 HLA x1 x2 x3 x4 xp hK1
  have HC : Hid _ := HQT.out w3 HB3.out
  go_wp2_with fail
  refine Calls.mono HC.out ?_
  rintro e w4 ⟨rfl, hb⟩
  have HB34 : Hid (Below w3.heap.size w3 w4) := hb
  have HB4 : Hid (Below W.heap.size W w4) := HB3.out.trans (Below.mono hb HB3.out.size)
  clear hb HC
  have LB := HL.out ([120, 32] ++ QL ++ [32] ++ TL ++ [59, 121]) w4 (by simp; omega) HB4.out
  rw [HM1.out] at LB
  have HLB : Hid _ := LB
  clear LB
  go_wp2_with fail
  rw [HZ.out]
  refine Calls.mono HLB.out ?_
  rintro e w5 ⟨v2, ev2, rfl, ⟨rfl, K2, hK2, hO2⟩, hb2⟩
  obtain ⟨g2, o2, c2, g3, o3, c3, pb, pd, pe, pf, rfl, y1, ⟨y2, y3, y4⟩, yp, ⟨y5, y6, y7⟩, yq⟩ := seen3 w5 v2 K2 _ 0 m0 m1 m2 (CmsAt.own hO2) hK2
  have HY : Hid (∀ w, Below w5.heap.size w5 w → w.cell? ⟨g2, o2 + 1, none⟩ = some (.slice (some ⟨g3, o3, none⟩) 3 c3) ∧ w.cell? ⟨g3, o3 + 3, none⟩ = some (.int .i64 (m1.pos : Nat)) ∧ w.cell? ⟨g3, o3 + 4, none⟩ = some (.bool m1.braced) ∧ w.cell? ⟨g3, o3 + 5, none⟩ = some (.slice pb m1.parts.length pd) ∧ w.cell? ⟨g3, o3 + 6, none⟩ = some (.int .i64 (m2.pos : Nat)) ∧ w.cell? ⟨g3, o3 + 7, none⟩ = some (.bool m2.braced) ∧ w.cell? ⟨g3, o3 + 8, none⟩ = some (.slice pe m2.parts.length pf)) := fun w hb => ⟨(hb.cell (World.block_lt_of_cell? w5 _ y1)).trans y1, (hb.cell (World.block_lt_of_cell? w5 _ y2)).trans y2, (hb.cell (World.block_lt_of_cell? w5 _ y3)).trans y3, (hb.cell (World.block_lt_of_cell? w5 _ y4)).trans y4, (hb.cell (World.block_lt_of_cell? w5 _ y5)).trans y5, (hb.cell (World.block_lt_of_cell? w5 _ y6)).trans y6, (hb.cell (World.block_lt_of_cell? w5 _ y7)).trans y7⟩
  have HYP : Hid (∀ w, Below w5.heap.size w5 w → PtOwn w 0 (.slice pb m1.parts.length pd) m1.parts ∧ PtOwn w 0 (.slice pe m2.parts.length pf) m2.parts) := fun w hb => ⟨yp.below hb, yq.below hb⟩
  have HB45 : Hid (Below w4.heap.size w4 w5) := hb2
  have HB35 : Hid (Below w3.heap.size w3 w5) := HB34.out.trans (Below.mono hb2 HB34.out.size)
  have HB5 : Hid (Below W.heap.size W w5) := HB4.out.trans (Below.mono hb2 HB4.out.size)
  clear hO2 hb2 HLB y1 y2 y3 y4 y5 y6 y7 yp yq hK2 hz1 hz2 hz3 hz4 HZ
  obtain ⟨⟨a1, a2, a3, a4⟩, ap⟩ := HX.out w5 HB35.out
  obtain ⟨b1, b2, b3, b4, b5, b6, b7⟩ := HY.out w5 (Below.refl _ _)
  have HT1 : Hid _ := text_any (n := wq.pos) (b := false) (pa := pa) (pc := pc) ap
  rw [show (⟨wq.pos, false, wq.parts⟩ : Wd) = ⟨wq.pos, wq.braced, wq.parts⟩ from by rw [HQ3.out], HQ2.out] at HT1
  clear ap
  go_wp2_with fail
  refine Calls.mono HT1.out ?_
  rintro e w6 ⟨rfl, hb⟩
  have HB56 : Hid (Below w5.heap.size w5 w6) := hb
  have HB6 : Hid (Below W.heap.size W w6) := HB5.out.trans (Below.mono hb HB5.out.size)
  clear hb HT1 a1 a2 a3 a4 b1 b2 b3 b4 b5 b6 b7
  obtain ⟨b1, b2, b3, b4, b5, b6, b7⟩ := HY.out w6 HB56.out
  have HT1 : Hid _ := text_any (n := m1.pos) (b := m1.braced) (pa := pb) (pc := pd) (HYP.out w6 HB56.out).1
  rw [HM2.out] at HT1
  go_wp2_with fail
  refine Calls.mono HT1.out ?_
  rintro e w7 ⟨rfl, hb⟩
  have HB57 : Hid (Below w5.heap.size w5 w7) := HB56.out.trans (Below.mono hb HB56.out.size)
  have HB7 : Hid (Below W.heap.size W w7) := HB6.out.trans (Below.mono hb HB6.out.size)
  clear hb HT1 b1 b2 b3 b4 b5 b6 b7
  obtain ⟨b1, b2, b3, b4, b5, b6, b7⟩ := HY.out w7 HB57.out
  have HT1 : Hid _ := text_any (n := m2.pos) (b := m2.braced) (pa := pe) (pc := pf) (HYP.out w7 HB57.out).2
  rw [HM3.out] at HT1
  go_wp2_with fail
  refine Calls.mono HT1.out ?_
  rintro e w8 ⟨rfl, hb⟩
  have HB58 : Hid (Below w5.heap.size w5 w8) := HB57.out.trans (Below.mono hb HB57.out.size)
  have HB8 : Hid (Below W.heap.size W w8) := HB7.out.trans (Below.mono hb HB7.out.size)
  clear hb HT1 b1 b2 b3 b4 b5 b6 b7
  obtain ⟨⟨a1, a2, a3, a4⟩, _⟩ := HX.out w8 (HB35.out.trans (Below.mono HB58.out HB35.out.size))
  have HC : Hid _ := HBr.out w8 HB8.out
  have hy1 : ¬ 9223372036854775807 < 3 + s.size := by omega
  have hy2 : ¬ 9223372036854775807 < 3 + s.size + 3 := by omega
  have hy3 : ¬ 9223372036854775807 < 1 + s.size := by omega
  have hy4 : ¬ 9223372036854775807 < 1 + s.size + 1 := by omega
  have HZ2 : Hid _ := b_among s
  by_cases hbal : passB 0 (s.data.toList ++ [125]) = some []
  · obtain ⟨n0, n1, n2, hn1, hn2, hn3⟩ := among_yes s.data.toList hbal
    rw [brace_yes _ HSL.out hbal, show txtV (some (bracedL s.data.toList)) = #[.string (⟨#[123]⟩ ++ s ++ ⟨#[125]⟩), .bool true] from by rw [braced_bytes]; rfl] at HC
    have HN1 : Hid (scanL (amongL s.data.toList) = .ok [⟨0, [n0, n1, n2]⟩]) := hn1
    have HN2 : Hid (n1.braced = true) := hn2
    have HN3 : Hid (txtV (textL ⟨n1.pos, n1.braced, n1.parts⟩) = #[.string s, .bool true]) := by
      unfold Hid
      rw [show (⟨n1.pos, n1.braced, n1.parts⟩ : Wd) = n1 from rfl, hn3]
      simp only [txtV, str_self]
    clear hbal hn1 hn2 hn3
    go_wp2_with fail
    refine Calls.mono HC.out ?_
    rintro e w9 ⟨rfl, hb⟩
    have HB9 : Hid (Below W.heap.size W w9) := HB8.out.trans (Below.mono hb HB8.out.size)
    clear hb HC a1 a2 a3 a4
    have LC := HL.out (amongL s.data.toList) w9 (by have := HSL.out; simp [amongL] at this ⊢; omega) HB9.out
    rw [HN1.out] at LC
    have HLC : Hid _ := LC
    clear LC
    go_wp2_with fail
    rw [HZ2.out]
    refine Calls.mono HLC.out ?_
    rintro e w10 ⟨v3, ev3, rfl, ⟨rfl, K3, hK3, hO3⟩, hb3⟩
    obtain ⟨g4, o4, c4, g5, o5, c5, pb', pd', pe', pf', rfl, y1, ⟨y2, y3, y4⟩, yp, _, _⟩ := seen3 w10 v3 K3 [] 0 n0 n1 n2 (CmsAt.own hO3) hK3
    rw [HN2.out] at y3
    have HB10 : Hid (Below W.heap.size W w10) := HB9.out.trans (Below.mono hb3 HB9.out.size)
    have HT1 : Hid _ := text_any (n := n1.pos) (b := true) (pa := pb') (pc := pd') yp
    rw [show (⟨n1.pos, true, n1.parts⟩ : Wd) = ⟨n1.pos, n1.braced, n1.parts⟩ from by rw [HN2.out], HN3.out] at HT1
    clear hO3 hb3 HLC hK3 yp
    go_wp2_with fail
    refine Calls.mono HT1.out ?_
    rintro e w11 ⟨rfl, hb⟩
    have HB11 : Hid (Below W.heap.size W w11) := HB10.out.trans (Below.mono hb HB10.out.size)
    clear hb HT1 y1 y2 y3 y4
    go_wp2_with fail
    go_ret
    exact ⟨rfl, HB11.out⟩
  · rw [brace_no _ hbal, show txtV none = #[.string ⟨#[]⟩, .bool false] from rfl] at HC
    obtain ⟨R, hR⟩ : ∃ R, scanL (amongL s.data.toList) = R := ⟨_, rfl⟩
    have hfb := among_no _ hbal
    have LC := fun w hb => HL.out (amongL s.data.toList) w (by have := HSL.out; simp [amongL] at this ⊢; omega) hb
    rw [hR] at hfb LC
    have HLC : Hid _ := LC
    have HFB : Hid (fineB R s.data.toList = false) := hfb
    clear LC hfb hR hbal
    go_wp2_with fail
    refine Calls.mono HC.out ?_
    rintro e w9 ⟨rfl, hb⟩
    have HB9 : Hid (Below W.heap.size W w9) := HB8.out.trans (Below.mono hb HB8.out.size)
    clear hb HC a1 a2 a3 a4
    have HLD : Hid _ := HLC.out w9 HB9.out
    clear HLC
    go_wp2_with fail
    rw [HZ2.out]
    refine Calls.mono HLD.out ?_
    clear HLD
    cases R with
    | error x =>
      rintro e w10 ⟨v3, ev3, rfl, ⟨rfl, q3, rfl, _⟩, hb3⟩
      have HB10 : Hid (Below W.heap.size W w10) := HB9.out.trans (Below.mono hb3 HB9.out.size)
      clear hb3
      go_wp2_with fail
      go_ret
      exact ⟨rfl, HB10.out⟩
    | ok ms =>
      rintro e w10 ⟨v3, ev3, rfl, ⟨rfl, K3, hK3, hO3⟩, hb3⟩
      have HB10 : Hid (Below W.heap.size W w10) := HB9.out.trans (Below.mono hb3 HB9.out.size)
      clear hb3
      have hC3 := CmsAt.own hO3
      clear hO3
      by_cases hms : ms.length = 1
      · obtain ⟨m, rfl⟩ := List.length_eq_one_iff.1 hms
        obtain ⟨g4, o4, c4, wv, K4, rfl, _, x1, hw4, hK4⟩ := hC3.cmd hK3 (i := 0) rfl
        obtain ⟨ad4, cp4, rfl⟩ := hw4.form
        have hl4 : K4.length = m.words.length := by rw [← hK4, List.length_map]
        rw [hl4] at hw4 x1
        simp only [Nat.zero_mul, Nat.add_zero] at x1
        rw [show [m].length = 1 from rfl]
        clear hms hK3 hC3 hl4
        by_cases hml : m.words.length = 3
        · obtain ⟨n0, n1, n2, hmw⟩ := len3 hml
          obtain ⟨g5, o5, c5, pb', pd', hv5, y2, y3, y4, yp⟩ := hw4.word hK4 (i := 1) (w := n1) (by rw [hmw]; rfl)
          rw [hml] at hv5 x1
          simp only [Nat.one_mul] at y2 y3 y4
          obtain ⟨rfl, _, rfl⟩ : ad4 = some ⟨g5, o5, none⟩ ∧ True ∧ cp4 = c5 := by
            injection hv5 with e1 e2 e3
            exact ⟨e1, trivial, e3⟩
          have hfb := HFB.out
          simp only [fineB, hmw] at hfb
          have y3' : w10.cell? ⟨g5, o5 + 4, none⟩ = some (.bool n1.braced) := y3
          have y4' : w10.cell? ⟨g5, o5 + 5, none⟩ = some (.slice pb' n1.parts.length pd') := y4
          clear y3 y4 hv5 hw4 hK4 hml
          cases hbr : n1.braced with
          | false =>
            rw [hbr] at y3'
            clear hfb yp
            go_wp2_with fail
            go_ret
            exact ⟨rfl, HB10.out⟩
          | true =>
            rw [hbr] at y3' hfb
            have HT1 : Hid _ := text_any (n := n1.pos) (b := true) (pa := pb') (pc := pd') yp
            rw [show (⟨n1.pos, true, n1.parts⟩ : Wd) = n1 from by rw [← hbr]] at HT1
            clear yp
            cases htx : textL n1 with
            | none =>
              rw [htx, show txtV none = #[.string ⟨#[]⟩, .bool false] from rfl] at HT1
              clear hfb
              go_wp2_with fail
              refine Calls.mono HT1.out ?_
              rintro e w11 ⟨rfl, hb⟩
              have HB11 : Hid (Below W.heap.size W w11) := HB10.out.trans (Below.mono hb HB10.out.size)
              clear hb HT1 x1 y2 y3' y4'
              go_wp2_with fail
              go_ret
              exact ⟨rfl, HB11.out⟩
            | some x =>
              rw [htx] at hfb HT1
              have hxs : x ≠ s.data.toList := by
                rintro rfl
                simp at hfb
              obtain ⟨X, hX⟩ : ∃ X : ByteArray, str x = .string X := ⟨_, rfl⟩
              rw [show txtV (some x) = #[.string X, .bool true] from by rw [txtV, hX]] at HT1
              have hne : ¬ X = s := by
                rintro rfl
                injection hX with hX
                apply hxs
                rw [← hX]
              have hne' : (X.toList == s.toList) = false := by
                rw [Lib.toList_data, Lib.toList_data, beq_eq_false_iff_ne]
                intro e
                exact hne (ByteArray.ext (Array.toList_inj.1 e))
              clear hfb hX hxs
              go_wp2_with fail
              refine Calls.mono HT1.out ?_
              rintro e w11 ⟨rfl, hb⟩
              have HB11 : Hid (Below W.heap.size W w11) := HB10.out.trans (Below.mono hb HB10.out.size)
              clear hb HT1 x1 y2 y3' y4'
              go_wp2_with fail
              go_ret
              exact ⟨rfl, HB11.out⟩
        · have hm1 : ((m.words.length : Int) == 3) = false := by simp; omega
          have hm2 : ¬ ((m.words.length : Int) = 3) := by omega
          have hm3 : decide ((m.words.length : Int) = 3) = false := by simp; omega
          clear hw4 hK4
          go_wp2_with fail
          go_ret
          exact ⟨rfl, HB10.out⟩
      · obtain ⟨ad4, cp4, rfl⟩ := hC3.form
        have hl4 : K3.length = ms.length := by rw [← hK3, List.length_map]
        rw [hl4]
        have hm1 : ((ms.length : Int) == 1) = false := by simp; omega
        have hm2 : ¬ ((ms.length : Int) = 1) := by omega
        have hm3 : decide ((ms.length : Int) = 1) = false := by simp; omega
        clear hC3 hK3 hl4
        go_wp2_with fail
        go_ret
        exact ⟨rfl, HB10.out⟩
end Go.Proofs.YtlihkblllakhmaaGreatDoor
