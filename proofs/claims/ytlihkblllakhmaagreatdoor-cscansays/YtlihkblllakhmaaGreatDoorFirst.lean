/- The chapter's examples. -/
import Derived.Test.YtlihkblllakhmaaGreatDoorVwA
import Derived.Test.YtlihkblllakhmaaGreatDoorQu8
import Derived.Test.YtlihkblllakhmaaGreatDoorSee
namespace Go.Proofs.YtlihkblllakhmaaGreatDoor
open Go.RowKit
attribute [local go_sem] Oper.semAt_some

def srcA : List UInt8 := [115, 101, 116, 32, 120, 32, 123, 97, 32, 98, 125, 59, 32, 112, 117, 116, 32, 34, 36, 120, 32, 91, 121, 93, 34]
def srcB : List UInt8 := [123, 97, 125, 98]
def srcC : List UInt8 := [97, 32, 91, 98, 32, 123, 93, 125, 32, 99, 93]
def cmA : List Cm := [⟨0, [⟨0, false, [⟨1, 0, 0, [115, 101, 116]⟩]⟩, ⟨4, false, [⟨1, 4, 0, [120]⟩]⟩, ⟨6, true, [⟨1, 7, 0, [97, 32, 98]⟩]⟩]⟩, ⟨13, [⟨13, false, [⟨1, 13, 0, [112, 117, 116]⟩]⟩, ⟨17, false, [⟨2, 18, 0, [120]⟩, ⟨1, 20, 0, [32]⟩, ⟨3, 21, 0, [121]⟩]⟩]⟩]
def cmC' : List Cm := [⟨0, [⟨0, false, [⟨1, 0, 0, [97]⟩]⟩, ⟨2, false, [⟨3, 2, 0, [98, 32, 123, 93, 125, 32, 99]⟩]⟩]⟩]
theorem scanA : scanL srcA = .ok cmA := by kernel_rfl
theorem scanB : scanL srcB = .error ⟨3, 3⟩ := by kernel_rfl
theorem scanC : scanL srcC = .ok cmC' := by kernel_rfl
theorem braceA : braceB [97, 125] = none := by kernel_rfl
theorem quoteA : quoteB [97, 32, 98] = [34, 97, 32, 98, 34] := by kernel_rfl
theorem quoteC : quoteB [97] = [97] := by kernel_rfl
theorem len2 {α : Type} {l : List α} (h : l.length = 2) : ∃ a b, l = [a, b] := by
  match l with
  | [] => simp at h
  | [_] => simp at h
  | [a, b] => exact ⟨a, b, rfl⟩
  | _ :: _ :: _ :: _ => simp at h
theorem len3 {α : Type} {l : List α} (h : l.length = 3) : ∃ a b c, l = [a, b, c] := by
  match l with
  | [] => simp at h
  | [_] => simp at h
  | [_, _] => simp at h
  | [a, b, c] => exact ⟨a, b, c, rfl⟩
  | _ :: _ :: _ :: _ :: _ => simp at h
/-- What lies behind the first example's commands. -/
theorem seenA (W : World) (v : Value) (K : List Mc) (h : CmsAt W v K) (hK : K.map toCm = cmA) : ∃ g o c g1 o1 c1 n1 g2 o2 c2 n2 pa pc, v = .slice (some ⟨g, o, none⟩) 2 c ∧ W.cell? ⟨g, o + 1, none⟩ = some (.slice (some ⟨g1, o1, none⟩) n1 c1) ∧ n1 = 3 ∧ W.cell? ⟨g1, o1 + 7, none⟩ = some (.bool true) ∧ W.cell? ⟨g, o + 3, none⟩ = some (.slice (some ⟨g2, o2, none⟩) n2 c2) ∧ n2 = 2 ∧ W.cell? ⟨g2, o2 + 5, none⟩ = some (.slice pa 3 pc) := by
  obtain ⟨q1, q2, rfl⟩ : ∃ q1 q2, K = [q1, q2] := len2 (by simpa [cmA] using congrArg List.length hK)
  simp [cmA, toCm] at hK
  obtain ⟨⟨_, k1⟩, _, k2⟩ := hK
  obtain ⟨g, o, c, hv, _, _, _, x1, hw1⟩ := h.get (i := 0) (q := q1) rfl
  obtain ⟨g', o', c', hv', _, _, _, x2, hw2⟩ := h.get (i := 1) (q := q2) rfl
  rw [hv] at hv'
  simp at hv'
  obtain ⟨⟨rfl, rfl⟩, rfl⟩ := hv'
  obtain ⟨s1, s2, s3, e1⟩ : ∃ s1 s2 s3, q1.2.2 = [s1, s2, s3] := len3 (by simpa using congrArg List.length k1)
  obtain ⟨t1, t2, e2⟩ : ∃ t1 t2, q2.2.2 = [t1, t2] := len2 (by simpa using congrArg List.length k2)
  rw [e1] at k1 hw1
  rw [e2] at k2 hw2
  simp at k1 k2
  obtain ⟨g1, o1, c1, hv1, _, _, _, y1, _, _⟩ := hw1.get (i := 2) (q := s3) rfl
  obtain ⟨g2, o2, c2, hv2, _, _, _, _, y2, hp⟩ := hw2.get (i := 1) (q := t2) rfl
  obtain ⟨pa, pc, hpf⟩ := hp.form
  rw [k2.2] at hpf
  rw [hpf] at y2
  rw [hv1] at x1
  rw [hv2] at x2
  rw [k1.2.2] at y1
  exact ⟨g, o, c, g1, o1, c1, _, g2, o2, c2, _, pa, pc, hv, x1, rfl, y1, x2, rfl, y2⟩
theorem seenC (W : World) (v : Value) (K : List Mc) (h : CmsAt W v K) (hK : K.map toCm = cmC') : ∃ g o c g1 o1 c1 g2 o2 c2, v = .slice (some ⟨g, o, none⟩) 1 c ∧ W.cell? ⟨g, o + 1, none⟩ = some (.slice (some ⟨g1, o1, none⟩) 2 c1) ∧ W.cell? ⟨g1, o1 + 5, none⟩ = some (.slice (some ⟨g2, o2, none⟩) 1 c2) ∧ W.cell? ⟨g2, o2 + 3, none⟩ = some (str [98, 32, 123, 93, 125, 32, 99]) := by
  obtain ⟨q1, rfl⟩ : ∃ q1, K = [q1] := List.length_eq_one_iff.1 (by simpa [cmC'] using congrArg List.length hK)
  simp [cmC', toCm] at hK
  obtain ⟨_, k1⟩ := hK
  obtain ⟨g, o, c, hv, _, _, _, x1, hw1⟩ := h.get (i := 0) (q := q1) rfl
  obtain ⟨s1, s2, e1⟩ : ∃ s1 s2, q1.2.2 = [s1, s2] := len2 (by simpa using congrArg List.length k1)
  rw [e1] at k1 hw1
  simp at k1
  obtain ⟨g1, o1, c1, hv1, _, _, _, _, y1, hp⟩ := hw1.get (i := 1) (q := s2) rfl
  rw [k1.2] at hp
  obtain ⟨g2, o2, c2, hv2, _, _, _, _, _, z⟩ := (PtsAt.own hp).get (i := 0) (p := ⟨3, 2, 0, [98, 32, 123, 93, 125, 32, 99]⟩) rfl
  rw [hv1] at x1
  rw [hv2] at y1
  exact ⟨g, o, c, g1, o1, c1, g2, o2, c2, hv, x1, y1, z⟩
set_option maxRecDepth 100000 in
set_option maxHeartbeats 4000000 in
theorem first_any (W : World) (ea : Nat → Addr) (hE : Env W ea) (hW : (ea 64).block ≤ W.heap.size) :
    Calls Tryz.prog 7 #[] W fun e w' => e = .returned (.bool true) ∧ Below W.heap.size W w' := by
  have HL : Hid (∀ (l : List UInt8) (w : World), l.length ≤ 8192 → Below W.heap.size W w → Calls Tryz.prog 8 #[.string ⟨l.toArray⟩] w fun e w' => ∃ v ev, e = .returned (.tuple #[v, ev]) ∧ ScanV w ea (scanL l) v ev w' ∧ Below w.heap.size w w') := fun l w hl hb => scan_any ⟨l.toArray⟩ w ea (hE.below hb) (Nat.le_trans hW hb.size) hl
  have HE : Hid (∀ w, Below W.heap.size W w → Env w ea) := fun w hb => hE.below hb
  have HW : Hid ((ea 64).block ≤ W.heap.size) := hW
  clear hE hW
  have LA := HL.out srcA W (by decide) (Below.refl _ _)
  rw [scanA] at LA
  have HLA : Hid _ := LA
  clear LA
  go_enter Tryz.func7, Tryz.ntmps7
  go_wp2_with fail
  refine Calls.mono HLA.out ?_
  rintro e w1 ⟨v1, ev1, rfl, ⟨rfl, K1, hK1, hO1⟩, hb1⟩
  obtain ⟨g, o, c, g1, o1, c1, n1, g2, o2, c2, n2, pa, pc, rfl, x1, rfl, x2, x3, rfl, x4⟩ := seenA w1 v1 K1 (CmsAt.own hO1) hK1
  have HX : Hid (∀ w, Below w1.heap.size w1 w → w.cell? ⟨g, o + 1, none⟩ = some (.slice (some ⟨g1, o1, none⟩) 3 c1) ∧ w.cell? ⟨g1, o1 + 7, none⟩ = some (.bool true) ∧ w.cell? ⟨g, o + 3, none⟩ = some (.slice (some ⟨g2, o2, none⟩) 2 c2) ∧ w.cell? ⟨g2, o2 + 5, none⟩ = some (.slice pa 3 pc)) := fun w hb => ⟨(hb.cell (World.block_lt_of_cell? w1 _ x1)).trans x1, (hb.cell (World.block_lt_of_cell? w1 _ x2)).trans x2, (hb.cell (World.block_lt_of_cell? w1 _ x3)).trans x3, (hb.cell (World.block_lt_of_cell? w1 _ x4)).trans x4⟩
  have HB1 : Hid (Below W.heap.size W w1) := hb1
  clear hO1 hb1 HLA x1 x2 x3 x4 hK1
  have LB := HL.out srcB w1 (by decide) HB1.out
  rw [scanB] at LB
  have HLB : Hid _ := LB
  clear LB
  go_wp2_with fail
  refine Calls.mono HLB.out ?_
  rintro e w2 ⟨v2, ev2, rfl, ⟨rfl, q2, rfl, hx2⟩, hb2⟩
  have HX2 : Hid (Cel w2 q2 121 #[.int .i64 3, errV (ea (gOf 3))]) := hx2
  have HB12 : Hid (Below w1.heap.size w1 w2) := hb2
  have HB2 : Hid (Below W.heap.size W w2) := HB1.out.trans (Below.mono hb2 HB1.out.size)
  clear hx2 hb2 HLB
  have LC := HL.out srcC w2 (by decide) HB2.out
  rw [scanC] at LC
  have HLC : Hid _ := LC
  clear LC
  go_wp2_with fail
  refine Calls.mono HLC.out ?_
  rintro e w3 ⟨v3, ev3, rfl, ⟨rfl, K3, hK3, hO3⟩, hb3⟩
  obtain ⟨g3, o3, c3, g4, o4, c4, g5, o5, c5, rfl, y1, y2, y3⟩ := seenC w3 v3 K3 (CmsAt.own hO3) hK3
  have HY : Hid (∀ w, Below w3.heap.size w3 w → w.cell? ⟨g3, o3 + 1, none⟩ = some (.slice (some ⟨g4, o4, none⟩) 2 c4) ∧ w.cell? ⟨g4, o4 + 5, none⟩ = some (.slice (some ⟨g5, o5, none⟩) 1 c5) ∧ w.cell? ⟨g5, o5 + 3, none⟩ = some (str [98, 32, 123, 93, 125, 32, 99])) := fun w hb => ⟨(hb.cell (World.block_lt_of_cell? w3 _ y1)).trans y1, (hb.cell (World.block_lt_of_cell? w3 _ y2)).trans y2, (hb.cell (World.block_lt_of_cell? w3 _ y3)).trans y3⟩
  have HB23 : Hid (Below w2.heap.size w2 w3) := hb3
  have HB3 : Hid (Below W.heap.size W w3) := HB2.out.trans (Below.mono hb3 HB2.out.size)
  clear hO3 hb3 HLC y1 y2 y3 hK3
  have HBR : Hid _ := brace_any ⟨#[97, 125]⟩ w3 ea (HE.out _ HB3.out) (Nat.le_trans HW.out HB3.out.size) (by decide)
  rw [show braceB (⟨#[97, 125]⟩ : ByteArray).data.toList = none from braceA] at HBR
  unfold txtV at HBR
  go_wp2_with fail
  refine Calls.mono HBR.out ?_
  rintro e w4 ⟨rfl, hb4⟩
  have HB34 : Hid (Below w3.heap.size w3 w4) := hb4
  have HB4 : Hid (Below W.heap.size W w4) := HB3.out.trans (Below.mono hb4 HB3.out.size)
  clear hb4 HBR
  obtain ⟨a1, a2, a3, a4⟩ := HX.out w4 (HB12.out.trans (Below.mono (HB23.out.trans (Below.mono HB34.out HB23.out.size)) HB12.out.size))
  go_wp2_with fail
  refine (placed_any 107 3 (by decide) _).mono ?_
  rintro e w5 ⟨f5, rfl, hf5, _, hb5⟩
  have HB5 : Hid (Below W.heap.size W w5) := HB4.out.trans (Below.mono hb5 HB4.out.size)
  have HB45 : Hid (Below w4.heap.size w4 w5) := hb5
  have HX5 : Hid (Cel w5 q2 121 #[.int .i64 3, errV (ea (gOf 3))]) := (((Cel.below HX2.out HB23.out (Cel.lt HX2.out)).below HB34.out (Nat.lt_of_lt_of_le (Cel.lt HX2.out) HB23.out.size)).below hb5 (Nat.lt_of_lt_of_le (Cel.lt HX2.out) (Nat.le_trans HB23.out.size HB34.out.size)))
  have HSA : Hid _ := same_any w5 ea (HE.out _ HB5.out) 6 (by omega) (ea (gOf 3)) rfl q2 3 HX5.out f5 hf5 107 rfl
  clear hf5 hb5 HX2 HX5 a1 a2 a3 a4
  go_wp2_with fail
  refine Calls.mono HSA.out ?_
  rintro e w6 ⟨rfl, hb6⟩
  have HB56 : Hid (Below w5.heap.size w5 w6) := hb6
  have HB6 : Hid (Below W.heap.size W w6) := HB5.out.trans (Below.mono hb6 HB5.out.size)
  clear hb6 HSA
  obtain ⟨b1, b2, b3⟩ := HY.out w6 (HB34.out.trans (Below.mono (HB45.out.trans (Below.mono HB56.out HB45.out.size)) HB34.out.size))
  have HQ1 : Hid _ := quote_any ⟨#[97, 32, 98]⟩ w6 ea (HE.out _ HB6.out) (Nat.le_trans HW.out HB6.out.size) (by decide)
  rw [show quoteB (⟨#[97, 32, 98]⟩ : ByteArray).data.toList = _ from quoteA] at HQ1
  go_wp2_with fail
  refine Calls.mono HQ1.out ?_
  rintro e w7 ⟨rfl, hb7⟩
  have HB7 : Hid (Below W.heap.size W w7) := HB6.out.trans (Below.mono hb7 HB6.out.size)
  clear hb7 HQ1 b1 b2 b3
  have HQ2 : Hid _ := quote_any ⟨#[97]⟩ w7 ea (HE.out _ HB7.out) (Nat.le_trans HW.out HB7.out.size) (by decide)
  rw [show quoteB (⟨#[97]⟩ : ByteArray).data.toList = _ from quoteC] at HQ2
  go_wp2_with fail
  refine Calls.mono HQ2.out ?_
  rintro e w8 ⟨rfl, hb8⟩
  have HB8 : Hid (Below W.heap.size W w8) := HB7.out.trans (Below.mono hb8 HB7.out.size)
  clear hb8 HQ2
  go_wp2_with fail
  go_ret
  exact ⟨rfl, HB8.out⟩
end Go.Proofs.YtlihkblllakhmaaGreatDoor
