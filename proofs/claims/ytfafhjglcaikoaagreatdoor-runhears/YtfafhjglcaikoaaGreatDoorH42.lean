/- first, whole. -/
import Derived.Test.YtfafhjglcaikoaaGreatDoorH38
import Derived.Test.YtfafhjglcaikoaaGreatDoorH39
import Derived.Test.YtfafhjglcaikoaaGreatDoorH40
import Derived.Test.YtfafhjglcaikoaaGreatDoorH41
namespace Go.Proofs.YtfafhjglcaikoaaGreatDoor
open Go.RowKit
attribute [local go_sem] Oper.semAt_some
attribute [local go_sem] run_store_nilFunc

variable {W W' : World} {ea : Nat → Addr}
/-- What a result that lies in a block shows. -/
theorem Box.seen {B b : Nat} {st : Int} {x : Xr} {s : Sh} (h : Box ea B W b st x s) : ∃ ta tc va vc fa fc X Y,
    Cel W b 54 #[.int .i64 st, xrV ea x, .slice ta s.E.length tc, .slice va (noStar s.F).length vc, .slice fa s.D.length fc, .int .i64 (s.st : Nat)] ∧
    EvOwn W B (.slice ta s.E.length tc) X ∧ X.map Prod.fst = s.E ∧ VaOwn W B (.slice va (noStar s.F).length vc) Y ∧ cont Y = noStar s.F ∧ W.ownsRow B 68 2 (.slice fa s.D.length fc) s.D.length (flCs s.D) := by
  obtain ⟨_, ta, tn, tc, va, vn, vc, fa, fn, fc, hc, tv, vv, fv, X, Y, h1, h2, h3, h4, h5, h6⟩ := h
  simp only [Value.agg.injEq, Array.mk.injEq, List.cons.injEq, true_and, and_true] at h1
  obtain ⟨rfl, rfl, rfl⟩ := h1
  have e1 : X.length = s.E.length := by rw [← h3, List.length_map]
  have e2 : Y.length = (noStar s.F).length := by rw [← h5, cont_length]
  obtain ⟨a1, c1, q1⟩ := owns_slice h2.1
  obtain ⟨a2, c2, q2⟩ := owns_slice h4.1
  obtain ⟨a3, c3, q3⟩ := owns_slice h6
  cases q1
  cases q2
  cases q3
  rw [e1] at h2
  rw [e2] at h4
  rw [e1, e2] at hc
  exact ⟨ta, tc, va, vc, fa, fc, X, Y, hc, h2, h3, h4, h5, h6⟩
set_option maxRecDepth 100000 in
set_option maxHeartbeats 8000000 in
theorem first_any (hE : ErX W ea) (h17 : 17 ≤ W.heap.size) : Calls Tryz.prog 9 #[] W fun e w' => e = .returned (.bool true) ∧ Below W.heap.size W w' := by
  have HD : Hid (∀ w, Calls Tryz.prog 23 #[] w fun e w' => e = .returned (oV 1500 25 []) ∧ Below w.heap.size w w') := fun w => defaults_any w
  have HE : Hid (∀ w, Below W.heap.size W w → ErX w ea ∧ 17 ≤ w.heap.size) := fun w hb => ⟨hE.below (Nat.le_refl _) hb, Nat.le_trans h17 hb.size⟩
  clear hE h17
  go_enter Tryz.func9, Tryz.ntmps9
  go_wp2_with fail
  refine Calls.mono (HD.out _) ?_
  rintro e w1 ⟨rfl, hb1⟩
  have HB1 : Hid (Below W.heap.size W w1) := hb1
  clear hb1 HD
  go_upto_region 2 with fail
  obtain ⟨bo, hbo⟩ : ∃ bo, w1.heap.size = bo := ⟨_, rfl⟩
  obtain ⟨w2, hw2⟩ : ∃ w2, w1.alloc (.cells optC 44) = w2 := ⟨_, rfl⟩
  have HB2 : Hid (Below W.heap.size W w2) := by unfold Hid; rw [← hw2]; exact HB1.out.alloc HB1.out.size _
  have HO : Hid (Cel w2 bo 44 optC) := by unfold Hid; rw [← hw2, ← hbo]; exact Cel.new _ _ _
  unfold optC at hw2
  rw [hw2, hbo]
  clear hw2 hbo HB1
  refine regA (ea := ea) (HE.out _ HB2.out).1 (HE.out _ HB2.out).2 HO.out (fun _ _ _ _ _ h => h) fun y ba w3 hxa hb3 => ?_
  have HB3 : Hid (Below W.heap.size W w3) := HB2.out.trans (hb3.mono HB2.out.size)
  have HO3 : Hid (Cel w3 bo 44 optC) := HO.out.below hb3 HO.out.lt
  have HXA : Hid (Box ea w2.heap.size w3 ba 0 .ok { st0 with st := 1, E := [⟨3, 0, [], [97, 10], []⟩] }) := hxa
  clear hb3 hxa HO HB2
  go_upto_region 3 with fail
  refine regB (ea := ea) (HE.out _ HB3.out).1 (HE.out _ HB3.out).2 HO3.out (fun _ _ _ _ _ h => h) fun y2 bb w4 hxb hb4 => ?_
  have HB4 : Hid (Below W.heap.size W w4) := HB3.out.trans (hb4.mono HB3.out.size)
  have HO4 : Hid (Cel w4 bo 44 optC) := HO3.out.below hb4 HO3.out.lt
  have HXA4 : Hid (Box ea w2.heap.size w4 ba 0 .ok { st0 with st := 1, E := [⟨3, 0, [], [97, 10], []⟩] }) := HXA.out.below hb4
  have HXB : Hid (Box ea w3.heap.size w4 bb 0 .ok { st0 with st := 3, E := [⟨4, 2, [], [], []⟩, ⟨3, 0, [], [97, 10], []⟩, ⟨6, 2, [], [], []⟩] }) := hxb
  clear hb4 hxb HO3 HB3 HXA
  go_upto_region 4 with fail
  refine regC (ea := ea) (HE.out _ HB4.out).1 (HE.out _ HB4.out).2 HO4.out (fun _ _ _ _ _ h => h) fun y3 bc w5 hxc hb5 => ?_
  have HB5 : Hid (Below W.heap.size W w5) := HB4.out.trans (hb5.mono HB4.out.size)
  have HO5 : Hid (Cel w5 bo 44 optC) := HO4.out.below hb5 HO4.out.lt
  have HXA5 : Hid (Box ea w2.heap.size w5 ba 0 .ok { st0 with st := 1, E := [⟨3, 0, [], [97, 10], []⟩] }) := HXA4.out.below hb5
  have HXB5 : Hid (Box ea w3.heap.size w5 bb 0 .ok { st0 with st := 3, E := [⟨4, 2, [], [], []⟩, ⟨3, 0, [], [97, 10], []⟩, ⟨6, 2, [], [], []⟩] }) := HXB.out.below hb5
  have HXC : Hid (Box ea w4.heap.size w5 bc 0 .fuel { st0 with st := 1500 }) := hxc
  clear hb5 hxc HO4 HB4 HXA4 HXB
  go_upto_region 5 with fail
  refine regD (ea := ea) (HE.out _ HB5.out).1 (HE.out _ HB5.out).2 HO5.out (fun _ _ _ _ _ h => h) fun y4 bd w6 hxd hb6 => ?_
  have HB6 : Hid (Below W.heap.size W w6) := HB5.out.trans (hb6.mono HB5.out.size)
  have HO6 := HO5.out.below hb6 HO5.out.lt
  obtain ⟨ta, tc, va, vc, fa, fc, X, Y, ca, xa, xe, -⟩ := (HXA5.out.below hb6).seen
  obtain ⟨tb, tcb, vb, vcb, fb, fcb, Xb, Yb, cb, -⟩ := (HXB5.out.below hb6).seen
  obtain ⟨td, tcc, vd, vcc, fd, fcc, Xc, Yc, cc, -⟩ := (HXC.out.below hb6).seen
  obtain ⟨tg, tcd, vg, vcd, fg, fcd, Xd, Yd, cd, -⟩ := hxd.seen
  obtain ⟨p, rfl⟩ : ∃ p, X = [p] := by
    have : X.length = 1 := by
      have := congrArg List.length xe
      simpa using this
    exact List.length_eq_one_iff.1 this
  have hp1 : p.1 = ⟨3, 0, [], [97, 10], []⟩ := by simpa using xe
  obtain ⟨g, o, cap, hv, -, -, -, -, k3, -⟩ := xa.at.at (j := 0) (p := p) rfl
  rw [hp1] at k3
  cases hv
  have e0 := ((HE.out w6 HB6.out).1.er 0 (by omega)).1
  have e2 := ((HE.out w6 HB6.out).1.er 2 (by omega)).1
  have s0 := err_same (ea 0) w6
  have s2 := err_same (ea 2) w6
  have o1 := HO6.cell 1
  have o2 := HO6.cell 2
  have a2 := ca.cell 2
  have a5 := ca.cell 5
  have b2 := cb.cell 2
  have b5 := cb.cell 5
  have c1 : w6.cell? ⟨bc, 1, none⟩ = some (errV (ea 2)) := cc.cell 1
  have c5 := cc.cell 5
  have d1 : w6.cell? ⟨bd, 1, none⟩ = some (errV (ea 0)) := cd.cell 1
  clear hb6 hxd HO6 HO5 HB5 HXA5 HXB5 HXC ca cb cc cd xa xe hp1 HE
  go_wp2_with fail
  go_ret
  exact ⟨rfl, HB6.out⟩
end Go.Proofs.YtfafhjglcaikoaaGreatDoor
