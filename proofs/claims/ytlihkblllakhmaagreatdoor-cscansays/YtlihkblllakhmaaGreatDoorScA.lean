/- Commands that are the same. -/
import Derived.Test.YtlihkblllakhmaaGreatDoorSc2
import Derived.BigQuiet
import Derived.Deep.RegionHeld3
/-! Words and commands that are the same. -/
namespace Go.Proofs.YtlihkblllakhmaaGreatDoor
open Go.RowKit
attribute [local go_sem] Oper.semAt_some

/-- The document's words, as they are read. -/
structure QdAt (W : World) (v : Value) (K : List (Value × Wd)) : Prop where
  row : RowAt W v 3 (K.map wdC)
  parts : ∀ q ∈ K, PtsAt W q.1 q.2.parts
theorem QdOwn.at_ {W : World} {B : Nat} {v : Value} {K : List (Value × Wd)} (h : QdOwn W B v K) : QdAt W v K := by
  have e : wdCs K = (K.map wdC).flatMap id := by simp [wdCs, List.flatMap_map]
  have h' : W.ownsRow B 48 3 v (K.map wdC).length ((K.map wdC).flatMap id) := by
    rw [List.length_map, ← e]
    exact h.row
  exact ⟨RowAt.owned h' (fun cs hcs => by obtain ⟨x, _, rfl⟩ := List.mem_map.1 hcs; rfl), fun q hq => (h.parts q hq).at_⟩
theorem QdAt.below {W W' : World} {v : Value} {K : List (Value × Wd)} (h : QdAt W v K) (hb : Below W.heap.size W W') : QdAt W' v K := ⟨h.row.below hb (Nat.le_refl _), fun q hq => RowAt.below (h.parts q hq) hb (Nat.le_refl _)⟩
theorem QdAt.form {W : World} {v : Value} {K : List (Value × Wd)} (h : QdAt W v K) : ∃ ad cap, v = .slice ad K.length cap := by
  have := h.row.form
  simpa using this
/-- The document's commands, as they are read. -/
structure QmAt (W : World) (v : Value) (K : List Mc) : Prop where
  row : RowAt W v 2 (K.map cmC)
  words : ∀ q ∈ K, QdAt W q.1 q.2.2
theorem QmOwn.at_ {W : World} {B : Nat} {v : Value} {K : List Mc} (h : QmOwn W B v K) : QmAt W v K := by
  have e : cmCs K = (K.map cmC).flatMap id := by simp [cmCs, List.flatMap_map]
  have h' : W.ownsRow B 51 2 v (K.map cmC).length ((K.map cmC).flatMap id) := by
    rw [List.length_map, ← e]
    exact h.row
  exact ⟨RowAt.owned h' (fun cs hcs => by obtain ⟨x, _, rfl⟩ := List.mem_map.1 hcs; rfl), fun q hq => (h.words q hq).at_⟩
theorem QmAt.below {W W' : World} {v : Value} {K : List Mc} (h : QmAt W v K) (hb : Below W.heap.size W W') : QmAt W' v K := ⟨h.row.below hb (Nat.le_refl _), fun q hq => (h.words q hq).below hb⟩
theorem QmAt.form {W : World} {v : Value} {K : List Mc} (h : QmAt W v K) : ∃ ad cap, v = .slice ad K.length cap := by
  have := h.row.form
  simpa using this
set_option maxRecDepth 100000 in
set_option maxHeartbeats 8000000 in
theorem sameWord_any (W : World) (n : Nat) (b : Bool) (v1 v2 : Value) (ps : List Pt) (h1 : PtsAt W v1 ps) (h2 : PtsAt W v2 ps) (hps : ps.length ≤ 10000) :
    Calls Tryz.prog 28 #[.agg #[.int .i64 (n : Nat), .bool b, v1], .agg #[.int .i64 (n : Nat), .bool b, v2]] W fun e w' => e = .returned (.bool true) ∧ Below W.heap.size W w' := by
  obtain ⟨ad1, cap1, rfl⟩ := h1.form
  obtain ⟨ad2, cap2, rfl⟩ := h2.form
  have HG : Hid (∀ w, Below W.heap.size W w → ∀ i p, ps[i]? = some p → ∃ g1 o1 g2 o2, ad1 = some ⟨g1, o1, none⟩ ∧ ad2 = some ⟨g2, o2, none⟩ ∧ (w.cell? ⟨g1, o1 + i * 4, none⟩ = some (.int .i64 (p.kind : Nat)) ∧ w.cell? ⟨g1, o1 + i * 4 + 1, none⟩ = some (.int .i64 (p.pos : Nat)) ∧ w.cell? ⟨g1, o1 + i * 4 + 2, none⟩ = some (.int .i64 (p.n : Nat)) ∧ w.cell? ⟨g1, o1 + i * 4 + 3, none⟩ = some (str p.s)) ∧ (w.cell? ⟨g2, o2 + i * 4, none⟩ = some (.int .i64 (p.kind : Nat)) ∧ w.cell? ⟨g2, o2 + i * 4 + 1, none⟩ = some (.int .i64 (p.pos : Nat)) ∧ w.cell? ⟨g2, o2 + i * 4 + 2, none⟩ = some (.int .i64 (p.n : Nat)) ∧ w.cell? ⟨g2, o2 + i * 4 + 3, none⟩ = some (str p.s)) ∧ g1 < W.heap.size ∧ g2 < W.heap.size) := fun w hb i p hp => by
    obtain ⟨g1, o1, c1, hv1, _, hg1, x0, x1, x2, x3⟩ := h1.get hp
    obtain ⟨g2, o2, c2, hv2, _, hg2, y0, y1, y2, y3⟩ := h2.get hp
    injection hv1 with e1 _ _
    injection hv2 with e2 _ _
    exact ⟨g1, o1, g2, o2, e1, e2, ⟨(hb.cell hg1).trans x0, (hb.cell hg1).trans x1, (hb.cell hg1).trans x2, (hb.cell hg1).trans x3⟩, ⟨(hb.cell hg2).trans y0, (hb.cell hg2).trans y1, (hb.cell hg2).trans y2, (hb.cell hg2).trans y3⟩, hg1, hg2⟩
  clear h1 h2
  have n1 : ((n : Int) != (n : Int)) = false := by simp
  have n2 : (b != b) = false := by simp
  have n3 : ((ps.length : Int) != (ps.length : Int)) = false := by simp
  go_enter Tryz.func28, Tryz.ntmps28
  go_wp2_with fail
  obtain ⟨w1, hw1⟩ : ∃ w1, w1 = (W.alloc (.cells #[.int .i64 (n : Nat), .bool b, .slice ad1 ps.length cap1] 48)).alloc (.cells #[.int .i64 (n : Nat), .bool b, .slice ad2 ps.length cap2] 48) := ⟨_, rfl⟩
  have k1 : Cel w1 W.heap.size 48 #[.int .i64 (n : Nat), .bool b, .slice ad1 ps.length cap1] := by
    rw [hw1]
    exact (Cel.new W _ _).below (below_new _ _) (by simp)
  have k2 : Cel w1 (W.heap.size + 1) 48 #[.int .i64 (n : Nat), .bool b, .slice ad2 ps.length cap2] := by
    rw [hw1]
    have := Cel.new (W.alloc (.cells #[.int .i64 (n : Nat), .bool b, .slice ad1 ps.length cap1] 48)) 48 #[.int .i64 (n : Nat), .bool b, .slice ad2 ps.length cap2]
    rw [show (W.alloc (.cells #[.int .i64 (n : Nat), .bool b, .slice ad1 ps.length cap1] 48)).heap.size = W.heap.size + 1 by simp] at this
    exact this
  have k3 : Below W.heap.size W w1 := by
    rw [hw1]
    exact (below_new W _).alloc (by simp) _
  rw [← hw1]
  clear hw1
  go_loopw [5] (fun v5 wr => ∃ i : Nat, i ≤ ps.length ∧ v5 = .int .i64 i ∧ Hid (Cel wr W.heap.size 48 #[.int .i64 (n : Nat), .bool b, .slice ad1 ps.length cap1]) ∧ Hid (Cel wr (W.heap.size + 1) 48 #[.int .i64 (n : Nat), .bool b, .slice ad2 ps.length cap2]) ∧ Hid (Below W.heap.size W wr)) (fun v5 _ => ps.length - (intOf v5).toNat)
  case atStart => exact ⟨0, Nat.zero_le _, rfl, k1, k2, k3⟩
  case round =>
    obtain ⟨i, hi', rfl, H1, H2, HB⟩ := hrel
    have c1 := H1.out.cell 2
    have c2 := H2.out.cell 2
    have hl2 := H2.out.lt
    by_cases hlt : i < ps.length
    · have hlt' : (i : Int) < (ps.length : Nat) := by omega
      obtain ⟨g1, o1, g2, o2, rfl, rfl, ⟨x0, x1, x2, x3⟩, ⟨y0, y1, y2, y3⟩, hg1, hg2⟩ := HG.out wr HB.out i ps[i] (List.getElem?_eq_getElem hlt)
      generalize ps[i] = p at x0 x1 x2 x3 y0 y1 y2 y3
      obtain ⟨pk, pp, pn, pt⟩ := p
      simp only at x0 x1 x2 x3 y0 y1 y2 y3
      have hg2' : g2 < wr.heap.size := by omega
      have ya0 := fun ob => ((below_new wr ob).cell (p := ⟨g2, o2 + i * 4, none⟩) hg2').trans y0
      have ya1 := fun ob => ((below_new wr ob).cell (p := ⟨g2, o2 + i * 4 + 1, none⟩) hg2').trans y1
      have ya2 := fun ob => ((below_new wr ob).cell (p := ⟨g2, o2 + i * 4 + 2, none⟩) hg2').trans y2
      have ya3 := fun ob => ((below_new wr ob).cell (p := ⟨g2, o2 + i * 4 + 3, none⟩) hg2').trans y3
      have m1 : ((pk : Int) != (pk : Int)) = false := by simp
      have m2 : ((pp : Int) != (pp : Int)) = false := by simp
      have m3 : ((pn : Int) != (pn : Int)) = false := by simp
      go_wp2_with fail
      have hk := ((Below.refl wr.heap.size wr).alloc (Nat.le_refl _) (.cells #[.int .i64 (pk : Nat), .int .i64 (pp : Nat), .int .i64 (pn : Nat), str pt] 81)).alloc (by simp) (.cells #[.int .i64 (pk : Nat), .int .i64 (pp : Nat), .int .i64 (pn : Nat), str pt] 81)
      exact ⟨⟨i + 1, by omega, rfl, Cel.below H1.out hk (Cel.lt H1.out), Cel.below H2.out hk (Cel.lt H2.out), HB.out.trans (Below.mono hk HB.out.size)⟩, by simp only [intOf]; omega⟩
    · have hlt' : ¬ ((i : Int) < (ps.length : Nat)) := by omega
      go_wp2_with fail
      go_ret
      exact ⟨rfl, HB.out⟩
end Go.Proofs.YtlihkblllakhmaaGreatDoor
namespace Go.Proofs.YtlihkblllakhmaaGreatDoor
open Go.RowKit
attribute [local go_sem] Oper.semAt_some

set_option maxRecDepth 100000 in
set_option maxHeartbeats 8000000 in
theorem sameCommands_any (W : World) (v1 v2 : Value) (K1 K2 : List Mc) (h1 : QmAt W v1 K1) (h2 : QmAt W v2 K2) (hK : K1.map toCm = K2.map toCm) (hF : Few K1) :
    Calls Tryz.prog 11 #[v1, v2] W fun e w' => e = .returned (.bool true) ∧ Below W.heap.size W w' := by
  obtain ⟨ad1, cap1, rfl⟩ := h1.form
  obtain ⟨ad2, cap2, rfl⟩ := h2.form
  have hlen : K2.length = K1.length := by
    have := congrArg List.length hK
    simp at this
    omega
  rw [hlen]
  have HG : Hid (∀ i q, K1[i]? = some q → ∃ q2 g1 o1 g2 o2 aw1 cw1 aw2 cw2, ad1 = some ⟨g1, o1, none⟩ ∧ ad2 = some ⟨g2, o2, none⟩ ∧ (∀ w, Below W.heap.size W w → (w.cell? ⟨g1, o1 + i * 2, none⟩ = some (.int .i64 (q.2.1 : Nat)) ∧ w.cell? ⟨g1, o1 + i * 2 + 1, none⟩ = some (.slice aw1 q.2.2.length cw1)) ∧ (w.cell? ⟨g2, o2 + i * 2, none⟩ = some (.int .i64 (q.2.1 : Nat)) ∧ w.cell? ⟨g2, o2 + i * 2 + 1, none⟩ = some (.slice aw2 q.2.2.length cw2)) ∧ QdAt w (.slice aw1 q.2.2.length cw1) q.2.2 ∧ QdAt w (.slice aw2 q.2.2.length cw2) q2) ∧ q.2.2.map Prod.snd = q2.map Prod.snd ∧ q.2.2.length ≤ 10000 ∧ ∀ p ∈ q.2.2, p.2.parts.length ≤ 10000) := fun i q hq => by
    have hq2 : (K2.map toCm)[i]? = some (toCm q) := by rw [← hK, List.getElem?_map, hq]; rfl
    rw [List.getElem?_map] at hq2
    obtain ⟨r, hr, hqr⟩ := Option.map_eq_some_iff.1 hq2
    simp only [toCm, Cm.mk.injEq] at hqr
    obtain ⟨g1, o1, c1, hv1, _, hg1, x⟩ := h1.row.get (i := i) (cs := cmC q) (by rw [List.getElem?_map, hq]; rfl)
    obtain ⟨g2, o2, c2, hv2, _, hg2, y⟩ := h2.row.get (i := i) (cs := cmC r) (by rw [List.getElem?_map, hr]; rfl)
    have hw1 := h1.words q (List.mem_of_getElem? hq)
    have hw2 := h2.words r (List.mem_of_getElem? hr)
    obtain ⟨aw1, cw1, f1⟩ := hw1.form
    obtain ⟨aw2, cw2, f2⟩ := hw2.form
    have hll : r.2.2.length = q.2.2.length := by
      have := congrArg List.length hqr.2
      simpa using this
    rw [hll] at f2
    rw [f1] at hw1
    rw [f2] at hw2
    have x0 := x 0 _ rfl
    have x1 : W.cell? ⟨g1, o1 + i * 2 + 1, none⟩ = some q.1 := x 1 _ rfl
    have y0 := y 0 _ rfl
    have y1 : W.cell? ⟨g2, o2 + i * 2 + 1, none⟩ = some r.1 := y 1 _ rfl
    rw [f1] at x1
    rw [f2] at y1
    rw [hqr.1] at y0
    injection hv1 with e1 _ _
    injection hv2 with e2 _ _
    exact ⟨r.2.2, g1, o1, g2, o2, aw1, cw1, aw2, cw2, e1, e2, fun w hb => ⟨⟨(hb.cell hg1).trans x0, (hb.cell hg1).trans x1⟩, ⟨(hb.cell hg2).trans y0, (hb.cell hg2).trans y1⟩, hw1.below hb, hw2.below hb⟩, hqr.2.symm, hF.2 q (List.mem_of_getElem? hq)⟩
  have n1 : ((K1.length : Int) != (K1.length : Int)) = false := by simp
  have hKl := hF.1
  clear h1 h2 hK hF hlen
  go_enter Tryz.func11, Tryz.ntmps11
  go_wp2_with fail
  go_loopw [5] (fun v5 wr => ∃ i : Nat, i ≤ K1.length ∧ v5 = .int .i64 i ∧ Hid (Below W.heap.size W wr)) (fun v5 _ => K1.length - (intOf v5).toNat)
  case atStart => exact ⟨0, Nat.zero_le _, rfl, Below.refl _ _⟩
  case round =>
    obtain ⟨i, hi', rfl, HB⟩ := hrel
    obtain ⟨wo, hwo⟩ : ∃ wo, wo = wr := ⟨_, rfl⟩
    subst hwo
    by_cases hlt : i < K1.length
    · have hlt' : (i : Int) < (K1.length : Nat) := by omega
      obtain ⟨q2, g1, o1, g2, o2, aw1, cw1, aw2, cw2, rfl, rfl, hread, hmap, hwl, hpl⟩ := HG.out i K1[i] (List.getElem?_eq_getElem hlt)
      generalize K1[i] = q at hread hmap hwl hpl
      obtain ⟨qv, qn, qw⟩ := q
      simp only at hread hmap hwl hpl
      obtain ⟨⟨x0, x1⟩, ⟨y0, y1⟩, hd1, hd2⟩ := hread wo HB.out
      have HR : Hid _ := hread
      have m1 : ((qn : Int) != (qn : Int)) = false := by simp
      have m2 : ((qw.length : Int) != (qw.length : Int)) = false := by simp
      have HWd : Hid (∀ j p, qw[j]? = some p → ∃ h1 p1 h2 p2 pv1 pv2, aw1 = some ⟨h1, p1, none⟩ ∧ aw2 = some ⟨h2, p2, none⟩ ∧ ∀ w, Below wo.heap.size wo w → (w.cell? ⟨h1, p1 + j * 3, none⟩ = some (.int .i64 (p.2.pos : Nat)) ∧ w.cell? ⟨h1, p1 + j * 3 + 1, none⟩ = some (.bool p.2.braced) ∧ w.cell? ⟨h1, p1 + j * 3 + 2, none⟩ = some pv1) ∧ (w.cell? ⟨h2, p2 + j * 3, none⟩ = some (.int .i64 (p.2.pos : Nat)) ∧ w.cell? ⟨h2, p2 + j * 3 + 1, none⟩ = some (.bool p.2.braced) ∧ w.cell? ⟨h2, p2 + j * 3 + 2, none⟩ = some pv2) ∧ PtsAt w pv1 p.2.parts ∧ PtsAt w pv2 p.2.parts) := fun j p hp => by
        have hp2 : (q2.map Prod.snd)[j]? = some p.2 := by rw [← hmap, List.getElem?_map, hp]; rfl
        rw [List.getElem?_map] at hp2
        obtain ⟨r, hr, hpr⟩ := Option.map_eq_some_iff.1 hp2
        obtain ⟨h1, p1, c1, hv1, _, hg1, x⟩ := hd1.row.get (i := j) (cs := wdC p) (by rw [List.getElem?_map, hp]; rfl)
        obtain ⟨h2, p2, c2, hv2, _, hg2, y⟩ := hd2.row.get (i := j) (cs := wdC r) (by rw [List.getElem?_map, hr]; rfl)
        have z1 := hd1.parts p (List.mem_of_getElem? hp)
        have z2 := hd2.parts r (List.mem_of_getElem? hr)
        have x0 := x 0 _ rfl
        have x1 := x 1 _ rfl
        have x2 := x 2 _ rfl
        have y0 := y 0 _ rfl
        have y1 := y 1 _ rfl
        have y2 := y 2 _ rfl
        rw [hpr] at y0 y1 z2
        injection hv1 with e1 _ _
        injection hv2 with e2 _ _
        exact ⟨h1, p1, h2, p2, p.1, r.1, e1, e2, fun w hb => ⟨⟨(hb.cell hg1).trans x0, (hb.cell hg1).trans x1, (hb.cell hg1).trans x2⟩, ⟨(hb.cell hg2).trans y0, (hb.cell hg2).trans y1, (hb.cell hg2).trans y2⟩, RowAt.below z1 hb (Nat.le_refl _), RowAt.below z2 hb (Nat.le_refl _)⟩⟩
      clear hread hd1 hd2 hmap
      go_wp2_with fail
      go_quiet (fail)
      go_wp2_with fail
      go_loopw [6] (fun v6 wr => ∃ j : Nat, j ≤ qw.length ∧ v6 = .int .i64 j ∧ Hid (Below wo.heap.size wo wr)) (fun v6 _ => qw.length - (intOf v6).toNat)
      case atStart => exact ⟨0, Nat.zero_le _, rfl, ⟨rfl, rfl, rfl, Nat.le_refl _, fun _ _ => rfl⟩⟩
      case round =>
        obtain ⟨j, hj', rfl, HBi⟩ := hrel
        obtain ⟨⟨x0, x1⟩, ⟨y0, y1⟩, _, _⟩ := HR.out wr (HB.out.trans (Below.mono HBi.out HB.out.size))
        by_cases hjt : j < qw.length
        · have hjt' : (j : Int) < (qw.length : Nat) := by omega
          obtain ⟨h1, p1, h2, p2, pv1, pv2, rfl, rfl, hrd⟩ := HWd.out j qw[j] (List.getElem?_eq_getElem hjt)
          have hpj := hpl qw[j] (List.getElem_mem hjt)
          generalize qw[j] = p at hrd hpj
          obtain ⟨pv, pp, pb, ps⟩ := p
          simp only at hrd hpj
          obtain ⟨⟨u0, u1, u2⟩, ⟨z0, z1, z2⟩, t1, t2⟩ := hrd wr HBi.out
          have HS : Hid (∀ w, Below wr.heap.size wr w → w.cell? ⟨g1, o1 + i * 2 + 1, none⟩ = some (.slice (some ⟨h1, p1, none⟩) qw.length cw1) ∧ w.cell? ⟨g2, o2 + i * 2 + 1, none⟩ = some (.slice (some ⟨h2, p2, none⟩) qw.length cw2) ∧ w.cell? ⟨h1, p1 + j * 3, none⟩ = some (.int .i64 (pp : Nat)) ∧ w.cell? ⟨h1, p1 + j * 3 + 1, none⟩ = some (.bool pb) ∧ w.cell? ⟨h1, p1 + j * 3 + 2, none⟩ = some pv1 ∧ w.cell? ⟨h2, p2 + j * 3, none⟩ = some (.int .i64 (pp : Nat)) ∧ w.cell? ⟨h2, p2 + j * 3 + 1, none⟩ = some (.bool pb) ∧ w.cell? ⟨h2, p2 + j * 3 + 2, none⟩ = some pv2) := fun w hb => by
            have hb1 := HBi.out.trans (Below.mono hb HBi.out.size)
            have hb0 := HB.out.trans (Below.mono hb1 HB.out.size)
            obtain ⟨⟨_, a1⟩, ⟨_, b1⟩, _⟩ := HR.out w hb0
            obtain ⟨⟨c0, c1, c2⟩, ⟨d0, d1, d2⟩, _⟩ := hrd w hb1
            exact ⟨a1, b1, c0, c1, c2, d0, d1, d2⟩
          have HC : Hid _ := sameWord_any wr.drew pp pb pv1 pv2 ps t1 t2 hpj
          go_wp2_with fail
          go_region_held3 (fun w' => w'.cell? ⟨g1, o1 + i * 2 + 1, none⟩ = some (.slice (some ⟨h1, p1, none⟩) qw.length cw1) ∧ w'.cell? ⟨g2, o2 + i * 2 + 1, none⟩ = some (.slice (some ⟨h2, p2, none⟩) qw.length cw2) ∧ w'.cell? ⟨h1, p1 + j * 3, none⟩ = some (.int .i64 (pp : Nat)) ∧ w'.cell? ⟨h1, p1 + j * 3 + 1, none⟩ = some (.bool pb) ∧ w'.cell? ⟨h1, p1 + j * 3 + 2, none⟩ = some pv1 ∧ w'.cell? ⟨h2, p2 + j * 3, none⟩ = some (.int .i64 (pp : Nat)) ∧ w'.cell? ⟨h2, p2 + j * 3 + 1, none⟩ = some (.bool pb) ∧ w'.cell? ⟨h2, p2 + j * 3 + 2, none⟩ = some pv2) (first | exact HS.out _ (by assumption) | exact HS.out _ (Below.refl _ wr).drew | go_keep)
            (first | (go_at_call 28; refine Calls.mono HC.out ?_; rintro e w2 ⟨rfl, hb2⟩; have hk2 : Below wr.heap.size wr w2 := (Below.refl _ wr).drew.trans hb2))
          have HK2 : Hid (Below wr.heap.size wr w2) := hk2
          clear hb2 hk2 HC HS u0 u1 u2 z0 z1 z2 t1 t2 hrd x0 x1 y0 y1
          go_wp2_with fail
          exact ⟨⟨j + 1, by omega, rfl, HBi.out.trans (Below.mono HK2.out HBi.out.size)⟩, by simp only [intOf]; omega⟩
        · have hjt' : ¬ ((j : Int) < (qw.length : Nat)) := by omega
          go_wp2_with fail
          exact ⟨⟨i + 1, by omega, rfl, HB.out.trans (Below.mono HBi.out HB.out.size)⟩, by simp only [intOf]; omega⟩
    · have hlt' : ¬ ((i : Int) < (K1.length : Nat)) := by omega
      go_wp2_with fail
      go_ret
      exact ⟨rfl, HB.out⟩
end Go.Proofs.YtlihkblllakhmaaGreatDoor
