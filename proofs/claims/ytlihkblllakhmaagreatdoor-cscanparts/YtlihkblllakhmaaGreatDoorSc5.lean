/- A command, its places shifted. -/
import Derived.Test.YtlihkblllakhmaaGreatDoorSc4
import Derived.Test.YtlihkblllakhmaaGreatDoorPPA
namespace Go.Proofs.YtlihkblllakhmaaGreatDoor
open Go.RowKit
attribute [local go_sem] Oper.semAt_some

theorem qd_last {wo wr w6 : World} {cb wb i cpq qp : Nat} {adq : Option Addr} {qb : Bool} {X : List Pt} {v2 v6 u : Value} {K' : List (Value × Wd)} (HQ : QdOwn wo (cb + 1) (.slice adq i cpq) K') (hlK : K'.length = i) (hbo : Below wo.heap.size wo wr) (HP : QtOwn wr (wb + 1) v2 X) (hB : cb + 1 ≤ wb + 1) (o : Obj)
    (hown : w6.ownsRow (cb + 1) 48 3 v6 (i + 1) (wdCs K' ++ wdC (v2, ⟨qp, qb, X⟩))) (hgrow : (wr.alloc o).grownBy w6 (Value.slice adq i cpq).ownBlock) : QdOwn (w6.setCell ⟨cb, 1, none⟩ u) (cb + 1) v6 (K' ++ [(v2, ⟨qp, qb, X⟩)]) := by
  have hT : Turn (fun x => x = cb) w6 (w6.setCell ⟨cb, 1, none⟩ u) := Turn.setCell (p := ⟨cb, 1, none⟩) (Turn.refl (fun x => x = cb) w6) (fun _ => rfl) _
  have hr : (wr.alloc o).ownsRow (cb + 1) 48 3 (.slice adq i cpq) K'.length (wdCs K') := World.ownsRow.alloc (HQ.below hbo).row o
  refine ⟨?_, ?_⟩
  · rw [wdCs_append, wdCs_one, List.length_append, hlK]
    exact owns_turn (S := fun x => x = cb) hown hT (fun x hx e => by
      have := (World.ownsRow.lt hown x hx).1
      omega)
  · intro q hq
    rcases List.mem_append.1 hq with hq | hq
    · exact ((((HQ.parts q hq).below hbo).below (below_new _ o)).grown hr hgrow).turn hT (by omega)
    · rw [List.mem_singleton] at hq
      subst hq
      exact (((HP.lower hB).below (below_new _ o)).grown hr hgrow).turn hT (by omega)
set_option maxRecDepth 100000 in
set_option maxHeartbeats 8000000 in
theorem shifted_any (W : World) (n k : Nat) (wv : Value) (Kw : List (Value × Wd)) (h : QdAt W wv Kw) (hn : n ≤ 100000) (hk : k ≤ 100000) (hKl : Kw.length ≤ 10000) (hF : ∀ p ∈ Kw, FewW 10000 p.2) :
    Calls Tryz.prog 17 #[.agg #[.int .i64 (n : Nat), wv], .int .i64 (k : Nat)] W fun e w' => ∃ v' K', e = .returned (.agg #[.int .i64 ((n + k : Nat) : Int), v']) ∧ QdOwn w' W.heap.size v' K' ∧ K'.map Prod.snd = (Kw.map Prod.snd).map (shW k) ∧ Below W.heap.size W w' := by
  obtain ⟨i0, hi, hz0, hz1, hz2⟩ := info_parts infoQt
  obtain ⟨j0, hj, hy0, hy1, hy2⟩ := info_parts infoQd
  obtain ⟨ad, cap, rfl⟩ := h.form
  have HG : Hid (∀ i q, Kw[i]? = some q → ∃ g o adp cpp, ad = some ⟨g, o, none⟩ ∧ g < W.heap.size ∧ (∀ w, Below W.heap.size W w → (w.cell? ⟨g, o + i * 3, none⟩ = some (.int .i64 (q.2.pos : Nat)) ∧ w.cell? ⟨g, o + i * 3 + 1, none⟩ = some (.bool q.2.braced) ∧ w.cell? ⟨g, o + i * 3 + 2, none⟩ = some (.slice adp q.2.parts.length cpp)) ∧ PtsAt w (.slice adp q.2.parts.length cpp) q.2.parts) ∧ FewW 10000 q.2) := fun i q hq => by
    obtain ⟨g, o, c, hv, _, hg, x⟩ := h.row.get (i := i) (cs := wdC q) (by rw [List.getElem?_map, hq]; rfl)
    have hp := h.parts q (List.mem_of_getElem? hq)
    obtain ⟨adp, cpp, hf⟩ := hp.form
    have x2 : W.cell? ⟨g, o + i * 3 + 2, none⟩ = some q.1 := x 2 _ rfl
    rw [hf] at x2 hp
    injection hv with e1 _ _
    exact ⟨g, o, adp, cpp, e1, hg, fun w hb => ⟨⟨(hb.cell hg).trans (x 0 _ rfl), (hb.cell hg).trans (x 1 _ rfl), (hb.cell hg).trans x2⟩, RowAt.below hp hb (Nat.le_refl _)⟩, hF q (List.mem_of_getElem? hq)⟩
  clear h hF
  go_enter Tryz.func17, Tryz.ntmps17
  go_wp2_with fail
  obtain ⟨w1, hw1⟩ : ∃ w1, w1 = ((W.alloc (.cells #[.int .i64 (n : Nat), .slice ad Kw.length cap] 51)).alloc (.cells #[.int .i64 0, .slice none 0 0] 51)).alloc (.cells #[.int .i64 ((n : Int) + (k : Int)), .slice none 0 0] 51) := ⟨_, rfl⟩
  have k1 : Cel w1 W.heap.size 51 #[.int .i64 (n : Nat), .slice ad Kw.length cap] := by
    rw [hw1]
    exact ((Cel.new W _ _).below (below_new _ _) (by simp)).below (below_new _ _) (by simp; omega)
  have k2 : Cel w1 (W.heap.size + 1) 51 #[.int .i64 0, .slice none 0 0] := by
    rw [hw1]
    have := Cel.new (W.alloc (.cells #[.int .i64 (n : Nat), .slice ad Kw.length cap] 51)) 51 #[.int .i64 0, .slice none 0 0]
    rw [show (W.alloc (.cells #[.int .i64 (n : Nat), .slice ad Kw.length cap] 51)).heap.size = W.heap.size + 1 by simp] at this
    exact this.below (below_new _ _) (by simp)
  have k3 : Cel w1 (W.heap.size + 1 + 1) 51 #[.int .i64 ((n : Int) + (k : Int)), .slice none 0 0] := by
    rw [hw1]
    have := Cel.new ((W.alloc (.cells #[.int .i64 (n : Nat), .slice ad Kw.length cap] 51)).alloc (.cells #[.int .i64 0, .slice none 0 0] 51)) 51 #[.int .i64 ((n : Int) + (k : Int)), .slice none 0 0]
    rw [show ((W.alloc (.cells #[.int .i64 (n : Nat), .slice ad Kw.length cap] 51)).alloc (.cells #[.int .i64 0, .slice none 0 0] 51)).heap.size = W.heap.size + 1 + 1 by simp] at this
    exact this
  have k4 : Below W.heap.size W w1 := by
    rw [hw1]
    exact ((below_new W _).alloc (by simp) _).alloc (by simp; omega) _
  rw [← hw1]
  clear hw1
  go_loopw [6] (fun v6 wr => ∃ (i : Nat) (vq : Value) (K' : List (Value × Wd)), i ≤ Kw.length ∧ v6 = .int .i64 i ∧ Hid (Cel wr W.heap.size 51 #[.int .i64 (n : Nat), .slice ad Kw.length cap]) ∧ Hid (Cel wr (W.heap.size + 1) 51 #[.int .i64 0, .slice none 0 0]) ∧ Hid (Cel wr (W.heap.size + 1 + 1) 51 #[.int .i64 ((n : Int) + (k : Int)), vq]) ∧ Hid (QdOwn wr (W.heap.size + 1 + 1 + 1) vq K') ∧ Hid (K'.map Prod.snd = ((Kw.take i).map Prod.snd).map (shW k)) ∧ Hid (Below W.heap.size W wr)) (fun v6 _ => Kw.length - (intOf v6).toNat)
  case atStart => exact ⟨0, _, [], Nat.zero_le _, rfl, k1, k2, k3, QdOwn.nil _ _, rfl, k4⟩
  case round =>
    obtain ⟨i, vq, K', hi', rfl, H1, H2, H3, HQ, HK', HB⟩ := hrel
    obtain ⟨wo, hwo⟩ : ∃ wo, wo = wr := ⟨_, rfl⟩
    subst hwo
    have hlK : K'.length = i := by
      have := congrArg List.length HK'.out
      simp at this
      omega
    obtain ⟨adq, cpq, rfl⟩ := HQ.out.form
    rw [hlK] at HQ H3
    have e1 := H1.out.cell 1
    have hsz := H3.out.lt
    by_cases hlt : i < Kw.length
    · have hlt' : (i : Int) < (Kw.length : Nat) := by omega
      obtain ⟨g, o, adp, cpp, rfl, hg, hread, hfew⟩ := HG.out i Kw[i] (List.getElem?_eq_getElem hlt)
      have HT : Hid (Kw.take (i + 1) = Kw.take i ++ [Kw[i]]) := take_one Kw i hlt
      generalize Kw[i] = q at hread hfew HT
      obtain ⟨qv, qp, qb, qs⟩ := q
      simp only at hread hfew
      obtain ⟨⟨x0, x1, x2⟩, xp⟩ := hread wo HB.out
      have HR : Hid _ := hread
      have hf0 : qp ≤ 10000 := hfew.1
      have hfl : qs.length ≤ 10001 := hfew.2.1
      have HFw : Hid (FewW 10000 ⟨qp, qb, qs⟩) := hfew
      have HS : Hid (∀ w, Below wo.heap.size wo w → w.cell? ⟨W.heap.size, 1, none⟩ = some (.slice (some ⟨g, o, none⟩) Kw.length cap) ∧ w.cell? ⟨g, o + i * 3, none⟩ = some (.int .i64 (qp : Nat)) ∧ w.cell? ⟨g, o + i * 3 + 1, none⟩ = some (.bool qb)) := fun w hb => by
        obtain ⟨⟨y0, y1, _⟩, _⟩ := HR.out w (HB.out.trans (Below.mono hb HB.out.size))
        exact ⟨(Cel.below H1.out hb (Cel.lt H1.out)).cell 1, y0, y1⟩
      have hwr : IntKind.i64.wrap ((qp : Int) + (k : Int)) = (qp : Int) + (k : Int) := by rw [IntKind.wrap_i64]; omega
      clear hread hfew
      go_wp2_with fail
      go_region_held3 (fun w' => w'.cell? ⟨W.heap.size, 1, none⟩ = some (.slice (some ⟨g, o, none⟩) Kw.length cap) ∧ w'.cell? ⟨g, o + i * 3, none⟩ = some (.int .i64 (qp : Nat)) ∧ w'.cell? ⟨g, o + i * 3 + 1, none⟩ = some (.bool qb)) (first | exact HS.out _ (Below.refl _ wo).drew | exact HS.out _ ((Below.refl _ wo).drew.alloc (Nat.le_refl _) _) | go_keep) (first | fail)
      go_wp2_with fail
      obtain ⟨wb, hwb⟩ : ∃ wb, wb = wo.heap.size := ⟨_, rfl⟩
      have HWB : Hid (wb = wo.heap.size) := hwb
      obtain ⟨w2, hw2⟩ : ∃ w2, w2 = (wo.alloc (.cells #[.int .i64 ((qp : Int) + (k : Int)), .bool qb, .slice none 0 0] 48)).drew := ⟨_, rfl⟩
      have m1 : Cel w2 wb 48 #[.int .i64 ((qp : Int) + (k : Int)), .bool qb, .slice none 0 0] := by
        rw [hw2, hwb]
        exact Cel.new wo _ _
      have m2 : Below wb wo w2 := by
        rw [hw2, hwb]
        exact (below_new wo _).drew
      rw [← hwb, ← hw2]
      clear hw2 hwb x0 x1 x2 xp
      go_loopw [8] (fun v8 wr => ∃ (j : Nat) (vp : Value) (X : List Pt), j ≤ qs.length ∧ v8 = .int .i64 j ∧ Hid (Cel wr wb 48 #[.int .i64 ((qp : Int) + (k : Int)), .bool qb, vp]) ∧ Hid (QtOwn wr (wb + 1) vp X) ∧ Hid (X = (qs.take j).map (shP k)) ∧ Hid (Below wb wo wr)) (fun v8 _ => qs.length - (intOf v8).toNat)
      case atStart => exact ⟨0, _, [], Nat.zero_le _, rfl, m1, QtOwn.nil _ _, rfl, m2⟩
      case round =>
        obtain ⟨j, vp, X, hj', rfl, HC, HP, HX, HBi⟩ := hrel
        have hlX : X.length = j := by rw [HX.out, List.length_map, List.length_take]; omega
        obtain ⟨adx, cpx, rfl⟩ := HP.out.form
        rw [hlX] at HC HP
        have hbo : Below wo.heap.size wo wr := HWB.out ▸ HBi.out
        have e1 := (Cel.below H1.out hbo (Cel.lt H1.out)).cell 1
        have hbW : Below W.heap.size W wr := HB.out.trans (Below.mono hbo HB.out.size)
        obtain ⟨⟨x0, x1, x2⟩, xp⟩ := HR.out wr hbW
        have hci := HC.out.lt
        by_cases hjt : j < qs.length
        · have hjt' : (j : Int) < (qs.length : Nat) := by omega
          obtain ⟨g1, o1, c1, hv1, _, hg1, y0, y1, y2, y3⟩ := xp.get (List.getElem?_eq_getElem hjt)
          injection hv1 with q1 _ _
          subst q1
          have hpp : qs[j].pos ≤ 10001 := HFw.out.2.2 _ (List.getElem_mem hjt)
          have HT2 : Hid (qs.take (j + 1) = qs.take j ++ [qs[j]]) := take_one qs j hjt
          generalize qs[j] = p at y0 y1 y2 y3 hpp HT2
          obtain ⟨pk, pp, pn, pt⟩ := p
          simp only at y0 y1 y2 y3 hpp
          have hwp : IntKind.i64.wrap ((pp : Int) + (k : Int)) = (pp : Int) + (k : Int) := by rw [IntKind.wrap_i64]; omega
          have ho : Hid (wr.ownsRow (wb + 1) 81 4 (.slice adx j cpx) j (ptCs X)) := by
            have := HP.out
            unfold QtOwn at this
            rw [hlX] at this
            exact this
          have e2 := HC.out.cell 2
          have f2 := HC.out.frozen 2
          have hjb : (j + 1) * 40 ≤ 140737488355328 := by omega
          clear xp
          go_wp2_with (at_builtin; refine wpList_append_own_at _ rfl _ _ 46 rfl (wb + 1) 81 i0 _ 4 40 Tryz.underlying46 hi hz0 hz1 hz2 rfl (by decide) _ j _ rfl ((ho.out.alloc _).alloc _) ⟨wr.heap.size + 1, 0, none⟩ 1 1 [.int .i64 (pk : Nat), .int .i64 ((pp : Int) + (k : Int)), .int .i64 (pn : Nat), str pt] rfl rfl (cells_new2 _ _ [.int .i64 (pk : Nat), .int .i64 ((pp : Int) + (k : Int)), .int .i64 (pn : Nat), str pt] _) (by simp [Value.oneCell']) (by have := maxLen_big; omega) hjb (by simp; omega) ?_; intro v' w' hown hgrow _ _; obtain ⟨ad', cp', rfl⟩ := owns_slice hown; have hbel : Below (wb + 1) wr w' := grown_own (by simp; omega) (((Below.refl _ wr).alloc (by omega) _).alloc (by simp; omega) _) ((ho.out.alloc _).alloc _) hgrow; have HC' := HC.out.below hbel (by omega); have e2' := HC'.cell 2; have f2' := HC'.frozen 2)
          have hT : Turn (fun x => x = wb) w' (w'.setCell ⟨wb, 2, none⟩ (.slice ad' (j + 1) cp')) := Turn.setCell (p := ⟨wb, 2, none⟩) (Turn.refl (fun x => x = wb) w') (fun _ => rfl) _
          refine ⟨⟨j + 1, .slice ad' (j + 1) cp', X ++ [⟨pk, pp + k, pn, pt⟩], by omega, rfl, HC'.set (j := 2) _, ?_, ?_, ?_⟩, by simp only [intOf]; omega⟩
          · unfold Hid QtOwn
            rw [ptCs_append, ptCs_one, List.length_append, hlX]
            exact owns_turn (S := fun x => x = wb) hown hT (fun x hx e => by
              have := (World.ownsRow.lt hown x hx).1
              omega)
          · unfold Hid
            rw [HT2.out, List.map_append, HX.out]
            rfl
          · exact HBi.out.trans ((show Below wb wr w' from Below.mono hbel (Nat.le_succ wb)).setCell (p := ⟨wb, 2, none⟩) (Nat.le_refl _) _)
        · have hjt' : ¬ ((j : Int) < (qs.length : Nat)) := by omega
          obtain rfl : j = qs.length := by omega
          have HXf : Hid (X = qs.map (shP k)) := by
            have := HX.out
            rw [List.take_of_length_le (Nat.le_refl _)] at this
            exact this
          have hd : Hid (wr.ownsRow (W.heap.size + 1 + 1 + 1) 48 3 (.slice adq i cpq) i (wdCs K')) := by
            have := (QdOwn.below HQ.out hbo).row
            rw [hlK] at this
            exact this
          have H3' := Cel.below H3.out hbo (Cel.lt H3.out)
          have e31 := H3'.cell 1
          have f31 := H3'.frozen 1
          have t0 := HC.out.cell 0
          have t1 := HC.out.cell 1
          have t2 := HC.out.cell 2
          have hib : (i + 1) * 40 ≤ 140737488355328 := by omega
          have hwbs : W.heap.size + 1 + 1 + 1 ≤ wb := by have := HWB.out; omega
          clear xp
          go_wp2_with (at_builtin; refine wpList_append_own_at _ rfl _ _ 49 rfl (W.heap.size + 1 + 1 + 1) 48 j0 _ 3 40 Tryz.underlying49 hj hy0 hy1 hy2 rfl (by decide) _ i _ rfl (hd.out.alloc _) ⟨wr.heap.size, 0, none⟩ 1 1 [.int .i64 ((qp : Int) + (k : Int)), .bool qb, .slice adx qs.length cpx] rfl rfl (cells_new wr [.int .i64 ((qp : Int) + (k : Int)), .bool qb, .slice adx qs.length cpx] _) (by simp [Value.oneCell']) (by have := maxLen_big; omega) hib (by simp; omega) ?_; intro v' w' hown hgrow _ _; obtain ⟨ad', cp', rfl⟩ := owns_slice hown; have hbel : Below (W.heap.size + 1 + 1 + 1) wr w' := grown_own (by simp; omega) ((Below.refl _ wr).alloc (by omega) _) (hd.out.alloc _) hgrow; have H4 := H3'.below hbel (by omega); have e41 := H4.cell 1; have f41 := H4.frozen 1)
          have hT : Turn (fun x => x = W.heap.size + 1 + 1) w' (w'.setCell ⟨W.heap.size + 1 + 1, 1, none⟩ (.slice ad' (i + 1) cp')) := Turn.setCell (p := ⟨W.heap.size + 1 + 1, 1, none⟩) (Turn.refl (fun x => x = W.heap.size + 1 + 1) w') (fun _ => rfl) _
          have hq := qd_last (u := .slice ad' (i + 1) cp') (qp := qp + k) (qb := qb) HQ.out hlK hbo HP.out (by omega) _ hown hgrow
          refine ⟨⟨i + 1, .slice ad' (i + 1) cp', K' ++ [((.slice adx qs.length cpx : Value), (⟨qp + k, qb, X⟩ : Wd))], by omega, rfl, ?_, ?_, H4.set (j := 1) _, hq, ?_, ?_⟩, by simp only [intOf]; omega⟩
          · exact ((Cel.below H1.out hbo (Cel.lt H1.out)).below hbel (by omega)).turn hT (by omega)
          · exact ((Cel.below H2.out hbo (Cel.lt H2.out)).below hbel (by omega)).turn hT (by omega)
          · unfold Hid
            rw [HT.out, List.map_append, List.map_append, List.map_append, HK'.out, HXf.out]
            rfl
          · exact hbW.trans ((show Below W.heap.size wr w' from Below.mono hbel (by omega)).setCell (p := ⟨W.heap.size + 1 + 1, 1, none⟩) (by show W.heap.size ≤ W.heap.size + 1 + 1; omega) _)
    · have hlt' : ¬ ((i : Int) < (Kw.length : Nat)) := by omega
      obtain rfl : i = Kw.length := by omega
      have hK2 : K'.map Prod.snd = (Kw.map Prod.snd).map (shW k) := by
        have := HK'.out
        rw [List.take_of_length_le (Nat.le_refl _)] at this
        exact this
      have z0 := H3.out.cell 0
      have z1 := H3.out.cell 1
      have y0 := H2.out.cell 0
      have y1 := H2.out.cell 1
      have g0 := H2.out.frozen 0
      have g1 := H2.out.frozen 1
      go_wp2_with fail
      have hT : Turn (fun x => x = W.heap.size + 1) wo ((wo.setCell ⟨W.heap.size + 1, 0, none⟩ (.int .i64 ((n : Int) + (k : Int)))).setCell ⟨W.heap.size + 1, 1, none⟩ (.slice adq Kw.length cpq)) := Turn.setCell (p := ⟨W.heap.size + 1, 1, none⟩) (Turn.setCell (p := ⟨W.heap.size + 1, 0, none⟩) (Turn.refl (fun x => x = W.heap.size + 1) wo) (fun _ => rfl) _) (fun _ => rfl) _
      have kk := (H2.out.set (j := 0) (.int .i64 ((n : Int) + (k : Int)))).set (j := 1) (.slice adq Kw.length cpq)
      refine bodyPost_ret (results_cell_row (p := 4) (ty := 51) rfl _ _ (W.heap.size + 1) 51 _ (0, 0) _ rfl kk Tryz.underlying51 rfl sizeQm) rfl ?_
      refine ⟨_, rfl, K', ?_, by rw [← List.map_map]; exact hK2, ?_⟩
      · exact QdOwn.lower (HQ.out.turn hT (by omega)) (by omega)
      · exact ((HB.out.setCell (p := ⟨W.heap.size + 1, 0, none⟩) (by show W.heap.size ≤ W.heap.size + 1; omega) _).setCell (p := ⟨W.heap.size + 1, 1, none⟩) (by show W.heap.size ≤ W.heap.size + 1; omega) _)
end Go.Proofs.YtlihkblllakhmaaGreatDoor
