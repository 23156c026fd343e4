/- Commands, as the document has them. -/
import Derived.Test.YtlihkblllakhmaaGreatDoorSc1
import Derived.Deep.RegionLaw
import Derived.Deep.AppendLies
namespace Go.Proofs.YtlihkblllakhmaaGreatDoor
open Go.RowKit
attribute [local go_sem] Oper.semAt_some

theorem if_wanted {P : Program} {ops : Array Oper} {o : Oper} {a : Act} {w : World} {K : Act → World → Prop} {Q : Exit → Act → World → Prop} {E : Prop} (hgd : o.guard = none) (h : Oper.wp P o a w K Q) : if Region.wanted o (yielded ops a.tmps) = true then Oper.wp P o a w K Q else E := by
  rw [if_pos (by simp [Region.wanted, hgd])]
  exact h
/-- So few that they can be told over. -/
def Few (K : List Mc) : Prop := K.length ≤ 10000 ∧ ∀ q ∈ K, q.2.2.length ≤ 10000 ∧ ∀ p ∈ q.2.2, p.2.parts.length ≤ 10000
theorem qd_next {wr w2 w6 : World} {cb j cpq pdp : Nat} {adq : Option Addr} {pdb : Bool} {pds : List Pt} {v2 v6 u : Value} {Kq : List (Value × Wd)} (HD : QdOwn wr (cb + 1) (.slice adq j cpq) Kq) (hlq : Kq.length = j) (hb2 : Below wr.drew.heap.size wr.drew w2) (hq2 : QtOwn w2 wr.drew.heap.size v2 pds) (hcb : cb < wr.heap.size) (o : Obj)
    (hown : w6.ownsRow (cb + 1) 48 3 v6 (j + 1) (wdCs Kq ++ wdC (v2, ⟨pdp, pdb, pds⟩))) (hgrow : (w2.alloc o).grownBy w6 (Value.slice adq j cpq).ownBlock) : QdOwn (w6.setCell ⟨cb, 1, none⟩ u) (cb + 1) v6 (Kq ++ [(v2, ⟨pdp, pdb, pds⟩)]) := by
  have hT : Turn (fun x => x = cb) w6 (w6.setCell ⟨cb, 1, none⟩ u) := Turn.setCell (p := ⟨cb, 1, none⟩) (Turn.refl (fun x => x = cb) w6) (fun _ => rfl) _
  have hr : (w2.alloc o).ownsRow (cb + 1) 48 3 (.slice adq j cpq) Kq.length (wdCs Kq) := World.ownsRow.alloc (owns_turn (W := wr.drew) HD.row (Turn.ofBelow (S := fun _ => False) hb2) (fun _ _ e => e)) o
  refine ⟨?_, ?_⟩
  · rw [wdCs_append, wdCs_one, List.length_append, hlq]
    exact owns_turn (S := fun x => x = cb) hown hT (fun x hx e => by
      have := (World.ownsRow.lt hown x hx).1
      omega)
  · intro q hq
    rcases List.mem_append.1 hq with hq | hq
    · have h1 : QtOwn w2 (cb + 1) q.1 q.2.parts := QtOwn.below (W := wr.drew) (HD.parts q hq) hb2
      exact ((h1.below (below_new _ o)).grown hr hgrow).turn hT (by omega)
    · rw [List.mem_singleton] at hq
      subst hq
      exact (((hq2.lower (B' := cb + 1) hcb).below (below_new _ o)).grown hr hgrow).turn hT (by omega)
theorem qm_next {wo wr w6 : World} {B cb i cp3 qn : Nat} {ad3 : Option Addr} {wv v6 : Value} {K' : List Mc} {Kq : List (Value × Wd)} (HQ : QmOwn wo B (.slice ad3 i cp3) K') (hlK : K'.length = i) (hb : Below wo.heap.size wo wr) (HD : QdOwn wr (cb + 1) wv Kq) (hB : B ≤ cb) (o : Obj)
    (hown : w6.ownsRow B 51 2 v6 (i + 1) (cmCs K' ++ cmC (wv, qn, Kq))) (hgrow : (wr.alloc o).grownBy w6 (Value.slice ad3 i cp3).ownBlock) : QmOwn w6 B v6 (K' ++ [(wv, qn, Kq)]) := by
  have hr : (wr.alloc o).ownsRow B 51 2 (.slice ad3 i cp3) K'.length (cmCs K') := World.ownsRow.alloc (HQ.below hb).row o
  refine ⟨?_, ?_⟩
  · rw [cmCs_append, cmCs_one, List.length_append, hlK]
    exact hown
  · intro q hq
    rcases List.mem_append.1 hq with hq | hq
    · exact (((HQ.words q hq).below hb).below (below_new _ o)).grown2 hr hgrow
    · rw [List.mem_singleton] at hq
      subst hq
      exact ((HD.lower (by omega)).below (below_new _ o)).grown2 hr hgrow
set_option maxRecDepth 100000 in
set_option maxHeartbeats 8000000 in
theorem made_any (W : World) (v : Value) (K : List Mc) (h : CmsAt W v K) (hK : Few K) :
    Calls Tryz.prog 12 #[v] W fun e w' => ∃ v' K', e = .returned v' ∧ K'.map toCm = K.map toCm ∧ QmOwn w' W.heap.size v' K' ∧ Below W.heap.size W w' := by
  obtain ⟨i0, hi, hz0, hz1, hz2⟩ := info_parts infoQd
  obtain ⟨j0, hj, hy0, hy1, hy2⟩ := info_parts infoQm
  obtain ⟨ad, cap, rfl⟩ := h.form
  have hKl := hK.1
  have HG : Hid (∀ i q, K[i]? = some q → ∃ g o adw cpw, ad = some ⟨g, o, none⟩ ∧ g < W.heap.size ∧ W.cell? ⟨g, o + i * 2, none⟩ = some (.int .i64 (q.2.1 : Nat)) ∧ W.cell? ⟨g, o + i * 2 + 1, none⟩ = some (.slice adw q.2.2.length cpw) ∧ WdsAt W (.slice adw q.2.2.length cpw) q.2.2 ∧ q.2.2.length ≤ 10000 ∧ ∀ p ∈ q.2.2, p.2.parts.length ≤ 10000) := fun i q hq => by
    obtain ⟨g, o, c, hv, _, hg, x0, x1, hw⟩ := h.get hq
    injection hv with e1 e2 e3
    obtain ⟨adw, cpw, hf⟩ := hw.form
    rw [hf] at x1 hw
    exact ⟨g, o, adw, cpw, e1, hg, x0, x1, hw, hK.2 q (List.mem_of_getElem? hq)⟩
  clear h hK
  go_enter Tryz.func12, Tryz.ntmps12
  go_wp2_with fail
  go_loopw [3, 4] (fun v3 v4 wr => ∃ (i : Nat) (K' : List Mc), i ≤ K.length ∧ v4 = .int .i64 i ∧ Hid (K'.map toCm = (K.take i).map toCm) ∧ Hid (QmOwn wr W.heap.size v3 K') ∧ Hid (Below W.heap.size W wr)) (fun _ v4 _ => K.length - (intOf v4).toNat)
  case atStart => exact ⟨0, [], Nat.zero_le _, rfl, rfl, QmOwn.nil _ _, Below.refl _ _⟩
  case round =>
    obtain ⟨i, K', hi', rfl, HK', HQ, HB⟩ := hrel
    obtain ⟨wo, hwo⟩ : ∃ wo, wo = wr := ⟨_, rfl⟩
    subst hwo
    have hlK : K'.length = i := by
      have := congrArg List.length HK'.out
      simp at this
      omega
    obtain ⟨ad3, cp3, rfl⟩ := HQ.out.form
    rw [hlK] at HQ ⊢
    by_cases hlt : i < K.length
    · have hlt' : (i : Int) < (K.length : Nat) := by omega
      obtain ⟨g, o, adw, cpw, rfl, hg, x0, x1, hw, hwl, hpl⟩ := HG.out i K[i] (List.getElem?_eq_getElem hlt)
      have HT : Hid (K.take (i + 1) = K.take i ++ [K[i]]) := take_one K i hlt
      generalize K[i] = q at x0 x1 hw hwl hpl HT
      obtain ⟨qv, qn, qw⟩ := q
      simp only at x0 x1 hw hwl hpl
      have hzw : W.heap.size ≤ wo.heap.size := HB.out.size
      have HX : Hid (∀ w, Below W.heap.size wo w → w.cell? ⟨g, o + i * 2, none⟩ = some (.int .i64 (qn : Nat)) ∧ w.cell? ⟨g, o + i * 2 + 1, none⟩ = some (.slice adw qw.length cpw)) := fun w hb => ⟨(hb.cell hg).trans ((HB.out.cell hg).trans x0), (hb.cell hg).trans ((HB.out.cell hg).trans x1)⟩
      have HWd : Hid (∀ j p, qw[j]? = some p → ∃ g1 o1 adp cpp, adw = some ⟨g1, o1, none⟩ ∧ (∀ w, Below W.heap.size wo w → w.cell? ⟨g1, o1 + j * 3, none⟩ = some (.int .i64 (p.2.pos : Nat)) ∧ w.cell? ⟨g1, o1 + j * 3 + 1, none⟩ = some (.bool p.2.braced) ∧ w.cell? ⟨g1, o1 + j * 3 + 2, none⟩ = some (.slice adp p.2.parts.length cpp) ∧ PtsAt w (.slice adp p.2.parts.length cpp) p.2.parts) ∧ p.2.parts.length ≤ 10000) := fun j p hp => by
        obtain ⟨g1, o1, c1, hv1, _, hg1, y0, y1, y2, yp⟩ := hw.get hp
        injection hv1 with e1 e2 e3
        obtain ⟨adp, cpp, hf⟩ := yp.form
        rw [hf] at y2 yp
        exact ⟨g1, o1, adp, cpp, e1, fun w hb => ⟨(hb.cell hg1).trans ((HB.out.cell hg1).trans y0), (hb.cell hg1).trans ((HB.out.cell hg1).trans y1), (hb.cell hg1).trans ((HB.out.cell hg1).trans y2), RowAt.below (PtsAt.own yp) (HB.out.trans hb) (Nat.le_refl _)⟩, hpl p (List.mem_of_getElem? hp)⟩
      obtain ⟨c0, c1⟩ := HX.out wo (Below.refl _ _)
      clear x0 x1 hw hpl hg
      go_wp2_with fail
      have k1 := Cel.new wo 51 #[.int .i64 (qn : Nat), .slice none 0 0]
      have k2 := below_new wo (.cells #[.int .i64 (qn : Nat), .slice none 0 0] 51)
      obtain ⟨cb, hcb⟩ : ∃ cb, cb = wo.heap.size := ⟨_, rfl⟩
      have hsz1 : (wo.alloc (.cells #[.int .i64 (qn : Nat), .slice none 0 0] 51)).heap.size = cb + 1 := by rw [hcb]; simp
      rw [← hcb] at k1 k2 hzw ⊢
      have HCB : Hid (cb = wo.heap.size) := hcb
      generalize wo.alloc (.cells #[.int .i64 (qn : Nat), .slice none 0 0] 51) = w1 at k1 k2 hsz1 ⊢
      clear c0 c1 hcb
      go_loopw [6] (fun v6 wr => ∃ (j : Nat) (vq : Value) (Kq : List (Value × Wd)), j ≤ qw.length ∧ v6 = .int .i64 j ∧ Hid (Cel wr cb 51 #[.int .i64 (qn : Nat), vq]) ∧ Hid (QdOwn wr (cb + 1) vq Kq) ∧ Hid (Kq.map Prod.snd = (qw.take j).map Prod.snd) ∧ Hid (Below cb wo wr)) (fun v6 _ => qw.length - (intOf v6).toNat)
      case atStart => exact ⟨0, _, [], Nat.zero_le _, rfl, k1, QdOwn.nil _ _, rfl, k2⟩
      case round =>
        obtain ⟨j, vq, Kq, hj', rfl, HC, HD, HKq, HBi⟩ := hrel
        have hlq : Kq.length = j := by
          have := congrArg List.length HKq.out
          simp at this
          omega
        obtain ⟨adq, cpq, rfl⟩ := HD.out.form
        rw [hlq] at HC HD
        obtain ⟨c0, c1⟩ := HX.out wr (Below.mono HBi.out hzw)
        have e0 := HC.out.cell 0
        have e1 := HC.out.cell 1
        have f1 := HC.out.frozen 1
        have hci := HC.out.lt
        by_cases hjt : j < qw.length
        · have hjt' : (j : Int) < (qw.length : Nat) := by omega
          obtain ⟨g1, o1, adp, cpp, rfl, hread, hpl⟩ := HWd.out j qw[j] (List.getElem?_eq_getElem hjt)
          have HT2 : Hid (qw.take (j + 1) = qw.take j ++ [qw[j]]) := take_one qw j hjt
          generalize qw[j] = p at hread hpl HT2
          obtain ⟨pv, pd⟩ := p
          obtain ⟨pdp, pdb, pds⟩ := pd
          simp only at hread hpl
          have HRd : Hid _ := hread
          obtain ⟨d0, d1, d2, d3⟩ := hread wr (Below.mono HBi.out hzw)
          clear hread
          have HKp : Hid (∀ w, Below (cb + 1) wr w → (w.heap.size ≤ wr.heap.size → w.cell? ⟨cb, 1, none⟩ = some (.slice adq j cpq)) ∧ w.frozen? ⟨cb, 1, none⟩ = false ∧ w.cell? ⟨g, o + i * 2 + 1, none⟩ = some (.slice (some ⟨g1, o1, none⟩) qw.length cpw) ∧ w.cell? ⟨g1, o1 + j * 3, none⟩ = some (.int .i64 (pdp : Nat)) ∧ w.cell? ⟨g1, o1 + j * 3 + 1, none⟩ = some (.bool pdb) ∧ w.cell? ⟨g1, o1 + j * 3 + 2, none⟩ = some (.slice adp pds.length cpp)) := fun w hb => by
            have hb' := (Below.mono HBi.out hzw).trans (Below.mono hb (by omega))
            have hc := HC.out.below hb (by omega)
            obtain ⟨q0, q1, q2, _⟩ := HRd.out w hb'
            exact ⟨fun _ => hc.cell 1, hc.frozen 1, (HX.out w hb').2, q0, q1, q2⟩
          have HDr : Hid (wr.ownsRow (cb + 1) 48 3 (.slice adq j cpq) j (wdCs Kq)) := by
            have := HD.out.row
            rw [hlq] at this
            exact this
          have hjb : (j + 1) * 40 ≤ 140737488355328 := by omega
          go_wp2_with fail
          go_region_law (first
              | (refine if_wanted rfl ?_; go_simp; go_at_call 29; refine Calls.mono (dword_any _ pdp pdb _ pds d3 (Nat.le_trans hpl (by decide))) ?_; rintro e w2 ⟨v2, rfl, hq2, hb2⟩; obtain ⟨ad2, cp2, rfl⟩ := hq2.form; have hk2 : Below (cb + 1) wr w2 := (Below.refl (cb + 1) wr).drew.trans (Below.mono hb2 (by show cb + 1 ≤ wr.heap.size; omega)); have HD2 : Hid (w2.ownsRow (cb + 1) 48 3 (.slice adq j cpq) j (wdCs Kq)) := owns_turn (W := wr.drew) HDr.out (Turn.ofBelow (S := fun _ => False) hb2) (fun _ _ e => e); have hc2 := (HC.out.below hk2 (by omega)).cell 1; have hc3 := fun o => (HC.out.below (hk2.alloc (by have := hk2.size; omega) o) (by omega)).cell 1)
              | (refine step_append_lies _ (by rfl) _ _ 49 (by rfl) (cb + 1) 48 i0 _ 3 40 Tryz.underlying49 hi hz0 hz1 hz2 rfl (by decide) _ _ _ (by rfl) (HD2.out.alloc _) ⟨w2.heap.size, 0, none⟩ 1 1 (wdC (.slice ad2 pds.length cp2, ⟨pdp, pdb, pds⟩)) (by rfl) rfl (cells_new w2 (wdC (.slice ad2 pds.length cp2, ⟨pdp, pdb, pds⟩)) _) (by simp [Value.oneCell']) (by decide) (by have := maxLen_big; omega) hjb (by simp; have := hk2.size; omega) _ rfl ?_; intro g6 cap6 w6 hown hgrow hat hlt6; have hk6 : Below (cb + 1) wr w6 := grown_own (by simp; have := hk2.size; omega) (hk2.alloc (by have := hk2.size; omega) _) (HD2.out.alloc _) hgrow; have hc6 := (HC.out.below hk6 (by omega)).cell 1; have hf6 := (HC.out.below hk6 (by omega)).frozen 1))
          all_goals
            go_wp2_with fail
            refine ⟨⟨j + 1, .slice (some ⟨g6, 0, none⟩) (j + 1) cap6, Kq ++ [((.slice ad2 pds.length cp2 : Value), (⟨pdp, pdb, pds⟩ : Wd))], by omega, rfl, (HC.out.below hk6 (by omega)).set (j := 1) _, qd_next HD.out hlq hb2 hq2 hci _ hown hgrow, ?_, ?_⟩, by simp only [intOf]; omega⟩
            · unfold Hid
              rw [HT2.out, List.map_append, List.map_append, HKq.out]
              rfl
            · exact HBi.out.trans ((show Below cb wr w6 from Below.mono hk6 (Nat.le_succ cb)).setCell (p := ⟨cb, 1, none⟩) (Nat.le_refl _) _)
        · have hjt' : ¬ ((j : Int) < (qw.length : Nat)) := by omega
          obtain rfl : j = qw.length := by omega
          have HKf : Hid (Kq.map Prod.snd = qw.map Prod.snd) := by
            have := HKq.out
            rw [List.take_of_length_le (Nat.le_refl _)] at this
            exact this
          have hQm : Hid (wr.ownsRow W.heap.size 51 2 (.slice ad3 i cp3) i (cmCs K')) := by
            have := (QmOwn.below HQ.out (HCB.out ▸ HBi.out)).row
            rw [hlK] at this
            exact this
          have hib : (i + 1) * 32 ≤ 140737488355328 := by omega
          have hsz : cb < wr.heap.size := hci
          go_wp2_with (at_builtin; refine wpList_append_own_at _ rfl _ _ 28 rfl W.heap.size 51 j0 _ 2 32 Tryz.underlying28 hj hy0 hy1 hy2 rfl (by decide) _ i _ rfl (hQm.out.alloc _) ⟨wr.heap.size, 0, none⟩ 1 1 (cmC (.slice adq qw.length cpq, qn, Kq)) rfl rfl (cells_new wr (cmC (.slice adq qw.length cpq, qn, Kq)) _) (by simp [Value.oneCell']) (by have := maxLen_big; omega) hib (by simp; omega) ?_; intro v6 w6 hown hgrow _ _; obtain ⟨ad6, cap6, rfl⟩ := owns_slice hown)
          have hbw : Below W.heap.size W wr := HB.out.trans (Below.mono HBi.out hzw)
          refine ⟨⟨i + 1, K' ++ [((.slice adq qw.length cpq : Value), qn, Kq)], by omega, rfl, ?_, qm_next HQ.out hlK (HCB.out ▸ HBi.out) HD.out hzw _ hown hgrow, ?_⟩, by simp only [intOf]; omega⟩
          · unfold Hid
            rw [HT.out, List.map_append, List.map_append, HK'.out]
            simp [toCm, HKf.out]
          · exact grown_own (by simp; omega) (hbw.alloc (by omega) _) (hQm.out.alloc _) hgrow
    · have hlt' : ¬ ((i : Int) < (K.length : Nat)) := by omega
      obtain rfl : i = K.length := by omega
      have hK2 : K'.map toCm = K.map toCm := by
        have := HK'.out
        rw [List.take_of_length_le (Nat.le_refl _)] at this
        exact this
      go_wp2_with fail
      go_ret
      exact ⟨_, rfl, K', hK2, HQ.out, HB.out⟩
end Go.Proofs.YtlihkblllakhmaaGreatDoor
