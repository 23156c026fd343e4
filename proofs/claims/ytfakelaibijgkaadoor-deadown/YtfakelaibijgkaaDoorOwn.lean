/- DeadOwn: what is handed in stays, what is answered is new memory. -/
import Derived.Test.YtfakelaibijgkaaDoorDe11
import Derived.Test.YtfakelaibijgkaaDoorMk1
import Derived.Test.YtfakelaibijgkaaDoorOwn5
import Derived.Test.YtfakelaibijgkaaDoorOpenNd
import Derived.Test.YtfakelaibijgkaaDoorSame
namespace Go.Proofs.YtfakelaibijgkaaDoor
open Go.RowKit
attribute [local go_sem] Oper.semAt_some

def hidM : Nd := ⟨-5, 0, 0, 0, []⟩
def zerN : Nd := ⟨0, 0, 0, 0, []⟩
/-- The beginning of a row of one's own. -/
theorem own_front {W : World} {B g cap : Nat} {X : List Nd} {y : Nd} (h : W.ownsRow B 26 5 (.slice (some ⟨g, 0, none⟩) (X.length + 1) cap) (X.length + 1) (ndCs (X ++ [y]))) : NdAt W (.slice (some ⟨g, 0, none⟩) X.length cap) X ∧ W.cell? ⟨g, X.length * 5, none⟩ = some (.int .i64 y.kind) := by
  have hn : NdAt W (.slice (some ⟨g, 0, none⟩) (X ++ [y]).length cap) (X ++ [y]) := NdAt.owned (B := B) (by rw [show (X ++ [y]).length = X.length + 1 by simp]; exact h)
  obtain ⟨g0, o0, cap0, hv0, _, c0, _⟩ := hn.at (j := X.length) (x := y) (by simp)
  injection hv0 with e1 _ _
  cases e1
  refine ⟨?_, by simpa using c0⟩
  rcases hn with ⟨h0, _⟩ | ⟨g', o', cap', hv, hc, hg, hcs⟩
  · simp at h0
  · rw [List.length_map] at hv hc
    cases hv
    rw [show (X ++ [y]).length = X.length + 1 by simp] at hc
    refine .inr ⟨g, 0, cap, by rw [List.length_map], by rw [List.length_map]; omega, hg, fun j cs hj i u hu => ?_⟩
    refine hcs j cs ?_ i u hu
    have hjl := (List.getElem?_eq_some_iff.1 hj).1
    rw [List.length_map] at hjl
    rw [List.getElem?_map] at hj ⊢
    rw [List.getElem?_append_left hjl]
    exact hj
theorem passL_len (X : List Nd) : (passL X).length ≤ X.length := by
  unfold passL
  cases h : checkL X with
  | fine => exact (passD_fits 30 false X (by omega) (fits_of_fine X h).1).2
  | many => exact Nat.le_refl _
  | node i => exact Nat.le_refl _
  | nest i => exact Nat.le_refl _
set_option maxRecDepth 100000 in
set_option maxHeartbeats 4000000 in
theorem own_law (v : Value) (X : List Nd) (W : World) (ea : Nat → Addr) (hE : Ers W ea) (hN : NdAt W v X) (hin : ∀ x ∈ X, NdIn x) :
    Calls Tryd.prog 3 #[v] W fun e w' => e = .returned (.bool true) ∧ Below W.heap.size W w' := by
  obtain ⟨i0, hi0, hz0, hz1, hz2⟩ := info_parts info28
  have HE : Hid (∀ w, Below W.heap.size W w → Ers w ea) := fun w hb => hE.below hb
  have HN : Hid (∀ w, Below W.heap.size W w → NdAt w v X) := fun w hb => hN.below hb (Nat.le_refl _)
  have HF : Hid _ := first_any W ea hE
  have HOK : Hid (∀ x ∈ X, NdOk x) := fun x hx => ⟨by have := (hin x hx).s; omega, (hin x hx).k.2⟩
  obtain ⟨ad, cap, rfl⟩ := hN.form
  clear hE hN hin
  by_cases hl : X.length ≤ 120
  · have hl' : ¬ (120 : Int) < (X.length : Int) := by omega
    go_enter Tryd.func3, Tryd.ntmps3
    go_wp2_with fail
    refine Calls.mono HF.out ?_
    rintro e w1 ⟨rfl, hb1⟩
    have HB1 : Hid (Below W.heap.size W w1) := hb1
    have HC2 : Hid _ := nodes_any (.slice ad X.length cap) X w1 (HN.out _ hb1) (by omega)
    clear hb1 HF
    go_wp2_with fail
    refine Calls.mono HC2.out ?_
    rintro e w2 ⟨v2, rfl, ho2, hb2⟩
    have HO2 : Hid (w2.ownsRow w1.heap.size 26 5 v2 X.length (ndCs X)) := ho2
    have HB2 : Hid (Below W.heap.size W w2) := HB1.out.trans (hb2.mono HB1.out.size)
    have hz12 := hb2.size
    have hw1 := HB1.out.size
    clear hb2 HC2 ho2
    go_wp2_with (at_builtin; refine wpList_append_own_at _ rfl _ _ 22 rfl w1.heap.size 26 i0 _ 5 48 Tryd.underlying22 hi0 hz0 hz1 hz2 rfl (by decide) _ X.length _ rfl (World.ownsRow.alloc HO2.out _) ⟨w2.heap.size, 0, none⟩ 1 1 (ndC hidM) rfl rfl (cells_new w2 _ 26) (ndC_one1 _) (by have := maxLen_big; omega) (by omega) (by simp; omega) ?_; intro v3 w3 hown3 hgrow3 _ _; obtain ⟨g, c3, rfl, hc3, hBg⟩ := owns_some hown3 (by omega); have hc3' : (X.length : Int) ≤ (c3 : Int) := by omega)
    rw [← ndCs_snoc] at hown3
    obtain ⟨hm3, hd3⟩ := own_front hown3
    have hb23 : Below w1.heap.size w2 w3 := grown_own (by simp; omega) ((Below.refl _ w2).alloc (by omega) _) (World.ownsRow.alloc HO2.out _) hgrow3
    have HB3 : Hid (Below W.heap.size W w3) := HB2.out.trans (hb23.mono hw1)
    have HM : Hid (∀ (S : Nat → Prop) w, Turn S w3 w → ¬ S g → NdAt w (.slice (some ⟨g, 0, none⟩) X.length c3) X ∧ w.cell? ⟨g, X.length * 5, none⟩ = some (.int .i64 (-5))) := fun S w hT hS => ⟨hm3.turn hT (fun b hb e => by
      simp [Value.ownBlock] at hb
      subst hb
      exact hS e), (World.cell?_of_block (w := w3) (a := ⟨g, X.length * 5, none⟩) (hT.block g (World.block_lt_of_cell? w3 _ hd3) hS)).trans hd3⟩
    have hgw3 : g < w3.heap.size := World.block_lt_of_cell? w3 _ hd3
    have hcc : (X.length : Int) + 1 ≤ (c3 : Int) := by omega
    obtain ⟨P, hP⟩ : ∃ P, P = passL X := ⟨_, rfl⟩
    have hPl : P.length ≤ 120 := by rw [hP]; have := passL_len X; omega
    have HPass : Hid (∀ w, Below W.heap.size W w → NdAt w (.slice (some ⟨g, 0, none⟩) X.length c3) X → Calls Tryd.prog 9 #[.slice (some ⟨g, 0, none⟩) X.length c3] w fun e w' => ∃ ad cap, e = .returned (.slice ad P.length cap) ∧ NdOwn w' w.heap.size (.slice ad P.length cap) P ∧ Below w.heap.size w w') := fun w hb hm => pass_form _ X P w ea (HE.out _ hb) hm (by omega) HOK.out hP.symm
    have HP3 : Hid _ := HPass.out w3 HB3.out hm3
    clear hm3 hd3 hown3 hgrow3 hb23 hP HOK HE HO2
    refine Calls.mono HP3.out ?_
    rintro e w4 ⟨a4, c4, rfl, ho4, hb4⟩
    have HO4 : Hid (w4.ownsRow w3.heap.size 26 5 (.slice a4 P.length c4) P.length (ndCs P)) := ho4
    have HB34 : Hid (Below w3.heap.size w3 w4) := hb4
    have hz34 := hb4.size
    clear ho4 hb4 HP3
    go_wp2_with (at_builtin; refine wpList_append_own_at _ rfl _ _ 22 rfl w3.heap.size 26 i0 _ 5 48 Tryd.underlying22 hi0 hz0 hz1 hz2 rfl (by decide) _ P.length _ rfl (World.ownsRow.alloc HO4.out _) ⟨w4.heap.size, 0, none⟩ 1 1 (ndC zerN) rfl rfl (cells_new w4 _ 26) (ndC_one1 _) (by have := maxLen_big; omega) (by omega) (by simp; omega) ?_; intro v5 w5 hown5 hgrow5 _ _; obtain ⟨gp, c5, rfl, hc5, hBp⟩ := owns_some hown5 (by omega); have hc5' : (P.length : Int) ≤ (c5 : Int) := by omega)
    rw [← ndCs_snoc] at hown5
    obtain ⟨hp5, hd5⟩ := own_front hown5
    have hgw5 : gp < w5.heap.size := World.block_lt_of_cell? w5 _ hd5
    have HR5 : Hid (PRow w5 gp (P.length + 1)) := PRow.of hown5
    have hb45 : Below w3.heap.size w4 w5 := grown_own (by simp; omega) ((Below.refl _ w4).alloc (by omega) _) (World.ownsRow.alloc HO4.out _) hgrow5
    have HB35 : Hid (Below w3.heap.size w3 w5) := HB34.out.trans hb45
    have HK5 : Hid _ := nodes_any _ P w5 hp5 (by omega)
    have hz35 : w3.heap.size ≤ w5.heap.size := HB35.out.size
    clear hown5 hp5 hd5 hgrow5 hb45 HO4 HB34
    refine Calls.mono HK5.out ?_
    rintro e w6 ⟨v6, rfl, ho6, hb6⟩
    obtain ⟨a6, c6, rfl⟩ := owns_slice ho6
    have HO6 : Hid (NdOwn w6 w5.heap.size (.slice a6 P.length c6) P) := ho6
    have HR6 : Hid (PRow w6 gp (P.length + 1)) := HR5.out.below hb6
    have HB36 : Hid (Below w3.heap.size w3 w6) := HB35.out.trans (hb6.mono hz35)
    have hz56 := hb6.size
    clear ho6 hb6 HK5 HR5 HB35
    go_wp2_with fail
    go_loopw [7] (fun v7 wr => ∃ i : Nat, v7 = .int .i64 i ∧ i ≤ P.length + 1 ∧ Hid (PRow wr gp (P.length + 1)) ∧ Hid (Turn (fun b => b = gp) w6 wr)) (fun v7 _ => P.length + 1 - (intOf v7).toNat)
    case atStart => exact ⟨0, rfl, by omega, HR6.out, Turn.refl _ _⟩
    case round =>
      obtain ⟨i, rfl, hi, HR, HT⟩ := hrel
      by_cases hlt : i < P.length + 1
      · have hlt' : (i : Int) < (P.length : Int) + 1 := by omega
        have hlt2 : (i : Int) < ((P.length + 1 : Nat) : Int) := by omega
        obtain ⟨u0, e0, f0⟩ := HR.out.at (i * 5) (by omega)
        obtain ⟨u1, e1, f1⟩ := HR.out.at (i * 5 + 1) (by omega)
        obtain ⟨u2, e2, f2⟩ := HR.out.at (i * 5 + 2) (by omega)
        obtain ⟨u3, e3, f3⟩ := HR.out.at (i * 5 + 3) (by omega)
        obtain ⟨u4, e4, f4⟩ := HR.out.at (i * 5 + 4) (by omega)
        go_wp2_with fail
        exact ⟨⟨i + 1, by simp, by omega, ((((HR.out.set _ _).set _ _).set _ _).set _ _).set _ _, ((((HT.out.setCell (p := ⟨gp, i * 5, none⟩) (fun _ => rfl) _).setCell (p := ⟨gp, i * 5 + 1, none⟩) (fun _ => rfl) _).setCell (p := ⟨gp, i * 5 + 2, none⟩) (fun _ => rfl) _).setCell (p := ⟨gp, i * 5 + 3, none⟩) (fun _ => rfl) _).setCell (p := ⟨gp, i * 5 + 4, none⟩) (fun _ => rfl) _⟩, by simp [intOf]; omega⟩
      · have hlt' : ¬ (i : Int) < (P.length : Int) + 1 := by omega
        have hT3 : Turn (fun b => b = gp ∨ w3.heap.size ≤ b) w3 wr := Turn.trans (Turn.mono (Turn.ofBelow (S := fun _ => False) HB36.out) (fun _ h => h.elim)) HT.out (fun j hj _ => Or.inl hj)
        obtain ⟨hm, hd⟩ := HM.out _ wr hT3 (by omega)
        have hbr : Below W.heap.size W wr := HB3.out.trans (hT3.below (fun j hj => by have := HB3.out.size; omega) HB3.out.size)
        have HBr : Hid (Below W.heap.size W wr) := hbr
        have HMm : Hid (∀ w, Below wr.heap.size wr w → NdAt w (.slice (some ⟨g, 0, none⟩) X.length c3) X ∧ w.cell? ⟨g, X.length * 5, none⟩ = some (.int .i64 (-5))) := fun w hb => ⟨hm.below hb (Nat.le_refl _), (hb.cell (p := ⟨g, X.length * 5, none⟩) (World.block_lt_of_cell? wr _ hd)).trans hd⟩
        have ho6r : NdOwn wr w5.heap.size (.slice a6 P.length c6) P := owns_turn HO6.out HT.out (fun b hb e => by
          have := (World.ownsRow.lt HO6.out b hb).1
          omega)
        have HKe : Hid (∀ w, Below wr.heap.size wr w → NdAt w (.slice a6 P.length c6) P) := fun w hb => ho6r.at.below hb (Nat.le_refl _)
        have HS1 : Hid _ := sameNodes_any (.slice (some ⟨g, 0, none⟩) X.length c3) (.slice ad X.length cap) X X wr hm (HN.out _ hbr) (by omega)
        rw [sameNs_true rfl] at HS1
        clear hT3 hm hd hbr ho6r HR HR6
        go_wp2_with fail
        refine Calls.mono HS1.out ?_
        rintro e w7 ⟨rfl, hb7⟩
        obtain ⟨hm7, hd7⟩ := HMm.out w7 hb7
        have HB7 : Hid (Below W.heap.size W w7) := HBr.out.trans (hb7.mono HBr.out.size)
        have HBB7 : Hid (Below wr.heap.size wr w7) := hb7
        have HP7 : Hid _ := HPass.out w7 HB7.out hm7
        clear hb7 HS1 hm7 HMm
        go_wp2_with fail
        refine Calls.mono HP7.out ?_
        rintro e w8 ⟨a8, c8, rfl, ho8, hb8⟩
        have HB8 : Hid (Below W.heap.size W w8) := HB7.out.trans (hb8.mono HB7.out.size)
        have HS2 : Hid _ := sameNodes_any (.slice a8 P.length c8) (.slice a6 P.length c6) P P w8 ho8.at (HKe.out w8 (HBB7.out.trans (hb8.mono HBB7.out.size))) (by omega)
        rw [sameNs_true rfl] at HS2
        clear ho8 hb8 HP7 hd7
        go_wp2_with fail
        refine Calls.mono HS2.out ?_
        rintro e w9 ⟨rfl, hb9⟩
        have HB9 : Hid (Below W.heap.size W w9) := HB8.out.trans (hb9.mono HB8.out.size)
        clear hb9 HS2
        go_wp2_with fail
        go_ret
        exact ⟨rfl, HB9.out⟩
  · have hl' : (120 : Int) < (X.length : Int) := by omega
    go_enter Tryd.func3, Tryd.ntmps3
    go_wp2_with fail
    refine Calls.mono HF.out ?_
    rintro e w1 ⟨rfl, hb1⟩
    have HB1 : Hid (Below W.heap.size W w1) := hb1
    clear hb1 HF
    go_wp2_with fail
    go_ret
    exact ⟨rfl, HB1.out⟩
end Go.Proofs.YtfakelaibijgkaaDoor
