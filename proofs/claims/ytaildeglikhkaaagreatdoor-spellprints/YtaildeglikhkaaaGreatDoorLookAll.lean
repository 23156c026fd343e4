/- The document's own check: what is fine is a tree. -/
import Derived.Test.YtaildeglikhkaaaGreatDoorRefAll
import Derived.Test.YtaildeglikhkaaaGreatDoorTree
import Derived.OrdersHeld
import Derived.Deep.RegionHeld
import Derived.Deep.Cut
import Derived.Test.YtaildeglikhkaaaGreatDoorOpenAll
import Derived.Deep.CutBlock
/-! The document's own look at programs: a node whose child does not fit. -/
namespace Go.Proofs.YtaildeglikhkaaaGreatDoor
open Go.RowKit
attribute [local go_sem] Oper.semAt_some

/-- A fault of this code is answered. -/
def FaultC (e : Ending) (c : Int) : Prop := ∃ ad nn cp, e = .returned (.agg #[.int .i64 c, .slice ad nn cp])
/-- What it means that a node is fine. -/
def LookP (X : List Nd) (at_ most : Nat) (fin : Int) (d : Nat) (c : Int) : Prop := c = 0 → ∃ (m : Nat) (x : Nd), X[at_]? = some x ∧ x.size = m ∧ 1 ≤ m ∧ at_ + m ≤ most ∧ (0 ≤ fin → (at_ : Int) + m = fin) ∧ Seg d ((X.drop at_).take m)
def LookC (v : Value) (X : List Nd) (d : Nat) : Prop := ∀ (at_ most : Nat) (fin : Int) (cmd : Bool) (W : World), NdAt W v X → at_ < most → most ≤ X.length → -1 ≤ fin → fin ≤ X.length →
  Calls Tryz.prog 37 #[v, .int .i64 at_, .int .i64 fin, .int .i64 most, .int .i64 (31 - d : Int), .bool cmd] W fun e w' => ∃ c, FaultC e c ∧ LookP X at_ most fin d c ∧ Below W.heap.size W w'
/-- So many children, one behind the other, each of which fits. -/
def reachN (X : List Nd) (fin : Nat) : Nat → Nat → Nat → Prop
  | 0, k0, k => k = k0
  | i + 1, k0, k => ∃ k', reachN X fin i k0 k' ∧ ∃ y : Nd, X[k']? = some y ∧ 1 ≤ y.size ∧ (k' : Int) + y.size ≤ fin ∧ (k : Int) = k' + y.size
theorem reach_fun (X : List Nd) (fin k0 : Nat) : ∀ (i a b : Nat), reachN X fin i k0 a → reachN X fin i k0 b → a = b
  | 0, a, b, h1, h2 => h1.trans h2.symm
  | i + 1, a, b, ⟨a', h1, y, hy, _, _, ha⟩, ⟨b', h2, z, hz, _, _, hb⟩ => by
    have := reach_fun X fin k0 i a' b' h1 h2
    subst this
    rw [hy] at hz
    cases hz
    omega
theorem reach_ge (X : List Nd) (fin k0 : Nat) : ∀ (i a : Nat), reachN X fin i k0 a → k0 ≤ a
  | 0, a, h => by rw [show a = k0 from h]; exact Nat.le_refl _
  | i + 1, a, ⟨a', h1, y, _, h2, _, h3⟩ => by have := reach_ge X fin k0 i a' h1; omega
/-- Each of those ahead lies within. -/
theorem reach_lt (X : List Nd) (fin k0 : Nat) : ∀ (b kb : Nat), reachN X fin b k0 kb → kb < fin → ∀ i k, i ≤ b → reachN X fin i k0 k → k < fin
  | 0, kb, h, hlt, i, k, hi, hk => by
    obtain rfl : i = 0 := by omega
    rw [reach_fun X fin k0 0 k kb hk h]
    exact hlt
  | b + 1, kb, h, hlt, i, k, hi, hk => by
    by_cases hb : i = b + 1
    · subst hb
      rw [reach_fun X fin k0 _ k kb hk h]
      exact hlt
    · obtain ⟨k', h1, y, _, h2, h3, _⟩ := h
      exact reach_lt X fin k0 b k' h1 (by omega) i k (by omega) hk
/-- What is told of the node. -/
def ToldL (b : Nat) (kd K sz : Int) (W : World) : Prop := W.cell? ⟨b, 0, none⟩ = some (.int .i64 kd) ∧ W.cell? ⟨b, 2, none⟩ = some (.int .i64 K) ∧ W.cell? ⟨b, 3, none⟩ = some (.int .i64 sz)
theorem fault_ret {W' : World} {b : Nat} {c : Int} {ad : Option Addr} {nn cp : Nat} {u v : Value} (hc : Cel W' b 31 #[u, v]) :
    Cel ((W'.setCell ⟨b, 0, none⟩ (.int .i64 c)).setCell ⟨b, 1, none⟩ (.slice ad nn cp)) b 31 #[.int .i64 c, .slice ad nn cp] := by
  have := (hc.set (j := 0) (.int .i64 c)).set (j := 1) (.slice ad nn cp)
  simpa using this
set_option maxRecDepth 100000 in
set_option maxHeartbeats 4000000 in
theorem early_deep (v : Value) (X : List Nd) (at_ bad : Nat) (W : World) (hN : NdAt W v X) (hat : at_ < X.length) :
    Calls Tryz.prog 59 #[v, .int .i64 at_, .int .i64 31, .int .i64 bad] W fun e w' => ∃ c, FaultC e c ∧ c ≠ 0 ∧ Below W.heap.size W w' := by
  obtain ⟨x, hx⟩ : ∃ x, X[at_]? = some x := ⟨_, List.getElem?_eq_getElem hat⟩
  have hN1 := hN.below (below_new W (.cells #[.int .i64 0, .slice none 0 0] 31)) (Nat.le_refl _)
  obtain ⟨g, o, cap, hv, hg, c0, c1, c2, c3, c4⟩ := hN1.at hx
  subst hv
  obtain ⟨kd, nn, K, sz, s⟩ := x
  simp only at c0 c1 c2 c3 c4
  clear hN hN1 hx
  go_enter Tryz.func59, Tryz.ntmps59
  go_upto_region 2 with fail
  obtain ⟨w1, hw1⟩ : ∃ w1, w1 = (W.alloc (.cells #[.int .i64 0, .slice none 0 0] 31)).alloc (.cells #[.int .i64 kd, .int .i64 nn, .int .i64 K, .int .i64 sz, str s] 50) := ⟨_, rfl⟩
  have hb1 : Below W.heap.size W w1 := by rw [hw1]; exact (below_new W _).alloc (below_new W _).size _
  have CR : Cel w1 W.heap.size 31 #[.int .i64 0, .slice none 0 0] := by
    rw [hw1]
    exact (Cel.new W 31 _).turn (Turn.ofBelow (S := fun _ => False) (below_new _ _)) (fun h => h)
  have CX : Cel w1 (W.heap.size + 1) 50 #[.int .i64 kd, .int .i64 nn, .int .i64 K, .int .i64 sz, str s] := by
    rw [hw1, show W.heap.size + 1 = (W.alloc (.cells #[.int .i64 0, .slice none 0 0] 31)).heap.size by simp]
    exact Cel.new _ 50 _
  rw [← hw1]
  clear hw1 c0 c1 c2 c3 c4
  have CRR := CR
  go_wp2_with fail
  refine (placed_any 102 _ (by decide) _).mono ?_
  rintro e wl ⟨fb, rfl, hfb, _, hbl'⟩
  have hbl0 := hb1.trans (hbl'.mono hb1.size)
  have CL : Cel wl W.heap.size 31 #[.int .i64 0, .slice none 0 0] := CRR.below hbl' CRR.lt
  have l1 := CL.cell 0
  have l2 := CL.cell 1
  have l3 := CL.frozen 0
  have l4 := CL.frozen 1
  have HFR : Hid (Cel ((wl.setCell ⟨W.heap.size, 0, none⟩ (.int .i64 102)).setCell ⟨W.heap.size, 1, none⟩ (.slice (some ⟨fb, 0, none⟩) 1 1)) W.heap.size 31 #[.int .i64 102, .slice (some ⟨fb, 0, none⟩) 1 1]) := fault_ret CL
  have hbl : Below W.heap.size W ((wl.setCell ⟨W.heap.size, 0, none⟩ (.int .i64 102)).setCell ⟨W.heap.size, 1, none⟩ (.slice (some ⟨fb, 0, none⟩) 1 1)) := (hbl0.setCell (p := ⟨W.heap.size, 0, none⟩) (Nat.le_refl _) _).setCell (p := ⟨W.heap.size, 1, none⟩) (Nat.le_refl _) _
  clear CL hfb
  go_wp2_with fail
  refine bodyPost_ret (results_cell_row (p := 8) (ty := 31) rfl _ _ W.heap.size 31 _ (0, 0) _ rfl HFR.out Tryz.underlying31 rfl size33) rfl ?_
  exact ⟨_, ⟨_, _, _, rfl⟩, by decide, hbl⟩

set_option maxRecDepth 100000 in
set_option maxHeartbeats 8000000 in
theorem early_any (v : Value) (X : List Nd) (hl : X.length < 4294967296) (d : Nat) (hd : d < 30) (IH : LookC v X d) (at_ bad m : Nat) (x : Nd) (hx : X[at_]? = some x) (hm : x.size = m) (ham : at_ + m ≤ X.length) (kb : Nat) (hkb : reachN X (at_ + m) bad (at_ + 1) kb) (hkl : kb < at_ + m) (hbad : bad < 4294967296) (W : World) (hN : NdAt W v X) :
    Calls Tryz.prog 59 #[v, .int .i64 at_, .int .i64 (30 - d : Int), .int .i64 bad] W fun e w' => ∃ c, FaultC e c ∧ c ≠ 0 ∧ Below W.heap.size W w' := by
  have HNW : Hid (∀ W', Below W.heap.size W W' → NdAt W' v X) := fun W' hb => hN.below hb (Nat.le_refl _)
  have HIH : Hid (LookC v X d) := IH
  have HRL : Hid (∀ i k, i ≤ bad → reachN X (at_ + m) i (at_ + 1) k → k < at_ + m) := reach_lt X (at_ + m) (at_ + 1) bad kb hkb hkl
  have hN1 := hN.below (below_new W (.cells #[.int .i64 0, .slice none 0 0] 31)) (Nat.le_refl _)
  obtain ⟨g, o, cap, hv, hg, c0, c1, c2, c3, c4⟩ := hN1.at hx
  subst hv
  obtain ⟨kd, nn, K, sz, s⟩ := x
  simp only at c0 c1 c2 c3 c4 hm
  subst hm
  have hatl : at_ < X.length := (List.getElem?_eq_some_iff.1 hx).1
  clear hN hN1 hx IH hkb hkl
  have hd30 : ¬ (30 : Int) < 30 - (d : Int) := by omega
  go_enter Tryz.func59, Tryz.ntmps59
  go_upto_region 2 with fail
  obtain ⟨w1, hw1⟩ : ∃ w1, w1 = (W.alloc (.cells #[.int .i64 0, .slice none 0 0] 31)).alloc (.cells #[.int .i64 kd, .int .i64 nn, .int .i64 K, .int .i64 (m : Nat), str s] 50) := ⟨_, rfl⟩
  have hb1 : Below W.heap.size W w1 := by rw [hw1]; exact (below_new W _).alloc (below_new W _).size _
  have CR : Cel w1 W.heap.size 31 #[.int .i64 0, .slice none 0 0] := by
    rw [hw1]
    exact (Cel.new W 31 _).turn (Turn.ofBelow (S := fun _ => False) (below_new _ _)) (fun h => h)
  have CX : Cel w1 (W.heap.size + 1) 50 #[.int .i64 kd, .int .i64 nn, .int .i64 K, .int .i64 (m : Nat), str s] := by
    rw [hw1, show W.heap.size + 1 = (W.alloc (.cells #[.int .i64 0, .slice none 0 0] 31)).heap.size by simp]
    exact Cel.new _ 50 _
  rw [← hw1]
  clear hw1 c0 c1 c2 c3 c4
  go_wp2_with fail
  go_loopw [10, 11] (fun v10 v11 wr => ∃ i k : Nat, v11 = .int .i64 i ∧ v10 = .int .i64 k ∧ i ≤ bad + 1 ∧ Hid (reachN X (at_ + m) i (at_ + 1) k) ∧ Below w1.heap.size w1 wr) (fun _ v11 _ => bad + 1 - (intOf v11).toNat)
  case atStart => exact ⟨0, at_ + 1, rfl, by simp, by omega, rfl, Below.refl _ _⟩
  case round =>
    obtain ⟨i, k, rfl, rfl, hi, HR, hbr⟩ := hrel
    have hbw := hb1.trans (hbr.mono hb1.size)
    have CRR : Cel wr W.heap.size 31 #[.int .i64 0, .slice none 0 0] := CR.below hbr CR.lt
    have HCX : Hid (Cel wr (W.heap.size + 1) 50 #[.int .i64 kd, .int .i64 nn, .int .i64 K, .int .i64 (m : Nat), str s]) := CX.below hbr CX.lt
    by_cases hib : i ≤ bad
    · have hib' : (i : Int) ≤ (bad : Int) := by omega
      have hkf : k < at_ + m := HRL.out i k hib HR.out
      obtain ⟨y, hy⟩ : ∃ y, X[k]? = some y := ⟨_, List.getElem?_eq_getElem (by omega)⟩
      have HY : Hid (X[k]? = some y) := hy
      have HS : Hid (∀ W', Below wr.heap.size wr W' → ToldL (W.heap.size + 1) kd K (m : Nat) W') := fun W' hb => by
        have := Cel.below HCX.out hb HCX.out.lt
        exact ⟨this.cell 0, this.cell 2, this.cell 3⟩
      have hcl := CRR
      have HLK : Hid (∀ W' cm, Below wr.heap.size wr W' → Calls Tryz.prog 37 #[.slice (some ⟨g, o, none⟩) X.length cap, .int .i64 k, .int .i64 (-1), .int .i64 ((at_ : Int) + (m : Nat)), .int .i64 (30 - (d : Int) + 1), .bool cm] W' fun e w' => ∃ c, FaultC e c ∧ LookP X k (at_ + m) (-1) d c ∧ Below W'.heap.size W' w') := fun W' cm hb => by
        have := HIH.out k (at_ + m) (-1) cm W' (HNW.out _ (hbw.trans (hb.mono hbw.size))) hkf ham (by omega) (by omega)
        rw [show (31 - (d : Int)) = 30 - (d : Int) + 1 by omega] at this
        simpa using this
      clear hy CRR
      go_upto_region 8 with fail
      go_cut [12] from 28 to 42 (fun v12 wx => ∃ (bf : Nat) (c : Int) (ad : Option Addr) (n2 cp : Nat), v12 = .pointer (some ⟨bf, 0, none⟩) ∧ Hid (Cel wx bf 31 #[.int .i64 c, .slice ad n2 cp] ∧ LookP X k (at_ + m) (-1) d c ∧ Below wr.heap.size wr wx))
      case first => as_aux_lemma =>
        refine wp_region_held (S := ToldL (W.heap.size + 1) kd K (m : Nat)) (by kernel_rfl) ?_
        change wpAnyH _ _ _ _ _ _ _ _ (World.drew _)
        have hbd : Below wr.heap.size wr (World.drew wr) := ⟨rfl, rfl, rfl, Nat.le_refl _, fun _ _ => rfl⟩
        have hS0 := HS.out _ hbd
        refine wpAnyH_take (i := 0) (v := .slice (some ⟨g, o, none⟩) X.length cap) rfl (by kernel_rfl) (by kernel_rfl) (by kernel_rfl) (fun _ _ _ h => h) (Yields.yieldsIf (Or.inl ⟨by rfl, by intro wz; go_simp⟩)) hS0 ?_
        try simp only [Act.put, List.getElem_toArray, List.getElem_cons_zero, List.setIfInBounds_toArray, List.set_cons_zero, List.set_cons_succ]
        refine wpAnyH_take (i := 1) (v := .int .i64 (k : Nat)) rfl (by kernel_rfl) (by kernel_rfl) (by kernel_rfl) (fun _ _ _ h => h) (Yields.yieldsIf (Or.inl ⟨by rfl, by intro wz; go_simp⟩)) hS0 ?_
        try simp only [Act.put, List.getElem_toArray, List.getElem_cons_succ, List.getElem_cons_zero, List.setIfInBounds_toArray, List.set_cons_zero, List.set_cons_succ]
        refine wpAnyH_take (i := 2) (v := .int .i64 (at_ : Nat)) rfl (by kernel_rfl) (by kernel_rfl) (by kernel_rfl) (fun _ _ _ h => h) (Yields.yieldsIf (Or.inl ⟨by rfl, by intro wz; go_simp⟩)) hS0 ?_
        try simp only [Act.put, List.getElem_toArray, List.getElem_cons_succ, List.getElem_cons_zero, List.setIfInBounds_toArray, List.set_cons_zero, List.set_cons_succ]
        refine wpAnyH_take (i := 3) (v := .pointer (some ⟨W.heap.size + 1, 3, none⟩)) rfl (by kernel_rfl) (by kernel_rfl) (by kernel_rfl) (fun _ _ _ h => h) (Yields.yieldsIf (Or.inl ⟨by rfl, by intro wz; go_simp⟩)) hS0 ?_
        try simp only [Act.put, List.getElem_toArray, List.getElem_cons_succ, List.getElem_cons_zero, List.setIfInBounds_toArray, List.set_cons_zero, List.set_cons_succ]
        refine wpAnyH_take (i := 4) (v := .int .i64 (m : Nat)) rfl (by kernel_rfl) (by kernel_rfl) (by kernel_rfl) (fun _ _ _ h => h) (Or.inl ⟨by rfl, fun wz hS => by obtain ⟨s1, s2, s3⟩ := hS; go_simp⟩) hS0 ?_
        try simp only [Act.put, List.getElem_toArray, List.getElem_cons_succ, List.getElem_cons_zero, List.setIfInBounds_toArray, List.set_cons_zero, List.set_cons_succ]
        refine wpAnyH_take (i := 5) (v := .int .i64 ((at_ : Int) + (m : Nat))) rfl (by kernel_rfl) (by kernel_rfl) (by kernel_rfl) (fun _ _ _ h => h) (Yields.yieldsIf (Or.inl ⟨by rfl, by intro wz; go_simp; try (rw [IntKind.wrap_i64]; omega)⟩)) hS0 ?_
        try simp only [Act.put, List.getElem_toArray, List.getElem_cons_succ, List.getElem_cons_zero, List.setIfInBounds_toArray, List.set_cons_zero, List.set_cons_succ]
        refine wpAnyH_take (i := 6) (v := .int .i64 (30 - (d : Int))) rfl (by kernel_rfl) (by kernel_rfl) (by kernel_rfl) (fun _ _ _ h => h) (Yields.yieldsIf (Or.inl ⟨by rfl, by intro wz; go_simp⟩)) hS0 ?_
        try simp only [Act.put, List.getElem_toArray, List.getElem_cons_succ, List.getElem_cons_zero, List.setIfInBounds_toArray, List.set_cons_zero, List.set_cons_succ]
        refine wpAnyH_take (i := 7) (v := .int .i64 (30 - (d : Int) + 1)) rfl (by kernel_rfl) (by kernel_rfl) (by kernel_rfl) (fun _ _ _ h => h) (Yields.yieldsIf (Or.inl ⟨by rfl, by intro wz; go_simp; try (rw [IntKind.wrap_i64]; omega)⟩)) hS0 ?_
        try simp only [Act.put, List.getElem_toArray, List.getElem_cons_succ, List.getElem_cons_zero, List.setIfInBounds_toArray, List.set_cons_zero, List.set_cons_succ]
        refine wpAnyH_take (i := 8) (v := .pointer (some ⟨W.heap.size + 1, 0, none⟩)) rfl (by kernel_rfl) (by kernel_rfl) (by kernel_rfl) (fun _ _ _ h => h) (Yields.yieldsIf (Or.inl ⟨by rfl, by intro wz; go_simp⟩)) hS0 ?_
        try simp only [Act.put, List.getElem_toArray, List.getElem_cons_succ, List.getElem_cons_zero, List.setIfInBounds_toArray, List.set_cons_zero, List.set_cons_succ]
        refine wpAnyH_take (i := 9) (v := .int .i64 kd) rfl (by kernel_rfl) (by kernel_rfl) (by kernel_rfl) (fun _ _ _ h => h) (Or.inl ⟨by rfl, fun wz hS => by obtain ⟨s1, s2, s3⟩ := hS; go_simp⟩) hS0 ?_
        try simp only [Act.put, List.getElem_toArray, List.getElem_cons_succ, List.getElem_cons_zero, List.setIfInBounds_toArray, List.set_cons_zero, List.set_cons_succ]
        refine wpAnyH_take (i := 10) (v := .int .i64 (i : Nat)) rfl (by kernel_rfl) (by kernel_rfl) (by kernel_rfl) (fun _ _ _ h => h) (Yields.yieldsIf (Or.inl ⟨by rfl, by intro wz; go_simp⟩)) hS0 ?_
        try simp only [Act.put, List.getElem_toArray, List.getElem_cons_succ, List.getElem_cons_zero, List.setIfInBounds_toArray, List.set_cons_zero, List.set_cons_succ]
        refine wpAnyH_take (i := 11) (v := .pointer (some ⟨W.heap.size + 1, 2, none⟩)) rfl (by kernel_rfl) (by kernel_rfl) (by kernel_rfl) (fun _ _ _ h => h) (Yields.yieldsIf (Or.inl ⟨by rfl, by intro wz; go_simp⟩)) hS0 ?_
        try simp only [Act.put, List.getElem_toArray, List.getElem_cons_succ, List.getElem_cons_zero, List.setIfInBounds_toArray, List.set_cons_zero, List.set_cons_succ]
        refine wpAnyH_take (i := 12) (v := .int .i64 K) rfl (by kernel_rfl) (by kernel_rfl) (by kernel_rfl) (fun _ _ _ h => h) (Or.inl ⟨by rfl, fun wz hS => by obtain ⟨s1, s2, s3⟩ := hS; go_simp⟩) hS0 ?_
        try simp only [Act.put, List.getElem_toArray, List.getElem_cons_succ, List.getElem_cons_zero, List.setIfInBounds_toArray, List.set_cons_zero, List.set_cons_succ]
        refine wpAnyH_ready (rs := [13, 15]) (by kernel_rfl) (by simp) ?_
        refine AllReadyH.cons rfl (fun K' hK => ?_) ?_
        · go_simp
          refine (refcommand_any _ _ _ _).mono ?_
          rintro e w' ⟨⟨cm, rfl⟩, rfl⟩
          refine hK.out _ _ (HS.out _ hbd) (fun _ => ?_)
          clear hK K'
          try simp only [Act.put, List.getElem_toArray, List.getElem_cons_succ, List.getElem_cons_zero, List.setIfInBounds_toArray, List.set_cons_zero, List.set_cons_succ]
          refine wpAnyH_ready (rs := [14, 15]) (by kernel_rfl) (by simp) ?_
          refine AllReadyH.cons rfl (fun K' hK => ?_) ?_
          · go_simp
            refine Calls.mono (HLK.out _ cm hbd) ?_
            rintro e w2 ⟨c, ⟨adf, nf, cf, rfl⟩, hlp, hb2'⟩
            have hb2 := hbd.trans (hb2'.mono hbd.size)
            refine hK.out _ _ (HS.out _ hb2) (fun _ => ?_)
            clear hK K'
            try simp only [Act.put, List.getElem_toArray, List.getElem_cons_succ, List.getElem_cons_zero, List.setIfInBounds_toArray, List.set_cons_zero, List.set_cons_succ]
            refine wpAnyH_ready (rs := [15]) (by kernel_rfl) (by simp) ?_
            refine AllReadyH.cons rfl (fun K' hK => ?_) AllReadyH.nil
            go_simp
            have hb3 := hb2.alloc hb2.size (.cells #[.int .i64 0, .slice none 0 0] 31)
            have CF : Cel (w2.alloc (.cells #[.int .i64 0, .slice none 0 0] 31)) w2.heap.size 31 #[.int .i64 0, .slice none 0 0] := Cel.new _ _ _
            refine hK.out _ _ (HS.out _ hb3) (fun _ => ?_)
            clear hK K'
            try simp only [Act.put, List.getElem_toArray, List.getElem_cons_succ, List.getElem_cons_zero, List.setIfInBounds_toArray, List.set_cons_zero, List.set_cons_succ]
            refine wpAnyH_ready (rs := [16]) (by kernel_rfl) (by simp) ?_
            refine AllReadyH.cons rfl (fun K' hK => ?_) AllReadyH.nil
            have HF : Hid (Cel (w2.alloc (.cells #[.int .i64 c, .slice adf nf cf] 31)) w2.heap.size 31 #[.int .i64 c, .slice adf nf cf] ∧ Below wr.heap.size wr (w2.alloc (.cells #[.int .i64 c, .slice adf nf cf] 31))) := ⟨Cel.new _ _ _, hb2.alloc hb2.size _⟩
            have hS5 := HS.out _ HF.out.2
            clear CF
            go_simp
            refine hK.out _ _ hS5 (fun _ => ?_)
            clear hK K'
            refine wpAnyH_done (by kernel_rfl) ?_ _
            go_wp2_with fail
            go_meet
            case rel => exact ⟨_, c, adf, nf, cf, rfl, HF.out.1, hlp, HF.out.2⟩
          refine AllReadyH.cons rfl (fun K' hK => ?_) AllReadyH.nil
          go_simp
          have hba := hbd.alloc hbd.size (.cells #[.int .i64 0, .slice none 0 0] 31)
          have CFa : Cel (World.alloc (World.drew wr) (.cells #[.int .i64 0, .slice none 0 0] 31)) wr.heap.size 31 #[.int .i64 0, .slice none 0 0] := Cel.new (World.drew wr) _ _
          refine hK.out _ _ (HS.out _ hba) (fun _ => ?_)
          clear hK K'
          try simp only [Act.put, List.getElem_toArray, List.getElem_cons_succ, List.getElem_cons_zero, List.setIfInBounds_toArray, List.set_cons_zero, List.set_cons_succ]
          refine wpAnyH_ready (rs := [14]) (by kernel_rfl) (by simp) ?_
          refine AllReadyH.cons rfl (fun K' hK => ?_) AllReadyH.nil
          go_simp
          refine Calls.mono (HLK.out _ cm hba) ?_
          rintro e w2 ⟨c, ⟨adf, nf, cf, rfl⟩, hlp, hb2'⟩
          have hb2 := hba.trans (hb2'.mono hba.size)
          refine hK.out _ _ (HS.out _ hb2) (fun _ => ?_)
          clear hK K'
          try simp only [Act.put, List.getElem_toArray, List.getElem_cons_succ, List.getElem_cons_zero, List.setIfInBounds_toArray, List.set_cons_zero, List.set_cons_succ]
          have CF : Cel w2 wr.heap.size 31 #[.int .i64 0, .slice none 0 0] := Cel.below CFa hb2' CFa.lt
          have hb3 := hb2
          refine wpAnyH_ready (rs := [16]) (by kernel_rfl) (by simp) ?_
          refine AllReadyH.cons rfl (fun K' hK => ?_) AllReadyH.nil
          have c1 := CF.cell 0
          have c2 := CF.cell 1
          have f1 := CF.frozen 0
          have f2 := CF.frozen 1
          have CF2 := (CF.set (j := 0) (.int .i64 c)).set (j := 1) (.slice adf nf cf)
          have hbf : wr.heap.size ≤ wr.heap.size := Nat.le_refl _
          have hb5 := (hb3.setCell (p := ⟨wr.heap.size, 0, none⟩) hbf (.int .i64 c)).setCell (p := ⟨wr.heap.size, 1, none⟩) hbf (.slice adf nf cf)
          have HF : Hid (Cel _ wr.heap.size 31 #[.int .i64 c, .slice adf nf cf] ∧ Below wr.heap.size wr _) := ⟨CF2, hb5⟩
          have hS5 := HS.out _ hb5
          clear CF CF2 hb5
          go_simp
          refine hK.out _ _ hS5 (fun _ => ?_)
          clear hK K'
          refine wpAnyH_done (by kernel_rfl) ?_ _
          go_wp2_with fail
          go_meet
          case rel => exact ⟨_, c, adf, nf, cf, rfl, HF.out.1, hlp, HF.out.2⟩
        refine AllReadyH.cons rfl (fun K' hK => ?_) AllReadyH.nil
        go_simp
        have hba := hbd.alloc hbd.size (.cells #[.int .i64 0, .slice none 0 0] 31)
        have CFa : Cel (World.alloc (World.drew wr) (.cells #[.int .i64 0, .slice none 0 0] 31)) wr.heap.size 31 #[.int .i64 0, .slice none 0 0] := Cel.new (World.drew wr) _ _
        refine hK.out _ _ (HS.out _ hba) (fun _ => ?_)
        clear hK K'
        try simp only [Act.put, List.getElem_toArray, List.getElem_cons_succ, List.getElem_cons_zero, List.setIfInBounds_toArray, List.set_cons_zero, List.set_cons_succ]
        refine wpAnyH_ready (rs := [13]) (by kernel_rfl) (by simp) ?_
        refine AllReadyH.cons rfl (fun K' hK => ?_) AllReadyH.nil
        go_simp
        refine (refcommand_any _ _ _ _).mono ?_
        rintro e w' ⟨⟨cm, rfl⟩, rfl⟩
        refine hK.out _ _ (HS.out _ hba) (fun _ => ?_)
        clear hK K'
        try simp only [Act.put, List.getElem_toArray, List.getElem_cons_succ, List.getElem_cons_zero, List.setIfInBounds_toArray, List.set_cons_zero, List.set_cons_succ]
        refine wpAnyH_ready (rs := [14]) (by kernel_rfl) (by simp) ?_
        refine AllReadyH.cons rfl (fun K' hK => ?_) AllReadyH.nil
        go_simp
        refine Calls.mono (HLK.out _ cm hba) ?_
        rintro e w2 ⟨c, ⟨adf, nf, cf, rfl⟩, hlp, hb2'⟩
        have hb2 := hba.trans (hb2'.mono hba.size)
        refine hK.out _ _ (HS.out _ hb2) (fun _ => ?_)
        clear hK K'
        try simp only [Act.put, List.getElem_toArray, List.getElem_cons_succ, List.getElem_cons_zero, List.setIfInBounds_toArray, List.set_cons_zero, List.set_cons_succ]
        have CF : Cel w2 wr.heap.size 31 #[.int .i64 0, .slice none 0 0] := Cel.below CFa hb2' CFa.lt
        have hb3 := hb2
        refine wpAnyH_ready (rs := [16]) (by kernel_rfl) (by simp) ?_
        refine AllReadyH.cons rfl (fun K' hK => ?_) AllReadyH.nil
        have c1 := CF.cell 0
        have c2 := CF.cell 1
        have f1 := CF.frozen 0
        have f2 := CF.frozen 1
        have CF2 := (CF.set (j := 0) (.int .i64 c)).set (j := 1) (.slice adf nf cf)
        have hbf : wr.heap.size ≤ wr.heap.size := Nat.le_refl _
        have hb5 := (hb3.setCell (p := ⟨wr.heap.size, 0, none⟩) hbf (.int .i64 c)).setCell (p := ⟨wr.heap.size, 1, none⟩) hbf (.slice adf nf cf)
        have HF : Hid (Cel _ wr.heap.size 31 #[.int .i64 c, .slice adf nf cf] ∧ Below wr.heap.size wr _) := ⟨CF2, hb5⟩
        have hS5 := HS.out _ hb5
        clear CF CF2 hb5
        go_simp
        refine hK.out _ _ hS5 (fun _ => ?_)
        clear hK K'
        refine wpAnyH_done (by kernel_rfl) ?_ _
        go_wp2_with fail
        go_meet
        case rel => exact ⟨_, c, adf, nf, cf, rfl, HF.out.1, hlp, HF.out.2⟩
      case rest =>
        obtain ⟨bf, c, ad, n2, cp, rfl, HF⟩ := hcut
        have f1 := HF.out.1.cell 0
        have f2 := HF.out.1.cell 1
        have hbx := HF.out.2.2
        have hbwx := hbw.trans (hbx.mono hbw.size)
        have CRR : Cel wc W.heap.size 31 #[.int .i64 0, .slice none 0 0] := hcl.below hbx hcl.lt
        by_cases hc0 : c = 0
        · subst hc0
          obtain ⟨m2, y2, hy2, hs2, h12, hm2, _, _⟩ := HF.out.2.1 rfl
          have hye : y2 = y := by rw [HY.out] at hy2; exact (Option.some.inj hy2).symm
          subst hye
          obtain ⟨g', o', cap', hv, hg', d0, d1, d2, d3, d4⟩ := (HNW.out _ hbwx).at HY.out
          cases hv
          have HR2 : Hid (reachN X (at_ + m) (i + 1) (at_ + 1) (k + m2)) := ⟨k, HR.out, y2, HY.out, by omega, by rw [hs2]; omega, by rw [hs2]; omega⟩
          obtain ⟨ykd, yn, yk, ysz, ys⟩ := y2
          simp only at d3 hs2
          subst hs2
          clear d0 d1 d2 d4 hy2
          go_wp2_with fail
          exact ⟨⟨i + 1, k + m2, by simp, by simp, by omega, HR2.out, hbr.trans (hbx.mono hbr.size)⟩, by simp [intOf]; omega⟩
        · have l1 := CRR.cell 0
          have l2 := CRR.cell 1
          have l3 := CRR.frozen 0
          have l4 := CRR.frozen 1
          have HFR : Hid (Cel ((wc.setCell ⟨W.heap.size, 0, none⟩ (.int .i64 c)).setCell ⟨W.heap.size, 1, none⟩ (.slice ad n2 cp)) W.heap.size 31 #[.int .i64 c, .slice ad n2 cp]) := fault_ret CRR
          have hbl : Below W.heap.size W ((wc.setCell ⟨W.heap.size, 0, none⟩ (.int .i64 c)).setCell ⟨W.heap.size, 1, none⟩ (.slice ad n2 cp)) := (hbwx.setCell (p := ⟨W.heap.size, 0, none⟩) (Nat.le_refl _) _).setCell (p := ⟨W.heap.size, 1, none⟩) (Nat.le_refl _) _
          have hc0' : (c != 0) = true := by simpa using hc0
          clear CRR
          go_wp2_with fail
          refine bodyPost_ret (results_cell_row (p := 8) (ty := 31) rfl _ _ W.heap.size 31 _ (0, 0) _ rfl HFR.out Tryz.underlying31 rfl size33) rfl ?_
          exact ⟨c, ⟨_, _, _, rfl⟩, hc0, hbl⟩
    · have hib' : ¬ (i : Int) ≤ (bad : Int) := by omega
      go_wp2_with fail
      refine (placed_any 110 _ (by decide) _).mono ?_
      rintro e wl ⟨fb, rfl, hfb, _, hbl'⟩
      have hbl0 := hbw.trans (hbl'.mono hbw.size)
      have CL : Cel wl W.heap.size 31 #[.int .i64 0, .slice none 0 0] := CRR.below hbl' CRR.lt
      have l1 := CL.cell 0
      have l2 := CL.cell 1
      have l3 := CL.frozen 0
      have l4 := CL.frozen 1
      have HFR : Hid (Cel ((wl.setCell ⟨W.heap.size, 0, none⟩ (.int .i64 110)).setCell ⟨W.heap.size, 1, none⟩ (.slice (some ⟨fb, 0, none⟩) 1 1)) W.heap.size 31 #[.int .i64 110, .slice (some ⟨fb, 0, none⟩) 1 1]) := fault_ret CL
      have hbl : Below W.heap.size W ((wl.setCell ⟨W.heap.size, 0, none⟩ (.int .i64 110)).setCell ⟨W.heap.size, 1, none⟩ (.slice (some ⟨fb, 0, none⟩) 1 1)) := (hbl0.setCell (p := ⟨W.heap.size, 0, none⟩) (Nat.le_refl _) _).setCell (p := ⟨W.heap.size, 1, none⟩) (Nat.le_refl _) _
      clear CL hfb
      go_wp2_with fail
      refine bodyPost_ret (results_cell_row (p := 8) (ty := 31) rfl _ _ W.heap.size 31 _ (0, 0) _ rfl HFR.out Tryz.underlying31 rfl size33) rfl ?_
      exact ⟨_, ⟨_, _, _, rfl⟩, by decide, hbl⟩
end Go.Proofs.YtaildeglikhkaaaGreatDoor
/-! The document's own look at programs. -/
namespace Go.Proofs.YtaildeglikhkaaaGreatDoor
open Go.RowKit
attribute [local go_sem] Oper.semAt_some

theorem reach_add (X : List Nd) (fin k0 : Nat) : ∀ (i a : Nat), reachN X fin i k0 a → k0 + i ≤ a
  | 0, a, h => by rw [show a = k0 from h]; omega
  | i + 1, a, ⟨a', h1, y, _, h2, _, h3⟩ => by have := reach_add X fin k0 i a' h1; omega
theorem none_any (W : World) : Calls Tryz.prog 50 #[] W fun e w' => e = .returned (.agg #[.int .i64 0, .slice none 0 0]) ∧ Below W.heap.size W w' := by
  go_enter Tryz.func50, Tryz.ntmps50
  go_wp2_with fail
  have hc := Cel.new W 31 #[.int .i64 0, .slice none 0 0]
  refine bodyPost_ret (results_cell_row (p := 0) (ty := 31) rfl _ _ W.heap.size 31 _ (0, 0) _ rfl hc Tryz.underlying31 rfl size33) rfl ?_
  exact ⟨rfl, below_new _ _⟩
theorem seg_node (X : List Nd) (at_ m e Kn : Nat) (kd nn : Int) (s : Txt) (Ys : List (List Nd)) (hx : X[at_]? = some ⟨kd, nn, Kn, m, s⟩) (hm : 1 ≤ m) (hl : at_ + m ≤ X.length) (hk : Ys.length = Kn) (hs : ∀ Y ∈ Ys, Seg e Y) (hf : Ys.flatten = (X.drop (at_ + 1)).take (m - 1)) : Seg (e + 1) ((X.drop at_).take m) := by
  have hlt := (List.getElem?_eq_some_iff.1 hx).1
  have hd : X.drop at_ = ⟨kd, nn, Kn, m, s⟩ :: X.drop (at_ + 1) := by
    rw [List.drop_eq_getElem_cons hlt]
    congr 1
    rw [List.getElem?_eq_getElem hlt] at hx
    exact Option.some.inj hx
  have hlen : ((X.drop (at_ + 1)).take (m - 1)).length = m - 1 := by rw [List.length_take, List.length_drop]; omega
  have e1 : (X.drop at_).take m = newN kd nn s Ys := by
    rw [hd, show m = (m - 1) + 1 by omega, List.take_succ_cons, newN, hf, hk, hlen]
    congr 2
  rw [e1]
  exact Seg.mk e kd nn s Ys hs
def LookCF (v : Value) (X : List Nd) (d : Nat) : Prop := ∀ (at_ most : Nat) (fin : Int) (cmd : Bool) (W : World), NdAt W v X → at_ < most → most ≤ X.length → -1 ≤ fin → fin ≤ X.length →
  Calls Tryz.prog 37 #[v, .int .i64 at_, .int .i64 fin, .int .i64 most, .int .i64 (31 - d : Int), .bool cmd] W fun e w' => ∃ c, FaultC e c ∧ LookF X at_ most fin d cmd c ∧ Below W.heap.size W w'
theorem LookCF.weak {v : Value} {X : List Nd} {d : Nat} (h : LookCF v X d) : LookC v X d := fun at_ most fin cmd W h1 h2 h3 h4 h5 => Calls.mono (h at_ most fin cmd W h1 h2 h3 h4 h5) (by
  rintro e w' ⟨c, hf, hl, hb⟩
  refine ⟨c, hf, fun hc => ?_, hb⟩
  obtain ⟨m, x, g1, g2, g3, g4, g5, g6⟩ := hl hc
  exact ⟨m, x, g1, g2, g3, g4, g5, g6.seg⟩)
theorem one_kind (k : Int) (word : Bool) (h : isOneB k word = true) : wordK k = true ∨ cmdK k = true := by
  cases word with
  | true => exact .inl h
  | false => exact .inr h
set_option maxRecDepth 100000 in
set_option maxHeartbeats 16000000 in
theorem look_step (v : Value) (X : List Nd) (hl : X.length < 4294967296) (hX : ∀ x ∈ X, NdIn x) (d : Nat) (hd : d ≤ 30) (IH : ∀ e, d = e + 1 → LookCF v X e) : LookCF v X d := by
  intro at_ most fin cmd W hN ham hmx hf1 hf2
  obtain ⟨x, hx⟩ : ∃ x, X[at_]? = some x := ⟨_, List.getElem?_eq_getElem (by omega)⟩
  have HX : Hid (X[at_]? = some x) := hx
  have hxi := hX x (List.mem_of_getElem? hx)
  have HNI : Hid (∀ y ∈ X, NdIn y) := hX
  have HNW : Hid (∀ W', Below W.heap.size W W' → NdAt W' v X) := fun W' hb => hN.below hb (Nat.le_refl _)
  have HIH : Hid (∀ e, d = e + 1 → LookCF v X e) := IH
  have hN1 := hN.below (below_new W (.cells #[.int .i64 0, .slice none 0 0] 31)) (Nat.le_refl _)
  obtain ⟨g, o, cap, hv, hg, c0, c1, c2, c3, c4⟩ := hN1.at hx
  subst hv
  obtain ⟨kd, nn, K, sz, s⟩ := x
  have hsl : s.length < 4611686018427387904 := by have := hxi.s; simp only at this; omega
  have hKr : I64 K := hxi.k
  have hzr : I64 sz := hxi.size
  unfold I64 at hKr hzr
  simp only at c0 c1 c2 c3 c4
  clear hN hN1 hx IH hxi hX
  go_enter Tryz.func37, Tryz.ntmps37
  go_upto_region 2 with fail
  obtain ⟨w1, hw1⟩ : ∃ w1, w1 = (W.alloc (.cells #[.int .i64 0, .slice none 0 0] 31)).alloc (.cells #[.int .i64 kd, .int .i64 nn, .int .i64 K, .int .i64 sz, str s] 50) := ⟨_, rfl⟩
  have hb1 : Below W.heap.size W w1 := by rw [hw1]; exact (below_new W _).alloc (below_new W _).size _
  have CR : Cel w1 W.heap.size 31 #[.int .i64 0, .slice none 0 0] := by
    rw [hw1]
    exact (Cel.new W 31 _).turn (Turn.ofBelow (S := fun _ => False) (below_new _ _)) (fun h => h)
  have CX : Cel w1 (W.heap.size + 1) 50 #[.int .i64 kd, .int .i64 nn, .int .i64 K, .int .i64 sz, str s] := by
    rw [hw1, show W.heap.size + 1 = (W.alloc (.cells #[.int .i64 0, .slice none 0 0] 31)).heap.size by simp]
    exact Cel.new _ 50 _
  rw [← hw1]
  clear hw1 c0 c1 c2 c3 c4
  go_cut [14] from 25 to 39 (fun v14 wx => ∃ b : Bool, v14 = .bool b ∧ Hid (b = true → isOneB kd (!cmd) = true) ∧ w1 = wx)
  case first => as_aux_lemma =>
    have x0 := CX.cell 0
    cases cmd with
    | false =>
      go_wp2_with (first | (go_at_call 29; refine (xWord_any _ _).mono ?_; rintro e w' ⟨hqw, rfl⟩; rcases hqw.cases with rfl | ⟨rfl, hwk⟩) | (go_at_call 30; refine (xCommand_any _ _).mono ?_; rintro e w' ⟨hqc, rfl⟩; rcases hqc.cases with rfl | ⟨rfl, hck⟩))
      all_goals
        go_meet
        exact ⟨_, rfl, fun h => (by first | exact hck | exact hwk | cases h), rfl⟩
    | true =>
      go_wp2_with (first | (go_at_call 29; refine (xWord_any _ _).mono ?_; rintro e w' ⟨hqw, rfl⟩; rcases hqw.cases with rfl | ⟨rfl, hwk⟩) | (go_at_call 30; refine (xCommand_any _ _).mono ?_; rintro e w' ⟨hqc, rfl⟩; rcases hqc.cases with rfl | ⟨rfl, hck⟩))
      all_goals
        go_meet
        exact ⟨_, rfl, fun h => (by first | exact hck | exact hwk | cases h), rfl⟩
  case rest =>
    obtain ⟨b, rfl, HON, rfl⟩ := hcut
    go_upto_region 3 with fail
    go_cut [71] from 40 to 71 (fun v71 wx => ∃ b2 : Bool, v71 = .bool b2 ∧ Hid ((b2 = false → (isOneB kd (!cmd) = true ∧ AloneP ⟨kd, nn, K, sz, s⟩) ∧ 0 ≤ K ∧ 1 ≤ sz ∧ (at_ : Int) + sz ≤ most ∧ (0 ≤ fin → (at_ : Int) + sz = fin)) ∧ Below w1.heap.size w1 wx))
    case first => as_aux_lemma =>
      have x0 := CX.cell 0
      have x1 := CX.cell 1
      have x2 := CX.cell 2
      have x3 := CX.cell 3
      have x4 := CX.cell 4
      cases b with
      | false =>
        go_wp2_with fail
        go_meet
        exact ⟨_, rfl, fun h => (by cases h), Below.refl _ _⟩
      | true =>
        go_wp2_with fail
        refine (xAlone_any ⟨kd, nn, K, sz, s⟩ hsl _).mono ?_
        rintro e w2 ⟨hal, hb2⟩
        have HCX : Hid (Cel w2 (W.heap.size + 1) 50 #[.int .i64 kd, .int .i64 nn, .int .i64 K, .int .i64 sz, str s]) := CX.below hb2 CX.lt
        clear x0 x1 x2 x3 x4 CR CX
        have x3 := HCX.out.cell 3
        rcases hal.cases with rfl | ⟨rfl, hAL⟩
        · clear hal
          go_wp2_with fail
          go_meet
          exact ⟨_, rfl, fun h => (by cases h), hb2⟩
        · clear hal
          have hK0 : 0 ≤ K := cnt_nonneg kd K hAL.2.2
          have HAL : Hid (isOneB kd (!cmd) = true ∧ AloneP ⟨kd, nn, K, sz, s⟩) := ⟨HON.out (by first | rfl | trivial), hAL⟩
          clear hAL
          by_cases s1 : sz < 1
          · go_wp2_with fail
            go_meet
            exact ⟨_, rfl, fun h => (by cases h), hb2⟩
          · by_cases s2 : (most : Int) - (at_ : Int) < sz
            · go_wp2_with fail
              go_meet
              exact ⟨_, rfl, fun h => (by cases h), hb2⟩
            · by_cases s3 : 0 ≤ fin
              · by_cases s4 : (at_ : Int) + sz = fin
                · have s4' : ((at_ : Int) + sz != fin) = false := by simpa using s4
                  have HC4 : Hid ((at_ : Int) + sz = fin) := s4
                  clear s4
                  go_wp2_with fail
                  go_meet
                  exact ⟨_, rfl, fun _ => ⟨HAL.out, hK0, by omega, by omega, fun _ => HC4.out⟩, hb2⟩
                · have s4' : ((at_ : Int) + sz != fin) = true := by simpa using s4
                  go_wp2_with fail
                  go_meet
                  exact ⟨_, rfl, fun h => (by cases h), hb2⟩
              · go_wp2_with fail
                go_meet
                exact ⟨_, rfl, fun _ => ⟨HAL.out, hK0, by omega, by omega, fun h => absurd h (by omega)⟩, hb2⟩
    case rest =>
      obtain ⟨b2, rfl, HB2⟩ := hcut
      have hb2 := HB2.out.2
      have hbw2 := hb1.trans (hb2.mono hb1.size)
      have CRR : Cel wc W.heap.size 31 #[.int .i64 0, .slice none 0 0] := CR.below hb2 CR.lt
      have HCX : Hid (Cel wc (W.heap.size + 1) 50 #[.int .i64 kd, .int .i64 nn, .int .i64 K, .int .i64 sz, str s]) := CX.below hb2 CX.lt
      clear CR CX
      cases b2 with
      | true =>
        go_wp2_with fail
        refine (placed_any 110 _ (by decide) _).mono ?_
        rintro e wl ⟨fb, rfl, hfb, _, hbl'⟩
        have hbl0 := hbw2.trans (hbl'.mono hbw2.size)
        have CL : Cel wl W.heap.size 31 #[.int .i64 0, .slice none 0 0] := CRR.below hbl' CRR.lt
        have l1 := CL.cell 0
        have l2 := CL.cell 1
        have l3 := CL.frozen 0
        have l4 := CL.frozen 1
        have HFR : Hid (Cel ((wl.setCell ⟨W.heap.size, 0, none⟩ (.int .i64 110)).setCell ⟨W.heap.size, 1, none⟩ (.slice (some ⟨fb, 0, none⟩) 1 1)) W.heap.size 31 #[.int .i64 110, .slice (some ⟨fb, 0, none⟩) 1 1]) := fault_ret CL
        have hbl : Below W.heap.size W ((wl.setCell ⟨W.heap.size, 0, none⟩ (.int .i64 110)).setCell ⟨W.heap.size, 1, none⟩ (.slice (some ⟨fb, 0, none⟩) 1 1)) := (hbl0.setCell (p := ⟨W.heap.size, 0, none⟩) (Nat.le_refl _) _).setCell (p := ⟨W.heap.size, 1, none⟩) (Nat.le_refl _) _
        clear CL hfb
        go_wp2_with fail
        refine bodyPost_ret (results_cell_row (p := 12) (ty := 31) rfl _ _ W.heap.size 31 _ (0, 0) _ rfl HFR.out Tryz.underlying31 rfl size33) rfl ?_
        exact ⟨_, ⟨_, _, _, rfl⟩, fun h => absurd h (by decide), hbl⟩
      | false =>
        obtain ⟨hAL, hK0, hs1, hs2, hs3⟩ := HB2.out.1 rfl
        obtain ⟨m, rfl⟩ : ∃ m : Nat, sz = m := ⟨sz.toNat, by omega⟩
        obtain ⟨Kn, rfl⟩ : ∃ Kn : Nat, K = Kn := ⟨K.toNat, by omega⟩
        have hm1 : 1 ≤ m := by omega
        have hamx : at_ + m ≤ most := by omega
        have HFIN : Hid (0 ≤ fin → (at_ : Int) + m = fin) := hs3
        have HAL : Hid (isOneB kd (!cmd) = true ∧ AloneP ⟨kd, nn, (Kn : Int), (m : Int), s⟩) := hAL
        clear HB2 hs3 hs1 hs2 hK0 hAL HON
        have x2 := HCX.out.cell 2
        have x3 := HCX.out.cell 3
        go_upto_block 0 with fail
        go_cut [15, 16, 17] from 76 to 123 (fun _ _ _ wx => Hid (Kn = 0 ∨ ∃ kl, reachN X (at_ + m) (Kn - 1) (at_ + 1) kl ∧ kl < at_ + m) ∧ wc = wx)
        case first => as_aux_lemma =>
          go_wp2_with fail
          go_loopw [15, 16] (fun v15 v16 wr => ∃ i k : Nat, v16 = .int .i64 i ∧ v15 = .int .i64 k ∧ i ≤ Kn ∧ Hid (reachN X (at_ + m) i (at_ + 1) k) ∧ wc = wr) (fun _ v16 _ => Kn - (intOf v16).toNat)
          case atStart => exact ⟨0, at_ + 1, rfl, by simp, by omega, rfl, rfl⟩
          case round =>
            obtain ⟨i, k, rfl, rfl, hi, HR, hwr⟩ := hrel
            subst hwr
            by_cases hik : i < Kn
            · have hik' : (i : Int) < (Kn : Int) := by omega
              by_cases hkf : at_ + m ≤ k
              · have hkf' : (at_ : Int) + (m : Int) ≤ (k : Int) := by omega
                go_wp2_with fail
                refine (placed_any 110 _ (by decide) _).mono ?_
                rintro e wl ⟨fb, rfl, hfb, _, hbl'⟩
                have hbl0 := hbw2.trans (hbl'.mono hbw2.size)
                have CL : Cel wl W.heap.size 31 #[.int .i64 0, .slice none 0 0] := CRR.below hbl' CRR.lt
                have l1 := CL.cell 0
                have l2 := CL.cell 1
                have l3 := CL.frozen 0
                have l4 := CL.frozen 1
                have HFR : Hid (Cel ((wl.setCell ⟨W.heap.size, 0, none⟩ (.int .i64 110)).setCell ⟨W.heap.size, 1, none⟩ (.slice (some ⟨fb, 0, none⟩) 1 1)) W.heap.size 31 #[.int .i64 110, .slice (some ⟨fb, 0, none⟩) 1 1]) := fault_ret CL
                have hbl : Below W.heap.size W ((wl.setCell ⟨W.heap.size, 0, none⟩ (.int .i64 110)).setCell ⟨W.heap.size, 1, none⟩ (.slice (some ⟨fb, 0, none⟩) 1 1)) := (hbl0.setCell (p := ⟨W.heap.size, 0, none⟩) (Nat.le_refl _) _).setCell (p := ⟨W.heap.size, 1, none⟩) (Nat.le_refl _) _
                clear CL hfb
                go_wp2_with fail
                refine bodyPost_ret (results_cell_row (p := 12) (ty := 31) rfl _ _ W.heap.size 31 _ (0, 0) _ rfl HFR.out Tryz.underlying31 rfl size33) rfl ?_
                exact ⟨_, ⟨_, _, _, rfl⟩, fun h => absurd h (by decide), hbl⟩
              · have hkf' : ¬ (at_ : Int) + (m : Int) ≤ (k : Int) := by omega
                obtain ⟨y, hy⟩ : ∃ y, X[k]? = some y := ⟨_, List.getElem?_eq_getElem (by omega)⟩
                have hyr : I64 y.size := (HNI.out y (List.mem_of_getElem? hy)).size
                unfold I64 at hyr
                have hkl : k < X.length := by omega
                have hkl' : (k : Int) < (X.length : Int) := by omega
                obtain ⟨g', o', cap', hv, hg', d0, d1, d2, d3, d4⟩ := (HNW.out _ hbw2).at hy
                cases hv
                have HY : Hid (X[k]? = some y) := hy
                obtain ⟨ykd, yn, yk, ysz, ys⟩ := y
                simp only at d3 hyr
                clear d0 d1 d2 d4 hy
                by_cases hbd : ysz < 1 ∨ (at_ : Int) + (m : Int) - (k : Int) < ysz
                · have HBK : Hid (i + 1 = Kn → Kn = 0 ∨ ∃ kl, reachN X (at_ + m) (Kn - 1) (at_ + 1) kl ∧ kl < at_ + m) := fun h => .inr ⟨k, by rw [show Kn - 1 = i by omega]; exact HR.out, by omega⟩
                  by_cases hi1 : i + 1 < Kn
                  · have hi1' : (i : Int) + 1 < (Kn : Int) := by omega
                    have HEA : Hid (Calls Tryz.prog 59 #[.slice (some ⟨g, o, none⟩) X.length cap, .int .i64 at_, .int .i64 (31 - (d : Int)), .int .i64 i] wc fun e w' => ∃ c, FaultC e c ∧ c ≠ 0 ∧ Below wc.heap.size wc w') := by
                      unfold Hid
                      cases d with
                      | zero => exact early_deep _ X at_ i wc (HNW.out _ hbw2) (by omega)
                      | succ d =>
                        have := early_any _ X hl d (by omega) (LookCF.weak (HIH.out d rfl)) at_ i m _ HX.out rfl (by omega) k HR.out (by omega) (by have := reach_add X (at_ + m) (at_ + 1) i k HR.out; omega) wc (HNW.out _ hbw2)
                        rw [show (31 - ((d + 1 : Nat) : Int)) = 30 - (d : Int) by omega]
                        exact this
                    rcases hbd with hbd | hbd
                    · go_wp2_with fail
                      refine Calls.mono HEA.out ?_
                      rintro e w3 ⟨c, ⟨ad, n2, cp, rfl⟩, hc0, hb3⟩
                      have hbw3 := hbw2.trans (hb3.mono hbw2.size)
                      replace CRR := CRR.below hb3 CRR.lt
                      have l1 := CRR.cell 0
                      have l2 := CRR.cell 1
                      have l3 := CRR.frozen 0
                      have l4 := CRR.frozen 1
                      have HFR : Hid (Cel ((w3.setCell ⟨W.heap.size, 0, none⟩ (.int .i64 c)).setCell ⟨W.heap.size, 1, none⟩ (.slice ad n2 cp)) W.heap.size 31 #[.int .i64 c, .slice ad n2 cp]) := fault_ret CRR
                      have hbl : Below W.heap.size W ((w3.setCell ⟨W.heap.size, 0, none⟩ (.int .i64 c)).setCell ⟨W.heap.size, 1, none⟩ (.slice ad n2 cp)) := (hbw3.setCell (p := ⟨W.heap.size, 0, none⟩) (Nat.le_refl _) _).setCell (p := ⟨W.heap.size, 1, none⟩) (Nat.le_refl _) _
                      clear CRR
                      go_wp2_with fail
                      refine bodyPost_ret (results_cell_row (p := 12) (ty := 31) rfl _ _ W.heap.size 31 _ (0, 0) _ rfl HFR.out Tryz.underlying31 rfl size33) rfl ?_
                      exact ⟨c, ⟨_, _, _, rfl⟩, fun h => absurd h hc0, hbl⟩
                    · have hbd1 : ¬ ysz < 1 := by omega
                      go_wp2_with fail
                      refine Calls.mono HEA.out ?_
                      rintro e w3 ⟨c, ⟨ad, n2, cp, rfl⟩, hc0, hb3⟩
                      have hbw3 := hbw2.trans (hb3.mono hbw2.size)
                      replace CRR := CRR.below hb3 CRR.lt
                      have l1 := CRR.cell 0
                      have l2 := CRR.cell 1
                      have l3 := CRR.frozen 0
                      have l4 := CRR.frozen 1
                      have HFR : Hid (Cel ((w3.setCell ⟨W.heap.size, 0, none⟩ (.int .i64 c)).setCell ⟨W.heap.size, 1, none⟩ (.slice ad n2 cp)) W.heap.size 31 #[.int .i64 c, .slice ad n2 cp]) := fault_ret CRR
                      have hbl : Below W.heap.size W ((w3.setCell ⟨W.heap.size, 0, none⟩ (.int .i64 c)).setCell ⟨W.heap.size, 1, none⟩ (.slice ad n2 cp)) := (hbw3.setCell (p := ⟨W.heap.size, 0, none⟩) (Nat.le_refl _) _).setCell (p := ⟨W.heap.size, 1, none⟩) (Nat.le_refl _) _
                      clear CRR
                      go_wp2_with fail
                      refine bodyPost_ret (results_cell_row (p := 12) (ty := 31) rfl _ _ W.heap.size 31 _ (0, 0) _ rfl HFR.out Tryz.underlying31 rfl size33) rfl ?_
                      exact ⟨c, ⟨_, _, _, rfl⟩, fun h => absurd h hc0, hbl⟩
                  · have hi1' : ¬ (i : Int) + 1 < (Kn : Int) := by omega
                    have HBK2 : Hid (Kn = 0 ∨ ∃ kl, reachN X (at_ + m) (Kn - 1) (at_ + 1) kl ∧ kl < at_ + m) := HBK.out (by omega)
                    rcases hbd with hbd | hbd
                    · go_wp2_with fail
                      go_meet
                      exact ⟨HBK2.out, rfl⟩
                    · have hbd1 : ¬ ysz < 1 := by omega
                      go_wp2_with fail
                      go_meet
                      exact ⟨HBK2.out, rfl⟩
                · have hbd1 : ¬ ysz < 1 := by omega
                  have hbd2 : ¬ (at_ : Int) + (m : Int) - (k : Int) < ysz := by omega
                  obtain ⟨q, rfl⟩ : ∃ q : Nat, ysz = q := ⟨ysz.toNat, by omega⟩
                  have HR2 : Hid (reachN X (at_ + m) (i + 1) (at_ + 1) (k + q)) := ⟨k, HR.out, _, HY.out, by simp only; omega, by simp only; omega, by simp only; omega⟩
                  clear hbd
                  go_wp2_with fail
                  exact ⟨⟨i + 1, k + q, by simp, by simp, by omega, HR2.out, trivial⟩, by simp [intOf]; omega⟩
            · have hik' : ¬ (i : Int) < (Kn : Int) := by omega
              have HBK : Hid (Kn = 0 ∨ ∃ kl, reachN X (at_ + m) (Kn - 1) (at_ + 1) kl ∧ kl < at_ + m) := by
                obtain rfl : i = Kn := by omega
                cases i with
                | zero => exact .inl rfl
                | succ i =>
                  obtain ⟨k', h1, y, _, h2, h3, _⟩ := HR.out
                  exact .inr ⟨k', h1, by omega⟩
              go_wp2_with fail
              go_meet
              exact ⟨HBK.out, rfl⟩
        case rest =>
          obtain ⟨HKL, rfl⟩ := hcut
          go_upto_region 17 with fail
          go_cut [131] from 124 to 131 (fun v131 wx => ∃ b : Bool, v131 = .bool b ∧ Hid (b = false → Kn = 0 → m = 1) ∧ wc = wx)
          case first => as_aux_lemma =>
            by_cases hk0 : Kn = 0
            · subst hk0
              by_cases hm0 : m = 1
              · subst hm0
                go_wp2_with fail
                go_meet
                exact ⟨_, rfl, fun _ _ => (by first | rfl | trivial), rfl⟩
              · have hm0' : ((m : Int) != 1) = true := by simp; omega
                go_wp2_with fail
                go_meet
                exact ⟨_, rfl, fun h => (by cases h), rfl⟩
            · have hk0' : ((Kn : Int) == 0) = false := by simp; omega
              have HK0 : Hid (¬ Kn = 0) := hk0
              clear hk0
              go_wp2_with fail
              go_meet
              exact ⟨_, rfl, fun _ h => absurd h HK0.out, rfl⟩
          case rest =>
            obtain ⟨b, rfl, HM1, rfl⟩ := hcut
            cases b with
            | true =>
              go_wp2_with fail
              refine (placed_any 110 _ (by decide) _).mono ?_
              rintro e wl ⟨fb, rfl, hfb, _, hbl'⟩
              have hbl0 := hbw2.trans (hbl'.mono hbw2.size)
              have CL : Cel wl W.heap.size 31 #[.int .i64 0, .slice none 0 0] := CRR.below hbl' CRR.lt
              have l1 := CL.cell 0
              have l2 := CL.cell 1
              have l3 := CL.frozen 0
              have l4 := CL.frozen 1
              have HFR : Hid (Cel ((wl.setCell ⟨W.heap.size, 0, none⟩ (.int .i64 110)).setCell ⟨W.heap.size, 1, none⟩ (.slice (some ⟨fb, 0, none⟩) 1 1)) W.heap.size 31 #[.int .i64 110, .slice (some ⟨fb, 0, none⟩) 1 1]) := fault_ret CL
              have hbl : Below W.heap.size W ((wl.setCell ⟨W.heap.size, 0, none⟩ (.int .i64 110)).setCell ⟨W.heap.size, 1, none⟩ (.slice (some ⟨fb, 0, none⟩) 1 1)) := (hbl0.setCell (p := ⟨W.heap.size, 0, none⟩) (Nat.le_refl _) _).setCell (p := ⟨W.heap.size, 1, none⟩) (Nat.le_refl _) _
              clear CL hfb
              go_wp2_with fail
              refine bodyPost_ret (results_cell_row (p := 12) (ty := 31) rfl _ _ W.heap.size 31 _ (0, 0) _ rfl HFR.out Tryz.underlying31 rfl size33) rfl ?_
              exact ⟨_, ⟨_, _, _, rfl⟩, fun h => absurd h (by decide), hbl⟩
            | false =>
              have HM2 : Hid (Kn = 0 → m = 1) := HM1.out rfl
              clear HM1
              by_cases hd0 : d = 0
              · have hd0' : (30 : Int) < 31 - (d : Int) := by omega
                go_wp2_with fail
                refine (placed_any 102 _ (by decide) _).mono ?_
                rintro e wl ⟨fb, rfl, hfb, _, hbl'⟩
                have hbl0 := hbw2.trans (hbl'.mono hbw2.size)
                have CL : Cel wl W.heap.size 31 #[.int .i64 0, .slice none 0 0] := CRR.below hbl' CRR.lt
                have l1 := CL.cell 0
                have l2 := CL.cell 1
                have l3 := CL.frozen 0
                have l4 := CL.frozen 1
                have HFR : Hid (Cel ((wl.setCell ⟨W.heap.size, 0, none⟩ (.int .i64 102)).setCell ⟨W.heap.size, 1, none⟩ (.slice (some ⟨fb, 0, none⟩) 1 1)) W.heap.size 31 #[.int .i64 102, .slice (some ⟨fb, 0, none⟩) 1 1]) := fault_ret CL
                have hbl : Below W.heap.size W ((wl.setCell ⟨W.heap.size, 0, none⟩ (.int .i64 102)).setCell ⟨W.heap.size, 1, none⟩ (.slice (some ⟨fb, 0, none⟩) 1 1)) := (hbl0.setCell (p := ⟨W.heap.size, 0, none⟩) (Nat.le_refl _) _).setCell (p := ⟨W.heap.size, 1, none⟩) (Nat.le_refl _) _
                clear CL hfb
                go_wp2_with fail
                refine bodyPost_ret (results_cell_row (p := 12) (ty := 31) rfl _ _ W.heap.size 31 _ (0, 0) _ rfl HFR.out Tryz.underlying31 rfl size33) rfl ?_
                exact ⟨_, ⟨_, _, _, rfl⟩, fun h => absurd h (by decide), hbl⟩
              · obtain ⟨e, he⟩ : ∃ e, d = e + 1 := ⟨d - 1, by omega⟩
                have HD : Hid (d = e + 1) := he
                have hdd : ¬ (30 : Int) < 31 - (d : Int) := by omega
                have HLC : Hid (LookCF (.slice (some ⟨g, o, none⟩) X.length cap) X e) := HIH.out e he
                clear hd0 he
                go_wp2_with fail
                go_loopw [15, 18] (fun v15 v18 wr => ∃ (i k : Nat) (Ys : List (List Nd)), v18 = .int .i64 i ∧ v15 = .int .i64 k ∧ i ≤ Kn ∧ Hid (reachN X (at_ + m) i (at_ + 1) k ∧ Ys.length = i ∧ (∀ (j : Nat) (Y : List Nd), Ys[j]? = some Y → Fits e (wordAtB kd Kn j) Y) ∧ Ys.flatten = (X.drop (at_ + 1)).take (k - (at_ + 1)) ∧ (i = Kn → 0 < Kn → k = at_ + m)) ∧ Below wc.heap.size wc wr) (fun _ v18 _ => Kn - (intOf v18).toNat)
                case atStart => exact ⟨0, at_ + 1, [], rfl, by simp, by omega, ⟨rfl, rfl, fun j Y h => by simp at h, by simp, fun h1 h2 => by omega⟩, Below.refl _ _⟩
                case round =>
                  obtain ⟨i, k, Ys, rfl, rfl, hi, HI, hbr⟩ := hrel
                  have hbw := hbw2.trans (hbr.mono hbw2.size)
                  replace CRR := CRR.below hbr CRR.lt
                  have HCR : Hid (Cel wr (W.heap.size + 1) 50 #[.int .i64 kd, .int .i64 nn, .int .i64 (Kn : Nat), .int .i64 (m : Nat), str s]) := Cel.below HCX.out hbr HCX.out.lt
                  clear x2 x3
                  have x2 := HCR.out.cell 2
                  have x3 := HCR.out.cell 3
                  by_cases hik : i < Kn
                  · have hik' : (i : Int) < (Kn : Int) := by omega
                    have hkf : k < at_ + m := by
                      rcases HKL.out with h | ⟨kl, h1, h2⟩
                      · omega
                      · exact reach_lt X (at_ + m) (at_ + 1) (Kn - 1) kl h1 h2 i k (by omega) HI.out.1
                    go_upto_if 150 with fail
                    go_cut [19] from 151 to 154 (fun v19 wx => ∃ fe : Int, v19 = .int .i64 fe ∧ Hid ((fe = -1 ∨ fe = (at_ : Int) + (m : Nat)) ∧ (i + 1 = Kn → fe = (at_ : Int) + (m : Nat))) ∧ wr = wx)
                    case first => as_aux_lemma =>
                      by_cases hlast : (i : Int) = (Kn : Int) - 1
                      · have hlast' : ((i : Int) == (Kn : Int) - 1) = true := by simpa using hlast
                        clear hlast
                        go_wp2_with fail
                        go_meet
                        exact ⟨_, rfl, ⟨.inr rfl, fun _ => rfl⟩, rfl⟩
                      · have hlast' : ((i : Int) == (Kn : Int) - 1) = false := by simpa using hlast
                        have HNL : Hid (¬ i + 1 = Kn) := by unfold Hid; omega
                        clear hlast
                        go_wp2_with fail
                        go_meet
                        exact ⟨_, rfl, ⟨.inl rfl, fun h => absurd h HNL.out⟩, rfl⟩
                    case rest =>
                      obtain ⟨fe, rfl, HFE, rfl⟩ := hcut
                      have hfe1 : -1 ≤ fe := by rcases HFE.out.1 with h | h <;> omega
                      have hfe2 : fe ≤ (X.length : Int) := by rcases HFE.out.1 with h | h <;> omega
                      have HS : Hid (∀ W', Below wr.heap.size wr W' → ToldL (W.heap.size + 1) kd (Kn : Nat) (m : Nat) W') := fun W' hb => by
                        have := Cel.below HCR.out hb HCR.out.lt
                        exact ⟨this.cell 0, this.cell 2, this.cell 3⟩
                      have HLK : Hid (∀ W' cm, Below wr.heap.size wr W' → Calls Tryz.prog 37 #[.slice (some ⟨g, o, none⟩) X.length cap, .int .i64 k, .int .i64 fe, .int .i64 ((at_ : Int) + (m : Nat)), .int .i64 (31 - (d : Int) + 1), .bool cm] W' fun e' w' => ∃ c, FaultC e' c ∧ LookF X k (at_ + m) fe e cm c ∧ Below W'.heap.size W' w') := fun W' cm hb => by
                        have := HLC.out k (at_ + m) fe cm W' (HNW.out _ (hbw.trans (hb.mono hbw.size))) hkf (by omega) hfe1 hfe2
                        have hde := HD.out
                        rw [show (31 - (e : Int)) = 31 - (d : Int) + 1 by omega] at this
                        simpa using this
                      have hKn : (Kn : Int) < 4294967296 := by
                        rcases HKL.out with h | ⟨kl, h1, h2⟩
                        · omega
                        · have := reach_add X (at_ + m) (at_ + 1) (Kn - 1) kl h1
                          omega
                      have HXC : Hid (∀ W', Calls Tryz.prog 60 #[.int .i64 kd, .int .i64 (i : Nat), .int .i64 (Kn : Nat)] W' fun e w' => e = .returned (.bool (!wordAtB kd Kn i)) ∧ w' = W') := fun W' => xcommand_any kd i Kn W' (one_kind _ _ HAL.out.1) HAL.out.2.2.2 (by omega) (by omega) hKn
                      clear hKn
                      have hcl := CRR
                      clear CRR x2 x3
                      go_upto_region 28 with fail
                      go_cut [20] from 155 to 170 (fun v20 wx => ∃ (bf : Nat) (c : Int) (ad : Option Addr) (n2 cp : Nat), v20 = .pointer (some ⟨bf, 0, none⟩) ∧ Hid (Cel wx bf 31 #[.int .i64 c, .slice ad n2 cp] ∧ LookF X k (at_ + m) fe e (!wordAtB kd Kn i) c ∧ Below wr.heap.size wr wx))
                      case first => as_aux_lemma =>
                        refine wp_region_held (S := ToldL (W.heap.size + 1) kd (Kn : Nat) (m : Nat)) (by kernel_rfl) ?_
                        change wpAnyH _ _ _ _ _ _ _ _ (World.drew _)
                        have hbd : Below wr.heap.size wr (World.drew wr) := ⟨rfl, rfl, rfl, Nat.le_refl _, fun _ _ => rfl⟩
                        have hS0 := HS.out _ hbd
                        refine wpAnyH_take (i := 0) (v := .slice (some ⟨g, o, none⟩) X.length cap) rfl (by kernel_rfl) (by kernel_rfl) (by kernel_rfl) (fun _ _ _ h => h) (Yields.yieldsIf (Or.inl ⟨by rfl, by intro wz; go_simp⟩)) hS0 ?_
                        try simp only [Act.put, List.getElem_toArray, List.getElem_cons_zero, List.setIfInBounds_toArray, List.set_cons_zero, List.set_cons_succ]
                        refine wpAnyH_take (i := 1) (v := .int .i64 (k : Nat)) rfl (by kernel_rfl) (by kernel_rfl) (by kernel_rfl) (fun _ _ _ h => h) (Yields.yieldsIf (Or.inl ⟨by rfl, by intro wz; go_simp⟩)) hS0 ?_
                        try simp only [Act.put, List.getElem_toArray, List.getElem_cons_succ, List.getElem_cons_zero, List.setIfInBounds_toArray, List.set_cons_zero, List.set_cons_succ]
                        refine wpAnyH_take (i := 2) (v := .int .i64 fe) rfl (by kernel_rfl) (by kernel_rfl) (by kernel_rfl) (fun _ _ _ h => h) (Yields.yieldsIf (Or.inl ⟨by rfl, by intro wz; go_simp⟩)) hS0 ?_
                        try simp only [Act.put, List.getElem_toArray, List.getElem_cons_succ, List.getElem_cons_zero, List.setIfInBounds_toArray, List.set_cons_zero, List.set_cons_succ]
                        refine wpAnyH_take (i := 3) (v := .int .i64 (at_ : Nat)) rfl (by kernel_rfl) (by kernel_rfl) (by kernel_rfl) (fun _ _ _ h => h) (Yields.yieldsIf (Or.inl ⟨by rfl, by intro wz; go_simp⟩)) hS0 ?_
                        try simp only [Act.put, List.getElem_toArray, List.getElem_cons_succ, List.getElem_cons_zero, List.setIfInBounds_toArray, List.set_cons_zero, List.set_cons_succ]
                        refine wpAnyH_take (i := 4) (v := .pointer (some ⟨W.heap.size + 1, 3, none⟩)) rfl (by kernel_rfl) (by kernel_rfl) (by kernel_rfl) (fun _ _ _ h => h) (Yields.yieldsIf (Or.inl ⟨by rfl, by intro wz; go_simp⟩)) hS0 ?_
                        try simp only [Act.put, List.getElem_toArray, List.getElem_cons_succ, List.getElem_cons_zero, List.setIfInBounds_toArray, List.set_cons_zero, List.set_cons_succ]
                        refine wpAnyH_take (i := 5) (v := .int .i64 (m : Nat)) rfl (by kernel_rfl) (by kernel_rfl) (by kernel_rfl) (fun _ _ _ h => h) (Or.inl ⟨by rfl, fun wz hS => by obtain ⟨s1, s2, s3⟩ := hS; go_simp⟩) hS0 ?_
                        try simp only [Act.put, List.getElem_toArray, List.getElem_cons_succ, List.getElem_cons_zero, List.setIfInBounds_toArray, List.set_cons_zero, List.set_cons_succ]
                        refine wpAnyH_take (i := 6) (v := .int .i64 ((at_ : Int) + (m : Nat))) rfl (by kernel_rfl) (by kernel_rfl) (by kernel_rfl) (fun _ _ _ h => h) (Yields.yieldsIf (Or.inl ⟨by rfl, by intro wz; go_simp; try (rw [IntKind.wrap_i64]; omega)⟩)) hS0 ?_
                        try simp only [Act.put, List.getElem_toArray, List.getElem_cons_succ, List.getElem_cons_zero, List.setIfInBounds_toArray, List.set_cons_zero, List.set_cons_succ]
                        refine wpAnyH_take (i := 7) (v := .int .i64 (31 - (d : Int))) rfl (by kernel_rfl) (by kernel_rfl) (by kernel_rfl) (fun _ _ _ h => h) (Yields.yieldsIf (Or.inl ⟨by rfl, by intro wz; go_simp⟩)) hS0 ?_
                        try simp only [Act.put, List.getElem_toArray, List.getElem_cons_succ, List.getElem_cons_zero, List.setIfInBounds_toArray, List.set_cons_zero, List.set_cons_succ]
                        refine wpAnyH_take (i := 8) (v := .int .i64 (31 - (d : Int) + 1)) rfl (by kernel_rfl) (by kernel_rfl) (by kernel_rfl) (fun _ _ _ h => h) (Yields.yieldsIf (Or.inl ⟨by rfl, by intro wz; go_simp; try (rw [IntKind.wrap_i64]; omega)⟩)) hS0 ?_
                        try simp only [Act.put, List.getElem_toArray, List.getElem_cons_succ, List.getElem_cons_zero, List.setIfInBounds_toArray, List.set_cons_zero, List.set_cons_succ]
                        refine wpAnyH_take (i := 9) (v := .pointer (some ⟨W.heap.size + 1, 0, none⟩)) rfl (by kernel_rfl) (by kernel_rfl) (by kernel_rfl) (fun _ _ _ h => h) (Yields.yieldsIf (Or.inl ⟨by rfl, by intro wz; go_simp⟩)) hS0 ?_
                        try simp only [Act.put, List.getElem_toArray, List.getElem_cons_succ, List.getElem_cons_zero, List.setIfInBounds_toArray, List.set_cons_zero, List.set_cons_succ]
                        refine wpAnyH_take (i := 10) (v := .int .i64 kd) rfl (by kernel_rfl) (by kernel_rfl) (by kernel_rfl) (fun _ _ _ h => h) (Or.inl ⟨by rfl, fun wz hS => by obtain ⟨s1, s2, s3⟩ := hS; go_simp⟩) hS0 ?_
                        try simp only [Act.put, List.getElem_toArray, List.getElem_cons_succ, List.getElem_cons_zero, List.setIfInBounds_toArray, List.set_cons_zero, List.set_cons_succ]
                        refine wpAnyH_take (i := 11) (v := .int .i64 (i : Nat)) rfl (by kernel_rfl) (by kernel_rfl) (by kernel_rfl) (fun _ _ _ h => h) (Yields.yieldsIf (Or.inl ⟨by rfl, by intro wz; go_simp⟩)) hS0 ?_
                        try simp only [Act.put, List.getElem_toArray, List.getElem_cons_succ, List.getElem_cons_zero, List.setIfInBounds_toArray, List.set_cons_zero, List.set_cons_succ]
                        refine wpAnyH_take (i := 12) (v := .pointer (some ⟨W.heap.size + 1, 2, none⟩)) rfl (by kernel_rfl) (by kernel_rfl) (by kernel_rfl) (fun _ _ _ h => h) (Yields.yieldsIf (Or.inl ⟨by rfl, by intro wz; go_simp⟩)) hS0 ?_
                        try simp only [Act.put, List.getElem_toArray, List.getElem_cons_succ, List.getElem_cons_zero, List.setIfInBounds_toArray, List.set_cons_zero, List.set_cons_succ]
                        refine wpAnyH_take (i := 13) (v := .int .i64 (Kn : Nat)) rfl (by kernel_rfl) (by kernel_rfl) (by kernel_rfl) (fun _ _ _ h => h) (Or.inl ⟨by rfl, fun wz hS => by obtain ⟨s1, s2, s3⟩ := hS; go_simp⟩) hS0 ?_
                        try simp only [Act.put, List.getElem_toArray, List.getElem_cons_succ, List.getElem_cons_zero, List.setIfInBounds_toArray, List.set_cons_zero, List.set_cons_succ]
                        refine wpAnyH_ready (rs := [14, 16]) (by kernel_rfl) (by simp) ?_
                        refine AllReadyH.cons rfl (fun K' hK => ?_) ?_
                        · go_simp
                          refine (HXC.out _).mono ?_
                          rintro e w' ⟨rfl, rfl⟩
                          refine hK.out _ _ (HS.out _ hbd) (fun _ => ?_)
                          clear hK K'
                          try simp only [Act.put, List.getElem_toArray, List.getElem_cons_succ, List.getElem_cons_zero, List.setIfInBounds_toArray, List.set_cons_zero, List.set_cons_succ]
                          refine wpAnyH_ready (rs := [15, 16]) (by kernel_rfl) (by simp) ?_
                          refine AllReadyH.cons rfl (fun K' hK => ?_) ?_
                          · go_simp
                            refine Calls.mono (HLK.out _ _ hbd) ?_
                            rintro e w2 ⟨c, ⟨adf, nf, cf, rfl⟩, hlp, hb2'⟩
                            have hb2 := hbd.trans (hb2'.mono hbd.size)
                            refine hK.out _ _ (HS.out _ hb2) (fun _ => ?_)
                            clear hK K'
                            try simp only [Act.put, List.getElem_toArray, List.getElem_cons_succ, List.getElem_cons_zero, List.setIfInBounds_toArray, List.set_cons_zero, List.set_cons_succ]
                            refine wpAnyH_ready (rs := [16]) (by kernel_rfl) (by simp) ?_
                            refine AllReadyH.cons rfl (fun K' hK => ?_) AllReadyH.nil
                            go_simp
                            have hb3 := hb2.alloc hb2.size (.cells #[.int .i64 0, .slice none 0 0] 31)
                            have CF : Cel (w2.alloc (.cells #[.int .i64 0, .slice none 0 0] 31)) w2.heap.size 31 #[.int .i64 0, .slice none 0 0] := Cel.new _ _ _
                            refine hK.out _ _ (HS.out _ hb3) (fun _ => ?_)
                            clear hK K'
                            try simp only [Act.put, List.getElem_toArray, List.getElem_cons_succ, List.getElem_cons_zero, List.setIfInBounds_toArray, List.set_cons_zero, List.set_cons_succ]
                            refine wpAnyH_ready (rs := [17]) (by kernel_rfl) (by simp) ?_
                            refine AllReadyH.cons rfl (fun K' hK => ?_) AllReadyH.nil
                            have HF : Hid (Cel (w2.alloc (.cells #[.int .i64 c, .slice adf nf cf] 31)) w2.heap.size 31 #[.int .i64 c, .slice adf nf cf] ∧ Below wr.heap.size wr (w2.alloc (.cells #[.int .i64 c, .slice adf nf cf] 31))) := ⟨Cel.new _ _ _, hb2.alloc hb2.size _⟩
                            have hS5 := HS.out _ HF.out.2
                            clear CF
                            go_simp
                            refine hK.out _ _ hS5 (fun _ => ?_)
                            clear hK K'
                            refine wpAnyH_done (by kernel_rfl) ?_ _
                            go_wp2_with fail
                            go_meet
                            case rel => exact ⟨_, c, adf, nf, cf, rfl, HF.out.1, hlp, HF.out.2⟩
                          refine AllReadyH.cons rfl (fun K' hK => ?_) AllReadyH.nil
                          go_simp
                          have hba := hbd.alloc hbd.size (.cells #[.int .i64 0, .slice none 0 0] 31)
                          have CFa : Cel (World.alloc (World.drew wr) (.cells #[.int .i64 0, .slice none 0 0] 31)) wr.heap.size 31 #[.int .i64 0, .slice none 0 0] := Cel.new (World.drew wr) _ _
                          refine hK.out _ _ (HS.out _ hba) (fun _ => ?_)
                          clear hK K'
                          try simp only [Act.put, List.getElem_toArray, List.getElem_cons_succ, List.getElem_cons_zero, List.setIfInBounds_toArray, List.set_cons_zero, List.set_cons_succ]
                          refine wpAnyH_ready (rs := [15]) (by kernel_rfl) (by simp) ?_
                          refine AllReadyH.cons rfl (fun K' hK => ?_) AllReadyH.nil
                          go_simp
                          refine Calls.mono (HLK.out _ _ hba) ?_
                          rintro e w2 ⟨c, ⟨adf, nf, cf, rfl⟩, hlp, hb2'⟩
                          have hb2 := hba.trans (hb2'.mono hba.size)
                          refine hK.out _ _ (HS.out _ hb2) (fun _ => ?_)
                          clear hK K'
                          try simp only [Act.put, List.getElem_toArray, List.getElem_cons_succ, List.getElem_cons_zero, List.setIfInBounds_toArray, List.set_cons_zero, List.set_cons_succ]
                          have CF : Cel w2 wr.heap.size 31 #[.int .i64 0, .slice none 0 0] := Cel.below CFa hb2' CFa.lt
                          have hb3 := hb2
                          refine wpAnyH_ready (rs := [17]) (by kernel_rfl) (by simp) ?_
                          refine AllReadyH.cons rfl (fun K' hK => ?_) AllReadyH.nil
                          have c1 := CF.cell 0
                          have c2 := CF.cell 1
                          have f1 := CF.frozen 0
                          have f2 := CF.frozen 1
                          have CF2 := (CF.set (j := 0) (.int .i64 c)).set (j := 1) (.slice adf nf cf)
                          have hbf : wr.heap.size ≤ wr.heap.size := Nat.le_refl _
                          have hb5 := (hb3.setCell (p := ⟨wr.heap.size, 0, none⟩) hbf (.int .i64 c)).setCell (p := ⟨wr.heap.size, 1, none⟩) hbf (.slice adf nf cf)
                          have HF : Hid (Cel _ wr.heap.size 31 #[.int .i64 c, .slice adf nf cf] ∧ Below wr.heap.size wr _) := ⟨CF2, hb5⟩
                          have hS5 := HS.out _ hb5
                          clear CF CF2 hb5
                          go_simp
                          refine hK.out _ _ hS5 (fun _ => ?_)
                          clear hK K'
                          refine wpAnyH_done (by kernel_rfl) ?_ _
                          go_wp2_with fail
                          go_meet
                          case rel => exact ⟨_, c, adf, nf, cf, rfl, HF.out.1, hlp, HF.out.2⟩
                        refine AllReadyH.cons rfl (fun K' hK => ?_) AllReadyH.nil
                        go_simp
                        have hba := hbd.alloc hbd.size (.cells #[.int .i64 0, .slice none 0 0] 31)
                        have CFa : Cel (World.alloc (World.drew wr) (.cells #[.int .i64 0, .slice none 0 0] 31)) wr.heap.size 31 #[.int .i64 0, .slice none 0 0] := Cel.new (World.drew wr) _ _
                        refine hK.out _ _ (HS.out _ hba) (fun _ => ?_)
                        clear hK K'
                        try simp only [Act.put, List.getElem_toArray, List.getElem_cons_succ, List.getElem_cons_zero, List.setIfInBounds_toArray, List.set_cons_zero, List.set_cons_succ]
                        refine wpAnyH_ready (rs := [14]) (by kernel_rfl) (by simp) ?_
                        refine AllReadyH.cons rfl (fun K' hK => ?_) AllReadyH.nil
                        go_simp
                        refine (HXC.out _).mono ?_
                        rintro e w' ⟨rfl, rfl⟩
                        refine hK.out _ _ (HS.out _ hba) (fun _ => ?_)
                        clear hK K'
                        try simp only [Act.put, List.getElem_toArray, List.getElem_cons_succ, List.getElem_cons_zero, List.setIfInBounds_toArray, List.set_cons_zero, List.set_cons_succ]
                        refine wpAnyH_ready (rs := [15]) (by kernel_rfl) (by simp) ?_
                        refine AllReadyH.cons rfl (fun K' hK => ?_) AllReadyH.nil
                        go_simp
                        refine Calls.mono (HLK.out _ _ hba) ?_
                        rintro e w2 ⟨c, ⟨adf, nf, cf, rfl⟩, hlp, hb2'⟩
                        have hb2 := hba.trans (hb2'.mono hba.size)
                        refine hK.out _ _ (HS.out _ hb2) (fun _ => ?_)
                        clear hK K'
                        try simp only [Act.put, List.getElem_toArray, List.getElem_cons_succ, List.getElem_cons_zero, List.setIfInBounds_toArray, List.set_cons_zero, List.set_cons_succ]
                        have CF : Cel w2 wr.heap.size 31 #[.int .i64 0, .slice none 0 0] := Cel.below CFa hb2' CFa.lt
                        have hb3 := hb2
                        refine wpAnyH_ready (rs := [17]) (by kernel_rfl) (by simp) ?_
                        refine AllReadyH.cons rfl (fun K' hK => ?_) AllReadyH.nil
                        have c1 := CF.cell 0
                        have c2 := CF.cell 1
                        have f1 := CF.frozen 0
                        have f2 := CF.frozen 1
                        have CF2 := (CF.set (j := 0) (.int .i64 c)).set (j := 1) (.slice adf nf cf)
                        have hbf : wr.heap.size ≤ wr.heap.size := Nat.le_refl _
                        have hb5 := (hb3.setCell (p := ⟨wr.heap.size, 0, none⟩) hbf (.int .i64 c)).setCell (p := ⟨wr.heap.size, 1, none⟩) hbf (.slice adf nf cf)
                        have HF : Hid (Cel _ wr.heap.size 31 #[.int .i64 c, .slice adf nf cf] ∧ Below wr.heap.size wr _) := ⟨CF2, hb5⟩
                        have hS5 := HS.out _ hb5
                        clear CF CF2 hb5
                        go_simp
                        refine hK.out _ _ hS5 (fun _ => ?_)
                        clear hK K'
                        refine wpAnyH_done (by kernel_rfl) ?_ _
                        go_wp2_with fail
                        go_meet
                        case rel => exact ⟨_, c, adf, nf, cf, rfl, HF.out.1, hlp, HF.out.2⟩
                      case rest =>
                        obtain ⟨bf, c, ad, n2, cp, rfl, HF⟩ := hcut
                        have f1 := HF.out.1.cell 0
                        have f2 := HF.out.1.cell 1
                        have hbx := HF.out.2.2
                        have hbwx := hbw.trans (hbx.mono hbw.size)
                        have CRR : Cel wc W.heap.size 31 #[.int .i64 0, .slice none 0 0] := hcl.below hbx hcl.lt
                        by_cases hc0 : c = 0
                        · subst hc0
                          obtain ⟨q, y, hy, hyq, hq1, hqm, hqf, hqs⟩ := HF.out.2.1 rfl
                          obtain ⟨g', o', cap', hv, hg', d0, d1, d2, d3, d4⟩ := (HNW.out _ hbwx).at hy
                          cases hv
                          have HI2 : Hid (reachN X (at_ + m) (i + 1) (at_ + 1) (k + q) ∧ (Ys ++ [(X.drop k).take q]).length = i + 1 ∧ (∀ (j : Nat) (Y : List Nd), (Ys ++ [(X.drop k).take q])[j]? = some Y → Fits e (wordAtB kd Kn j) Y) ∧ (Ys ++ [(X.drop k).take q]).flatten = (X.drop (at_ + 1)).take (k + q - (at_ + 1)) ∧ (i + 1 = Kn → 0 < Kn → k + q = at_ + m)) := by
                            obtain ⟨i1, i2, i3, i4, i5⟩ := HI.out
                            have hge := reach_ge X (at_ + m) (at_ + 1) i k i1
                            refine ⟨⟨k, i1, y, hy, by omega, by omega, by omega⟩, by simp [i2], fun j Y hY => ?_, ?_, fun h1 h2 => ?_⟩
                            · rw [Bool.not_not] at hqs
                              by_cases hj : j < Ys.length
                              · exact i3 j Y (by rwa [List.getElem?_append_left hj] at hY)
                              · rw [List.getElem?_append_right (by omega)] at hY
                                have hj0 : j - Ys.length = 0 := by
                                  have := (List.getElem?_eq_some_iff.1 hY).1
                                  simp at this
                                  omega
                                rw [hj0] at hY
                                have hYe : (X.drop k).take q = Y := by simpa using hY
                                rw [show j = i by omega, ← hYe]
                                exact hqs
                            · rw [List.flatten_append, i4, show k + q - (at_ + 1) = (k - (at_ + 1)) + q by omega, List.take_add, List.drop_drop, show at_ + 1 + (k - (at_ + 1)) = k by omega]
                              simp
                            · have := HFE.out.2 h1
                              have := hqf (by omega)
                              omega
                          obtain ⟨ykd, yn, yk, ysz, ys⟩ := y
                          simp only at d3 hyq
                          subst hyq
                          have hkX : k < X.length := by omega
                          clear d0 d1 d2 d4 hy hqf hqs
                          go_wp2_with fail
                          exact ⟨⟨i + 1, k + q, Ys ++ [(X.drop k).take q], by simp, by simp, by omega, HI2.out, hbr.trans (hbx.mono hbr.size)⟩, by simp [intOf]; omega⟩
                        · have hc0' : (c != 0) = true := by simpa using hc0
                          have l1 := CRR.cell 0
                          have l2 := CRR.cell 1
                          have l3 := CRR.frozen 0
                          have l4 := CRR.frozen 1
                          have HFR : Hid (Cel ((wc.setCell ⟨W.heap.size, 0, none⟩ (.int .i64 c)).setCell ⟨W.heap.size, 1, none⟩ (.slice ad n2 cp)) W.heap.size 31 #[.int .i64 c, .slice ad n2 cp]) := fault_ret CRR
                          have hbl : Below W.heap.size W ((wc.setCell ⟨W.heap.size, 0, none⟩ (.int .i64 c)).setCell ⟨W.heap.size, 1, none⟩ (.slice ad n2 cp)) := (hbwx.setCell (p := ⟨W.heap.size, 0, none⟩) (Nat.le_refl _) _).setCell (p := ⟨W.heap.size, 1, none⟩) (Nat.le_refl _) _
                          clear CRR
                          go_wp2_with fail
                          refine bodyPost_ret (results_cell_row (p := 12) (ty := 31) rfl _ _ W.heap.size 31 _ (0, 0) _ rfl HFR.out Tryz.underlying31 rfl size33) rfl ?_
                          exact ⟨c, ⟨_, _, _, rfl⟩, fun h => absurd h hc0, hbl⟩
                  · have hik' : ¬ (i : Int) < (Kn : Int) := by omega
                    go_wp2_with fail
                    refine (none_any _).mono ?_
                    rintro e' w5 ⟨rfl, hb5⟩
                    have hbw5 := hbw.trans (hb5.mono hbw.size)
                    replace CRR := CRR.below hb5 CRR.lt
                    have HLP : Hid (LookF X at_ most fin d cmd 0) := fun _ => by
                      obtain ⟨i1, i2, i3, i4, i5⟩ := HI.out
                      have hik : i = Kn := by omega
                      have hkm : k = at_ + m := by
                        by_cases h0 : Kn = 0
                        · have hm0 := HM2.out h0
                          rw [hik, h0] at i1
                          have : k = at_ + 1 := i1
                          omega
                        · exact i5 hik (by omega)
                      refine ⟨m, _, HX.out, rfl, hm1, hamx, HFIN.out, ?_⟩
                      rw [HD.out]
                      exact fits_node X at_ m e Kn kd nn s (!cmd) Ys HX.out hm1 (by omega) (by omega) HAL.out.1 HAL.out.2 i3 (by rw [i4, hkm]; congr 1; omega)
                    have l1 := CRR.cell 0
                    have l2 := CRR.cell 1
                    have l3 := CRR.frozen 0
                    have l4 := CRR.frozen 1
                    have HFR : Hid (Cel ((w5.setCell ⟨W.heap.size, 0, none⟩ (.int .i64 0)).setCell ⟨W.heap.size, 1, none⟩ (.slice none 0 0)) W.heap.size 31 #[.int .i64 0, .slice none 0 0]) := fault_ret CRR
                    have hbl : Below W.heap.size W ((w5.setCell ⟨W.heap.size, 0, none⟩ (.int .i64 0)).setCell ⟨W.heap.size, 1, none⟩ (.slice none 0 0)) := (hbw5.setCell (p := ⟨W.heap.size, 0, none⟩) (Nat.le_refl _) _).setCell (p := ⟨W.heap.size, 1, none⟩) (Nat.le_refl _) _
                    clear CRR
                    go_wp2_with fail
                    refine bodyPost_ret (results_cell_row (p := 12) (ty := 31) rfl _ _ W.heap.size 31 _ (0, 0) _ rfl HFR.out Tryz.underlying31 rfl size33) rfl ?_
                    exact ⟨0, ⟨_, _, _, rfl⟩, HLP.out, hbl⟩
end Go.Proofs.YtaildeglikhkaaaGreatDoor
namespace Go.Proofs.YtaildeglikhkaaaGreatDoor
open Go.RowKit
attribute [local go_sem] Oper.semAt_some

theorem look_all (v : Value) (X : List Nd) (hl : X.length < 4294967296) (hX : ∀ x ∈ X, NdIn x) : ∀ d, d ≤ 30 → LookCF v X d
  | 0, h => look_step v X hl hX 0 h (fun e he => by omega)
  | d + 1, h => look_step v X hl hX (d + 1) h (fun e he => by
    obtain rfl : e = d := by omega
    exact look_all v X hl hX e (by omega))
set_option maxRecDepth 100000 in
set_option maxHeartbeats 4000000 in
theorem refCheck_any (v : Value) (X : List Nd) (W : World) (hN : NdAt W v X) (hl : X.length < 4294967296) (hX : ∀ x ∈ X, NdIn x) :
    Calls Tryz.prog 14 #[v] W fun e w' => ∃ c, FaultC e c ∧ (c = 0 → Fits 30 false X) ∧ Below W.heap.size W w' := by
  obtain ⟨w1, hw1⟩ : ∃ w1, w1 = W.alloc (.cells #[.int .i64 0, .slice none 0 0] 31) := ⟨_, rfl⟩
  have hb1 : Below W.heap.size W w1 := by rw [hw1]; exact below_new _ _
  have CR : Cel w1 W.heap.size 31 #[.int .i64 0, .slice none 0 0] := by rw [hw1]; exact Cel.new _ _ _
  have HLK : Hid (0 < X.length → Calls Tryz.prog 37 #[v, .int .i64 0, .int .i64 X.length, .int .i64 X.length, .int .i64 1, .bool true] w1 fun e w' => ∃ c, FaultC e c ∧ (c = 0 → Fits 30 false X) ∧ Below w1.heap.size w1 w') := fun h0 => by
    refine Calls.mono (look_all v X hl hX 30 (Nat.le_refl _) 0 X.length X.length true w1 (hN.below hb1 (Nat.le_refl _)) h0 (Nat.le_refl _) (by omega) (Int.le_refl _)) ?_
    rintro e w' ⟨c, h1, h2, h3⟩
    refine ⟨c, h1, fun hc => ?_, h3⟩
    obtain ⟨m, x, _, _, _, _, hf, hs⟩ := h2 hc
    have := hf (by omega)
    obtain rfl : m = X.length := by omega
    rw [List.drop_zero, List.take_length] at hs
    exact hs
  obtain ⟨ad, cap, rfl⟩ := hN.form
  clear hN hX
  obtain ⟨L, hL⟩ : ∃ L, X.length = L := ⟨_, rfl⟩
  rw [hL] at HLK hl ⊢
  clear hL
  go_enter Tryz.func14, Tryz.ntmps14
  go_upto_region 1 with fail
  rw [← hw1]
  clear hw1
  by_cases h0 : L = 0
  · subst h0
    go_wp2_with fail
    refine (bare_any 111 _).mono ?_
    rintro e w2 ⟨rfl, hb2⟩
    have hbw2 := hb1.trans (hb2.mono hb1.size)
    have CRR := CR.below hb2 CR.lt
    have l1 := CRR.cell 0
    have l2 := CRR.cell 1
    have l3 := CRR.frozen 0
    have l4 := CRR.frozen 1
    have HFR : Hid (Cel ((w2.setCell ⟨W.heap.size, 0, none⟩ (.int .i64 111)).setCell ⟨W.heap.size, 1, none⟩ (.slice none 0 0)) W.heap.size 31 #[.int .i64 111, .slice none 0 0]) := fault_ret CRR
    have hbl : Below W.heap.size W ((w2.setCell ⟨W.heap.size, 0, none⟩ (.int .i64 111)).setCell ⟨W.heap.size, 1, none⟩ (.slice none 0 0)) := (hbw2.setCell (p := ⟨W.heap.size, 0, none⟩) (Nat.le_refl _) _).setCell (p := ⟨W.heap.size, 1, none⟩) (Nat.le_refl _) _
    clear CRR
    go_wp2_with fail
    refine bodyPost_ret (results_cell_row (p := 2) (ty := 31) rfl _ _ W.heap.size 31 _ (0, 0) _ rfl HFR.out Tryz.underlying31 rfl size33) rfl ?_
    exact ⟨_, ⟨_, _, _, rfl⟩, fun h => absurd h (by decide), hbl⟩
  · have h0' : ((L : Int) == 0) = false := by simp; omega
    by_cases h3 : (3000 : Int) < (L : Int)
    · go_wp2_with fail
      refine (bare_any 111 _).mono ?_
      rintro e w2 ⟨rfl, hb2⟩
      have hbw2 := hb1.trans (hb2.mono hb1.size)
      have CRR := CR.below hb2 CR.lt
      have l1 := CRR.cell 0
      have l2 := CRR.cell 1
      have l3 := CRR.frozen 0
      have l4 := CRR.frozen 1
      have HFR : Hid (Cel ((w2.setCell ⟨W.heap.size, 0, none⟩ (.int .i64 111)).setCell ⟨W.heap.size, 1, none⟩ (.slice none 0 0)) W.heap.size 31 #[.int .i64 111, .slice none 0 0]) := fault_ret CRR
      have hbl : Below W.heap.size W ((w2.setCell ⟨W.heap.size, 0, none⟩ (.int .i64 111)).setCell ⟨W.heap.size, 1, none⟩ (.slice none 0 0)) := (hbw2.setCell (p := ⟨W.heap.size, 0, none⟩) (Nat.le_refl _) _).setCell (p := ⟨W.heap.size, 1, none⟩) (Nat.le_refl _) _
      clear CRR
      go_wp2_with fail
      refine bodyPost_ret (results_cell_row (p := 2) (ty := 31) rfl _ _ W.heap.size 31 _ (0, 0) _ rfl HFR.out Tryz.underlying31 rfl size33) rfl ?_
      exact ⟨_, ⟨_, _, _, rfl⟩, fun h => absurd h (by decide), hbl⟩
    · have HLK2 : Hid (Calls Tryz.prog 37 #[.slice ad L cap, .int .i64 0, .int .i64 L, .int .i64 L, .int .i64 1, .bool true] w1 fun e w' => ∃ c, FaultC e c ∧ (c = 0 → Fits 30 false X) ∧ Below w1.heap.size w1 w') := HLK.out (by omega)
      go_wp2_with fail
      refine Calls.mono HLK2.out ?_
      rintro e w2 ⟨c, ⟨ad2, n2, cp, rfl⟩, hc, hb2⟩
      have HCS : Hid (c = 0 → Fits 30 false X) := hc
      clear hc
      have hbw2 := hb1.trans (hb2.mono hb1.size)
      have CRR := CR.below hb2 CR.lt
      have l1 := CRR.cell 0
      have l2 := CRR.cell 1
      have l3 := CRR.frozen 0
      have l4 := CRR.frozen 1
      have HFR : Hid (Cel ((w2.setCell ⟨W.heap.size, 0, none⟩ (.int .i64 c)).setCell ⟨W.heap.size, 1, none⟩ (.slice ad2 n2 cp)) W.heap.size 31 #[.int .i64 c, .slice ad2 n2 cp]) := fault_ret CRR
      have hbl : Below W.heap.size W ((w2.setCell ⟨W.heap.size, 0, none⟩ (.int .i64 c)).setCell ⟨W.heap.size, 1, none⟩ (.slice ad2 n2 cp)) := (hbw2.setCell (p := ⟨W.heap.size, 0, none⟩) (Nat.le_refl _) _).setCell (p := ⟨W.heap.size, 1, none⟩) (Nat.le_refl _) _
      clear CRR
      go_wp2_with fail
      refine bodyPost_ret (results_cell_row (p := 2) (ty := 31) rfl _ _ W.heap.size 31 _ (0, 0) _ rfl HFR.out Tryz.underlying31 rfl size33) rfl ?_
      exact ⟨c, ⟨_, _, _, rfl⟩, HCS.out, hbl⟩
end Go.Proofs.YtaildeglikhkaaaGreatDoor
