/- What a node asks of its children. -/
import Derived.Test.YtfakelaibijgkaaDoorMay
import Derived.OrdersHeld
import Derived.Deep.RegionHeld
namespace Go.Proofs.YtfakelaibijgkaaDoor
open Go.RowKit
attribute [local go_sem] Oper.semAt_some

/-- What is read while a child is told. -/
def Told (pb ab n i b5 : Nat) (dep kd nn K sz : Int) (s : Txt) (w : World) : Prop :=
  w.cell? ⟨pb, 1, none⟩ = some (.slice (some ⟨ab, 0, none⟩) n n) ∧ w.cell? ⟨ab, i * 4 + 1, none⟩ = some (.int .i64 dep) ∧
  w.cell? ⟨b5, 0, none⟩ = some (.int .i64 kd) ∧ w.cell? ⟨b5, 1, none⟩ = some (.int .i64 nn) ∧ w.cell? ⟨b5, 2, none⟩ = some (.int .i64 K) ∧ w.cell? ⟨b5, 3, none⟩ = some (.int .i64 sz) ∧ w.cell? ⟨b5, 4, none⟩ = some (str s)
theorem PrAt.turn {W W' : World} {pb ab n : Nat} {v : Value} {A : List Ak} {S : Nat → Prop} (h : PrAt W pb ab v n A) (hT : Turn S W W') (h1 : ¬ S pb) (h2 : ¬ S ab) : PrAt W' pb ab v n A :=
  ⟨h.len, h.prog.turn hT h1, Cel.turn h.ask hT h2⟩
theorem PrAt.drew {W : World} {pb ab n : Nat} {v : Value} {A : List Ak} (h : PrAt W pb ab v n A) : PrAt W.drew pb ab v n A := ⟨h.len, h.prog, h.ask⟩
theorem PrAt.apart {W : World} {pb ab n : Nat} {v : Value} {A : List Ak} (h : PrAt W pb ab v n A) : pb ≠ ab := by
  intro e
  have h1 := h.prog
  rw [e] at h1
  have := (show W.heap[ab]? = _ from h1).symm.trans (show W.heap[ab]? = _ from h.ask)
  simp at this
theorem told_of {W : World} {pb ab n i b5 : Nat} {v : Value} {A : List Ak} {a : Ak} {x : Nd} (h : PrAt W pb ab v n A) (ha : A[i]? = some a) (h5 : Cel W b5 26 (ndC x).toArray) : Told pb ab n i b5 a.dep x.kind x.n x.k x.size x.s W :=
  ⟨h.prog.cell 1, (h.ask.at ha).2.1, h5.cell 0, h5.cell 1, h5.cell 2, h5.cell 3, h5.cell 4⟩
theorem PrAt.told {W : World} {pb ab n : Nat} {v : Value} {A : List Ak} (h : PrAt W pb ab v n A) {j : Nat} (hj : j < n) (a : Ak) :
    PrAt ((((W.setCell ⟨ab, j * 4, none⟩ (.int .i64 a.fin)).setCell ⟨ab, j * 4 + 1, none⟩ (.int .i64 a.dep)).setCell ⟨ab, j * 4 + 2, none⟩ (.bool a.last)).setCell ⟨ab, j * 4 + 3, none⟩ (.bool a.word)) pb ab v n (A.set j a) :=
  ⟨by rw [List.length_set]; exact h.len, (((h.prog.other h.apart _).other h.apart _).other h.apart _).other h.apart _, h.ask.set (by rw [h.len]; exact hj) a⟩
theorem Turn.told {W W1 : World} {ab : Nat} (h : Turn (fun b => b = ab) W W1) (j : Nat) (v0 v1 v2 v3 : Value) :
    Turn (fun b => b = ab) W ((((W1.setCell ⟨ab, j * 4, none⟩ v0).setCell ⟨ab, j * 4 + 1, none⟩ v1).setCell ⟨ab, j * 4 + 2, none⟩ v2).setCell ⟨ab, j * 4 + 3, none⟩ v3) :=
  (((h.setCell (p := ⟨ab, j * 4, none⟩) (fun _ => rfl) v0).setCell (p := ⟨ab, j * 4 + 1, none⟩) (fun _ => rfl) v1).setCell (p := ⟨ab, j * 4 + 2, none⟩) (fun _ => rfl) v2).setCell (p := ⟨ab, j * 4 + 3, none⟩) (fun _ => rfl) v3
theorem askG_false (l : List Nd) (x : Nd) (dep : Int) (fin f k at_ : Nat) (A : List Ak) (hf : fin - at_ < f) (hk : (k : Int) < x.k) (h : fin ≤ at_) : askG l x dep fin f k at_ A = (false, A) := by
  obtain ⟨f, rfl⟩ : ∃ f', f = f' + 1 := ⟨f - 1, by omega⟩
  rw [askG, if_pos hk, if_pos h]
theorem askG_end (l : List Nd) (x : Nd) (dep : Int) (fin f k at_ : Nat) (A : List Ak) (hk : ¬ (k : Int) < x.k) : askG l x dep fin f k at_ A = (true, A) := by
  cases f with
  | zero => rfl
  | succ f => rw [askG, if_neg hk]
theorem askG_small (l : List Nd) (x y : Nd) (dep : Int) (fin f k at_ : Nat) (A : List Ak) (hf : fin - at_ < f) (hk : (k : Int) < x.k) (h : at_ < fin) (hy : l[at_]? = some y) (hs : y.size < 1) : askG l x dep fin f k at_ A = (true, A.set at_ ⟨fin, dep + 1, decide ((k : Int) = x.k - 1), wordAtB x.kind x.k k⟩) := by
  obtain ⟨f, rfl⟩ : ∃ f', f = f' + 1 := ⟨f - 1, by omega⟩
  rw [askG, if_pos hk, if_neg (by omega), hy]
  simp only [if_pos hs]
theorem askG_more (l : List Nd) (x y : Nd) (dep : Int) (fin f k at_ : Nat) (A : List Ak) (hk : (k : Int) < x.k) (h : at_ < fin) (hy : l[at_]? = some y) (hs : ¬ y.size < 1) : askG l x dep fin (f + 1) k at_ A = askG l x dep fin f (k + 1) (at_ + (min y.size ((fin - at_ : Nat) : Int)).toNat) (A.set at_ ⟨fin, dep + 1, decide ((k : Int) = x.k - 1), wordAtB x.kind x.k k⟩) := by
  rw [askG, if_pos hk, if_neg (by omega), hy]
  simp only [if_neg hs]

set_option maxRecDepth 100000 in
set_option maxHeartbeats 4000000 in
theorem askKids_any (X : List Nd) (A : List Ak) (pb ab g o cap : Nat) (i : Nat) (x : Nd) (a : Ak) (W : World) (hP : PrAt W pb ab (.slice (some ⟨g, o, none⟩) X.length cap) X.length A) (hN : NdAt W (.slice (some ⟨g, o, none⟩) X.length cap) X) (hgab : g ≠ ab) (hx : X[i]? = some x) (ha : A[i]? = some a) (hl : X.length < 4294967296)
    (fin : Nat) (h1 : 1 ≤ x.size) (hfin : x.size = (fin : Int) - i) (h2 : fin ≤ X.length) (hK2 : x.k ≤ 9223372036854775807) (hd0 : -4294967296 ≤ a.dep) (hd1 : a.dep ≤ 4294967296) (R : Bool × List Ak) (hR : askG X x a.dep fin (fin + 1) 0 (i + 1) A = R) :
    Calls Tryd.prog 25 #[.pointer (some ⟨pb, 0, none⟩), .int .i64 i] W fun e w' => e = .returned (.bool R.1) ∧ PrAt w' pb ab (.slice (some ⟨g, o, none⟩) X.length cap) X.length R.2 ∧ Turn (fun b => b = ab) W w' := by
  have hlt : i < X.length := (List.getElem?_eq_some_iff.1 hx).1
  obtain ⟨g', o', cap', hv, hg, c0, c1, c2, c3, c4⟩ := hN.at hx
  cases hv
  have p0 : W.cell? ⟨pb, 0, none⟩ = some (.slice (some ⟨g, o, none⟩) X.length cap) := hP.prog.cell 0
  have HN : Hid (∀ W', Turn (fun b => b = ab) W W' → NdAt W' (.slice (some ⟨g, o, none⟩) X.length cap) X) := fun W' hT => hN.turn hT (by simpa [Value.ownBlock] using hgab)
  have HP : Hid (PrAt W pb ab (.slice (some ⟨g, o, none⟩) X.length cap) X.length A) := hP
  have HA : Hid (A[i]? = some a) := ha
  have HR : Hid (askG X x a.dep fin (fin + 1) 0 (i + 1) A = R) := hR
  have hpab := hP.apart
  have hab : ab < W.heap.size := Cel.lt hP.ask
  have hpb : pb < W.heap.size := hP.prog.lt
  clear hP hN hx ha hR
  obtain ⟨kd, nn, K, sz, s⟩ := x
  obtain ⟨afin, dep, alast, aword⟩ := a
  simp only at c0 c1 c2 c3 c4 h1 hfin hK2 hd0 hd1
  have hlt' : (i : Int) < (X.length : Int) := by omega
  have hsum : (i : Int) + sz = (fin : Int) := by omega
  have hif : i < fin := by omega
  clear hfin h1
  go_enter Tryd.func25, Tryd.ntmps25
  go_upto_region 2 with fail
  obtain ⟨b5, hb5⟩ : ∃ b5, W.heap.size = b5 := ⟨_, rfl⟩
  obtain ⟨w1, hw1⟩ : ∃ w1, w1 = W.alloc (.cells #[.int .i64 kd, .int .i64 nn, .int .i64 K, .int .i64 sz, str s] 26) := ⟨_, rfl⟩
  have H5 : Hid (Cel w1 b5 26 #[.int .i64 kd, .int .i64 nn, .int .i64 K, .int .i64 sz, str s]) := by unfold Hid; rw [hw1, ← hb5]; exact Cel.new _ _ _
  have HT1 : Hid (Turn (fun b => b = ab) W w1) := by unfold Hid; rw [hw1]; exact (Turn.refl _ W).alloc _
  have HP1 : Hid (PrAt w1 pb ab (.slice (some ⟨g, o, none⟩) X.length cap) X.length A) := by unfold Hid; rw [hw1]; exact HP.out.turn (S := fun _ => False) ((Turn.refl _ W).alloc _) (fun h => h) (fun h => h)
  rw [← hw1, hb5]
  have d2 := H5.out.cell 2
  have d3 := H5.out.cell 3
  simp only [List.getElem?_toArray, List.getElem?_cons_zero, List.getElem?_cons_succ] at d2 d3
  clear c0 c1 c2 c3 c4 p0 hw1
  go_wp2_with fail
  clear d2 d3 hsum
  go_loopw [7, 24] (fun v7 v24 wr => ∃ (k at_ f : Nat) (A' : List Ak), v7 = .int .i64 at_ ∧ v24 = .int .i64 k ∧ at_ ≤ fin ∧ i < at_ ∧ k ≤ at_ ∧ fin - at_ < f ∧ Hid (askG X ⟨kd, nn, K, sz, s⟩ dep fin f k at_ A' = R) ∧ Hid (A'[i]? = some ⟨afin, dep, alast, aword⟩) ∧ Hid (PrAt wr pb ab (.slice (some ⟨g, o, none⟩) X.length cap) X.length A') ∧ Hid (Turn (fun b => b = ab) W wr) ∧ Hid (Cel wr b5 26 #[.int .i64 kd, .int .i64 nn, .int .i64 K, .int .i64 sz, str s])) (fun v7 _ _ => fin - (intOf v7).toNat)
  case atStart => exact ⟨0, i + 1, fin + 1, A, by simp, rfl, by omega, by omega, by omega, by omega, HR.out, HA.out, HP1.out, HT1.out, H5.out⟩
  case round =>
    obtain ⟨k, at_, f, A', rfl, rfl, hat, hia, hka, hff, HRR, HAA, HPP, HTT, HBB⟩ := hrel
    by_cases hk : (k : Int) < K
    · by_cases hge : fin ≤ at_
      · have hr := HRR.out.symm.trans (askG_false X ⟨kd, nn, K, sz, s⟩ dep fin f k at_ A' hff hk hge)
        have hge' : (fin : Int) ≤ (at_ : Int) := by omega
        have HRF : Hid (R = (false, A')) := hr
        clear hr
        go_wp2_with fail
        go_ret
        rw [HRF.out]
        exact ⟨rfl, HPP.out, HTT.out⟩
      · have hlt2 : at_ < X.length := by omega
        obtain ⟨y, hy⟩ : ∃ y, X[at_]? = some y := ⟨_, List.getElem?_eq_getElem hlt2⟩
        have hAl : A'.length = X.length := HPP.out.len
        have hat' : (at_ : Int) < (X.length : Int) := by omega
        have hge' : ¬ (fin : Int) ≤ (at_ : Int) := by omega
        have HYY : Hid (X[at_]? = some y) := hy
        obtain ⟨A2, hA2⟩ : ∃ A2, A2 = A'.set at_ ⟨fin, dep + 1, decide ((k : Int) = K - 1), wordAtB kd K k⟩ := ⟨_, rfl⟩
        have HA2 : Hid (A2 = A'.set at_ ⟨fin, dep + 1, decide ((k : Int) = K - 1), wordAtB kd K k⟩) := hA2
        clear hy hA2
        go_upto_region 9 with fail
        go_cut [24] from 24 to 78 (fun v24 wx => v24 = .int .i64 k ∧ Hid (PrAt wx pb ab (.slice (some ⟨g, o, none⟩) X.length cap) X.length A2) ∧ Hid (Turn (fun b => b = ab) W wx) ∧ Hid (Cel wx b5 26 #[.int .i64 kd, .int .i64 nn, .int .i64 K, .int .i64 sz, str s]))
        case first => as_aux_lemma =>
          refine wp_region_held (S := Told pb ab X.length i b5 dep kd nn K sz s) (by kernel_rfl) ?_
          change wpAnyH _ _ _ _ _ _ _ _ (World.drew _)
          have hS0 : Told pb ab X.length i b5 dep kd nn K sz s (World.drew wr) := told_of (a := ⟨afin, dep, alast, aword⟩) (x := ⟨kd, nn, K, sz, s⟩) HPP.out.drew HAA.out HBB.out
          refine wpAnyH_take (i := 0) (v := .pointer (some ⟨pb, 0, none⟩)) rfl (by kernel_rfl) (by kernel_rfl) (by kernel_rfl) (fun _ _ _ h => h) (Yields.yieldsIf (Or.inl ⟨by rfl, by intro wz; go_simp⟩)) hS0 ?_
          try simp only [Act.put, List.getElem_toArray, List.getElem_cons_zero, List.setIfInBounds_toArray, List.set_cons_zero, List.set_cons_succ]
          refine wpAnyH_take (i := 1) (v := .pointer (some ⟨pb, 0, none⟩)) rfl (by kernel_rfl) (by kernel_rfl) (by kernel_rfl) (fun _ _ _ h => h) (Yields.yieldsIf (Or.inl ⟨by rfl, by intro wz; go_simp⟩)) hS0 ?_
          try simp only [Act.put, List.getElem_toArray, List.getElem_cons_succ, List.getElem_cons_zero, List.setIfInBounds_toArray, List.set_cons_zero, List.set_cons_succ]
          refine wpAnyH_take (i := 2) (v := .pointer (some ⟨pb, 1, none⟩)) rfl (by kernel_rfl) (by kernel_rfl) (by kernel_rfl) (fun _ _ _ h => h) (Yields.yieldsIf (Or.inl ⟨by rfl, by intro wz; go_simp⟩)) hS0 ?_
          try simp only [Act.put, List.getElem_toArray, List.getElem_cons_succ, List.getElem_cons_zero, List.setIfInBounds_toArray, List.set_cons_zero, List.set_cons_succ]
          refine wpAnyH_take (i := 3) (v := .slice (some ⟨ab, 0, none⟩) X.length X.length) rfl (by kernel_rfl) (by kernel_rfl) (by kernel_rfl) (fun _ _ _ h => h) (Or.inl ⟨by rfl, fun wz hS => by obtain ⟨s1, s2, t0, t1, t2, t3, t4⟩ := hS; go_simp⟩) hS0 ?_
          try simp only [Act.put, List.getElem_toArray, List.getElem_cons_succ, List.getElem_cons_zero, List.setIfInBounds_toArray, List.set_cons_zero, List.set_cons_succ]
          refine wpAnyH_take (i := 4) (v := .int .i64 (at_ : Int)) rfl (by kernel_rfl) (by kernel_rfl) (by kernel_rfl) (fun _ _ _ h => h) (Yields.yieldsIf (Or.inl ⟨by rfl, by intro wz; go_simp⟩)) hS0 ?_
          try simp only [Act.put, List.getElem_toArray, List.getElem_cons_succ, List.getElem_cons_zero, List.setIfInBounds_toArray, List.set_cons_zero, List.set_cons_succ]
          refine wpAnyH_take (i := 5) (v := .int .i64 (fin : Int)) rfl (by kernel_rfl) (by kernel_rfl) (by kernel_rfl) (fun _ _ _ h => h) (Yields.yieldsIf (Or.inl ⟨by rfl, by intro wz; go_simp⟩)) hS0 ?_
          try simp only [Act.put, List.getElem_toArray, List.getElem_cons_succ, List.getElem_cons_zero, List.setIfInBounds_toArray, List.set_cons_zero, List.set_cons_succ]
          refine wpAnyH_take (i := 6) (v := .pointer (some ⟨pb, 0, none⟩)) rfl (by kernel_rfl) (by kernel_rfl) (by kernel_rfl) (fun _ _ _ h => h) (Yields.yieldsIf (Or.inl ⟨by rfl, by intro wz; go_simp⟩)) hS0 ?_
          try simp only [Act.put, List.getElem_toArray, List.getElem_cons_succ, List.getElem_cons_zero, List.setIfInBounds_toArray, List.set_cons_zero, List.set_cons_succ]
          refine wpAnyH_take (i := 7) (v := .pointer (some ⟨pb, 0, none⟩)) rfl (by kernel_rfl) (by kernel_rfl) (by kernel_rfl) (fun _ _ _ h => h) (Yields.yieldsIf (Or.inl ⟨by rfl, by intro wz; go_simp⟩)) hS0 ?_
          try simp only [Act.put, List.getElem_toArray, List.getElem_cons_succ, List.getElem_cons_zero, List.setIfInBounds_toArray, List.set_cons_zero, List.set_cons_succ]
          refine wpAnyH_take (i := 8) (v := .pointer (some ⟨pb, 1, none⟩)) rfl (by kernel_rfl) (by kernel_rfl) (by kernel_rfl) (fun _ _ _ h => h) (Yields.yieldsIf (Or.inl ⟨by rfl, by intro wz; go_simp⟩)) hS0 ?_
          try simp only [Act.put, List.getElem_toArray, List.getElem_cons_succ, List.getElem_cons_zero, List.setIfInBounds_toArray, List.set_cons_zero, List.set_cons_succ]
          refine wpAnyH_take (i := 9) (v := .slice (some ⟨ab, 0, none⟩) X.length X.length) rfl (by kernel_rfl) (by kernel_rfl) (by kernel_rfl) (fun _ _ _ h => h) (Or.inl ⟨by rfl, fun wz hS => by obtain ⟨s1, s2, t0, t1, t2, t3, t4⟩ := hS; go_simp⟩) hS0 ?_
          try simp only [Act.put, List.getElem_toArray, List.getElem_cons_succ, List.getElem_cons_zero, List.setIfInBounds_toArray, List.set_cons_zero, List.set_cons_succ]
          refine wpAnyH_take (i := 10) (v := .int .i64 (i : Int)) rfl (by kernel_rfl) (by kernel_rfl) (by kernel_rfl) (fun _ _ _ h => h) (Yields.yieldsIf (Or.inl ⟨by rfl, by intro wz; go_simp⟩)) hS0 ?_
          try simp only [Act.put, List.getElem_toArray, List.getElem_cons_succ, List.getElem_cons_zero, List.setIfInBounds_toArray, List.set_cons_zero, List.set_cons_succ]
          refine wpAnyH_take (i := 11) (v := .pointer (some ⟨ab, i * 4, none⟩)) rfl (by kernel_rfl) (by kernel_rfl) (by kernel_rfl) (fun _ _ _ h => h) (Yields.yieldsIf (Or.inl ⟨by rfl, by intro wz; go_simp⟩)) hS0 ?_
          try simp only [Act.put, List.getElem_toArray, List.getElem_cons_succ, List.getElem_cons_zero, List.setIfInBounds_toArray, List.set_cons_zero, List.set_cons_succ]
          refine wpAnyH_take (i := 12) (v := .pointer (some ⟨ab, i * 4 + 1, none⟩)) rfl (by kernel_rfl) (by kernel_rfl) (by kernel_rfl) (fun _ _ _ h => h) (Yields.yieldsIf (Or.inl ⟨by rfl, by intro wz; go_simp⟩)) hS0 ?_
          try simp only [Act.put, List.getElem_toArray, List.getElem_cons_succ, List.getElem_cons_zero, List.setIfInBounds_toArray, List.set_cons_zero, List.set_cons_succ]
          refine wpAnyH_take (i := 13) (v := .int .i64 dep) rfl (by kernel_rfl) (by kernel_rfl) (by kernel_rfl) (fun _ _ _ h => h) (Or.inl ⟨by rfl, fun wz hS => by obtain ⟨s1, s2, t0, t1, t2, t3, t4⟩ := hS; go_simp⟩) hS0 ?_
          try simp only [Act.put, List.getElem_toArray, List.getElem_cons_succ, List.getElem_cons_zero, List.setIfInBounds_toArray, List.set_cons_zero, List.set_cons_succ]
          refine wpAnyH_take (i := 14) (v := .int .i64 (dep + 1)) rfl (by kernel_rfl) (by kernel_rfl) (by kernel_rfl) (fun _ _ _ h => h) (Yields.yieldsIf (Or.inl ⟨by rfl, by intro wz; go_simp; rw [IntKind.wrap_i64]; omega⟩)) hS0 ?_
          try simp only [Act.put, List.getElem_toArray, List.getElem_cons_succ, List.getElem_cons_zero, List.setIfInBounds_toArray, List.set_cons_zero, List.set_cons_succ]
          refine wpAnyH_take (i := 15) (v := .int .i64 (k : Int)) rfl (by kernel_rfl) (by kernel_rfl) (by kernel_rfl) (fun _ _ _ h => h) (Yields.yieldsIf (Or.inl ⟨by rfl, by intro wz; go_simp⟩)) hS0 ?_
          try simp only [Act.put, List.getElem_toArray, List.getElem_cons_succ, List.getElem_cons_zero, List.setIfInBounds_toArray, List.set_cons_zero, List.set_cons_succ]
          refine wpAnyH_take (i := 16) (v := .pointer (some ⟨b5, 2, none⟩)) rfl (by kernel_rfl) (by kernel_rfl) (by kernel_rfl) (fun _ _ _ h => h) (Yields.yieldsIf (Or.inl ⟨by rfl, by intro wz; go_simp⟩)) hS0 ?_
          try simp only [Act.put, List.getElem_toArray, List.getElem_cons_succ, List.getElem_cons_zero, List.setIfInBounds_toArray, List.set_cons_zero, List.set_cons_succ]
          refine wpAnyH_take (i := 17) (v := .int .i64 K) rfl (by kernel_rfl) (by kernel_rfl) (by kernel_rfl) (fun _ _ _ h => h) (Or.inl ⟨by rfl, fun wz hS => by obtain ⟨s1, s2, t0, t1, t2, t3, t4⟩ := hS; go_simp⟩) hS0 ?_
          try simp only [Act.put, List.getElem_toArray, List.getElem_cons_succ, List.getElem_cons_zero, List.setIfInBounds_toArray, List.set_cons_zero, List.set_cons_succ]
          refine wpAnyH_take (i := 18) (v := .int .i64 (K - 1)) rfl (by kernel_rfl) (by kernel_rfl) (by kernel_rfl) (fun _ _ _ h => h) (Yields.yieldsIf (Or.inl ⟨by rfl, by intro wz; go_simp; rw [IntKind.wrap_i64]; omega⟩)) hS0 ?_
          try simp only [Act.put, List.getElem_toArray, List.getElem_cons_succ, List.getElem_cons_zero, List.setIfInBounds_toArray, List.set_cons_zero, List.set_cons_succ]
          refine wpAnyH_take (i := 19) (v := .bool (decide ((k : Int) = K - 1))) rfl (by kernel_rfl) (by kernel_rfl) (by kernel_rfl) (fun _ _ _ h => h) (Yields.yieldsIf (Or.inl ⟨by rfl, by intro wz; go_simp; rfl⟩)) hS0 ?_
          try simp only [Act.put, List.getElem_toArray, List.getElem_cons_succ, List.getElem_cons_zero, List.setIfInBounds_toArray, List.set_cons_zero, List.set_cons_succ]
          refine wpAnyH_take (i := 20) (v := .agg #[.int .i64 kd, .int .i64 nn, .int .i64 K, .int .i64 sz, str s]) rfl (by kernel_rfl) (by kernel_rfl) (by kernel_rfl) (fun _ _ _ h => h) (Or.inl ⟨by rfl, fun wz hS => by obtain ⟨s1, s2, t0, t1, t2, t3, t4⟩ := hS; go_simp⟩) hS0 ?_
          try simp only [Act.put, List.getElem_toArray, List.getElem_cons_succ, List.getElem_cons_zero, List.setIfInBounds_toArray, List.set_cons_zero, List.set_cons_succ]
          refine wpAnyH_take (i := 21) (v := .int .i64 (k : Int)) rfl (by kernel_rfl) (by kernel_rfl) (by kernel_rfl) (fun _ _ _ h => h) (Yields.yieldsIf (Or.inl ⟨by rfl, by intro wz; go_simp⟩)) hS0 ?_
          try simp only [Act.put, List.getElem_toArray, List.getElem_cons_succ, List.getElem_cons_zero, List.setIfInBounds_toArray, List.set_cons_zero, List.set_cons_succ]
          refine wpAnyH_ready (rs := [22]) (by kernel_rfl) (by simp) ?_
          refine AllReadyH.cons rfl (fun K' hK => ?_) AllReadyH.nil
          go_simp
          refine (wordAt_any ⟨kd, nn, K, sz, s⟩ K rfl (by omega) hK2 k _).mono ?_
          rintro e w2 ⟨rfl, hb2⟩
          have hP2 : PrAt w2 pb ab (.slice (some ⟨g, o, none⟩) X.length cap) X.length A' := HPP.out.drew.turn (S := fun _ => False) (Turn.ofBelow hb2) (fun h => h) (fun h => h)
          have hB2 : Cel w2 b5 26 #[.int .i64 kd, .int .i64 nn, .int .i64 K, .int .i64 sz, str s] := Cel.below (W := World.drew wr) HBB.out hb2 (Cel.lt HBB.out)
          have hT2 : Turn (fun b => b = ab) W w2 := HTT.out.drew.trans (Turn.ofBelow (S := fun _ => False) hb2) (fun _ h => h.elim)
          have hS2 : Told pb ab X.length i b5 dep kd nn K sz s w2 := told_of (a := ⟨afin, dep, alast, aword⟩) (x := ⟨kd, nn, K, sz, s⟩) hP2 HAA.out hB2
          refine hK.out _ _ hS2 (fun _ => ?_)
          clear hK K' hb2 hS0
          refine wpAnyH_take (i := 23) (v := .agg #[.int .i64 (fin : Int), .int .i64 (dep + 1), .bool (decide ((k : Int) = K - 1)), .bool (wordAtB kd K k)]) rfl (by kernel_rfl) (by kernel_rfl) (by kernel_rfl) (fun _ _ _ h => h) (Yields.yieldsIf (Or.inl ⟨by rfl, by intro wz; go_simp⟩)) hS2 ?_
          try simp only [Act.put, List.getElem_toArray, List.getElem_cons_succ, List.getElem_cons_zero, List.setIfInBounds_toArray, List.set_cons_zero, List.set_cons_succ]
          refine wpAnyH_take (i := 24) (v := .pointer (some ⟨ab, at_ * 4, none⟩)) rfl (by kernel_rfl) (by kernel_rfl) (by kernel_rfl) (fun _ _ _ h => h) (Yields.yieldsIf (Or.inl ⟨by rfl, by intro wz; go_simp⟩)) hS2 ?_
          try simp only [Act.put, List.getElem_toArray, List.getElem_cons_succ, List.getElem_cons_zero, List.setIfInBounds_toArray, List.set_cons_zero, List.set_cons_succ]
          refine wpAnyH_ready (rs := [25]) (by kernel_rfl) (by simp) ?_
          refine AllReadyH.cons rfl (fun K' hK => ?_) AllReadyH.nil
          obtain ⟨u0, u1, u2, u3, c0, f0, c1, f1, c2, f2, c3, f3⟩ := hP2.ask.store (j := at_) (by rw [hAl]; exact hlt2)
          have hP3 := hP2.told (j := at_) hlt2 ⟨fin, dep + 1, decide ((k : Int) = K - 1), wordAtB kd K k⟩
          have hT3 := hT2.told at_ (.int .i64 (fin : Int)) (.int .i64 (dep + 1)) (.bool (decide ((k : Int) = K - 1))) (.bool (wordAtB kd K k))
          have hne5 : b5 ≠ ab := by omega
          have hB3 := (((hB2.other hne5 (j := at_ * 4) (.int .i64 (fin : Int))).other hne5 (j := at_ * 4 + 1) (.int .i64 (dep + 1))).other hne5 (j := at_ * 4 + 2) (.bool (decide ((k : Int) = K - 1)))).other hne5 (j := at_ * 4 + 3) (.bool (wordAtB kd K k))
          have hS3 := told_of (a := ⟨afin, dep, alast, aword⟩) (x := ⟨kd, nn, K, sz, s⟩) hP3 ((List.getElem?_set_ne (show at_ ≠ i by omega)).trans HAA.out) hB3
          have HP3 : Hid (PrAt _ _ _ _ _ _) := hP3
          have HT3 : Hid (Turn _ _ _) := hT3
          have HB3 : Hid (Cel _ _ _ _) := hB3
          have HS3 : Hid (Told _ _ _ _ _ _ _ _ _ _ _ _) := hS3
          clear hP3 hT3 hB3 hS3
          go_simp
          refine hK.out _ _ HS3.out (fun _ => ?_)
          clear hK K'
          refine wpAnyH_done (by kernel_rfl) ?_ _
          go_wp2_with fail
          go_meet
          case rel => exact ⟨rfl, by rw [HA2.out]; exact HP3.out, HT3.out, HB3.out⟩
        case rest =>
          obtain ⟨rfl, HP2, HT2, HB2⟩ := hcut
          obtain ⟨g', o', cap', hv, hg', c0, c1, c2, c3, c4⟩ := (HN.out _ HT2.out).at HYY.out
          cases hv
          have p0 : wc.cell? ⟨pb, 0, none⟩ = some (.slice (some ⟨g, o, none⟩) X.length cap) := HP2.out.prog.cell 0
          clear c0 c1 c2 c4
          obtain ⟨ykd, yn, yk, ysz, ys⟩ := y
          simp only at c3
          by_cases hs1 : ysz < 1
          · have hr := HRR.out.symm.trans (askG_small X ⟨kd, nn, K, sz, s⟩ ⟨ykd, yn, yk, ysz, ys⟩ dep fin f k at_ A' hff hk (by omega) HYY.out hs1)
            have HRF : Hid (R = (true, A2)) := by unfold Hid; rw [HA2.out]; exact hr
            clear hr
            go_wp2_with fail
            go_ret
            rw [HRF.out]
            exact ⟨rfl, HP2.out, HT2.out⟩
          · obtain ⟨f', rfl⟩ : ∃ f', f = f' + 1 := ⟨f - 1, by omega⟩
            have hr := askG_more X ⟨kd, nn, K, sz, s⟩ ⟨ykd, yn, yk, ysz, ys⟩ dep fin f' k at_ A' hk (by omega) HYY.out hs1
            obtain ⟨m, hm1, hm2, hm, hm'⟩ : ∃ m : Nat, 1 ≤ m ∧ at_ + m ≤ fin ∧ min ysz ((fin - at_ : Nat) : Int) = m ∧ (if (fin : Int) - (at_ : Int) < ysz then (fin : Int) - (at_ : Int) else ysz) = m := by
              by_cases h : (fin : Int) - (at_ : Int) < ysz
              · exact ⟨fin - at_, by omega, by omega, by rw [Int.min_eq_right (by omega)], by rw [if_pos h]; omega⟩
              · exact ⟨ysz.toNat, by omega, by omega, by rw [Int.min_eq_left (by omega)]; omega, by rw [if_neg h]; omega⟩
            have HRF : Hid (askG X ⟨kd, nn, K, sz, s⟩ dep fin f' (k + 1) (at_ + m) A2 = R) := by
              unfold Hid
              rw [← HRR.out, hr, HA2.out]
              simp only [hm]
              rfl
            have HA3 : Hid (A2[i]? = some ⟨afin, dep, alast, aword⟩) := by unfold Hid; rw [HA2.out, List.getElem?_set_ne (by omega)]; exact HAA.out
            have HM : Hid ((if (fin : Int) - (at_ : Int) < ysz then (fin : Int) - (at_ : Int) else ysz) = m) := hm'
            have hm3 : ((at_ : Int) + (if (fin : Int) - (at_ : Int) < ysz then (fin : Int) - (at_ : Int) else ysz)) ≤ 9223372036854775807 := by rw [hm']; omega
            have hm4 : -9223372036854775808 ≤ ((at_ : Int) + (if (fin : Int) - (at_ : Int) < ysz then (fin : Int) - (at_ : Int) else ysz)) := by rw [hm']; omega
            clear hr hm hm'
            go_wp2_with fail
            rw [HM.out]
            exact ⟨⟨k + 1, at_ + m, f', A2, by simp, by simp, hm2, by omega, by omega, by omega, HRF.out, HA3.out, HP2.out, HT2.out, HB2.out⟩, by simp [intOf]; omega⟩
    · have hr := HRR.out.symm.trans (askG_end X ⟨kd, nn, K, sz, s⟩ dep fin f k at_ A' hk)
      have HRF : Hid (R = (true, A')) := hr
      clear hr
      go_wp2_with fail
      go_ret
      rw [HRF.out]
      exact ⟨rfl, HPP.out, HTT.out⟩
end Go.Proofs.YtfakelaibijgkaaDoor
