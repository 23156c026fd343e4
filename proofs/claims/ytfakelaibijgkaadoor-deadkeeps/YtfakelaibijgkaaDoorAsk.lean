/- What is asked of nodes, in memory. -/
import Derived.Test.YtfakelaibijgkaaDoorText
import Derived.Deep.Cut
namespace Go.Proofs.YtfakelaibijgkaaDoor
open Go.RowKit
attribute [local go_sem] Oper.semAt_some

abbrev akC (a : Ak) : List Value := [.int .i64 a.fin, .int .i64 a.dep, .bool a.last, .bool a.word]
def akCs (A : List Ak) : List Value := A.flatMap akC
def akA (A : List Ak) : Array Value := (akCs A).toArray
theorem akCs_length (A : List Ak) : (akCs A).length = A.length * 4 := by
  induction A with
  | nil => rfl
  | cons x X ih => simp [akCs] at ih ⊢; omega
theorem akCs_at : ∀ (A : List Ak) (j i : Nat) (a : Ak), A[j]? = some a → i < 4 → (akCs A)[j * 4 + i]? = (akC a)[i]?
  | [], j, i, a, h, _ => by simp at h
  | b :: A, 0, i, a, h, hi => by
    simp at h
    subst h
    unfold akCs
    rw [List.flatMap_cons, Nat.zero_mul, Nat.zero_add, List.getElem?_append_left (by simpa using hi)]
  | b :: A, j + 1, i, a, h, hi => by
    have := akCs_at A j i a (by simpa using h) hi
    unfold akCs at this ⊢
    rw [List.flatMap_cons, List.getElem?_append_right (by simp; omega)]
    rw [← this]
    congr 1
    simp
    omega
theorem akCs_set : ∀ (A : List Ak) (j : Nat) (a : Ak), j < A.length → akCs (A.set j a) = ((((akCs A).set (j * 4) (.int .i64 a.fin)).set (j * 4 + 1) (.int .i64 a.dep)).set (j * 4 + 2) (.bool a.last)).set (j * 4 + 3) (.bool a.word)
  | [], j, a, h => by simp at h
  | b :: A, 0, a, h => by simp [akCs]
  | b :: A, j + 1, a, h => by
    have := akCs_set A j a (by simpa using h)
    have e0 : (j + 1) * 4 = (j * 4) + 1 + 1 + 1 + 1 := by omega
    simp only [akCs, List.flatMap_cons, List.set_cons_succ, e0] at this ⊢
    simp only [akC, List.cons_append, List.nil_append, List.set_cons_succ]
    rw [this]
/-- What is asked, in block b. -/
def AkAt (W : World) (b : Nat) (A : List Ak) : Prop := Cel W b 52 (akA A)
theorem AkAt.at {W : World} {b : Nat} {A : List Ak} (h : AkAt W b A) {j : Nat} {a : Ak} (hj : A[j]? = some a) :
    W.cell? ⟨b, j * 4, none⟩ = some (.int .i64 a.fin) ∧ W.cell? ⟨b, j * 4 + 1, none⟩ = some (.int .i64 a.dep) ∧ W.cell? ⟨b, j * 4 + 2, none⟩ = some (.bool a.last) ∧ W.cell? ⟨b, j * 4 + 3, none⟩ = some (.bool a.word) := by
  have hc := fun i hi => (Cel.cell h (j * 4 + i)).trans ((List.getElem?_toArray).trans (akCs_at A j i a hj hi))
  exact ⟨hc 0 (by omega), hc 1 (by omega), hc 2 (by omega), hc 3 (by omega)⟩
theorem AkAt.set {W : World} {b : Nat} {A : List Ak} (h : AkAt W b A) {j : Nat} (hj : j < A.length) (a : Ak) :
    AkAt ((((W.setCell ⟨b, j * 4, none⟩ (.int .i64 a.fin)).setCell ⟨b, j * 4 + 1, none⟩ (.int .i64 a.dep)).setCell ⟨b, j * 4 + 2, none⟩ (.bool a.last)).setCell ⟨b, j * 4 + 3, none⟩ (.bool a.word)) b (A.set j a) := by
  have h4 := ((((Cel.set h (j := j * 4) (.int .i64 a.fin)).set (j := j * 4 + 1) (.int .i64 a.dep)).set (j := j * 4 + 2) (.bool a.last)).set (j := j * 4 + 3) (.bool a.word))
  unfold AkAt akA
  rw [akCs_set A j a hj]
  simpa [akA] using h4
theorem AkAt.ok {W : World} {b : Nat} {A : List Ak} (h : AkAt W b A) {j : Nat} (hj : j < A.length) :
    (∃ u, W.cell? ⟨b, j * 4, none⟩ = some u) ∧ (∃ u, W.cell? ⟨b, j * 4 + 1, none⟩ = some u) ∧ (∃ u, W.cell? ⟨b, j * 4 + 2, none⟩ = some u) ∧ (∃ u, W.cell? ⟨b, j * 4 + 3, none⟩ = some u) := by
  obtain ⟨h0, h1, h2, h3⟩ := h.at (List.getElem?_eq_getElem hj)
  exact ⟨⟨_, h0⟩, ⟨_, h1⟩, ⟨_, h2⟩, ⟨_, h3⟩⟩
/-- One of them may be written. -/
theorem AkAt.store {W : World} {b : Nat} {A : List Ak} (h : AkAt W b A) {j : Nat} (hj : j < A.length) :
    ∃ u0 u1 u2 u3, W.cell? ⟨b, j * 4, none⟩ = some u0 ∧ W.frozen? ⟨b, j * 4, none⟩ = false ∧ (∀ v, (W.setCell ⟨b, j * 4, none⟩ v).cell? ⟨b, j * 4 + 1, none⟩ = some u1) ∧ (∀ v, (W.setCell ⟨b, j * 4, none⟩ v).frozen? ⟨b, j * 4 + 1, none⟩ = false) ∧
      (∀ v v', ((W.setCell ⟨b, j * 4, none⟩ v).setCell ⟨b, j * 4 + 1, none⟩ v').cell? ⟨b, j * 4 + 2, none⟩ = some u2) ∧ (∀ v v', ((W.setCell ⟨b, j * 4, none⟩ v).setCell ⟨b, j * 4 + 1, none⟩ v').frozen? ⟨b, j * 4 + 2, none⟩ = false) ∧
      (∀ v v' v'', (((W.setCell ⟨b, j * 4, none⟩ v).setCell ⟨b, j * 4 + 1, none⟩ v').setCell ⟨b, j * 4 + 2, none⟩ v'').cell? ⟨b, j * 4 + 3, none⟩ = some u3) ∧ (∀ v v' v'', (((W.setCell ⟨b, j * 4, none⟩ v).setCell ⟨b, j * 4 + 1, none⟩ v').setCell ⟨b, j * 4 + 2, none⟩ v'').frozen? ⟨b, j * 4 + 3, none⟩ = false) := by
  obtain ⟨⟨u0, h0⟩, ⟨u1, h1⟩, ⟨u2, h2⟩, ⟨u3, h3⟩⟩ := h.ok hj
  have q1 := fun v => Cel.set h (j := j * 4) v
  have q2 := fun v v' => (q1 v).set (j := j * 4 + 1) v'
  have q3 := fun v v' v'' => (q2 v v').set (j := j * 4 + 2) v''
  rw [Cel.cell h] at h1 h2 h3
  refine ⟨u0, u1, u2, u3, h0, Cel.frozen h _, fun v => ?_, fun v => (q1 v).frozen _, fun v v' => ?_, fun v v' => (q2 v v').frozen _, fun v v' v'' => ?_, fun v v' v'' => (q3 v v' v'').frozen _⟩
  · rw [(q1 v).cell, Array.getElem?_setIfInBounds_ne (by omega)]; exact h1
  · rw [(q2 v v').cell, Array.getElem?_setIfInBounds_ne (by omega), Array.getElem?_setIfInBounds_ne (by omega)]; exact h2
  · rw [(q3 v v' v'').cell, Array.getElem?_setIfInBounds_ne (by omega), Array.getElem?_setIfInBounds_ne (by omega), Array.getElem?_setIfInBounds_ne (by omega)]; exact h3
theorem info64 : (Tryd.prog.info? 52).map (fun i => (i.zero, i.size, i.bytes)) = some (some (.agg #[.int .i64 0, .int .i64 0, .bool false, .bool false]), 4, 24) := by kernel_rfl
theorem madeCells_get (zs : Array Value) (n j : Nat) (h : j < n) : (madeCells zs n)[j]? = some zs[j % zs.size]! := by
  unfold madeCells
  simp [h]
theorem made_ak (n : Nat) : madeCells (Value.agg #[.int .i64 0, .int .i64 0, .bool false, .bool false]).cells (n * 4) = akA (List.replicate n ak0) := by
  have e1 : (Value.agg #[.int .i64 0, .int .i64 0, .bool false, .bool false]).cells = #[.int .i64 0, .int .i64 0, .bool false, .bool false] := by rfl
  apply Array.ext'
  apply List.ext_getElem?
  intro j
  rw [Array.getElem?_toList]
  by_cases hj : j < n * 4
  · rw [madeCells_get _ _ _ hj]
    have hA : (List.replicate n ak0)[j / 4]? = some ak0 := by rw [List.getElem?_replicate, if_pos (by omega)]
    have := akCs_at _ (j / 4) (j % 4) ak0 hA (by omega)
    rw [show j / 4 * 4 + j % 4 = j by omega] at this
    show _ = (akCs _)[j]?
    rw [this, e1]
    have h4 : j % 4 < 4 := by omega
    show some (#[Value.int .i64 0, .int .i64 0, .bool false, .bool false][j % 4]!) = _
    generalize j % 4 = i at h4
    match i, h4 with
    | 0, _ => rfl
    | 1, _ => rfl
    | 2, _ => rfl
    | 3, _ => rfl
  · have h1 : (madeCells (Value.agg #[.int .i64 0, .int .i64 0, .bool false, .bool false]).cells (n * 4)).size ≤ j := by unfold madeCells; simp; omega
    rw [Array.getElem?_eq_none h1]
    show _ = (akCs _)[j]?
    rw [List.getElem?_eq_none (by rw [akCs_length]; simp; omega)]
theorem make_asked (n : Nat) (hn : n < 4294967296) (w : World) : (Instr.makeSlice 53 (.int .i64 (n : Int)) (.int .i64 (n : Int))).run Tryd.prog w = .ok (.slice (some ⟨w.heap.size, 0, none⟩) n n) (w.alloc (.cells (akA (List.replicate n ak0)) 52)) := by
  obtain ⟨i0, hi0, hz0, hz1, hz2⟩ := info_parts info64
  have h := run_make (P := Tryd.prog) w 53 52 i0 _ Tryd.underlying53 hi0 hz0 .i64 .i64 (n : Int) (n : Int) (by omega) (Int.le_refl _) (by rw [hz2]; omega) (by omega)
  rw [hz1, show ((n : Int)).toNat = n by omega, made_ak] at h
  exact h
/-- A program in memory: its nodes, and what is asked of them. -/
structure PrAt (W : World) (pb ab : Nat) (v : Value) (n : Nat) (A : List Ak) : Prop where
  len : A.length = n
  prog : Cel W pb 55 #[v, .slice (some ⟨ab, 0, none⟩) n n]
  ask : AkAt W ab A

set_option maxHeartbeats 1000000 in
theorem newProgram_any (v : Value) (ad : Option Addr) (n cap : Nat) (hv : v = .slice ad n cap) (h0 : 0 < n) (hn : n < 4294967296) (w : World) :
    Calls Tryd.prog 23 #[v] w fun e w' => ∃ pb ab, e = .returned (.pointer (some ⟨pb, 0, none⟩)) ∧ PrAt w' pb ab v n (aks n) ∧ w.heap.size ≤ pb ∧ w.heap.size ≤ ab ∧ Below w.heap.size w w' := by
  subst hv
  have hmk := make_asked n hn
  go_enter Tryd.func23, Tryd.ntmps23
  go_upto_region 2 with fail
  obtain ⟨w1, hw1⟩ : ∃ w1, w1 = w.alloc (.cells (akA (List.replicate n ak0)) 52) := ⟨_, rfl⟩
  have hz1 : w1.heap.size = w.heap.size + 1 := by rw [hw1]; simp
  have hb1 : Below w.heap.size w w1 := by rw [hw1]; exact below_new _ _
  have hA1 : AkAt w1 w.heap.size (List.replicate n ak0) := by rw [hw1]; exact Cel.new _ _ _
  obtain ⟨w2, hw2⟩ : ∃ w2, w2 = w1.alloc (.cells #[.slice ad n cap, .slice (some ⟨w.heap.size, 0, none⟩) n n] 55) := ⟨_, rfl⟩
  have hP2 : Cel w2 (w.heap.size + 1) 55 #[.slice ad n cap, .slice (some ⟨w.heap.size, 0, none⟩) n n] := by rw [hw2, ← hz1]; exact Cel.new _ _ _
  have hA2 : AkAt w2 w.heap.size (List.replicate n ak0) := by rw [hw2]; exact Cel.below hA1 (below_new _ _) (by omega)
  have hb2 : Below w.heap.size w w2 := by rw [hw2]; exact hb1.alloc hb1.size _
  rw [← hw1, ← hw2]
  obtain ⟨u0, u1, u2, u3, c0, f0, c1, f1, c2, f2, c3, f3⟩ := hA2.store (j := 0) (by simpa using h0)
  simp only [Nat.zero_mul, Nat.zero_add] at c0 f0 c1 f1 c2 f2 c3 f3
  have p1 : w2.cell? ⟨w.heap.size + 1, 1, none⟩ = some (.slice (some ⟨w.heap.size, 0, none⟩) n n) := hP2.cell 1
  have HA : Hid (AkAt w2 w.heap.size (List.replicate n ak0)) := hA2
  have HP : Hid (Cel w2 (w.heap.size + 1) 55 #[.slice ad n cap, .slice (some ⟨w.heap.size, 0, none⟩) n n]) := hP2
  clear hA2 hP2 hA1 hw1 hw2 hz1 hb1 hmk w1
  go_wp2_with fail
  go_ret
  refine ⟨w.heap.size + 1, w.heap.size, rfl, ⟨aks_len n h0, ?_, ?_⟩, by omega, Nat.le_refl _, ?_⟩
  · exact (((HP.out.other (by omega) _).other (by omega) _).other (by omega) _).other (by omega) _
  · have := HA.out.set (j := 0) (by simpa using h0) ⟨n, 1, true, false⟩
    have e : (List.replicate n ak0).set 0 ⟨n, 1, true, false⟩ = aks n := by
      obtain ⟨m, rfl⟩ : ∃ m, n = m + 1 := ⟨n - 1, by omega⟩
      simp [aks, List.replicate_succ]
    rw [e] at this
    simpa using this
  · exact (((hb2.setCell (p := ⟨w.heap.size, 0, none⟩) (Nat.le_refl _) _).setCell (p := ⟨w.heap.size, 1, none⟩) (Nat.le_refl _) _).setCell (p := ⟨w.heap.size, 2, none⟩) (Nat.le_refl _) _).setCell (p := ⟨w.heap.size, 3, none⟩) (Nat.le_refl _) _
end Go.Proofs.YtfakelaibijgkaaDoor
