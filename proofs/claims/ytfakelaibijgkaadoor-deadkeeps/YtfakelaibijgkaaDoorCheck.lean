/- Programs are checked. -/
import Derived.Test.YtfakelaibijgkaaDoorKids
namespace Go.Proofs.YtfakelaibijgkaaDoor
open Go.RowKit
attribute [local go_sem] Oper.semAt_some

/-! ### the errors -/
abbrev errV (a : Addr) : Value := .iface 101 (.pointer (some a))
/-- The errors lie in the first variables, and are others each. -/
structure Ers (W : World) (ea : Nat → Addr) : Prop where
  cell : ∀ i, i < 3 → W.cell? ⟨i, 0, none⟩ = some (errV (ea i))
  apart : ∀ i j, i < 3 → j < 3 → ea i = ea j → i = j
  row : ∀ i, i < 3 → ∃ c t, W.heap[(ea i).block]? = some (.cells c t (0, 0))
theorem Ers.lt {W : World} {ea : Nat → Addr} (h : Ers W ea) {i : Nat} (hi : i < 3) : i < W.heap.size := World.block_lt_of_cell? W _ (h.cell i hi)
theorem Ers.below {W W' : World} {ea : Nat → Addr} (h : Ers W ea) (hb : Below W.heap.size W W') : Ers W' ea :=
  ⟨fun i hi => (hb.cell (p := ⟨i, 0, none⟩) (h.lt hi)).trans (h.cell i hi), h.apart, fun i hi => by
    obtain ⟨c, t, hc⟩ := h.row i hi
    exact ⟨c, t, (hb.block _ (Array.getElem?_eq_some_iff.1 hc).1).trans hc⟩⟩
/-- The error that an answer is. -/
def ErrIs (W : World) (ea : Nat → Addr) (e : Value) : Rs → Prop
  | .fine => e = .nilIface
  | .many => e = errV (ea 0)
  | .node i => ∃ q, e = .iface 48 (.pointer (some ⟨q, 0, none⟩)) ∧ Cel W q 50 #[.int .i64 i, errV (ea 1)]
  | .nest i => ∃ q, e = .iface 48 (.pointer (some ⟨q, 0, none⟩)) ∧ Cel W q 50 #[.int .i64 i, errV (ea 2)]

/-! ### what is asked stays small -/
def AkOk (n j : Nat) (a : Ak) : Prop := 0 ≤ a.fin ∧ a.fin ≤ n ∧ 0 ≤ a.dep ∧ a.dep ≤ 31 ∧ (a.last = true → (j : Int) < a.fin)
def AksOk (n : Nat) (A : List Ak) : Prop := ∀ j a, A[j]? = some a → AkOk n j a
theorem AksOk.set {n : Nat} {A : List Ak} (h : AksOk n A) (j : Nat) (a : Ak) (ha : AkOk n j a) : AksOk n (A.set j a) := by
  intro i b hb
  by_cases e : j = i
  · subst e
    rw [List.getElem?_set] at hb
    simp only [if_true] at hb
    split at hb
    · cases hb; exact ha
    · cases hb
  · rw [List.getElem?_set_ne e] at hb
    exact h i b hb
theorem askG_ok (l : List Nd) (x : Nd) (dep : Int) (fin n : Nat) (hd0 : 0 ≤ dep) (hd : dep ≤ 30) (hn : fin ≤ n) : ∀ (f k at_ : Nat) (A : List Ak), AksOk n A → AksOk n (askG l x dep fin f k at_ A).2
  | 0, _, _, A, h => h
  | f + 1, k, at_, A, h => by
    unfold askG
    split
    · split
      · exact h
      · rename_i hlt
        have hs : AksOk n (A.set at_ ⟨fin, dep + 1, decide ((k : Int) = x.k - 1), wordAtB x.kind x.k k⟩) :=
          h.set at_ _ ⟨by show (0 : Int) ≤ fin; omega, by show (fin : Int) ≤ n; omega, by show 0 ≤ dep + 1; omega, by show dep + 1 ≤ 31; omega, fun _ => by show (at_ : Int) < fin; omega⟩
        split
        · exact h
        · split
          · exact hs
          · exact askG_ok l x dep fin n hd0 hd hn f _ _ _ hs
    · exact h
theorem aks_ok (n : Nat) (h : 0 < n) : AksOk n (aks n) := by
  intro j a ha
  cases j with
  | zero => cases ha; exact ⟨by show (0 : Int) ≤ n; omega, by show (n : Int) ≤ n; omega, by show (0 : Int) ≤ 1; decide, by show (1 : Int) ≤ 31; decide, fun _ => by show ((0 : Nat) : Int) < n; omega⟩
  | succ j =>
    simp only [aks, List.getElem?_cons_succ, List.getElem?_replicate] at ha
    split at ha
    · cases ha; exact ⟨by decide, by show (0 : Int) ≤ n; omega, by decide, by decide, fun h => by cases h⟩
    · cases ha
theorem may_size {x : Nd} {a : Ak} {n i : Nat} (h : mayB x a i = true) (ha : AkOk n i a) : 1 ≤ x.size ∧ (i : Int) + x.size ≤ n := by
  obtain ⟨h0, h1, _, _, h4⟩ := ha
  unfold mayB at h
  simp only [Bool.and_eq_true] at h
  have hs := h.2
  unfold sizB at hs
  split at hs
  · cases hs
  · split at hs
    · rename_i hl
      have := h4 hl
      simp at hs
      omega
    · simp at hs
      omega
theorem goC_not (l : List Nd) (f i : Nat) (A : List Ak) (x : Nd) (a : Ak) (hx : l[i]? = some x) (ha : A[i]? = some a) (hm : mayB x a i = false) : goC l (f + 1) i A = .node i := by
  rw [goC, hx, ha]
  simp only [hm, Bool.false_eq_true, if_false]
theorem goC_yes (l : List Nd) (f i : Nat) (A : List Ak) (x : Nd) (a : Ak) (fin : Nat) (hfin : i + x.size.toNat = fin) (hx : l[i]? = some x) (ha : A[i]? = some a) (hm : mayB x a i = true) (R : Bool × List Ak) (hR : askG l x a.dep fin (fin + 1) 0 (i + 1) A = R) :
    goC l (f + 1) i A = if R.1 then (if 30 < a.dep then .nest i else goC l f (i + 1) R.2) else .node i := by
  rw [goC, hx, ha]
  simp only [hm, if_true, hfin, hR]
theorem askG_len (l : List Nd) (x : Nd) (dep : Int) (fin : Nat) : ∀ (f k at_ : Nat) (A : List Ak), (askG l x dep fin f k at_ A).2.length = A.length
  | 0, _, _, A => rfl
  | f + 1, k, at_, A => by
    unfold askG
    split
    · split
      · rfl
      · split
        · rfl
        · split
          · simp
          · rw [askG_len]; simp
    · rfl
theorem askG_keeps (l : List Nd) (x : Nd) (dep : Int) (fin i : Nat) : ∀ (f k at_ : Nat) (A : List Ak), i < at_ → (askG l x dep fin f k at_ A).2[i]? = A[i]?
  | 0, _, _, A, _ => rfl
  | f + 1, k, at_, A, h => by
    unfold askG
    split
    · split
      · rfl
      · split
        · rfl
        · split
          · simp only; rw [List.getElem?_set_ne (by omega)]
          · rw [askG_keeps l x dep fin i f _ _ _ (by omega), List.getElem?_set_ne (by omega)]
    · rfl

def NdOk (x : Nd) : Prop := x.s.length < 4611686018427387904 ∧ x.k ≤ 9223372036854775807

set_option maxRecDepth 100000 in
set_option maxHeartbeats 4000000 in
theorem check_any (v : Value) (X : List Nd) (W : World) (ea : Nat → Addr) (hE : Ers W ea) (hN : NdAt W v X) (hl : X.length < 4294967296) (hok : ∀ x ∈ X, NdOk x) :
    Calls Tryd.prog 11 #[v] W fun e w' => ∃ u, e = .returned u ∧ ErrIs w' ea u (checkL X) ∧ Below W.heap.size W w' := by
  obtain ⟨ad, cap, rfl⟩ := hN.form
  by_cases h0 : X.length = 0
  · have c0 := hE.cell 0 (by omega)
    have hc : checkL X = .many := by unfold checkL; rw [if_pos (Or.inl h0)]
    rw [hc]
    go_enter Tryd.func11, Tryd.ntmps11
    go_wp2_with fail
    go_ret
    exact ⟨_, rfl, rfl, Below.refl _ _⟩
  by_cases h1 : 3000 < X.length
  · have c0 := hE.cell 0 (by omega)
    have hc : checkL X = .many := by unfold checkL; rw [if_pos (Or.inr h1)]
    rw [hc]
    go_enter Tryd.func11, Tryd.ntmps11
    go_wp2_with fail
    go_ret
    exact ⟨_, rfl, rfl, Below.refl _ _⟩
  obtain ⟨R, hR⟩ : ∃ R, checkL X = R := ⟨_, rfl⟩
  have hg0 : goC X X.length 0 (aks X.length) = R := by rw [← hR]; unfold checkL; rw [if_neg (by omega)]
  rw [hR]
  clear hR
  have HE : Hid (∀ W', Below W.heap.size W W' → Ers W' ea) := fun W' hb => hE.below hb
  have HN : Hid (∀ W', Below W.heap.size W W' → NdAt W' (.slice ad X.length cap) X) := fun W' hb => hN.below hb (Nat.le_refl _)
  have HOK : Hid (∀ x ∈ X, NdOk x) := hok
  have HG0 : Hid (goC X X.length 0 (aks X.length) = R) := hg0
  obtain ⟨g, o, cap', hv, hg, _⟩ := hN.at (List.getElem?_eq_getElem (l := X) (i := 0) (by omega))
  cases hv
  clear hE hN hok hg0
  have h0' : 0 < X.length := by omega
  have hne : ¬ X = [] := fun e => by rw [e] at h0'; simp at h0'
  have h1' : ¬ (3000 : Int) < (X.length : Int) := by omega
  go_enter Tryd.func11, Tryd.ntmps11
  go_wp2_with fail
  refine (newProgram_any _ (some ⟨g, o, none⟩) X.length cap rfl h0' hl _).mono ?_
  rintro e w1 ⟨pb, ab, rfl, hP1, hpb, hab, hb1⟩
  have hgab : g ≠ ab := by omega
  have HP1 : Hid (PrAt w1 pb ab (.slice (some ⟨g, o, none⟩) X.length cap) X.length (aks X.length)) := hP1
  clear hP1
  go_wp2_with fail
  go_loopw [18] (fun v18 wr => ∃ (i : Nat) (A : List Ak), v18 = .int .i64 i ∧ i ≤ X.length ∧ Hid (goC X (X.length - i) i A = R) ∧ Hid (AksOk X.length A) ∧ Hid (PrAt wr pb ab (.slice (some ⟨g, o, none⟩) X.length cap) X.length A) ∧ Below W.heap.size W wr) (fun v18 _ => X.length - (intOf v18).toNat)
  case atStart => exact ⟨0, aks X.length, rfl, by omega, HG0.out, aks_ok _ h0', HP1.out, hb1⟩
  case round =>
    obtain ⟨i, A, rfl, hi, HG, HAK, HP, hbr⟩ := hrel
    by_cases hil : i < X.length
    · obtain ⟨x, hx⟩ : ∃ x, X[i]? = some x := ⟨_, List.getElem?_eq_getElem hil⟩
      obtain ⟨a, ha⟩ : ∃ a, A[i]? = some a := ⟨_, List.getElem?_eq_getElem (by rw [HP.out.len]; exact hil)⟩
      have hak := HAK.out i a ha
      have hxo := HOK.out x (List.mem_of_getElem? hx)
      obtain ⟨f, hf⟩ : ∃ f, X.length - i = f + 1 := ⟨X.length - i - 1, by omega⟩
      have hgc := HG.out
      rw [hf] at hgc
      have HMB : Hid (∀ W', PrAt W' pb ab (.slice (some ⟨g, o, none⟩) X.length cap) X.length A → NdAt W' (.slice (some ⟨g, o, none⟩) X.length cap) X → Calls Tryd.prog 24 #[.pointer (some ⟨pb, 0, none⟩), .int .i64 i] W' fun e w' => e = .returned (.bool (mayB x a i)) ∧ Below W'.heap.size W' w') :=
        fun W' q1 q2 => mayBe_any X A pb ab _ i x a W' q1 q2 hx ha (by omega) hxo.1 (by have := hak.1; omega) (by have := hak.2.1; omega)
      cases hm : mayB x a i with
      | false =>
        have hr := hgc.symm.trans (goC_not X f i A x a hx ha hm)
        rw [hm] at HMB
        have HR : Hid (R = .node i) := hr
        clear hr hgc hx ha hak hxo hm HG
        go_wp2_with fail
        refine Calls.mono (HMB.out _ HP.out (HN.out _ hbr)) ?_
        rintro e w2 ⟨rfl, hb2⟩
        have hbw2 := hbr.trans (hb2.mono hbr.size)
        have c1 := (HE.out _ hbw2).cell 1 (by omega)
        go_wp2_with fail
        go_ret
        rw [HR.out]
        exact ⟨_, rfl, ⟨_, rfl, Cel.new _ _ _⟩, hbw2.alloc hbw2.size _⟩
      | true =>
        obtain ⟨hs1, hs2⟩ := may_size hm hak
        obtain ⟨fin, hfin⟩ : ∃ fin, i + x.size.toNat = fin := ⟨_, rfl⟩
        obtain ⟨Q, hQ⟩ : ∃ Q, askG X x a.dep fin (fin + 1) 0 (i + 1) A = Q := ⟨_, rfl⟩
        have hr := hgc.symm.trans (goC_yes X f i A x a fin hfin hx ha hm Q hQ)
        have HAS : Hid (∀ W', PrAt W' pb ab (.slice (some ⟨g, o, none⟩) X.length cap) X.length A → NdAt W' (.slice (some ⟨g, o, none⟩) X.length cap) X → Calls Tryd.prog 25 #[.pointer (some ⟨pb, 0, none⟩), .int .i64 i] W' fun e w' => e = .returned (.bool Q.1) ∧ PrAt w' pb ab (.slice (some ⟨g, o, none⟩) X.length cap) X.length Q.2 ∧ Turn (fun b => b = ab) W' w') :=
          fun W' q1 q2 => askKids_any X A pb ab g o cap i x a W' q1 q2 hgab hx ha hl fin hs1 (by omega) (by omega) hxo.2 (by have := hak.2.2.1; omega) (by have := hak.2.2.2.1; omega) Q hQ
        have hQi : Q.2[i]? = some a := by rw [← hQ, askG_keeps X x a.dep fin i _ _ _ _ (by omega)]; exact ha
        have HQO : Hid (a.dep ≤ 30 → AksOk X.length Q.2) := fun hd => by rw [← hQ]; exact askG_ok X x a.dep fin X.length hak.2.2.1 hd (by omega) _ _ _ _ HAK.out
        rw [hm] at HMB
        have HR : Hid (R = if Q.1 then (if 30 < a.dep then .nest i else goC X f (i + 1) Q.2) else .node i) := hr
        have HQI : Hid (Q.2[i]? = some a) := hQi
        clear hr hgc hx ha hak hxo hm HG hQ hQi hs1 hs2 hfin
        go_wp2_with fail
        refine Calls.mono (HMB.out _ HP.out (HN.out _ hbr)) ?_
        rintro e w2 ⟨rfl, hb2⟩
        have hbw2 := hbr.trans (hb2.mono hbr.size)
        have hP2 := HP.out.turn (S := fun _ => False) (Turn.ofBelow hb2) (fun h => h) (fun h => h)
        go_wp2_with fail
        refine Calls.mono (HAS.out _ hP2 (HN.out _ hbw2)) ?_
        rintro e w3 ⟨rfl, hP3, hT3⟩
        have hbw3 := hbw2.trans (hT3.below (B := W.heap.size) (fun b hb => by subst hb; exact hab) hbw2.size)
        obtain ⟨q1, q2⟩ := Q
        simp only at hP3 ⊢
        cases q1 with
        | false =>
          simp only [Bool.false_eq_true, if_false] at HR
          have c1 := (HE.out _ hbw3).cell 1 (by omega)
          clear hP2 hP3
          go_wp2_with fail
          go_ret
          rw [HR.out]
          exact ⟨_, rfl, ⟨_, rfl, Cel.new _ _ _⟩, hbw3.alloc hbw3.size _⟩
        | true =>
          simp only [if_true] at HR HQI HQO
          have p1 : w3.cell? ⟨pb, 1, none⟩ = some (.slice (some ⟨ab, 0, none⟩) X.length X.length) := hP3.prog.cell 1
          obtain ⟨_, a1, _, _⟩ := hP3.ask.at HQI.out
          have HP3 : Hid (PrAt w3 pb ab (.slice (some ⟨g, o, none⟩) X.length cap) X.length q2) := hP3
          clear hP2 hP3 hT3 hb2
          obtain ⟨afin, dep, alast, aword⟩ := a
          simp only at a1 HR HQO
          have hil' : (i : Int) < (X.length : Int) := by omega
          by_cases hd : 30 < dep
          · have c2 := (HE.out _ hbw3).cell 2 (by omega)
            have HR2 : Hid (R = .nest i) := by unfold Hid; rw [HR.out, if_pos hd]
            go_wp2_with fail
            go_ret
            rw [HR2.out]
            exact ⟨_, rfl, ⟨_, rfl, Cel.new _ _ _⟩, hbw3.alloc hbw3.size _⟩
          · have HR2 : Hid (goC X (X.length - (i + 1)) (i + 1) q2 = R) := by unfold Hid; rw [HR.out, if_neg hd, show X.length - (i + 1) = f by omega]
            go_wp2_with fail
            exact ⟨⟨i + 1, q2, by simp, by omega, HR2.out, HQO.out (by omega), HP3.out, hbw3⟩, by simp [intOf]; omega⟩
    · have hiz : i = X.length := by omega
      subst hiz
      have hgc := HG.out
      rw [Nat.sub_self] at hgc
      have HR : Hid (R = .fine) := hgc.symm
      clear hgc
      go_wp2_with fail
      go_ret
      rw [HR.out]
      exact ⟨_, rfl, rfl, hbr⟩
end Go.Proofs.YtfakelaibijgkaaDoor
