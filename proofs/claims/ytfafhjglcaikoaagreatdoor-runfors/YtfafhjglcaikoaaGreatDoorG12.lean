/- Names and numbers of package text. -/
import Derived.Test.YtfafhjglcaikoaaGreatDoorG4
import Derived.Test.YtfafhjglcaikoaaGreatDoorG2
import Derived.Test.YtfafhjglcaikoaaGreatDoorCKids
import Derived.Test.YtfafhjglcaikoaaGreatDoorG7
import Derived.Test.YtfafhjglcaikoaaGreatDoorG5
import Derived.Test.YtfafhjglcaikoaaGreatDoorG6
import Derived.Test.YtfafhjglcaikoaaGreatDoorProg
import Derived.WalkKit
import Derived.WalkSpells
import Derived.WalkLawsBesides
import Derived.Below
/-! Programs are checked. -/
namespace Go.Proofs.YtfafhjglcaikoaaGreatDoor
open Go.RowKit
attribute [local go_sem] Oper.semAt_some

/-! ### the errors -/
theorem Ers.bel {W W' : World} {ea : Nat → Addr} (h : Ers W ea) (hb : Below W.heap.size W W') : Ers W' ea := h.below hb (Nat.le_refl _)
/-- The error that an answer is. -/
def ErrIs (W : World) (ea : Nat → Addr) (e : Value) : Rs → Prop
  | .fine => e = .nilIface
  | .many => e = errV (ea 4)
  | .node i => ∃ q, e = .iface 117 (.pointer (some ⟨q, 0, none⟩)) ∧ Cel W q 119 #[.int .i64 i, errV (ea 5)]
  | .nest i => ∃ q, e = .iface 117 (.pointer (some ⟨q, 0, none⟩)) ∧ Cel W q 119 #[.int .i64 i, errV (ea 6)]

/-! ### what is asked stays small -/
def AkOk (n j : Nat) (a : Ak) : Prop := 0 ≤ a.fin ∧ a.fin ≤ n ∧ 0 ≤ a.dep ∧ a.dep ≤ 31 ∧ (a.last = true → (j : Int) < a.fin)
def AksOk (n : Nat) (A : List Ak) : Prop := ∀ j a, A[j]? = some a → AkOk n j a
theorem AksOk.set {n : Nat} {A : List Ak} (h : AksOk n A) (j : Nat) (a : Ak) (ha : AkOk n j a) : AksOk n (A.set j a) := by
  intro i b hb
  by_cases e : j = i
  · subst e
    rw [List.getElem?_set] at hb
    simp only [if_true] at hb
    split at hb
    · cases hb; exact ha
    · cases hb
  · rw [List.getElem?_set_ne e] at hb
    exact h i b hb
theorem askG_ok (l : List Nd) (x : Nd) (dep : Int) (fin n : Nat) (hd0 : 0 ≤ dep) (hd : dep ≤ 30) (hn : fin ≤ n) : ∀ (f k at_ : Nat) (A : List Ak), AksOk n A → AksOk n (askG l x dep fin f k at_ A).2
  | 0, _, _, A, h => h
  | f + 1, k, at_, A, h => by
    unfold askG
    split
    · split
      · exact h
      · rename_i hlt
        have hs : AksOk n (A.set at_ ⟨fin, dep + 1, decide ((k : Int) = x.k - 1), wordAtB x.kind x.k k⟩) :=
          h.set at_ _ ⟨by show (0 : Int) ≤ fin; omega, by show (fin : Int) ≤ n; omega, by show 0 ≤ dep + 1; omega, by show dep + 1 ≤ 31; omega, fun _ => by show (at_ : Int) < fin; omega⟩
        split
        · exact h
        · split
          · exact hs
          · exact askG_ok l x dep fin n hd0 hd hn f _ _ _ hs
    · exact h
theorem aks_ok (n : Nat) (h : 0 < n) : AksOk n (aks n) := by
  intro j a ha
  cases j with
  | zero => cases ha; exact ⟨by show (0 : Int) ≤ n; omega, by show (n : Int) ≤ n; omega, by show (0 : Int) ≤ 1; decide, by show (1 : Int) ≤ 31; decide, fun _ => by show ((0 : Nat) : Int) < n; omega⟩
  | succ j =>
    simp only [aks, List.getElem?_cons_succ, List.getElem?_replicate] at ha
    split at ha
    · cases ha; exact ⟨by decide, by show (0 : Int) ≤ n; omega, by decide, by decide, fun h => by cases h⟩
    · cases ha
theorem may_size {x : Nd} {a : Ak} {n i : Nat} (h : mayB x a i = true) (ha : AkOk n i a) : 1 ≤ x.size ∧ (i : Int) + x.size ≤ n := by
  obtain ⟨h0, h1, _, _, h4⟩ := ha
  unfold mayB at h
  simp only [Bool.and_eq_true] at h
  have hs := h.2
  unfold sizB at hs
  split at hs
  · cases hs
  · split at hs
    · rename_i hl
      have := h4 hl
      simp at hs
      omega
    · simp at hs
      omega
theorem goC_not (l : List Nd) (f i : Nat) (A : List Ak) (x : Nd) (a : Ak) (hx : l[i]? = some x) (ha : A[i]? = some a) (hm : mayB x a i = false) : goC l (f + 1) i A = .node i := by
  rw [goC, hx, ha]
  simp only [hm, Bool.false_eq_true, if_false]
theorem goC_yes (l : List Nd) (f i : Nat) (A : List Ak) (x : Nd) (a : Ak) (fin : Nat) (hfin : i + x.size.toNat = fin) (hx : l[i]? = some x) (ha : A[i]? = some a) (hm : mayB x a i = true) (R : Bool × List Ak) (hR : askG l x a.dep fin (fin + 1) 0 (i + 1) A = R) :
    goC l (f + 1) i A = if R.1 then (if 30 < a.dep then .nest i else goC l f (i + 1) R.2) else .node i := by
  rw [goC, hx, ha]
  simp only [hm, if_true, hfin, hR]
theorem askG_len (l : List Nd) (x : Nd) (dep : Int) (fin : Nat) : ∀ (f k at_ : Nat) (A : List Ak), (askG l x dep fin f k at_ A).2.length = A.length
  | 0, _, _, A => rfl
  | f + 1, k, at_, A => by
    unfold askG
    split
    · split
      · rfl
      · split
        · rfl
        · split
          · simp
          · rw [askG_len]; simp
    · rfl
theorem askG_keeps (l : List Nd) (x : Nd) (dep : Int) (fin i : Nat) : ∀ (f k at_ : Nat) (A : List Ak), i < at_ → (askG l x dep fin f k at_ A).2[i]? = A[i]?
  | 0, _, _, A, _ => rfl
  | f + 1, k, at_, A, h => by
    unfold askG
    split
    · split
      · rfl
      · split
        · rfl
        · split
          · simp only; rw [List.getElem?_set_ne (by omega)]
          · rw [askG_keeps l x dep fin i f _ _ _ (by omega), List.getElem?_set_ne (by omega)]
    · rfl

def NdOk (x : Nd) : Prop := x.s.length < 4611686018427387904 ∧ x.k ≤ 9223372036854775807

set_option maxRecDepth 100000 in
set_option maxHeartbeats 4000000 in
theorem check_any (v : Value) (X : List Nd) (W : World) (ea : Nat → Addr) (hE : Ers W ea) (hN : NdAt W v X) (hl : X.length < 4294967296) (hok : ∀ x ∈ X, NdOk x) :
    Calls Tryz.prog 38 #[v] W fun e w' => ∃ u, e = .returned u ∧ ErrIs w' ea u (checkL X) ∧ Below W.heap.size W w' := by
  obtain ⟨ad, cap, rfl⟩ := hN.form
  by_cases h0 : X.length = 0
  · have c0 := (hE 4 (by omega)).1
    have hc : checkL X = .many := by unfold checkL; rw [if_pos (Or.inl h0)]
    rw [hc]
    go_enter Tryz.func38, Tryz.ntmps38
    go_wp2_with fail
    go_ret
    exact ⟨_, rfl, rfl, Below.refl _ _⟩
  by_cases h1 : 3000 < X.length
  · have c0 := (hE 4 (by omega)).1
    have hc : checkL X = .many := by unfold checkL; rw [if_pos (Or.inr h1)]
    rw [hc]
    go_enter Tryz.func38, Tryz.ntmps38
    go_wp2_with fail
    go_ret
    exact ⟨_, rfl, rfl, Below.refl _ _⟩
  obtain ⟨R, hR⟩ : ∃ R, checkL X = R := ⟨_, rfl⟩
  have hg0 : goC X X.length 0 (aks X.length) = R := by rw [← hR]; unfold checkL; rw [if_neg (by omega)]
  rw [hR]
  clear hR
  have HE : Hid (∀ W', Below W.heap.size W W' → Ers W' ea) := fun W' hb => hE.bel hb
  have HN : Hid (∀ W', Below W.heap.size W W' → NdAt W' (.slice ad X.length cap) X) := fun W' hb => hN.below hb (Nat.le_refl _)
  have HOK : Hid (∀ x ∈ X, NdOk x) := hok
  have HG0 : Hid (goC X X.length 0 (aks X.length) = R) := hg0
  obtain ⟨g, o, cap', hv, hg, _⟩ := hN.at (List.getElem?_eq_getElem (l := X) (i := 0) (by omega))
  cases hv
  clear hE hN hok hg0
  have h0' : 0 < X.length := by omega
  have hne : ¬ X = [] := fun e => by rw [e] at h0'; simp at h0'
  have h1' : ¬ (3000 : Int) < (X.length : Int) := by omega
  go_enter Tryz.func38, Tryz.ntmps38
  go_wp2_with fail
  refine (newProgram_any _ (some ⟨g, o, none⟩) X.length cap rfl h0' hl _).mono ?_
  rintro e w1 ⟨pb, ab, rfl, hP1, hpb, hab, hb1⟩
  have hgab : g ≠ ab := by omega
  have HP1 : Hid (PrAt w1 pb ab (.slice (some ⟨g, o, none⟩) X.length cap) X.length (aks X.length)) := hP1
  clear hP1
  go_wp2_with fail
  go_loopw [18] (fun v18 wr => ∃ (i : Nat) (A : List Ak), v18 = .int .i64 i ∧ i ≤ X.length ∧ Hid (goC X (X.length - i) i A = R) ∧ Hid (AksOk X.length A) ∧ Hid (PrAt wr pb ab (.slice (some ⟨g, o, none⟩) X.length cap) X.length A) ∧ Below W.heap.size W wr) (fun v18 _ => X.length - (intOf v18).toNat)
  case atStart => exact ⟨0, aks X.length, rfl, by omega, HG0.out, aks_ok _ h0', HP1.out, hb1⟩
  case round =>
    obtain ⟨i, A, rfl, hi, HG, HAK, HP, hbr⟩ := hrel
    by_cases hil : i < X.length
    · obtain ⟨x, hx⟩ : ∃ x, X[i]? = some x := ⟨_, List.getElem?_eq_getElem hil⟩
      obtain ⟨a, ha⟩ : ∃ a, A[i]? = some a := ⟨_, List.getElem?_eq_getElem (by rw [HP.out.len]; exact hil)⟩
      have hak := HAK.out i a ha
      have hxo := HOK.out x (List.mem_of_getElem? hx)
      obtain ⟨f, hf⟩ : ∃ f, X.length - i = f + 1 := ⟨X.length - i - 1, by omega⟩
      have hgc := HG.out
      rw [hf] at hgc
      have HMB : Hid (∀ W', PrAt W' pb ab (.slice (some ⟨g, o, none⟩) X.length cap) X.length A → NdAt W' (.slice (some ⟨g, o, none⟩) X.length cap) X → Calls Tryz.prog 58 #[.pointer (some ⟨pb, 0, none⟩), .int .i64 i] W' fun e w' => e = .returned (.bool (mayB x a i)) ∧ Below W'.heap.size W' w') :=
        fun W' q1 q2 => mayBe_any X A pb ab _ i x a W' q1 q2 hx ha (by omega) hxo.1 (by have := hak.1; omega) (by have := hak.2.1; omega)
      cases hm : mayB x a i with
      | false =>
        have hr := hgc.symm.trans (goC_not X f i A x a hx ha hm)
        rw [hm] at HMB
        have HR : Hid (R = .node i) := hr
        clear hr hgc hx ha hak hxo hm HG
        go_wp2_with fail
        refine Calls.mono (HMB.out _ HP.out (HN.out _ hbr)) ?_
        rintro e w2 ⟨rfl, hb2⟩
        have hbw2 := hbr.trans (hb2.mono hbr.size)
        have c1 := (HE.out _ hbw2 5 (by omega)).1
        go_wp2_with fail
        go_ret
        rw [HR.out]
        exact ⟨_, rfl, ⟨_, rfl, Cel.new _ _ _⟩, hbw2.alloc hbw2.size _⟩
      | true =>
        obtain ⟨hs1, hs2⟩ := may_size hm hak
        obtain ⟨fin, hfin⟩ : ∃ fin, i + x.size.toNat = fin := ⟨_, rfl⟩
        obtain ⟨Q, hQ⟩ : ∃ Q, askG X x a.dep fin (fin + 1) 0 (i + 1) A = Q := ⟨_, rfl⟩
        have hr := hgc.symm.trans (goC_yes X f i A x a fin hfin hx ha hm Q hQ)
        have HAS : Hid (∀ W', PrAt W' pb ab (.slice (some ⟨g, o, none⟩) X.length cap) X.length A → NdAt W' (.slice (some ⟨g, o, none⟩) X.length cap) X → Calls Tryz.prog 59 #[.pointer (some ⟨pb, 0, none⟩), .int .i64 i] W' fun e w' => e = .returned (.bool Q.1) ∧ PrAt w' pb ab (.slice (some ⟨g, o, none⟩) X.length cap) X.length Q.2 ∧ Turn (fun b => b = ab) W' w') :=
          fun W' q1 q2 => askKids_any X A pb ab g o cap i x a W' q1 q2 hgab hx ha hl fin hs1 (by omega) (by omega) hxo.2 (by have := hak.2.2.1; omega) (by have := hak.2.2.2.1; omega) Q hQ
        have hQi : Q.2[i]? = some a := by rw [← hQ, askG_keeps X x a.dep fin i _ _ _ _ (by omega)]; exact ha
        have HQO : Hid (a.dep ≤ 30 → AksOk X.length Q.2) := fun hd => by rw [← hQ]; exact askG_ok X x a.dep fin X.length hak.2.2.1 hd (by omega) _ _ _ _ HAK.out
        rw [hm] at HMB
        have HR : Hid (R = if Q.1 then (if 30 < a.dep then .nest i else goC X f (i + 1) Q.2) else .node i) := hr
        have HQI : Hid (Q.2[i]? = some a) := hQi
        clear hr hgc hx ha hak hxo hm HG hQ hQi hs1 hs2 hfin
        go_wp2_with fail
        refine Calls.mono (HMB.out _ HP.out (HN.out _ hbr)) ?_
        rintro e w2 ⟨rfl, hb2⟩
        have hbw2 := hbr.trans (hb2.mono hbr.size)
        have hP2 := HP.out.turn (S := fun _ => False) (Turn.ofBelow hb2) (fun h => h) (fun h => h)
        go_wp2_with fail
        refine Calls.mono (HAS.out _ hP2 (HN.out _ hbw2)) ?_
        rintro e w3 ⟨rfl, hP3, hT3⟩
        have hbw3 := hbw2.trans (hT3.below (B := W.heap.size) (fun b hb => by subst hb; exact hab) hbw2.size)
        obtain ⟨q1, q2⟩ := Q
        simp only at hP3 ⊢
        cases q1 with
        | false =>
          simp only [Bool.false_eq_true, if_false] at HR
          have c1 := (HE.out _ hbw3 5 (by omega)).1
          clear hP2 hP3
          go_wp2_with fail
          go_ret
          rw [HR.out]
          exact ⟨_, rfl, ⟨_, rfl, Cel.new _ _ _⟩, hbw3.alloc hbw3.size _⟩
        | true =>
          simp only [if_true] at HR HQI HQO
          have p1 : w3.cell? ⟨pb, 1, none⟩ = some (.slice (some ⟨ab, 0, none⟩) X.length X.length) := hP3.prog.cell 1
          obtain ⟨_, a1, _, _⟩ := hP3.ask.at HQI.out
          have HP3 : Hid (PrAt w3 pb ab (.slice (some ⟨g, o, none⟩) X.length cap) X.length q2) := hP3
          clear hP2 hP3 hT3 hb2
          obtain ⟨afin, dep, alast, aword⟩ := a
          simp only at a1 HR HQO
          have hil' : (i : Int) < (X.length : Int) := by omega
          by_cases hd : 30 < dep
          · have c2 := (HE.out _ hbw3 6 (by omega)).1
            have HR2 : Hid (R = .nest i) := by unfold Hid; rw [HR.out, if_pos hd]
            go_wp2_with fail
            go_ret
            rw [HR2.out]
            exact ⟨_, rfl, ⟨_, rfl, Cel.new _ _ _⟩, hbw3.alloc hbw3.size _⟩
          · have HR2 : Hid (goC X (X.length - (i + 1)) (i + 1) q2 = R) := by unfold Hid; rw [HR.out, if_neg hd, show X.length - (i + 1) = f by omega]
            go_wp2_with fail
            exact ⟨⟨i + 1, q2, by simp, by omega, HR2.out, HQO.out (by omega), HP3.out, hbw3⟩, by simp [intOf]; omega⟩
    · have hiz : i = X.length := by omega
      subst hiz
      have hgc := HG.out
      rw [Nat.sub_self] at hgc
      have HR : Hid (R = .fine) := hgc.symm
      clear hgc
      go_wp2_with fail
      go_ret
      rw [HR.out]
      exact ⟨_, rfl, rfl, hbr⟩
end Go.Proofs.YtfafhjglcaikoaaGreatDoor
/-! Nodes are put together. -/
namespace Go.Proofs.YtfafhjglcaikoaaGreatDoor
open Go.RowKit
attribute [local go_sem] Oper.semAt_some

theorem ndC_one1 (x : Nd) : ∀ u ∈ ndC x, u.oneCell' = true := by
  have := ndC_one [x]
  simpa only [ndCs, List.flatMap_cons, List.flatMap_nil, List.append_nil] using this
set_option maxRecDepth 100000 in
set_option maxHeartbeats 4000000 in
theorem new_anyC (kind n : Int) (s : Txt) (v : Value) (K : List (Value × List Nd)) (w : World) (h : KdAt w v K) (hK : K.length < 4294967296) (hT : (kidL K).length < 4294967296) :
    Calls Tryz.prog 16 #[.int .i64 kind, .int .i64 n, str s, v] w fun e w' => ∃ v', e = .returned v' ∧ w'.ownsRow w.heap.size 40 5 v' ((kidL K).length + 1) (ndCs (newN kind n s (K.map Prod.snd))) ∧ Below w.heap.size w w' := by
  obtain ⟨i0, hi0, hz0, hz1, hz2⟩ := info_parts info28
  have HH : Hid (∀ W', Below w.heap.size w W' → KdAt W' v K) := fun W' hb => h.below hb (Nat.le_refl _)
  obtain ⟨ad, cap, rfl⟩ := h.form
  clear h
  go_enter Tryz.func16, Tryz.ntmps16
  go_wp2_with fail
  go_loopw [9, 17] (fun v9 v17 wr => ∃ k : Nat, v17 = .int .i64 k ∧ k ≤ K.length ∧ v9 = .int .i64 ((kidL (K.take k)).length + 1 : Nat) ∧ w = wr) (fun _ v17 _ => K.length - (intOf v17).toNat)
  case atStart => exact ⟨0, rfl, by omega, rfl, rfl⟩
  case round =>
    obtain ⟨k, rfl, hk, rfl, rfl⟩ := hrel
    have hle := kidL_le K k
    by_cases hkl : k < K.length
    · obtain ⟨p, hp⟩ : ∃ p, K[k]? = some p := ⟨_, List.getElem?_eq_getElem hkl⟩
      obtain ⟨g, o, cap', hv, hg, hc, hn⟩ := (HH.out _ (Below.refl _ _)).at hp
      cases hv
      have HS : Hid (kidL (K.take (k + 1)) = kidL (K.take k) ++ p.2) := kidL_snoc K k p hp
      have hle' := kidL_le K (k + 1)
      rw [HS.out, List.length_append] at hle'
      obtain ⟨pv, X⟩ := p
      obtain ⟨adp, capp, hpv⟩ := hn.form
      simp only at hpv hle' hc
      subst hpv
      clear hp hn
      go_wp2_with fail
      refine ⟨⟨k + 1, by simp, by omega, ?_, trivial⟩, by simp [intOf]; omega⟩
      rw [HS.out, List.length_append]
      simp
      omega
    · have hkz : k = K.length := by omega
      subst hkz
      rw [List.take_length]
      have hnl : (newN kind n s (K.map Prod.snd)).take 1 = [⟨kind, n, K.length, (kidL K).length + 1, s⟩] := by simp [newN, kidL]
      go_wp2_with (first | (at_make; refine wpList_make_own _ rfl _ _ 22 rfl w.heap.size 40 i0 _ 5 Tryz.underlying22 hi0 hz0 hz1 .i64 .i64 _ ((kidL K).length + 1) rfl rfl rfl (by rw [hz2]; omega) (by have := maxLen_big; omega) (Nat.le_refl _) ?_; intro w0 hown0 hgrow0) | (at_builtin; refine wpList_append_own_at _ rfl _ _ 22 rfl w.heap.size 40 i0 _ 5 48 Tryz.underlying22 hi0 hz0 hz1 hz2 rfl (by decide) _ _ _ rfl (hown0.alloc _) ⟨w0.heap.size, 0, none⟩ 1 1 (ndC ⟨kind, n, K.length, (kidL K).length + 1, s⟩) rfl rfl (cells_new w0 _ 40) (ndC_one1 _) (by have := maxLen_big; omega) (by omega) (Nat.le_trans hgrow0.size (below_new _ _).size) ?_; intro v1 w1 hown1 hgrow1 _ _))
      have hb0 : Below w.heap.size w w0 := (Below.refl _ w).grown hgrow0 (Nat.le_refl _) fun q e => by cases e
      have hb1 : Below w.heap.size w w1 := grown_own (Nat.le_trans hb0.size (below_new _ _).size) (hb0.alloc hb0.size _) (hown0.alloc _) hgrow1
      have HO1 : Hid (w1.ownsRow w.heap.size 40 5 v1 ((kidL (K.take 0)).length + 1) (ndCs (⟨kind, n, K.length, (kidL K).length + 1, s⟩ :: kidL (K.take 0)))) := by
        unfold Hid
        simpa [kidL, ndCs] using hown1
      clear hown0 hgrow0 hown1 hgrow1 hb0 hnl
      go_loopw [12, 40] (fun v12 v40 wx => ∃ k : Nat, v40 = .int .i64 k ∧ k ≤ K.length ∧ Hid (wx.ownsRow w.heap.size 40 5 v12 ((kidL (K.take k)).length + 1) (ndCs (⟨kind, n, K.length, (kidL K).length + 1, s⟩ :: kidL (K.take k)))) ∧ Below w.heap.size w wx) (fun _ v40 _ => K.length - (intOf v40).toNat)
      case atStart => exact ⟨0, rfl, by omega, HO1.out, hb1⟩
      case round =>
        obtain ⟨k, rfl, hk, HO, hbr⟩ := hrel
        have hle := kidL_le K k
        by_cases hkl : k < K.length
        · obtain ⟨p, hp⟩ : ∃ p, K[k]? = some p := ⟨_, List.getElem?_eq_getElem hkl⟩
          obtain ⟨g, o, cap', hv, hg, hc, hn⟩ := (HH.out _ hbr).at hp
          cases hv
          have HS : Hid (kidL (K.take (k + 1)) = kidL (K.take k) ++ p.2) := kidL_snoc K k p hp
          have hle' := kidL_le K (k + 1)
          rw [HS.out, List.length_append] at hle'
          obtain ⟨pv, X⟩ := p
          simp only at hle' hc hn
          have ho := HO.out
          have hws := hbr.size
          clear hp
          rcases hn.cells with ⟨rfl, rfl⟩ | ⟨adp, capp, rfl, hcs⟩
          · go_wp2_with (at_builtin; refine wpList_append_own_none rfl _ _ 22 rfl w.heap.size 40 i0 5 Tryz.underlying22 hi0 _ _ _ rfl ho rfl ?_)
            refine ⟨⟨k + 1, by simp, by omega, ?_, hbr⟩, by simp [intOf]; omega⟩
            rw [HS.out, List.append_nil]
            exact HO
          · clear hn
            go_wp2_with (at_builtin; refine wpList_append_own_at _ rfl _ _ 22 rfl w.heap.size 40 i0 _ 5 48 Tryz.underlying22 hi0 hz0 hz1 hz2 rfl (by decide) _ _ _ rfl ho adp X.length capp (ndCs X) rfl (ndCs_length X) hcs (ndC_one X) (by have := maxLen_big; omega) (by omega) hws ?_; intro v2 w2 hown2 hgrow2 _ _)
            refine ⟨⟨k + 1, by simp, by omega, ?_, grown_own hws hbr ho hgrow2⟩, by simp [intOf]; omega⟩
            rw [HS.out, List.length_append, ← List.cons_append, ndCs_append]
            rw [show (kidL (K.take k)).length + X.length + 1 = (kidL (K.take k)).length + 1 + X.length by omega]
            exact hown2
        · have hkz : k = K.length := by omega
          subst hkz
          rw [List.take_length] at HO
          go_wp2_with fail
          go_ret
          refine ⟨_, rfl, ?_, hbr⟩
          have := HO.out
          simpa [newN, kidL] using this
end Go.Proofs.YtfafhjglcaikoaaGreatDoor
/-! The chapter's examples. -/
namespace Go.Proofs.YtfafhjglcaikoaaGreatDoor
open Go.RowKit
attribute [local go_sem] Oper.semAt_some

/-- A list of lists that lies in a block. -/
theorem KdAt.of_cells {W : World} {b : Nat} {t : TypeId} {K : List (Value × List Nd)} {n cap : Nat} (hn : n = K.length) (hc : Cel W b t (K.map Prod.fst).toArray) (h : ∀ p ∈ K, NdAt W p.1 p.2) (hcap : n ≤ cap) : KdAt W (.slice (some ⟨b, 0, none⟩) n cap) K := by
  subst hn
  refine ⟨.inr ⟨b, 0, cap, by simp, by simpa using hcap, hc.lt, fun j cs hj i u hu => ?_⟩, h⟩
  rw [List.getElem?_map] at hj
  cases hp : K[j]? with
  | none => rw [hp] at hj; cases hj
  | some p =>
    rw [hp] at hj
    cases hj
    cases i with
    | succ i => simp at hu
    | zero =>
      simp at hu
      subst hu
      rw [Nat.mul_one, Nat.zero_add, Nat.add_zero, hc.cell, List.getElem?_toArray, List.getElem?_map, hp]
      rfl
theorem new_own (kind n : Int) (s : Txt) (v : Value) (K : List (Value × List Nd)) (w : World) (h : KdAt w v K) (hK : K.length < 4294967296) (hT : (kidL K).length < 4294967296) :
    Calls Tryz.prog 16 #[.int .i64 kind, .int .i64 n, str s, v] w fun e w' => ∃ v', e = .returned v' ∧ NdOwn w' w.heap.size v' (newN kind n s (K.map Prod.snd)) ∧ Below w.heap.size w w' := by
  refine (new_anyC kind n s v K w h hK hT).mono ?_
  rintro e w' ⟨v', rfl, h1, h2⟩
  refine ⟨v', rfl, ?_, h2⟩
  have e : (newN kind n s (K.map Prod.snd)).length = (kidL K).length + 1 := by simp [newN, kidL]
  unfold NdOwn
  rw [e]
  exact h1
theorem new_leaf (kind n : Int) (s : Txt) (w : World) :
    Calls Tryz.prog 16 #[.int .i64 kind, .int .i64 n, str s, .slice none 0 0] w fun e w' => ∃ v', e = .returned v' ∧ NdOwn w' w.heap.size v' [⟨kind, n, 0, 1, s⟩] ∧ Below w.heap.size w w' :=
  new_own kind n s (.slice none 0 0) [] w (KdAt.nil w) (by decide) (by decide)
theorem lit_any (s : ByteArray) (w : World) : Calls Tryz.prog 15 #[.string s] w fun e w' => ∃ v', e = .returned v' ∧ NdOwn w' w.heap.size v' [litN s.data.toList] ∧ Below w.heap.size w w' := by
  have HL : Hid (∀ W', Calls Tryz.prog 16 #[.int .i64 1, .int .i64 0, .string s, .slice none 0 0] W' fun e w' => ∃ v', e = .returned v' ∧ NdOwn w' W'.heap.size v' [litN s.data.toList] ∧ Below W'.heap.size W' w') := fun W' => new_leaf 1 0 s.data.toList W'
  go_enter Tryz.func15, Tryz.ntmps15
  go_wp2_with fail
  refine Calls.mono (HL.out _) ?_
  rintro e w1 ⟨v1, rfl, ho, hb⟩
  go_wp2_with fail
  go_ret
  exact ⟨_, rfl, ho, hb⟩
theorem ok_small (x : Nd) (h1 : x.s.length ≤ 300) (h2 : x.k ≤ 4294967296) : NdOk x := ⟨by omega, by omega⟩

end Go.Proofs.YtfafhjglcaikoaaGreatDoor
/-! Lists of programs of one's own. -/
namespace Go.Proofs.YtfafhjglcaikoaaGreatDoor
open Go.RowKit
attribute [local go_sem] Oper.semAt_some

theorem info25 : (Tryz.prog.info? 22).map (fun i => (i.zero, i.size, i.bytes)) = some (some (.slice none 0 0), 1, 24) := by kernel_rfl
/-- Lists of nodes of one's own. -/
def KdOwn (W : World) (B : Nat) (v : Value) (K : List (Value × List Nd)) : Prop := W.ownsRow B 22 1 v K.length (K.map Prod.fst) ∧ ∀ p ∈ K, NdOwn W B p.1 p.2
theorem KdOwn.nil (W : World) (B : Nat) : KdOwn W B (.slice none 0 0) [] := ⟨World.ownsRow_nil _ _ _ _, fun p hp => by simp at hp⟩
theorem KdOwn.below {W W' : World} {B : Nat} {v : Value} {K : List (Value × List Nd)} (h : KdOwn W B v K) (hb : Below W.heap.size W W') : KdOwn W' B v K :=
  ⟨owns_turn h.1 (Turn.ofBelow (S := fun _ => False) hb) (fun _ _ h => h), fun p hp => (h.2 p hp).below hb⟩
theorem ones_flat (K : List (Value × List Nd)) : (K.map fun p => [p.1]).flatMap id = K.map Prod.fst := by
  induction K with
  | nil => rfl
  | cons a K ih =>
    rw [List.map_cons, List.flatMap_cons, ih]
    rfl
theorem KdOwn.at {W : World} {B : Nat} {v : Value} {K : List (Value × List Nd)} (h : KdOwn W B v K) : KdAt W v K := by
  refine ⟨RowAtS.owned (e := 22) (B := B) ?_ (fun cs hcs => ?_), fun p hp => (h.2 p hp).at⟩
  · rw [ones_flat, List.length_map]
    exact h.1
  · obtain ⟨p, _, rfl⟩ := List.mem_map.1 hcs
    rfl
theorem KdOwn.snoc {W w2 w4 : World} {B B' : Nat} {v v' pv : Value} {K : List (Value × List Nd)} {X : List Nd} {o : Obj} (h : KdOwn W B v K) (hb2 : Below W.heap.size W w2) (hB : B ≤ W.heap.size) (hB' : B ≤ B') (hp : NdOwn w2 B' pv X)
    (hown : w4.ownsRow B 22 1 v' (K.length + 1) (K.map Prod.fst ++ [pv])) (hg : (w2.alloc o).grownBy w4 v.ownBlock) : KdOwn w4 B v' (K ++ [(pv, X)]) ∧ Below B W w4 := by
  have h3 : KdOwn (w2.alloc o) B v K := h.below (hb2.alloc hb2.size o)
  have hp3 : NdOwn (w2.alloc o) B pv X := owns_lower (hp.below (below_new w2 o)) hB'
  have hT := Turn.ofGrown hg
  refine ⟨⟨by rw [List.map_append, List.length_append]; exact hown, fun p hq => ?_⟩, ?_⟩
  · rcases List.mem_append.1 hq with hq | hq
    · exact owns_turn (h3.2 p hq) hT (fun b hb e' => owns_apart2 h3.1 (h3.2 p hq) (by decide) b e' hb)
    · simp only [List.mem_singleton] at hq
      subst hq
      exact owns_turn hp3 hT (fun b hb e' => owns_apart2 h3.1 hp3 (by decide) b e' hb)
  · exact ((hb2.alloc hb2.size o).mono hB).grown hg (Nat.le_trans hB (Nat.le_trans hb2.size (below_new w2 o).size)) (fun b hb => (h3.1.lt b hb).1)
theorem slice_one (v : Value) (h : ∃ ad n cap, v = .slice ad n cap) : ∀ u ∈ [v], u.oneCell' = true := by
  obtain ⟨ad, n, cap, rfl⟩ := h
  intro u hu
  simp only [List.mem_singleton] at hu
  subst hu
  rfl
/-- Of two at least, one behind the other. -/
theorem seq_many (v : Value) (K : List (Value × List Nd)) (w : World) (h : KdAt w v K) (h2 : 2 ≤ K.length) (hK : K.length < 4294967296) (hT : (kidL K).length < 4294967296) :
    Calls Tryz.prog 17 #[v] w fun e w' => ∃ v', e = .returned v' ∧ NdOwn w' w.heap.size v' (newN 23 0 [] (K.map Prod.snd)) ∧ Below w.heap.size w w' := by
  have HN : Hid (Calls Tryz.prog 16 #[.int .i64 23, .int .i64 0, .string ⟨#[]⟩, v] w fun e w' => ∃ v', e = .returned v' ∧ NdOwn w' w.heap.size v' (newN 23 0 [] (K.map Prod.snd)) ∧ Below w.heap.size w w') := new_own 23 0 [] v K w h hK hT
  obtain ⟨ad, cap, rfl⟩ := h.form
  clear h hT
  obtain ⟨n, hn⟩ : ∃ n, K.length = n := ⟨_, rfl⟩
  rw [hn] at h2 HN ⊢
  have h0 : ¬ n = 0 := by omega
  have h1 : ¬ (n : Int) = 1 := by omega
  have h1' : ¬ n = 1 := by omega
  go_enter Tryz.func17, Tryz.ntmps17
  go_wp2_with fail
  refine Calls.mono HN.out ?_
  rintro e w1 ⟨v1, rfl, ho, hb⟩
  go_wp2_with fail
  go_ret
  exact ⟨_, rfl, ho, hb⟩
end Go.Proofs.YtfafhjglcaikoaaGreatDoor
/-! A run under way, in memory. -/
namespace Go.Proofs.YtfafhjglcaikoaaGreatDoor
open Go.RowKit

/-- What a run under way holds. -/
structure Sh where
  F : Vps
  H : Fps
  D : Fls
  R : List Rw
  E : List Ev
  st : Nat
  ms : Nat
  dp : Nat
  md : Nat
  hd : Txt
  ct : Option Txt
  fl : Txt
  en : Int
def ctP (cb : Nat) : Option Txt → Value
  | none => .pointer none
  | some _ => .pointer (some ⟨cb, 0, none⟩)
abbrev rnC (sb kb cb : Nat) (s : Sh) : Array Value := #[sP sb, kP kb, .nilFunc, .int .i64 s.st, .int .i64 s.ms, .int .i64 s.dp, .int .i64 s.md, str s.hd, ctP cb s.ct, str s.fl, .int .i64 s.en]
abbrev rP (b : Nat) : Value := .pointer (some ⟨b, 0, none⟩)

/-- Its store and its kernel, in blocks of their own. -/
def Both (W : World) (KS KK : Nat → Prop) (sb kb : Nat) (s : Sh) : Prop :=
  ∃ (vb fb mb : Nat) (V : Vrs) (G : Fns) (ev rv : Value) (Y : List (Rw × Value)) (X : List (Ev × Value)),
    Sto W KS sb vb fb V G ∧ cont V = s.F ∧ cont G = s.H ∧ Kern W KK kb mb ev rv s.D Y X ∧ Y.map Prod.fst = s.R ∧ X.map Prod.fst = s.E
/-- A run: its blocks are K. -/
structure Rn (W : World) (K : Nat → Prop) (rb cb sb kb : Nat) (s : Sh) : Prop where
  rc : Cel W rb 135 (rnC sb kb cb s)
  cc : ∀ t, s.ct = some t → Cel W cb 9 #[str t]
  ex : ∃ KS KK, Both W KS KK sb kb s ∧ (∀ i, KS i → KK i → False) ∧ (∀ i, KS i → K i) ∧ (∀ i, KK i → K i) ∧ ¬ KS rb ∧ ¬ KK rb ∧ (s.ct ≠ none → ¬ KS cb ∧ ¬ KK cb ∧ cb ≠ rb)
  Kr : K rb
  Kc : s.ct ≠ none → K cb
  gl : ∀ i, K i → 17 ≤ i
  lt : ∀ i, K i → i < W.heap.size

variable {W W' : World} {K S KS KK : Nat → Prop} {rb cb sb kb : Nat} {s : Sh}
theorem Both.turn (h : Both W KS KK sb kb s) (hT : Turn S W W') (h1 : ∀ i, KS i → ¬ S i) (h2 : ∀ i, KK i → ¬ S i) : Both W' KS KK sb kb s := by
  obtain ⟨vb, fb, mb, V, G, ev, rv, Y, X, a1, a2, a3, a4, a5, a6⟩ := h
  exact ⟨vb, fb, mb, V, G, ev, rv, Y, X, a1.turn hT h1, a2, a3, a4.turn hT h2, a5, a6⟩
theorem Both.ltS (h : Both W KS KK sb kb s) {i : Nat} (hi : KS i) : i < W.heap.size := by
  obtain ⟨vb, fb, mb, V, G, ev, rv, Y, X, a1, a2, a3, a4, a5, a6⟩ := h
  exact a1.lt i hi
theorem Both.ltK (h : Both W KS KK sb kb s) {i : Nat} (hi : KK i) : i < W.heap.size := by
  obtain ⟨vb, fb, mb, V, G, ev, rv, Y, X, a1, a2, a3, a4, a5, a6⟩ := h
  exact a4.lt i hi
theorem Both.as (h : Both W KS KK sb kb s) (s' : Sh) (h1 : s'.F = s.F) (h2 : s'.H = s.H) (h3 : s'.D = s.D) (h4 : s'.R = s.R) (h5 : s'.E = s.E) : Both W KS KK sb kb s' := by
  unfold Both at h ⊢
  rw [h1, h2, h3, h4, h5]
  exact h
theorem Rn.turn (h : Rn W K rb cb sb kb s) (hT : Turn S W W') (hs : ∀ i, K i → ¬ S i) : Rn W' K rb cb sb kb s := by
  obtain ⟨KS, KK, b, d, iS, iK, r⟩ := h.ex
  exact ⟨h.rc.turn hT (hs _ h.Kr), fun t ht => (h.cc t ht).turn hT (hs _ (h.Kc (by rw [ht]; simp))), ⟨KS, KK, b.turn hT (fun i hi => hs i (iS i hi)) (fun i hi => hs i (iK i hi)), d, iS, iK, r⟩, h.Kr, h.Kc, h.gl, fun i hi => Nat.lt_of_lt_of_le (h.lt i hi) hT.size⟩
theorem Rn.below (h : Rn W K rb cb sb kb s) (hb : Below W.heap.size W W') : Rn W' K rb cb sb kb s := h.turn (S := fun _ => False) (Turn.ofBelow hb) (fun _ _ h => h)
theorem Rn.size (h : Rn W K rb cb sb kb s) : 17 < W.heap.size := Nat.lt_of_le_of_lt (h.gl rb h.Kr) (h.lt rb h.Kr)

/-- The kernel does something. -/
theorem Rn.onKern {f : Nat} {args : Array Value} {P : Ending → Prop} {D' : Fls} {E' : List Ev} (h : Rn W K rb cb sb kb s)
    (hc : ∀ KK mb ev rv Y X, Kern W KK kb mb ev rv s.D Y X → Y.map Prod.fst = s.R → X.map Prod.fst = s.E →
      Calls Tryz.prog f args W fun e w' => P e ∧ ∃ ev' X' KK', Kern w' KK' kb mb ev' rv D' Y (X ++ X') ∧ X'.map Prod.fst = E' ∧ Stp W KK w' KK') :
    Calls Tryz.prog f args W fun e w' => P e ∧ ∃ K', Rn w' K' rb cb sb kb { s with D := D', E := s.E ++ E' } ∧ Stp W K w' K' := by
  obtain ⟨KS, KK, ⟨vb, fb, mb, V, G, ev, rv, Y, X, a1, a2, a3, a4, a5, a6⟩, d, iS, iK, n1, n2, n3⟩ := h.ex
  have h17 := h.size
  have hr := h.lt rb h.Kr
  refine (hc KK mb ev rv Y X a4 a5 a6).mono ?_
  rintro e w' ⟨hp, ev', X', KK', b1, b2, b3⟩
  refine ⟨hp, fun i => K i ∨ KK' i, ⟨h.rc.turn b3.1 n2, fun t ht => (h.cc t ht).turn b3.1 (n3 (by rw [show s.ct = some t from ht]; simp)).2.1, ⟨KS, KK', ⟨vb, fb, mb, V, G, ev', rv, Y, X ++ X', a1.turn b3.1 (fun i hi hk => d i hi hk), a2, a3, b1, a5, by rw [List.map_append, a6, b2]⟩, ?_, fun i hi => .inl (iS i hi), fun i hi => .inr hi, n1, ?_, ?_⟩, .inl h.Kr, fun hc => .inl (h.Kc hc), ?_, ?_⟩, b3.1.mono iK, ?_⟩
  · intro i hi hk
    rcases b3.2 i hk with h1 | h1
    · exact d i hi h1
    · have := a1.lt i hi; omega
  · intro hk
    rcases b3.2 rb hk with h1 | h1
    · exact n2 h1
    · omega
  · intro hn
    obtain ⟨m1, m2, m3⟩ := n3 hn
    refine ⟨m1, fun hk => ?_, m3⟩
    rcases b3.2 cb hk with h1 | h1
    · exact m2 h1
    · have := h.lt cb (h.Kc hn); omega
  · rintro i (hi | hi)
    · exact h.gl i hi
    · rcases b3.2 i hi with h1 | h1
      · exact h.gl i (iK i h1)
      · omega
  · rintro i (hi | hi)
    · exact Nat.lt_of_lt_of_le (h.lt i hi) b3.1.size
    · exact b1.lt i hi
  · rintro i (hi | hi)
    · exact .inl hi
    · exact (b3.2 i hi).elim (fun h1 => .inl (iK i h1)) .inr
/-- The store does something. -/
theorem Rn.onSto {f : Nat} {args : Array Value} {P : Ending → World → Prop} {F' : Vps} {H' : Fps} (h : Rn W K rb cb sb kb s)
    (hc : ∀ KS vb fb V G, Sto W KS sb vb fb V G → cont V = s.F → cont G = s.H →
      Calls Tryz.prog f args W fun e w' => P e w' ∧ ∃ KS' V' G', Sto w' KS' sb vb fb V' G' ∧ cont V' = F' ∧ cont G' = H' ∧ StpS vb fb W KS w' KS') :
    Calls Tryz.prog f args W fun e w' => P e w' ∧ ∃ K', Rn w' K' rb cb sb kb { s with F := F', H := H' } ∧ Stp W K w' K' := by
  obtain ⟨KS, KK, ⟨vb, fb, mb, V, G, ev, rv, Y, X, a1, a2, a3, a4, a5, a6⟩, d, iS, iK, n1, n2, n3⟩ := h.ex
  have h17 := h.size
  have hr := h.lt rb h.Kr
  refine (hc KS vb fb V G a1 a2 a3).mono ?_
  rintro e w' ⟨hp, KS', V', G', b1, b2, b2', b3⟩
  have hT : Turn KS W w' := b3.1.mono (fun i hi => by rcases hi with rfl | rfl; exact a1.Kv; exact a1.Kf)
  refine ⟨hp, fun i => K i ∨ KS' i, ⟨h.rc.turn hT n1, fun t ht => (h.cc t ht).turn hT (n3 (by rw [show s.ct = some t from ht]; simp)).1, ⟨KS', KK, ⟨vb, fb, mb, V', G', ev, rv, Y, X, b1, b2, b2', a4.turn hT (fun i hi hk => d i hk hi), a5, a6⟩, ?_, fun i hi => .inr hi, fun i hi => .inl (iK i hi), ?_, n2, ?_⟩, .inl h.Kr, fun hc => .inl (h.Kc hc), ?_, ?_⟩, hT.mono iS, ?_⟩
  · intro i hi hk
    rcases b3.2 i hi with h1 | h1
    · exact d i h1 hk
    · have := a4.lt i hk; omega
  · intro hk
    rcases b3.2 rb hk with h1 | h1
    · exact n1 h1
    · omega
  · intro hn
    obtain ⟨m1, m2, m3⟩ := n3 hn
    refine ⟨fun hk => ?_, m2, m3⟩
    rcases b3.2 cb hk with h1 | h1
    · exact m1 h1
    · have := h.lt cb (h.Kc hn); omega
  · rintro i (hi | hi)
    · exact h.gl i hi
    · rcases b3.2 i hi with h1 | h1
      · exact h.gl i (iS i h1)
      · omega
  · rintro i (hi | hi)
    · exact Nat.lt_of_lt_of_le (h.lt i hi) hT.size
    · exact b1.lt i hi
  · rintro i (hi | hi)
    · exact .inl hi
    · exact (b3.2 i hi).elim (fun h1 => .inl (iS i h1)) .inr
/-- Only its own cells turn. -/
theorem Rn.put (h : Rn W K rb cb sb kb s) (s' : Sh) (hT : Turn (fun i => i = rb) W W') (hc : Cel W' rb 135 (rnC sb kb cb s')) (h0 : s'.ct = s.ct) (h1 : s'.F = s.F) (h2 : s'.H = s.H) (h3 : s'.D = s.D) (h4 : s'.R = s.R) (h5 : s'.E = s.E) :
    Rn W' K rb cb sb kb s' ∧ Stp W K W' K := by
  obtain ⟨KS, KK, b, d, iS, iK, n1, n2, n3⟩ := h.ex
  refine ⟨⟨hc, fun t ht => (h.cc t (h0 ▸ ht)).turn hT (n3 (by rw [← h0, ht]; simp)).2.2, ⟨KS, KK, (b.turn hT (fun i hi e => n1 (e ▸ hi)) (fun i hi e => n2 (e ▸ hi))).as s' h1 h2 h3 h4 h5, d, iS, iK, n1, n2, fun hn => n3 (h0 ▸ hn)⟩, h.Kr, fun hn => h.Kc (h0 ▸ hn), h.gl, fun i hi => Nat.lt_of_lt_of_le (h.lt i hi) hT.size⟩, hT.mono (fun i e => by subst e; exact h.Kr), fun i hi => .inl hi⟩
theorem Rn.set (h : Rn W K rb cb sb kb s) (j : Nat) (v : Value) (s' : Sh) (hc : (rnC sb kb cb s).setIfInBounds j v = rnC sb kb cb s') (h0 : s'.ct = s.ct) (h1 : s'.F = s.F) (h2 : s'.H = s.H) (h3 : s'.D = s.D) (h4 : s'.R = s.R) (h5 : s'.E = s.E) :
    Rn (W.setCell ⟨rb, j, none⟩ v) K rb cb sb kb s' ∧ Stp W K (W.setCell ⟨rb, j, none⟩ v) K := by
  have hs := h.rc.set (j := j) v
  rw [hc] at hs
  exact h.put s' ((Turn.refl (fun i => i = rb) W).setCell (p := ⟨rb, j, none⟩) (fun _ => rfl) v) hs h0 h1 h2 h3 h4 h5
/-- What is caught is written. -/
theorem Rn.said {t : Txt} (h : Rn W K rb cb sb kb s) (ht : s.ct = some t) (u : Txt) :
    Rn (W.setCell ⟨cb, 0, none⟩ (str u)) K rb cb sb kb { s with ct := some u } ∧ Stp W K (W.setCell ⟨cb, 0, none⟩ (str u)) K := by
  obtain ⟨KS, KK, b, d, iS, iK, n1, n2, n3⟩ := h.ex
  have hn : s.ct ≠ none := by rw [ht]; simp
  obtain ⟨m1, m2, m3⟩ := n3 hn
  have hT : Turn (fun i => i = cb) W (W.setCell ⟨cb, 0, none⟩ (str u)) := (Turn.refl (fun i => i = cb) W).setCell (p := ⟨cb, 0, none⟩) (fun _ => rfl) (str u)
  refine ⟨⟨?_, fun t' ht' => ?_, ⟨KS, KK, (b.turn hT (fun i hi e => m1 (e ▸ hi)) (fun i hi e => m2 (e ▸ hi))).as _ rfl rfl rfl rfl rfl, d, iS, iK, n1, n2, fun _ => ⟨m1, m2, m3⟩⟩, h.Kr, fun _ => h.Kc hn, h.gl, fun i hi => Nat.lt_of_lt_of_le (h.lt i hi) hT.size⟩, hT.mono (fun i e => by subst e; exact h.Kc hn), fun i hi => .inl hi⟩
  · have := h.rc.turn hT (fun e => m3 e.symm)
    rw [show rnC sb kb cb { s with ct := some u } = rnC sb kb cb s by simp [rnC, ht, ctP]]
    exact this
  · cases ht'
    exact (h.cc t ht).set (str u)

/-! ### what lies off it -/
/-- A value's block lies off these. -/
def Off (W : World) (K : Nat → Prop) (v : Value) : Prop := ∀ b, v.ownBlock = some b → b < W.heap.size ∧ ¬ K b
theorem Off.stp {K' : Nat → Prop} {v : Value} (h : Off W K v) (hs : Stp W K W' K') : Off W' K' v := fun b hb => by
  obtain ⟨h1, h2⟩ := h b hb
  exact ⟨Nat.lt_of_lt_of_le h1 hs.1.size, fun hk => (hs.2 b hk).elim h2 (fun h3 => by omega)⟩
theorem Off.nd {K' : Nat → Prop} {v : Value} {X : List Nd} (h : Off W K v) (hn : NdAt W v X) (hs : Stp W K W' K') : NdAt W' v X := hn.turn hs.1 (fun b hb => (h b hb).2)
theorem Off.tx {K' : Nat → Prop} {v : Value} {l : List Txt} (h : Off W K v) (ht : Tx W v l) (hs : Stp W K W' K') : Tx W' v l := ht.turn hs.1 (fun b hb => (h b hb).2)
theorem Ers.stp {ea : Nat → Addr} (h : Ers W ea) (hr : Rn W K rb cb sb kb s) {K' : Nat → Prop} (hs : Stp W K W' K') : Ers W' ea := fun i hi => by
  have h1 := h i hi
  exact ⟨(World.cell?_of_block (w := W) (a := ⟨i, 0, none⟩) (hs.1.block i h1.2 (fun hk => by have := hr.gl i hk; omega))).trans h1.1, Nat.lt_of_lt_of_le h1.2 hs.1.size⟩
/-- New memory lies off it. -/
theorem Off.new {B : Nat} {v : Value} (hr : Rn W K rb cb sb kb s) (hB : W.heap.size ≤ B) (h : ∀ b, v.ownBlock = some b → B ≤ b ∧ b < W'.heap.size) : Off W' K v := fun b hv => by
  obtain ⟨h1, h2⟩ := h b hv
  exact ⟨h2, fun hk => by have := hr.lt b hk; omega⟩
end Go.Proofs.YtfafhjglcaikoaaGreatDoor
namespace Go.Proofs.YtfafhjglcaikoaaGreatDoor.T
open Go.RowKit
attribute [local go_sem] Oper.semAt_some

def startB (c : Int) : Bool := decide ((97 ≤ c ∧ c ≤ 122) ∨ (65 ≤ c ∧ c ≤ 90) ∨ c = 95)
def digitB (c : Int) : Bool := decide (48 ≤ c ∧ c ≤ 57)
def contB (c : Int) : Bool := startB c || digitB c
def cont8 (b : UInt8) : Bool := contB (b.toNat : Int)
def nameB (l : List UInt8) : Bool := match l with
  | [] => false
  | b :: _ => decide (l.length ≤ 20) && startB (b.toNat : Int) && l.all cont8
theorem ret_b {a b : Bool} (h : a = true ↔ b = true) : (Ending.returned (.bool a)) = .returned (.bool b) := by rw [Bool.eq_iff_iff.2 h]
theorem ret_bool {a b : Bool} (h : a = b) : Ending.returned (.bool a) = .returned (.bool b) := by rw [h]
theorem digit_any (c : Int) (w : World) : Calls Tryz.prog 232 #[.int .u8 c] w fun e w' => e = .returned (.bool (digitB c)) ∧ w' = w := by
  by_cases h1 : 48 ≤ c
  all_goals
    go_enter Tryz.func232, Tryz.ntmps232
    go_wp2_with fail
    go_ret
    exact ⟨ret_b (by simp [digitB]; omega), rfl⟩
theorem start_any (c : Int) (w : World) : Calls Tryz.prog 192 #[.int .u8 c] w fun e w' => e = .returned (.bool (startB c)) ∧ w' = w := by
  by_cases h1 : 97 ≤ c <;> by_cases h2 : c ≤ 122 <;> by_cases h3 : 65 ≤ c <;> by_cases h4 : c ≤ 90
  all_goals first | (exfalso; omega) | skip
  all_goals
    go_enter Tryz.func192, Tryz.ntmps192
    go_wp2_with fail
    go_ret
    exact ⟨ret_b (by simp [startB]; try omega), rfl⟩
theorem cont_any (c : Int) (w : World) : Calls Tryz.prog 193 #[.int .u8 c] w fun e w' => e = .returned (.bool (contB c)) ∧ w' = w := by
  cases h : startB c with
  | true =>
    go_enter Tryz.func193, Tryz.ntmps193
    go_wp2_with fail
    refine (start_any _ _).mono ?_
    rintro e w1 ⟨rfl, rfl⟩
    rw [h]
    go_wp2_with fail
    go_ret
    exact ⟨ret_bool (by simp [contB, h]), rfl⟩
  | false =>
    go_enter Tryz.func193, Tryz.ntmps193
    go_wp2_with fail
    refine (start_any _ _).mono ?_
    rintro e w1 ⟨rfl, rfl⟩
    rw [h]
    go_wp2_with fail
    refine (digit_any _ _).mono ?_
    rintro e w1 ⟨rfl, rfl⟩
    go_wp2_with fail
    go_ret
    exact ⟨ret_bool (by simp [contB, h]), rfl⟩
theorem s_get (s : ByteArray) (k : Nat) (h : k < s.size) : s.data.toList[k]? = some s[k] := by
  rw [List.getElem?_eq_getElem (by simpa using h)]
  rfl
theorem drop_cons (s : ByteArray) (k : Nat) (h : k < s.size) : s.data.toList.drop k = s[k] :: s.data.toList.drop (k + 1) := by
  rw [List.drop_eq_getElem_cons (by simpa using h)]
  rfl
theorem nonempty_of (s : ByteArray) (h : 0 < s.size) : s.toList.isEmpty = false := by
  rw [ByteArray.toList_eq]
  have hl : s.data.toList.length = s.size := by simp
  match he : s.data.toList with
  | [] => rw [he] at hl; simp at hl; omega
  | _ :: _ => rfl
theorem empty_of (s : ByteArray) (h : s.size = 0) : s = ⟨#[]⟩ := by
  obtain ⟨⟨l⟩⟩ := s
  have : l = [] := List.eq_nil_of_length_eq_zero h
  rw [this]
def allCont (l : List UInt8) : Bool := l.all cont8
theorem nameB_long (s : ByteArray) (h : 20 < s.size) : nameB s.data.toList = false := by
  have hl : s.data.toList.length = s.size := by simp
  cases hs : s.data.toList with
  | nil => rfl
  | cons b r =>
    rw [hs] at hl
    unfold nameB
    simp only [hl, decide_eq_false (show ¬ s.size ≤ 20 by omega), Bool.false_and]
theorem nameB_of (s : ByteArray) (h0 : 0 < s.size) (h : s.size ≤ 20) : nameB s.data.toList = (startB ((s[0]).toNat : Int) && allCont s.data.toList) := by
  have hl : s.data.toList.length = s.size := by simp
  have hd := drop_cons s 0 h0
  rw [List.drop_zero] at hd
  rw [hd] at hl ⊢
  unfold nameB
  simp only [hl, decide_eq_true h, Bool.true_and]
  rfl
theorem name_empty (w : World) : Calls Tryz.prog 139 #[.string ⟨#[]⟩] w fun e w' => e = .returned (.bool false) ∧ w' = w := by
  go_enter Tryz.func139, Tryz.ntmps139
  go_wp2_with fail
  go_ret
  exact ⟨rfl, rfl⟩
theorem name_long (s : ByteArray) (w : World) (h : 20 < s.size) (hne : s.toList.isEmpty = false) : Calls Tryz.prog 139 #[.string s] w fun e w' => e = .returned (.bool false) ∧ w' = w := by
  go_enter Tryz.func139, Tryz.ntmps139
  go_wp2_with fail
  go_ret
  exact ⟨rfl, rfl⟩
theorem name_other (s : ByteArray) (w : World) (h0 : 0 < s.size) (h : s.size ≤ 20) (hne : s.toList.isEmpty = false) (hst : startB ((s[0]).toNat : Int) = false) : Calls Tryz.prog 139 #[.string s] w fun e w' => e = .returned (.bool false) ∧ w' = w := by
  have HST : Hid (startB ((s[0]).toNat : Int) = false) := hst
  clear hst
  go_enter Tryz.func139, Tryz.ntmps139
  go_wp2_with fail
  refine (start_any _ _).mono ?_
  rintro e w' ⟨rfl, rfl⟩
  rw [HST.out]
  go_wp2_with fail
  go_ret
  exact ⟨rfl, rfl⟩
theorem name_start (s : ByteArray) (w : World) (h0 : 0 < s.size) (h : s.size ≤ 20) (hne : s.toList.isEmpty = false) (hst : startB ((s[0]).toNat : Int) = true) : Calls Tryz.prog 139 #[.string s] w fun e w' => e = .returned (.bool (allCont s.data.toList)) ∧ w' = w := by
  have HST : Hid (startB ((s[0]).toNat : Int) = true) := hst
  clear hst
  go_enter Tryz.func139, Tryz.ntmps139
  go_wp2_with fail
  refine (start_any _ _).mono ?_
  rintro e w' ⟨rfl, rfl⟩
  rw [HST.out]
  go_wp2_with fail
  go_loop [19] (fun v => ∃ k : Nat, k ≤ s.size ∧ v = .int .i64 k ∧ Hid (allCont s.data.toList = allCont (s.data.toList.drop k))) (fun v => s.size - (intOf v).toNat)
  case atStart => exact ⟨0, by omega, rfl, by simp [Hid]⟩
  case round =>
    obtain ⟨k, hk, rfl, hh⟩ := hrel
    by_cases hlt : k < s.size
    · have hd := drop_cons s k hlt
      cases hcb : contB ((s[k]).toNat : Int)
      · have hf : allCont s.data.toList = false := by
          rw [hh.out, hd, allCont, List.all_cons, show cont8 s[k] = false from hcb]; rfl
        have HF : Hid (allCont s.data.toList = false) := hf
        have HCB : Hid (contB ((s[k]).toNat : Int) = false) := hcb
        clear hf hcb hd hh
        go_wp2_with fail
        refine (cont_any _ _).mono ?_
        rintro e w' ⟨rfl, rfl⟩
        rw [HCB.out]
        go_wp2_with fail
        go_ret
        exact ⟨ret_bool HF.out.symm, rfl⟩
      · have hf : allCont s.data.toList = allCont (s.data.toList.drop (k + 1)) := by
          rw [hh.out, hd, allCont, List.all_cons, show cont8 s[k] = true from hcb]; rfl
        have HF : Hid (allCont s.data.toList = allCont (s.data.toList.drop (k + 1))) := hf
        have HCB : Hid (contB ((s[k]).toNat : Int) = true) := hcb
        clear hf hcb hd hh
        go_wp2_with fail
        refine (cont_any _ _).mono ?_
        rintro e w' ⟨rfl, rfl⟩
        rw [HCB.out]
        go_wp2_with fail
        exact ⟨⟨k + 1, by omega, by simp, HF.out⟩, by simp [intOf]; omega⟩
    · have hf : allCont s.data.toList = true := by
        rw [hh.out, List.drop_of_length_le (by simp; omega)]; rfl
      have HF : Hid (allCont s.data.toList = true) := hf
      clear hf hh
      go_wp2_with fail
      go_ret
      exact ⟨ret_bool HF.out.symm, rfl⟩
theorem name_any (s : ByteArray) (w : World) : Calls Tryz.prog 139 #[.string s] w fun e w' => e = .returned (.bool (nameB s.data.toList)) ∧ w' = w := by
  by_cases h0 : s.size = 0
  · rw [empty_of s h0]; exact name_empty w
  · have h1 : 0 < s.size := by omega
    have hne := nonempty_of s h1
    by_cases h : s.size ≤ 20
    · rw [nameB_of s h1 h]
      cases hst : startB ((s[0]).toNat : Int)
      · exact name_other s w h1 h hne hst
      · exact name_start s w h1 h hne hst
    · rw [nameB_long s (by omega)]
      exact name_long s w (by omega) hne

theorem take_snoc (s : ByteArray) (k : Nat) (h : k < s.size) : s.data.toList.take (k + 1) = s.data.toList.take k ++ [s[k]] := by
  rw [List.take_add_one, s_get s k h]
  rfl
theorem u8_eq (a b : UInt8) : a = b ↔ (a.toNat : Int) = (b.toNat : Int) := by
  constructor
  · intro h; rw [h]
  · intro h; exact UInt8.toNat_inj.1 (by omega)
def digit8 (b : UInt8) : Bool := digitB (b.toNat : Int)
def valOf (l : List UInt8) : Nat := l.foldl (fun n b => n * 10 + (b.toNat - 48)) 0
def parseV (l : List UInt8) : Option Nat :=
  if l = [] ∨ 9 < l.length ∨ (l.head? = some 48 ∧ 1 < l.length) then none else if l.all digit8 then some (valOf l) else none
theorem valOf_snoc (l : List UInt8) (b : UInt8) : valOf (l ++ [b]) = valOf l * 10 + (b.toNat - 48) := by simp [valOf, List.foldl_append]
theorem valOf_lt : ∀ (n : Nat) (l : List UInt8), l.length = n → l.all digit8 = true → valOf l < 10 ^ n
  | 0, l, h, _ => by rw [List.eq_nil_of_length_eq_zero h]; simp [valOf]
  | n + 1, l, h, hd => by
    obtain ⟨m, b, rfl⟩ : ∃ m b, l = m ++ [b] := ⟨l.dropLast, l.getLast (by intro e; rw [e] at h; simp at h), (List.dropLast_concat_getLast _).symm⟩
    rw [List.all_append] at hd
    have h1 : m.all digit8 = true := by simp at hd; simp; exact hd.1
    have h2 : digit8 b = true := by simp at hd; exact hd.2
    have ih := valOf_lt n m (by simp at h; exact h) h1
    rw [valOf_snoc, Nat.pow_succ]
    unfold digit8 digitB at h2
    have h3 := of_decide_eq_true h2
    omega
theorem parseV_nil : parseV [] = none := by decide
theorem parseV_long (l : List UInt8) (h : 9 < l.length) : parseV l = none := by
  unfold parseV; rw [if_pos (.inr (.inl h))]
theorem parseV_zero (l : List UInt8) (h : l.head? = some 48) (h1 : 1 < l.length) : parseV l = none := by
  unfold parseV; rw [if_pos (.inr (.inr ⟨h, h1⟩))]
def allDigit (l : List UInt8) : Bool := l.all digit8
def digitsV (l : List UInt8) : Option Nat := if allDigit l then some (valOf l) else none
theorem parseV_of (l : List UInt8) (h0 : 0 < l.length) (h : l.length ≤ 9) (hz : l.head? = some 48 → l.length ≤ 1) : parseV l = digitsV l := by
  have hn : ¬ (l = [] ∨ 9 < l.length ∨ (l.head? = some 48 ∧ 1 < l.length)) := by
    rintro (h1 | h1 | ⟨h1, h2⟩)
    · rw [h1] at h0; simp at h0
    · omega
    · have := hz h1; omega
  unfold parseV; rw [if_neg hn]; rfl
theorem allDigit_snoc (l : List UInt8) (b : UInt8) : allDigit (l ++ [b]) = (allDigit l && digit8 b) := by
  unfold allDigit; rw [List.all_append]; simp
theorem allDigit_no (s : ByteArray) (k : Nat) (h : k < s.size) (hd : digitB ((s[k]).toNat : Int) = false) : allDigit s.data.toList = false := by
  have e := List.take_append_drop k s.data.toList
  unfold allDigit
  rw [← e, drop_cons s k h, List.all_append, List.all_cons, show digit8 s[k] = false from hd]
  simp
theorem head_of (s : ByteArray) (h0 : 0 < s.size) : s.data.toList.head? = some s[0] := by
  have hd := drop_cons s 0 h0
  rw [List.drop_zero] at hd
  rw [hd]; rfl
/-- What Parse hands back. -/
def parseRet : Option Nat → Value
  | some n => .tuple #[.int .i64 n, .bool true]
  | none => .tuple #[.int .i64 0, .bool false]

set_option maxHeartbeats 400000 in
theorem parse_empty (w : World) :
    Calls Tryz.prog 205 #[.string ⟨#[]⟩] w fun e w' => e = .returned (parseRet none) ∧ w' = w := by
  go_enter Tryz.func205, Tryz.ntmps205
  go_wp2
  go_ret2
  exact ⟨rfl, rfl⟩
set_option maxHeartbeats 400000 in
theorem parse_long (s : ByteArray) (w : World) (h : 9 < s.size) (hne : s.toList.isEmpty = false) :
    Calls Tryz.prog 205 #[.string s] w fun e w' => e = .returned (parseRet none) ∧ w' = w := by
  go_enter Tryz.func205, Tryz.ntmps205
  go_wp2
  go_ret2
  exact ⟨rfl, rfl⟩
set_option maxHeartbeats 400000 in
theorem parse_zero (s : ByteArray) (w : World) (h : s.size ≤ 9) (h1 : 1 < s.size) (hne : s.toList.isEmpty = false) (hz : (((s[0]).toNat : Int) == 48) = true) :
    Calls Tryz.prog 205 #[.string s] w fun e w' => e = .returned (parseRet none) ∧ w' = w := by
  go_enter Tryz.func205, Tryz.ntmps205
  go_wp2
  go_ret2
  exact ⟨rfl, rfl⟩
theorem ret_num {a b : Int} (h : a = b) : Ending.returned (.tuple #[.int .i64 a, .bool true]) = .returned (.tuple #[.int .i64 b, .bool true]) := by rw [h]
set_option maxHeartbeats 1000000 in
theorem parse_loop (s : ByteArray) (w : World) (h0 : 0 < s.size) (h : s.size ≤ 9) (hne : s.toList.isEmpty = false) (z : Bool) (hz1 : z = true → s.size ≤ 1) (hz : (((s[0]).toNat : Int) == 48) = z) :
    Calls Tryz.prog 205 #[.string s] w fun e w' => e = .returned (parseRet (digitsV s.data.toList)) ∧ w' = w := by
  cases z
  all_goals
    have d1 : decide ((9 : Int) < s.size) = false := decide_eq_false (by omega)
    try have d2 : decide ((1 : Int) < s.size) = false := decide_eq_false (by have := hz1 rfl; omega)
    clear hz1
    go_enter Tryz.func205, Tryz.ntmps205
    go_wp2
    go_loop [4, 25] (fun v n => ∃ k : Nat, k ≤ s.size ∧ n = .int .i64 k ∧ v = .int .i64 (valOf (s.data.toList.take k)) ∧ Hid (allDigit (s.data.toList.take k) = true)) (fun _ n => s.size - (intOf n).toNat)
    case atStart => exact ⟨0, by omega, rfl, rfl, rfl⟩
    case round =>
      obtain ⟨k, hk, rfl, rfl, hh⟩ := hrel
      by_cases hlt : k < s.size
      · cases hcb : digitB ((s[k]).toNat : Int)
        · have hf := allDigit_no s k hlt hcb
          have HF : Hid _ := hf
          have HCB : Hid _ := hcb
          clear hf hcb hh
          go_wp2_with (go_at_call 232; refine (digit_any _ _).mono ?_; rintro e w' ⟨rfl, rfl⟩; rw [HCB.out])
          go_ret2
          exact ⟨by rw [digitsV, HF.out]; rfl, rfl⟩
        · have hts := take_snoc s k hlt
          have hvs := valOf_snoc (s.data.toList.take k) s[k]
          rw [← hts] at hvs
          have hds := allDigit_snoc (s.data.toList.take k) s[k]
          rw [← hts, hh.out, show digit8 s[k] = true from hcb] at hds
          have hb1 : valOf (s.data.toList.take k) < 100000000 := by
            have hlen : (s.data.toList.take k).length = k := by rw [List.length_take]; simp; omega
            have := valOf_lt k _ hlen hh.out
            have : 10 ^ k ≤ 10 ^ 8 := Nat.pow_le_pow_right (by omega) (by omega)
            omega
          have hb2 := of_decide_eq_true (show decide (48 ≤ ((s[k]).toNat : Int) ∧ ((s[k]).toNat : Int) ≤ 57) = true from hcb)
          have hvs2 : ((valOf (s.data.toList.take (k + 1)) : Nat) : Int) = (valOf (s.data.toList.take k) : Nat) * 10 + (((s[k]).toNat : Int) - 48) := by rw [hvs]; omega
          have HV : Hid _ := hvs2
          have HD : Hid _ := hds
          have HCB : Hid _ := hcb
          clear hts hvs hds hvs2 hcb hh
          go_wp2_with (go_at_call 232; refine (digit_any _ _).mono ?_; rintro e w' ⟨rfl, rfl⟩; rw [HCB.out])
          go_round
          case rel => exact ⟨k + 1, by omega, by go_num, by rw [HV.out], HD.out⟩
          case measure => simp [intOf]; omega
      · have hk2 : s.data.toList.take k = s.data.toList := List.take_of_length_le (by simp; omega)
        rw [hk2] at hh
        rw [hk2]
        clear hk2
        go_wp2
        go_ret2
        exact ⟨by rw [digitsV, hh.out]; rfl, rfl⟩
theorem parse_any (s : ByteArray) (w : World) :
    Calls Tryz.prog 205 #[.string s] w fun e w' => e = .returned (parseRet (parseV s.data.toList)) ∧ w' = w := by
  have hl : s.data.toList.length = s.size := by simp
  by_cases h0 : s.size = 0
  · rw [empty_of s h0]; exact parse_empty w
  · have h1 : 0 < s.size := by omega
    have hne := nonempty_of s h1
    by_cases h : s.size ≤ 9
    · by_cases hz : s[0] = 48
      · by_cases hs : 1 < s.size
        · rw [parseV_zero _ (by rw [head_of s h1, hz]) (by omega)]
          exact parse_zero s w h hs hne (by rw [hz]; rfl)
        · rw [parseV_of _ (by omega) (by omega) (fun _ => by omega)]
          exact parse_loop s w h1 h hne true (fun _ => by omega) (by rw [hz]; rfl)
      · rw [parseV_of _ (by omega) (by omega) (fun hh => by rw [head_of s h1] at hh; exact absurd (Option.some.inj hh) hz)]
        exact parse_loop s w h1 h hne false (fun hh => by cases hh) (by rw [beq_eq_false_iff_ne]; exact fun hh => hz ((u8_eq _ _).2 hh))
    · rw [parseV_long _ (by omega)]
      exact parse_long s w (by omega) hne
end Go.Proofs.YtfafhjglcaikoaaGreatDoor.T
