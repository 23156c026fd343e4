/- Lists of programs of one's own. -/
import Derived.Test.YtfafhjglcaikoaaGreatDoorH6
import Derived.Test.YtfafhjglcaikoaaGreatDoorH4
import Derived.Test.YtfafhjglcaikoaaGreatDoorH10
import Derived.Test.YtfafhjglcaikoaaGreatDoorH9
import Derived.Test.YtfafhjglcaikoaaGreatDoorH7
/-! Programs are checked. -/
namespace Go.Proofs.YtfafhjglcaikoaaGreatDoor
open Go.RowKit
attribute [local go_sem] Oper.semAt_some

/-! ### the errors -/
theorem Ers.bel {W W' : World} {ea : Nat → Addr} (h : Ers W ea) (hb : Below W.heap.size W W') : Ers W' ea := h.below hb (Nat.le_refl _)
/-- The error that an answer is. -/
def ErrIs (W : World) (ea : Nat → Addr) (e : Value) : Rs → Prop
  | .fine => e = .nilIface
  | .many => e = errV (ea 4)
  | .node i => ∃ q, e = .iface 117 (.pointer (some ⟨q, 0, none⟩)) ∧ Cel W q 119 #[.int .i64 i, errV (ea 5)]
  | .nest i => ∃ q, e = .iface 117 (.pointer (some ⟨q, 0, none⟩)) ∧ Cel W q 119 #[.int .i64 i, errV (ea 6)]

/-! ### what is asked stays small -/
def AkOk (n j : Nat) (a : Ak) : Prop := 0 ≤ a.fin ∧ a.fin ≤ n ∧ 0 ≤ a.dep ∧ a.dep ≤ 31 ∧ (a.last = true → (j : Int) < a.fin)
def AksOk (n : Nat) (A : List Ak) : Prop := ∀ j a, A[j]? = some a → AkOk n j a
theorem AksOk.set {n : Nat} {A : List Ak} (h : AksOk n A) (j : Nat) (a : Ak) (ha : AkOk n j a) : AksOk n (A.set j a) := by
  intro i b hb
  by_cases e : j = i
  · subst e
    rw [List.getElem?_set] at hb
    simp only [if_true] at hb
    split at hb
    · cases hb; exact ha
    · cases hb
  · rw [List.getElem?_set_ne e] at hb
    exact h i b hb
theorem askG_ok (l : List Nd) (x : Nd) (dep : Int) (fin n : Nat) (hd0 : 0 ≤ dep) (hd : dep ≤ 30) (hn : fin ≤ n) : ∀ (f k at_ : Nat) (A : List Ak), AksOk n A → AksOk n (askG l x dep fin f k at_ A).2
  | 0, _, _, A, h => h
  | f + 1, k, at_, A, h => by
    unfold askG
    split
    · split
      · exact h
      · rename_i hlt
        have hs : AksOk n (A.set at_ ⟨fin, dep + 1, decide ((k : Int) = x.k - 1), wordAtB x.kind x.k k⟩) :=
          h.set at_ _ ⟨by show (0 : Int) ≤ fin; omega, by show (fin : Int) ≤ n; omega, by show 0 ≤ dep + 1; omega, by show dep + 1 ≤ 31; omega, fun _ => by show (at_ : Int) < fin; omega⟩
        split
        · exact h
        · split
          · exact hs
          · exact askG_ok l x dep fin n hd0 hd hn f _ _ _ hs
    · exact h
theorem aks_ok (n : Nat) (h : 0 < n) : AksOk n (aks n) := by
  intro j a ha
  cases j with
  | zero => cases ha; exact ⟨by show (0 : Int) ≤ n; omega, by show (n : Int) ≤ n; omega, by show (0 : Int) ≤ 1; decide, by show (1 : Int) ≤ 31; decide, fun _ => by show ((0 : Nat) : Int) < n; omega⟩
  | succ j =>
    simp only [aks, List.getElem?_cons_succ, List.getElem?_replicate] at ha
    split at ha
    · cases ha; exact ⟨by decide, by show (0 : Int) ≤ n; omega, by decide, by decide, fun h => by cases h⟩
    · cases ha
theorem may_size {x : Nd} {a : Ak} {n i : Nat} (h : mayB x a i = true) (ha : AkOk n i a) : 1 ≤ x.size ∧ (i : Int) + x.size ≤ n := by
  obtain ⟨h0, h1, _, _, h4⟩ := ha
  unfold mayB at h
  simp only [Bool.and_eq_true] at h
  have hs := h.2
  unfold sizB at hs
  split at hs
  · cases hs
  · split at hs
    · rename_i hl
      have := h4 hl
      simp at hs
      omega
    · simp at hs
      omega
theorem goC_not (l : List Nd) (f i : Nat) (A : List Ak) (x : Nd) (a : Ak) (hx : l[i]? = some x) (ha : A[i]? = some a) (hm : mayB x a i = false) : goC l (f + 1) i A = .node i := by
  rw [goC, hx, ha]
  simp only [hm, Bool.false_eq_true, if_false]
theorem goC_yes (l : List Nd) (f i : Nat) (A : List Ak) (x : Nd) (a : Ak) (fin : Nat) (hfin : i + x.size.toNat = fin) (hx : l[i]? = some x) (ha : A[i]? = some a) (hm : mayB x a i = true) (R : Bool × List Ak) (hR : askG l x a.dep fin (fin + 1) 0 (i + 1) A = R) :
    goC l (f + 1) i A = if R.1 then (if 30 < a.dep then .nest i else goC l f (i + 1) R.2) else .node i := by
  rw [goC, hx, ha]
  simp only [hm, if_true, hfin, hR]
theorem askG_keeps (l : List Nd) (x : Nd) (dep : Int) (fin i : Nat) : ∀ (f k at_ : Nat) (A : List Ak), i < at_ → (askG l x dep fin f k at_ A).2[i]? = A[i]?
  | 0, _, _, A, _ => rfl
  | f + 1, k, at_, A, h => by
    unfold askG
    split
    · split
      · rfl
      · split
        · rfl
        · split
          · simp only; rw [List.getElem?_set_ne (by omega)]
          · rw [askG_keeps l x dep fin i f _ _ _ (by omega), List.getElem?_set_ne (by omega)]
    · rfl

def NdOk (x : Nd) : Prop := x.s.length < 4611686018427387904 ∧ x.k ≤ 9223372036854775807

set_option maxRecDepth 100000 in
set_option maxHeartbeats 4000000 in
theorem check_any (v : Value) (X : List Nd) (W : World) (ea : Nat → Addr) (hE : Ers W ea) (hN : NdAt W v X) (hl : X.length < 4294967296) (hok : ∀ x ∈ X, NdOk x) :
    Calls Tryz.prog 38 #[v] W fun e w' => ∃ u, e = .returned u ∧ ErrIs w' ea u (checkL X) ∧ Below W.heap.size W w' := by
  obtain ⟨ad, cap, rfl⟩ := hN.form
  by_cases h0 : X.length = 0
  · have c0 := (hE 4 (by omega)).1
    have hc : checkL X = .many := by unfold checkL; rw [if_pos (Or.inl h0)]
    rw [hc]
    go_enter Tryz.func38, Tryz.ntmps38
    go_wp2_with fail
    go_ret
    exact ⟨_, rfl, rfl, Below.refl _ _⟩
  by_cases h1 : 3000 < X.length
  · have c0 := (hE 4 (by omega)).1
    have hc : checkL X = .many := by unfold checkL; rw [if_pos (Or.inr h1)]
    rw [hc]
    go_enter Tryz.func38, Tryz.ntmps38
    go_wp2_with fail
    go_ret
    exact ⟨_, rfl, rfl, Below.refl _ _⟩
  obtain ⟨R, hR⟩ : ∃ R, checkL X = R := ⟨_, rfl⟩
  have hg0 : goC X X.length 0 (aks X.length) = R := by rw [← hR]; unfold checkL; rw [if_neg (by omega)]
  rw [hR]
  clear hR
  have HE : Hid (∀ W', Below W.heap.size W W' → Ers W' ea) := fun W' hb => hE.bel hb
  have HN : Hid (∀ W', Below W.heap.size W W' → NdAt W' (.slice ad X.length cap) X) := fun W' hb => hN.below hb (Nat.le_refl _)
  have HOK : Hid (∀ x ∈ X, NdOk x) := hok
  have HG0 : Hid (goC X X.length 0 (aks X.length) = R) := hg0
  obtain ⟨g, o, cap', hv, hg, _⟩ := hN.at (List.getElem?_eq_getElem (l := X) (i := 0) (by omega))
  cases hv
  clear hE hN hok hg0
  have h0' : 0 < X.length := by omega
  have hne : ¬ X = [] := fun e => by rw [e] at h0'; simp at h0'
  have h1' : ¬ (3000 : Int) < (X.length : Int) := by omega
  go_enter Tryz.func38, Tryz.ntmps38
  go_wp2_with fail
  refine (newProgram_any _ (some ⟨g, o, none⟩) X.length cap rfl h0' hl _).mono ?_
  rintro e w1 ⟨pb, ab, rfl, hP1, hpb, hab, hb1⟩
  have hgab : g ≠ ab := by omega
  have HP1 : Hid (PrAt w1 pb ab (.slice (some ⟨g, o, none⟩) X.length cap) X.length (aks X.length)) := hP1
  clear hP1
  go_wp2_with fail
  go_loopw [18] (fun v18 wr => ∃ (i : Nat) (A : List Ak), v18 = .int .i64 i ∧ i ≤ X.length ∧ Hid (goC X (X.length - i) i A = R) ∧ Hid (AksOk X.length A) ∧ Hid (PrAt wr pb ab (.slice (some ⟨g, o, none⟩) X.length cap) X.length A) ∧ Below W.heap.size W wr) (fun v18 _ => X.length - (intOf v18).toNat)
  case atStart => exact ⟨0, aks X.length, rfl, by omega, HG0.out, aks_ok _ h0', HP1.out, hb1⟩
  case round =>
    obtain ⟨i, A, rfl, hi, HG, HAK, HP, hbr⟩ := hrel
    by_cases hil : i < X.length
    · obtain ⟨x, hx⟩ : ∃ x, X[i]? = some x := ⟨_, List.getElem?_eq_getElem hil⟩
      obtain ⟨a, ha⟩ : ∃ a, A[i]? = some a := ⟨_, List.getElem?_eq_getElem (by rw [HP.out.len]; exact hil)⟩
      have hak := HAK.out i a ha
      have hxo := HOK.out x (List.mem_of_getElem? hx)
      obtain ⟨f, hf⟩ : ∃ f, X.length - i = f + 1 := ⟨X.length - i - 1, by omega⟩
      have hgc := HG.out
      rw [hf] at hgc
      have HMB : Hid (∀ W', PrAt W' pb ab (.slice (some ⟨g, o, none⟩) X.length cap) X.length A → NdAt W' (.slice (some ⟨g, o, none⟩) X.length cap) X → Calls Tryz.prog 58 #[.pointer (some ⟨pb, 0, none⟩), .int .i64 i] W' fun e w' => e = .returned (.bool (mayB x a i)) ∧ Below W'.heap.size W' w') :=
        fun W' q1 q2 => mayBe_any X A pb ab _ i x a W' q1 q2 hx ha (by omega) hxo.1 (by have := hak.1; omega) (by have := hak.2.1; omega)
      cases hm : mayB x a i with
      | false =>
        have hr := hgc.symm.trans (goC_not X f i A x a hx ha hm)
        rw [hm] at HMB
        have HR : Hid (R = .node i) := hr
        clear hr hgc hx ha hak hxo hm HG
        go_wp2_with fail
        refine Calls.mono (HMB.out _ HP.out (HN.out _ hbr)) ?_
        rintro e w2 ⟨rfl, hb2⟩
        have hbw2 := hbr.trans (hb2.mono hbr.size)
        have c1 := (HE.out _ hbw2 5 (by omega)).1
        go_wp2_with fail
        go_ret
        rw [HR.out]
        exact ⟨_, rfl, ⟨_, rfl, Cel.new _ _ _⟩, hbw2.alloc hbw2.size _⟩
      | true =>
        obtain ⟨hs1, hs2⟩ := may_size hm hak
        obtain ⟨fin, hfin⟩ : ∃ fin, i + x.size.toNat = fin := ⟨_, rfl⟩
        obtain ⟨Q, hQ⟩ : ∃ Q, askG X x a.dep fin (fin + 1) 0 (i + 1) A = Q := ⟨_, rfl⟩
        have hr := hgc.symm.trans (goC_yes X f i A x a fin hfin hx ha hm Q hQ)
        have HAS : Hid (∀ W', PrAt W' pb ab (.slice (some ⟨g, o, none⟩) X.length cap) X.length A → NdAt W' (.slice (some ⟨g, o, none⟩) X.length cap) X → Calls Tryz.prog 59 #[.pointer (some ⟨pb, 0, none⟩), .int .i64 i] W' fun e w' => e = .returned (.bool Q.1) ∧ PrAt w' pb ab (.slice (some ⟨g, o, none⟩) X.length cap) X.length Q.2 ∧ Turn (fun b => b = ab) W' w') :=
          fun W' q1 q2 => askKids_any X A pb ab g o cap i x a W' q1 q2 hgab hx ha hl fin hs1 (by omega) (by omega) hxo.2 (by have := hak.2.2.1; omega) (by have := hak.2.2.2.1; omega) Q hQ
        have hQi : Q.2[i]? = some a := by rw [← hQ, askG_keeps X x a.dep fin i _ _ _ _ (by omega)]; exact ha
        have HQO : Hid (a.dep ≤ 30 → AksOk X.length Q.2) := fun hd => by rw [← hQ]; exact askG_ok X x a.dep fin X.length hak.2.2.1 hd (by omega) _ _ _ _ HAK.out
        rw [hm] at HMB
        have HR : Hid (R = if Q.1 then (if 30 < a.dep then .nest i else goC X f (i + 1) Q.2) else .node i) := hr
        have HQI : Hid (Q.2[i]? = some a) := hQi
        clear hr hgc hx ha hak hxo hm HG hQ hQi hs1 hs2 hfin
        go_wp2_with fail
        refine Calls.mono (HMB.out _ HP.out (HN.out _ hbr)) ?_
        rintro e w2 ⟨rfl, hb2⟩
        have hbw2 := hbr.trans (hb2.mono hbr.size)
        have hP2 := HP.out.turn (S := fun _ => False) (Turn.ofBelow hb2) (fun h => h) (fun h => h)
        go_wp2_with fail
        refine Calls.mono (HAS.out _ hP2 (HN.out _ hbw2)) ?_
        rintro e w3 ⟨rfl, hP3, hT3⟩
        have hbw3 := hbw2.trans (hT3.below (B := W.heap.size) (fun b hb => by subst hb; exact hab) hbw2.size)
        obtain ⟨q1, q2⟩ := Q
        simp only at hP3 ⊢
        cases q1 with
        | false =>
          simp only [Bool.false_eq_true, if_false] at HR
          have c1 := (HE.out _ hbw3 5 (by omega)).1
          clear hP2 hP3
          go_wp2_with fail
          go_ret
          rw [HR.out]
          exact ⟨_, rfl, ⟨_, rfl, Cel.new _ _ _⟩, hbw3.alloc hbw3.size _⟩
        | true =>
          simp only [if_true] at HR HQI HQO
          have p1 : w3.cell? ⟨pb, 1, none⟩ = some (.slice (some ⟨ab, 0, none⟩) X.length X.length) := hP3.prog.cell 1
          obtain ⟨_, a1, _, _⟩ := hP3.ask.at HQI.out
          have HP3 : Hid (PrAt w3 pb ab (.slice (some ⟨g, o, none⟩) X.length cap) X.length q2) := hP3
          clear hP2 hP3 hT3 hb2
          obtain ⟨afin, dep, alast, aword⟩ := a
          simp only at a1 HR HQO
          have hil' : (i : Int) < (X.length : Int) := by omega
          by_cases hd : 30 < dep
          · have c2 := (HE.out _ hbw3 6 (by omega)).1
            have HR2 : Hid (R = .nest i) := by unfold Hid; rw [HR.out, if_pos hd]
            go_wp2_with fail
            go_ret
            rw [HR2.out]
            exact ⟨_, rfl, ⟨_, rfl, Cel.new _ _ _⟩, hbw3.alloc hbw3.size _⟩
          · have HR2 : Hid (goC X (X.length - (i + 1)) (i + 1) q2 = R) := by unfold Hid; rw [HR.out, if_neg hd, show X.length - (i + 1) = f by omega]
            go_wp2_with fail
            exact ⟨⟨i + 1, q2, by simp, by omega, HR2.out, HQO.out (by omega), HP3.out, hbw3⟩, by simp [intOf]; omega⟩
    · have hiz : i = X.length := by omega
      subst hiz
      have hgc := HG.out
      rw [Nat.sub_self] at hgc
      have HR : Hid (R = .fine) := hgc.symm
      clear hgc
      go_wp2_with fail
      go_ret
      rw [HR.out]
      exact ⟨_, rfl, rfl, hbr⟩
end Go.Proofs.YtfafhjglcaikoaaGreatDoor
/-! Nodes are put together. -/
namespace Go.Proofs.YtfafhjglcaikoaaGreatDoor
open Go.RowKit
attribute [local go_sem] Oper.semAt_some

theorem ndC_one1 (x : Nd) : ∀ u ∈ ndC x, u.oneCell' = true := by
  have := ndC_one [x]
  simpa only [ndCs, List.flatMap_cons, List.flatMap_nil, List.append_nil] using this
set_option maxRecDepth 100000 in
set_option maxHeartbeats 4000000 in
theorem new_anyC (kind n : Int) (s : Txt) (v : Value) (K : List (Value × List Nd)) (w : World) (h : KdAt w v K) (hK : K.length < 4294967296) (hT : (kidL K).length < 4294967296) :
    Calls Tryz.prog 16 #[.int .i64 kind, .int .i64 n, str s, v] w fun e w' => ∃ v', e = .returned v' ∧ w'.ownsRow w.heap.size 40 5 v' ((kidL K).length + 1) (ndCs (newN kind n s (K.map Prod.snd))) ∧ Below w.heap.size w w' := by
  obtain ⟨i0, hi0, hz0, hz1, hz2⟩ := info_parts info28
  have HH : Hid (∀ W', Below w.heap.size w W' → KdAt W' v K) := fun W' hb => h.below hb (Nat.le_refl _)
  obtain ⟨ad, cap, rfl⟩ := h.form
  clear h
  go_enter Tryz.func16, Tryz.ntmps16
  go_wp2_with fail
  go_loopw [9, 17] (fun v9 v17 wr => ∃ k : Nat, v17 = .int .i64 k ∧ k ≤ K.length ∧ v9 = .int .i64 ((kidL (K.take k)).length + 1 : Nat) ∧ w = wr) (fun _ v17 _ => K.length - (intOf v17).toNat)
  case atStart => exact ⟨0, rfl, by omega, rfl, rfl⟩
  case round =>
    obtain ⟨k, rfl, hk, rfl, rfl⟩ := hrel
    have hle := kidL_le K k
    by_cases hkl : k < K.length
    · obtain ⟨p, hp⟩ : ∃ p, K[k]? = some p := ⟨_, List.getElem?_eq_getElem hkl⟩
      obtain ⟨g, o, cap', hv, hg, hc, hn⟩ := (HH.out _ (Below.refl _ _)).at hp
      cases hv
      have HS : Hid (kidL (K.take (k + 1)) = kidL (K.take k) ++ p.2) := kidL_snoc K k p hp
      have hle' := kidL_le K (k + 1)
      rw [HS.out, List.length_append] at hle'
      obtain ⟨pv, X⟩ := p
      obtain ⟨adp, capp, hpv⟩ := hn.form
      simp only at hpv hle' hc
      subst hpv
      clear hp hn
      go_wp2_with fail
      refine ⟨⟨k + 1, by simp, by omega, ?_, trivial⟩, by simp [intOf]; omega⟩
      rw [HS.out, List.length_append]
      simp
      omega
    · have hkz : k = K.length := by omega
      subst hkz
      rw [List.take_length]
      have hnl : (newN kind n s (K.map Prod.snd)).take 1 = [⟨kind, n, K.length, (kidL K).length + 1, s⟩] := by simp [newN, kidL]
      go_wp2_with (first | (at_make; refine wpList_make_own _ rfl _ _ 22 rfl w.heap.size 40 i0 _ 5 Tryz.underlying22 hi0 hz0 hz1 .i64 .i64 _ ((kidL K).length + 1) rfl rfl rfl (by rw [hz2]; omega) (by have := maxLen_big; omega) (Nat.le_refl _) ?_; intro w0 hown0 hgrow0) | (at_builtin; refine wpList_append_own_at _ rfl _ _ 22 rfl w.heap.size 40 i0 _ 5 48 Tryz.underlying22 hi0 hz0 hz1 hz2 rfl (by decide) _ _ _ rfl (hown0.alloc _) ⟨w0.heap.size, 0, none⟩ 1 1 (ndC ⟨kind, n, K.length, (kidL K).length + 1, s⟩) rfl rfl (cells_new w0 _ 40) (ndC_one1 _) (by have := maxLen_big; omega) (by omega) (Nat.le_trans hgrow0.size (below_new _ _).size) ?_; intro v1 w1 hown1 hgrow1 _ _))
      have hb0 : Below w.heap.size w w0 := (Below.refl _ w).grown hgrow0 (Nat.le_refl _) fun q e => by cases e
      have hb1 : Below w.heap.size w w1 := grown_own (Nat.le_trans hb0.size (below_new _ _).size) (hb0.alloc hb0.size _) (hown0.alloc _) hgrow1
      have HO1 : Hid (w1.ownsRow w.heap.size 40 5 v1 ((kidL (K.take 0)).length + 1) (ndCs (⟨kind, n, K.length, (kidL K).length + 1, s⟩ :: kidL (K.take 0)))) := by
        unfold Hid
        simpa [kidL, ndCs] using hown1
      clear hown0 hgrow0 hown1 hgrow1 hb0 hnl
      go_loopw [12, 40] (fun v12 v40 wx => ∃ k : Nat, v40 = .int .i64 k ∧ k ≤ K.length ∧ Hid (wx.ownsRow w.heap.size 40 5 v12 ((kidL (K.take k)).length + 1) (ndCs (⟨kind, n, K.length, (kidL K).length + 1, s⟩ :: kidL (K.take k)))) ∧ Below w.heap.size w wx) (fun _ v40 _ => K.length - (intOf v40).toNat)
      case atStart => exact ⟨0, rfl, by omega, HO1.out, hb1⟩
      case round =>
        obtain ⟨k, rfl, hk, HO, hbr⟩ := hrel
        have hle := kidL_le K k
        by_cases hkl : k < K.length
        · obtain ⟨p, hp⟩ : ∃ p, K[k]? = some p := ⟨_, List.getElem?_eq_getElem hkl⟩
          obtain ⟨g, o, cap', hv, hg, hc, hn⟩ := (HH.out _ hbr).at hp
          cases hv
          have HS : Hid (kidL (K.take (k + 1)) = kidL (K.take k) ++ p.2) := kidL_snoc K k p hp
          have hle' := kidL_le K (k + 1)
          rw [HS.out, List.length_append] at hle'
          obtain ⟨pv, X⟩ := p
          simp only at hle' hc hn
          have ho := HO.out
          have hws := hbr.size
          clear hp
          rcases hn.cells with ⟨rfl, rfl⟩ | ⟨adp, capp, rfl, hcs⟩
          · go_wp2_with (at_builtin; refine wpList_append_own_none rfl _ _ 22 rfl w.heap.size 40 i0 5 Tryz.underlying22 hi0 _ _ _ rfl ho rfl ?_)
            refine ⟨⟨k + 1, by simp, by omega, ?_, hbr⟩, by simp [intOf]; omega⟩
            rw [HS.out, List.append_nil]
            exact HO
          · clear hn
            go_wp2_with (at_builtin; refine wpList_append_own_at _ rfl _ _ 22 rfl w.heap.size 40 i0 _ 5 48 Tryz.underlying22 hi0 hz0 hz1 hz2 rfl (by decide) _ _ _ rfl ho adp X.length capp (ndCs X) rfl (ndCs_length X) hcs (ndC_one X) (by have := maxLen_big; omega) (by omega) hws ?_; intro v2 w2 hown2 hgrow2 _ _)
            refine ⟨⟨k + 1, by simp, by omega, ?_, grown_own hws hbr ho hgrow2⟩, by simp [intOf]; omega⟩
            rw [HS.out, List.length_append, ← List.cons_append, ndCs_append]
            rw [show (kidL (K.take k)).length + X.length + 1 = (kidL (K.take k)).length + 1 + X.length by omega]
            exact hown2
        · have hkz : k = K.length := by omega
          subst hkz
          rw [List.take_length] at HO
          go_wp2_with fail
          go_ret
          refine ⟨_, rfl, ?_, hbr⟩
          have := HO.out
          simpa [newN, kidL] using this
end Go.Proofs.YtfafhjglcaikoaaGreatDoor
/-! The chapter's examples. -/
namespace Go.Proofs.YtfafhjglcaikoaaGreatDoor
open Go.RowKit
attribute [local go_sem] Oper.semAt_some

/-- A list of lists that lies in a block. -/
theorem KdAt.of_cells {W : World} {b : Nat} {t : TypeId} {K : List (Value × List Nd)} {n cap : Nat} (hn : n = K.length) (hc : Cel W b t (K.map Prod.fst).toArray) (h : ∀ p ∈ K, NdAt W p.1 p.2) (hcap : n ≤ cap) : KdAt W (.slice (some ⟨b, 0, none⟩) n cap) K := by
  subst hn
  refine ⟨.inr ⟨b, 0, cap, by simp, by simpa using hcap, hc.lt, fun j cs hj i u hu => ?_⟩, h⟩
  rw [List.getElem?_map] at hj
  cases hp : K[j]? with
  | none => rw [hp] at hj; cases hj
  | some p =>
    rw [hp] at hj
    cases hj
    cases i with
    | succ i => simp at hu
    | zero =>
      simp at hu
      subst hu
      rw [Nat.mul_one, Nat.zero_add, Nat.add_zero, hc.cell, List.getElem?_toArray, List.getElem?_map, hp]
      rfl
theorem new_own (kind n : Int) (s : Txt) (v : Value) (K : List (Value × List Nd)) (w : World) (h : KdAt w v K) (hK : K.length < 4294967296) (hT : (kidL K).length < 4294967296) :
    Calls Tryz.prog 16 #[.int .i64 kind, .int .i64 n, str s, v] w fun e w' => ∃ v', e = .returned v' ∧ NdOwn w' w.heap.size v' (newN kind n s (K.map Prod.snd)) ∧ Below w.heap.size w w' := by
  refine (new_anyC kind n s v K w h hK hT).mono ?_
  rintro e w' ⟨v', rfl, h1, h2⟩
  refine ⟨v', rfl, ?_, h2⟩
  have e : (newN kind n s (K.map Prod.snd)).length = (kidL K).length + 1 := by simp [newN, kidL]
  unfold NdOwn
  rw [e]
  exact h1
theorem new_leaf (kind n : Int) (s : Txt) (w : World) :
    Calls Tryz.prog 16 #[.int .i64 kind, .int .i64 n, str s, .slice none 0 0] w fun e w' => ∃ v', e = .returned v' ∧ NdOwn w' w.heap.size v' [⟨kind, n, 0, 1, s⟩] ∧ Below w.heap.size w w' :=
  new_own kind n s (.slice none 0 0) [] w (KdAt.nil w) (by decide) (by decide)
theorem lit_any (s : ByteArray) (w : World) : Calls Tryz.prog 15 #[.string s] w fun e w' => ∃ v', e = .returned v' ∧ NdOwn w' w.heap.size v' [litN s.data.toList] ∧ Below w.heap.size w w' := by
  have HL : Hid (∀ W', Calls Tryz.prog 16 #[.int .i64 1, .int .i64 0, .string s, .slice none 0 0] W' fun e w' => ∃ v', e = .returned v' ∧ NdOwn w' W'.heap.size v' [litN s.data.toList] ∧ Below W'.heap.size W' w') := fun W' => new_leaf 1 0 s.data.toList W'
  go_enter Tryz.func15, Tryz.ntmps15
  go_wp2_with fail
  refine Calls.mono (HL.out _) ?_
  rintro e w1 ⟨v1, rfl, ho, hb⟩
  go_wp2_with fail
  go_ret
  exact ⟨_, rfl, ho, hb⟩
theorem ok_small (x : Nd) (h1 : x.s.length ≤ 300) (h2 : x.k ≤ 4294967296) : NdOk x := ⟨by omega, by omega⟩

end Go.Proofs.YtfafhjglcaikoaaGreatDoor
namespace Go.Proofs.YtfafhjglcaikoaaGreatDoor
open Go.RowKit
attribute [local go_sem] Oper.semAt_some

theorem info25 : (Tryz.prog.info? 22).map (fun i => (i.zero, i.size, i.bytes)) = some (some (.slice none 0 0), 1, 24) := by kernel_rfl
/-- Lists of nodes of one's own. -/
def KdOwn (W : World) (B : Nat) (v : Value) (K : List (Value × List Nd)) : Prop := W.ownsRow B 22 1 v K.length (K.map Prod.fst) ∧ ∀ p ∈ K, NdOwn W B p.1 p.2
theorem KdOwn.nil (W : World) (B : Nat) : KdOwn W B (.slice none 0 0) [] := ⟨World.ownsRow_nil _ _ _ _, fun p hp => by simp at hp⟩
theorem KdOwn.below {W W' : World} {B : Nat} {v : Value} {K : List (Value × List Nd)} (h : KdOwn W B v K) (hb : Below W.heap.size W W') : KdOwn W' B v K :=
  ⟨owns_turn h.1 (Turn.ofBelow (S := fun _ => False) hb) (fun _ _ h => h), fun p hp => (h.2 p hp).below hb⟩
theorem ones_flat (K : List (Value × List Nd)) : (K.map fun p => [p.1]).flatMap id = K.map Prod.fst := by
  induction K with
  | nil => rfl
  | cons a K ih =>
    rw [List.map_cons, List.flatMap_cons, ih]
    rfl
theorem KdOwn.at {W : World} {B : Nat} {v : Value} {K : List (Value × List Nd)} (h : KdOwn W B v K) : KdAt W v K := by
  refine ⟨RowAtS.owned (e := 22) (B := B) ?_ (fun cs hcs => ?_), fun p hp => (h.2 p hp).at⟩
  · rw [ones_flat, List.length_map]
    exact h.1
  · obtain ⟨p, _, rfl⟩ := List.mem_map.1 hcs
    rfl
theorem KdOwn.snoc {W w2 w4 : World} {B B' : Nat} {v v' pv : Value} {K : List (Value × List Nd)} {X : List Nd} {o : Obj} (h : KdOwn W B v K) (hb2 : Below W.heap.size W w2) (hB : B ≤ W.heap.size) (hB' : B ≤ B') (hp : NdOwn w2 B' pv X)
    (hown : w4.ownsRow B 22 1 v' (K.length + 1) (K.map Prod.fst ++ [pv])) (hg : (w2.alloc o).grownBy w4 v.ownBlock) : KdOwn w4 B v' (K ++ [(pv, X)]) ∧ Below B W w4 := by
  have h3 : KdOwn (w2.alloc o) B v K := h.below (hb2.alloc hb2.size o)
  have hp3 : NdOwn (w2.alloc o) B pv X := owns_lower (hp.below (below_new w2 o)) hB'
  have hT := Turn.ofGrown hg
  refine ⟨⟨by rw [List.map_append, List.length_append]; exact hown, fun p hq => ?_⟩, ?_⟩
  · rcases List.mem_append.1 hq with hq | hq
    · exact owns_turn (h3.2 p hq) hT (fun b hb e' => owns_apart2 h3.1 (h3.2 p hq) (by decide) b e' hb)
    · simp only [List.mem_singleton] at hq
      subst hq
      exact owns_turn hp3 hT (fun b hb e' => owns_apart2 h3.1 hp3 (by decide) b e' hb)
  · exact ((hb2.alloc hb2.size o).mono hB).grown hg (Nat.le_trans hB (Nat.le_trans hb2.size (below_new w2 o).size)) (fun b hb => (h3.1.lt b hb).1)
/-- Of two at least, one behind the other. -/
theorem seq_many (v : Value) (K : List (Value × List Nd)) (w : World) (h : KdAt w v K) (h2 : 2 ≤ K.length) (hK : K.length < 4294967296) (hT : (kidL K).length < 4294967296) :
    Calls Tryz.prog 17 #[v] w fun e w' => ∃ v', e = .returned v' ∧ NdOwn w' w.heap.size v' (newN 23 0 [] (K.map Prod.snd)) ∧ Below w.heap.size w w' := by
  have HN : Hid (Calls Tryz.prog 16 #[.int .i64 23, .int .i64 0, .string ⟨#[]⟩, v] w fun e w' => ∃ v', e = .returned v' ∧ NdOwn w' w.heap.size v' (newN 23 0 [] (K.map Prod.snd)) ∧ Below w.heap.size w w') := new_own 23 0 [] v K w h hK hT
  obtain ⟨ad, cap, rfl⟩ := h.form
  clear h hT
  obtain ⟨n, hn⟩ : ∃ n, K.length = n := ⟨_, rfl⟩
  rw [hn] at h2 HN ⊢
  have h0 : ¬ n = 0 := by omega
  have h1 : ¬ (n : Int) = 1 := by omega
  have h1' : ¬ n = 1 := by omega
  go_enter Tryz.func17, Tryz.ntmps17
  go_wp2_with fail
  refine Calls.mono HN.out ?_
  rintro e w1 ⟨v1, rfl, ho, hb⟩
  go_wp2_with fail
  go_ret
  exact ⟨_, rfl, ho, hb⟩
end Go.Proofs.YtfafhjglcaikoaaGreatDoor
