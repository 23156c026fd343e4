/- The chapter's examples. -/
import Derived.Test.YtdajacodfnidfaaGreatDoorLists5
namespace Go.Proofs.YtdajacodfnidfaaGreatDoor
open Go.RowKit Go.Shelf
theorem exj1 : joinB [[[97], [98]], [[49], [50]]] = some [[97, 49], [98, 50]] := by decide
theorem exj2 : joinB [[[97], [98]], [[120]]] = some [[97, 120], [98, 120]] := by decide
theorem exj3 : joinB [[[97]], []] = some [[97]] := by decide
theorem exg0 : letts [42, 46, 99] = [(42, true), (46, true), (99, true)] := by decide
theorem exg1 : letts [113, 42] = [(113, true), (42, true)] := by decide
theorem exp0 : pcs [(42, true), (46, true), (99, true)] = [(true, setNo), (false, setAdd setNo 46 46), (false, setAdd setNo 99 99)] := by
  rw [pcs, pcs, pcs]
  simp [isL, closeIn, pcs]
theorem exp1 : pcs [(113, true), (42, true)] = [(false, setAdd setNo 113 113), (true, setNo)] := by
  rw [pcs, pcs]
  simp [isL, closeIn, pcs]
theorem exf1 : [[120, 46, 99], [97, 46, 99]].filter (wantB false [(true, setNo), (false, setAdd setNo 46 46), (false, setAdd setNo 99 99)]) = [[120, 46, 99], [97, 46, 99]] := by rfl
theorem exf2 : [[120, 46, 99], [97, 46, 99]].filter (wantB false [(false, setAdd setNo 113 113), (true, setNo)]) = [] := by rfl
theorem exs : sortB [[120, 46, 99], [97, 46, 99]] = [[97, 46, 99], [120, 46, 99]] := by
  have h : decide (([120, 46, 99] : List UInt8) ≤ [97, 46, 99]) = false := by decide
  simp [sortB, List.mergeSort, List.MergeSort.Internal.splitInTwo, h]
theorem exc : Lib.compact ([[97, 46, 99], [120, 46, 99]] : List (List UInt8)) = [[97, 46, 99], [120, 46, 99]] := by decide
theorem exr0 : filesR [[120, 46, 99], [97, 46, 99]] [42, 46, 99] = [[97, 46, 99], [120, 46, 99]] := by
  have e : filesB (dotL [42, 46, 99]) (pcs (letts [42, 46, 99])) [[120, 46, 99], [97, 46, 99]] = [[97, 46, 99], [120, 46, 99]] := by
    rw [exg0, exp0]
    unfold filesB
    rw [show dotL [42, 46, 99] = false from rfl, exf1, exs, exc]
  unfold filesR
  rw [e]
  rfl
theorem exr1 : filesR [[120, 46, 99], [97, 46, 99]] [113, 42] = [[113, 42]] := by
  have e : filesB (dotL [113, 42]) (pcs (letts [113, 42])) [[120, 46, 99], [97, 46, 99]] = [] := by
    rw [exg1, exp1]
    unfold filesB
    rw [show dotL [113, 42] = false from rfl, exf2]
    simp [sortB, Lib.compact, Lib.compactUpTo]
  unfold filesR
  rw [e]
  rfl
theorem exg : bound (gatAll (filesR [[120, 46, 99], [97, 46, 99]]) [[42, 46, 99], [113, 42]]) = some [[97, 46, 99], [120, 46, 99], [113, 42]] := by
  have e : gatAll (filesR [[120, 46, 99], [97, 46, 99]]) [[42, 46, 99], [113, 42]] = [[97, 46, 99], [120, 46, 99], [113, 42]] := by
    unfold gatAll
    rw [List.map_cons, List.map_cons, List.map_nil, exr0, exr1]
    rfl
  rw [e]
  decide

/-- Texts, new. -/
theorem Tx.new (W : World) (ps : List (List UInt8)) : Tx (W.alloc (.cells (txV ps).toArray 9)) (.slice (some ⟨W.heap.size, 0, none⟩) ps.length ps.length) ps := by
  refine .inr ⟨_, _, rfl, Nat.le_refl _, fun _ => ⟨W.heap.size, 0, rfl, by simp, fun k p hp => ?_⟩⟩
  have hc := (Cel.new W 9 (txV ps).toArray).cell k
  rw [Nat.zero_add, hc]
  unfold txV
  simp [hp]
/-- Lists of lists, new. -/
theorem Tss.new (W : World) (vs : List Value) (ls : List (List (List UInt8))) (hl : vs.length = ls.length) (h : ∀ (k : Nat) v l, vs[k]? = some v → ls[k]? = some l → Tx W v l) : Tss (W.alloc (.cells vs.toArray 23)) (.slice (some ⟨W.heap.size, 0, none⟩) ls.length ls.length) ls := by
  have hb : Below W.heap.size W (W.alloc (.cells vs.toArray 23)) := (Below.refl _ W).alloc (Nat.le_refl _) _
  refine ⟨W.heap.size, 0, _, _, rfl, Nat.le_refl _, fun _ => ⟨rfl, by simp⟩, fun k l hk => ?_⟩
  have hlt : k < vs.length := by rw [hl]; exact (List.getElem?_eq_some_iff.1 hk).1
  have hc := (Cel.new W 23 vs.toArray).cell k
  rw [Nat.zero_add]
  refine ⟨vs[k], ?_, (h k vs[k] l (List.getElem?_eq_getElem hlt) hk).below hb (Nat.le_refl _)⟩
  rw [hc]
  simp [hlt]
theorem Tss.two (W : World) (v0 v1 : Value) (l0 l1 : List (List UInt8)) (h0 : Tx W v0 l0) (h1 : Tx W v1 l1) : Tss (W.alloc (.cells #[v0, v1] 23)) (.slice (some ⟨W.heap.size, 0, none⟩) 2 2) [l0, l1] :=
  Tss.new W [v0, v1] [l0, l1] rfl fun k v l hv hl => by
    match k, hv, hl with
    | 0, hv, hl => cases hv; cases hl; exact h0
    | 1, hv, hl => cases hv; cases hl; exact h1

theorem size_alloc (W : World) (o : Obj) : (W.alloc o).heap.size = W.heap.size + 1 := by simp
/-- Two lists of new texts. -/
theorem Tss.texts2 (W : World) (P Q : List (List UInt8)) :
    Tss (((W.alloc (.cells (txV P).toArray 9)).alloc (.cells (txV Q).toArray 9)).alloc (.cells #[.slice (some ⟨W.heap.size, 0, none⟩) P.length P.length, .slice (some ⟨W.heap.size + 1, 0, none⟩) Q.length Q.length] 23)) (.slice (some ⟨W.heap.size + 1 + 1, 0, none⟩) 2 2) [P, Q] := by
  have hb : ∀ (V : World) (o : Obj), Below V.heap.size V (V.alloc o) := fun V o => (Below.refl _ V).alloc (Nat.le_refl _) _
  have h1 := (Tx.new W P).below (hb _ (.cells (txV Q).toArray 9)) (Nat.le_refl _)
  have h2 := Tx.new (W.alloc (.cells (txV P).toArray 9)) Q
  have h3 := Tss.two _ _ _ P Q h1 h2
  simp only [size_alloc] at h3
  exact h3
/-- A list of a new text, and a nil list. -/
theorem Tss.texts1 (W : World) (P : List (List UInt8)) :
    Tss ((W.alloc (.cells (txV P).toArray 9)).alloc (.cells #[.slice (some ⟨W.heap.size, 0, none⟩) P.length P.length, .slice none 0 0] 23)) (.slice (some ⟨W.heap.size + 1, 0, none⟩) 2 2) [P, []] := by
  have h3 := Tss.two _ _ _ P [] (Tx.new W P) (.inl ⟨rfl, rfl⟩)
  rw [size_alloc] at h3
  exact h3
theorem lt_small {n : Nat} {ls : List (List UInt8)} (h : ls.all (fun s => decide (s.length < n)) = true) : ∀ s ∈ ls, s.length < n := fun s hs => by
  have := List.all_eq_true.1 h s hs
  simpa using this
/-- A join that is not too big. -/
theorem join_got (w W : World) (a : Addr) (v : Value) (ls : List (List (List UInt8))) (r : List (List UInt8)) (h : Tss W v ls) (hls : ls.length < 4294967296) (hz : ls.all (fun l => decide (l.length < 4294967296) && l.all fun s => decide (s.length < 4294967296)) = true) (hE : Eb w a) (hb : Below w.heap.size w W) (hr : joinB ls = some r) :
    Calls Tryz.prog 8 #[v] W fun e w' => ∃ v', e = .returned (.tuple #[v', .nilIface]) ∧ Tx w' v' r ∧ Below w.heap.size w w' := by
  have hz' : ∀ l ∈ ls, l.length < 4294967296 ∧ ∀ s ∈ l, s.length < 4294967296 := fun l hl => by
    have := List.all_eq_true.1 hz l hl
    simpa using this
  have := join_any v ls W a h hls (fun l hl => (hz' l hl).1) (fun l hl => (hz' l hl).2) (hE.below hb hE.pos)
  rw [hr] at this
  refine this.mono fun e w' ⟨⟨v', h1, h2⟩, h3⟩ => ⟨v', h1, Tx.owned h2, hb.trans (h3.mono hb.size)⟩
/-- Held against new texts. -/
theorem Tx.same {W : World} {v : Value} {P : List (List UInt8)} (Q : List (List UInt8)) (h : Tx W v P) (hP : P.length < 4294967296) (hQ : Q.length < 4294967296) :
    Calls Tryz.prog 20 #[v, .slice (some ⟨W.heap.size, 0, none⟩) Q.length Q.length] (W.alloc (.cells (txV Q).toArray 9)) fun e w' => e = .returned (.bool (decide (P = Q))) ∧ Below W.heap.size W w' := by
  have hba : Below W.heap.size W (W.alloc (.cells (txV Q).toArray 9)) := (Below.refl _ W).alloc (Nat.le_refl _) _
  refine (sameTexts_any _ _ P Q _ (h.below hba (Nat.le_refl _)).texts (Tx.new W Q).texts hP hQ).mono fun e w' ⟨h1, h2⟩ => ⟨h1, hba.trans (h2.mono hba.size)⟩

set_option maxRecDepth 100000 in
set_option maxHeartbeats 4000000 in
theorem first_any (w : World) (a : Addr) (hE : Eb w a) :
    Calls Tryz.prog 4 #[] w fun e w' => e = .returned (.bool true) ∧ Below w.heap.size w w' := by
  have HE : Hid (Eb w a) := hE
  clear hE
  have HAL : Hid (∀ (V V' : World) (o : Obj), Below V.heap.size V V' → Below V.heap.size V (V'.alloc o)) := fun V V' o h => h.alloc h.size _
  go_enter Tryz.func4, Tryz.ntmps4
  go_wp2_with fail
  refine (join_got w _ a _ _ _ (Tss.texts2 w [[97], [98]] [[49], [50]]) (by decide) (by decide) HE.out (HAL.out _ _ _ (HAL.out _ _ _ (HAL.out _ _ _ (Below.refl _ _)))) exj1).mono ?_
  rintro e w1 ⟨v1, rfl, t1, hb1⟩
  have HT1 : Hid (Tx w1 v1 _) := t1
  have HE1 : Hid (Eb w1 a) := Eb.below HE.out hb1 (Eb.pos HE.out)
  obtain ⟨ad1, cap1, rfl⟩ := t1.form
  clear t1
  go_wp2_with fail
  refine (join_got w1 _ a _ _ _ (Tss.texts2 w1 [[97], [98]] [[120]]) (by decide) (by decide) HE1.out (HAL.out _ _ _ (HAL.out _ _ _ (HAL.out _ _ _ (Below.refl _ _)))) exj2).mono ?_
  rintro e w2 ⟨v2, rfl, t2, hb2⟩
  have HT2 : Hid (Tx w2 v2 _) := t2
  have HE2 : Hid (Eb w2 a) := Eb.below HE1.out hb2 (Eb.pos HE1.out)
  obtain ⟨ad2, cap2, rfl⟩ := t2.form
  clear t2
  go_wp2_with fail
  refine (join_got w2 _ a _ _ _ (Tss.texts1 w2 [[97]]) (by decide) (by decide) HE2.out (HAL.out _ _ _ (HAL.out _ _ _ (Below.refl _ _))) exj3).mono ?_
  rintro e w3 ⟨v3, rfl, t3, hb3⟩
  have HT3 : Hid (Tx w3 v3 _) := t3
  have HE3 : Hid (Eb w3 a) := Eb.below HE2.out hb3 (Eb.pos HE2.out)
  obtain ⟨ad3, cap3, rfl⟩ := t3.form
  clear t3
  go_wp2_with fail
  have al3 : Below w3.heap.size w3 ((w3.alloc (.cells (txV [[42, 46, 99], [113, 42]]).toArray 9)).alloc (.cells (txV [[120, 46, 99], [97, 46, 99]]).toArray 9)) := HAL.out _ _ _ (HAL.out _ _ _ (Below.refl _ _))
  have hg4 := glob_any (.slice (some ⟨w3.heap.size, 0, none⟩) 2 2) (.slice (some ⟨w3.heap.size + 1, 0, none⟩) 2 2) [[42, 46, 99], [113, 42]] [[120, 46, 99], [97, 46, 99]] ((w3.alloc (.cells (txV [[42, 46, 99], [113, 42]]).toArray 9)).alloc (.cells (txV [[120, 46, 99], [97, 46, 99]]).toArray 9)) a
    ((Tx.new w3 [[42, 46, 99], [113, 42]]).below ((Below.refl _ _).alloc (Nat.le_refl _) _) (Nat.le_refl _)) (by have := Tx.new (w3.alloc (.cells (txV [[42, 46, 99], [113, 42]]).toArray 9)) [[120, 46, 99], [97, 46, 99]]; rw [size_alloc] at this; exact this) (by decide) (by decide) (lt_small (by decide)) (lt_small (by decide)) (Eb.below HE3.out al3 (Eb.pos HE3.out))
  rw [exg] at hg4
  refine hg4.mono ?_
  clear hg4
  rintro e w4 ⟨⟨v4, rfl, o4⟩, hb4'⟩
  have hb4 : Below w3.heap.size w3 w4 := al3.trans (hb4'.mono al3.size)
  have t4 := Tx.owned o4
  have HT4 : Hid (Tx w4 v4 _) := t4
  obtain ⟨ad4, cap4, rfl⟩ := t4.form
  clear t4 o4 hb4' al3
  go_wp2_with fail
  have b24 := hb3.trans (hb4.mono hb3.size)
  have b14 := hb2.trans (b24.mono hb2.size)
  refine (Tx.same [[97, 49], [98, 50]] (HT1.out.below b14 (Nat.le_refl _)) (by decide) (by decide)).mono ?_
  rintro e w5 ⟨rfl, hb5⟩
  rw [decide_eq_true rfl]
  go_wp2_with fail
  have b25 := b24.trans (hb5.mono b24.size)
  refine (Tx.same [[97, 120], [98, 120]] (HT2.out.below b25 (Nat.le_refl _)) (by decide) (by decide)).mono ?_
  rintro e w6 ⟨rfl, hb6⟩
  rw [decide_eq_true rfl]
  go_wp2_with fail
  have b35 := hb4.trans (hb5.mono hb4.size)
  have b36 := b35.trans (hb6.mono b35.size)
  refine (Tx.same [[97]] (HT3.out.below b36 (Nat.le_refl _)) (by decide) (by decide)).mono ?_
  rintro e w7 ⟨rfl, hb7⟩
  rw [decide_eq_true rfl]
  go_wp2_with fail
  have b46 := hb5.trans (hb6.mono hb5.size)
  have b47 := b46.trans (hb7.mono b46.size)
  refine (Tx.same [[97, 46, 99], [120, 46, 99], [113, 42]] (HT4.out.below b47 (Nat.le_refl _)) (by decide) (by decide)).mono ?_
  rintro e w8 ⟨rfl, hb8⟩
  rw [decide_eq_true rfl]
  go_wp2_with fail
  refine (pick_no _ [[97], [98]] 3 _ (Tx.new w8 [[97], [98]]) (Or.inr (by decide)) (by decide) (by decide)).mono ?_
  rintro e w9 ⟨rfl, hw9⟩
  have hb9 : Below w8.heap.size w8 w9 := by rw [hw9]; exact (Below.refl _ _).alloc (Nat.le_refl _) _
  clear hw9
  go_wp2_with fail
  go_ret
  have b14' := b14
  have b04 := hb1.trans (b14.mono hb1.size)
  have b07 := b04.trans (b47.mono b04.size)
  have b08 := b07.trans (hb8.mono b07.size)
  exact ⟨rfl, b08.trans (hb9.mono b08.size)⟩
end Go.Proofs.YtdajacodfnidfaaGreatDoor
