/- Lists anew; what a store tells. -/
import Derived.Test.YtikogljojnapaaaStore
namespace Go.Proofs.Ytikogljojnapaaa
open Go.RowKit
attribute [local go_sem] Oper.semAt_some

theorem owns_none (W : World) (t k : Nat) : (W.alloc (.cells #[] t)).ownsRow W.heap.size t k (.slice (some ⟨W.heap.size, 0, none⟩) 0 0) 0 [] :=
  ⟨by simp, .inr ⟨W.heap.size, 0, #[], rfl, Nat.le_refl _, World.alloc_heap_new W _, Nat.le_refl _, by simp, by simp, by simp⟩⟩
set_option maxRecDepth 100000 in
set_option maxHeartbeats 1000000 in
theorem cloneN_any (v : Value) (X : List Nd) (W : World) (h : NdAt W v X) (hl : X.length < 4294967296) :
    Calls Try.prog 40 #[v] W fun e w' => ∃ v', e = .returned v' ∧ NdOwn w' W.heap.size v' X ∧ Below W.heap.size W w' := by
  obtain ⟨i0, hi0, hz0, hz1, hz2⟩ := info_parts info58
  have hb1 := below_new W (.cells #[] 58)
  rcases h.cells with ⟨rfl, rfl⟩ | ⟨adp, capp, rfl, hcs⟩
  · have hq : ∀ w, (binOp .eql 38 (.slice none 0 0) (.slice none 0 0)).run Try.prog w = .ok (.bool true) w := fun w => Lib.run_eql_slice_nil_nil w 0 0 Try.underlying38
    go_enter Try.func40, Try.ntmps40
    go_wp2_with fail
    go_ret
    exact ⟨_, rfl, World.ownsRow_nil _ _ _ _, Below.refl _ _⟩
  · have HC : Hid (∀ j u, (ndCs X)[j]? = some u → (W.alloc (.cells #[] 58)).cell? (adp.add j) = some u) := by
      rcases (h.below hb1 (Nat.le_refl _)).cells with ⟨hn, _⟩ | ⟨ad2, cap2, hv, hc2⟩
      · cases hn
      · cases hv
        exact hc2
    have ho := owns_none W 58 5
    have hq : ∀ w, (binOp .eql 38 (.slice (some adp) X.length capp) (.slice none 0 0)).run Try.prog w = .ok (.bool false) w := fun w => Lib.run_eql_slice_some_nil w _ _ _ Try.underlying38
    clear h hcs
    go_enter Try.func40, Try.ntmps40
    go_wp2_with (at_builtin; refine wpList_append_own_at _ rfl _ _ 38 rfl W.heap.size 58 i0 _ 5 48 Try.underlying38 hi0 hz0 hz1 hz2 rfl (by decide) _ _ _ rfl ho adp X.length capp (ndCs X) rfl (ndCs_length X) HC.out (ndC_one X) (by have := maxLen_big; omega) (by omega) hb1.size ?_; intro v2 w2 hown2 hgrow2 _ _)
    go_ret
    refine ⟨_, rfl, ?_, grown_own hb1.size hb1 ho hgrow2⟩
    unfold NdOwn
    simpa using hown2
set_option maxRecDepth 100000 in
set_option maxHeartbeats 1000000 in
theorem cloneT_any (v : Value) (l : List Txt) (W : World) (h : Tx W v l) (hl : l.length * 16 ≤ big) :
    Calls Try.prog 38 #[v] W fun e w' => ∃ v', e = .returned v' ∧ w'.ownsRow W.heap.size 9 1 v' l.length (txV l) ∧ Below W.heap.size W w' := by
  obtain ⟨i0, hi0, hz0, hz1, hz2⟩ := info_parts info9
  have hb1 := below_new W (.cells #[] 9)
  unfold big at hl
  have HT : Hid (∀ W', Below W.heap.size W W' → Tx W' v l) := fun W' hb => h.below hb (Nat.le_refl _)
  rcases h with ⟨rfl, rfl⟩ | ⟨adp, capp, rfl, _, _⟩
  · have hq : ∀ w, (binOp .eql 29 (.slice none 0 0) (.slice none 0 0)).run Try.prog w = .ok (.bool true) w := fun w => Lib.run_eql_slice_nil_nil w 0 0 Try.underlying29
    go_enter Try.func38, Try.ntmps38
    go_wp2_with fail
    go_ret
    exact ⟨_, rfl, World.ownsRow_nil _ _ _ _, Below.refl _ _⟩
  · have HC : Hid (∀ j u, (txV l)[j]? = some u → (W.alloc (.cells #[] 9)).cell? (adp.add j) = some u) := (HT.out _ hb1).cells
    have ho := owns_none W 9 1
    have hq : ∀ w, (binOp .eql 29 (.slice (some adp) l.length capp) (.slice none 0 0)).run Try.prog w = .ok (.bool false) w := fun w => Lib.run_eql_slice_some_nil w _ _ _ Try.underlying29
    go_enter Try.func38, Try.ntmps38
    go_wp2_with (at_builtin; refine wpList_append_own_at _ rfl _ _ 29 rfl W.heap.size 9 i0 _ 1 16 Try.underlying29 hi0 hz0 hz1 hz2 rfl (by decide) _ _ _ rfl ho adp l.length capp (txV l) rfl (by rw [txV_length, Nat.mul_one]) HC.out (txV_one l) (by have := maxLen_big; omega) (by omega) hb1.size ?_; intro v2 w2 hown2 hgrow2 _ _)
    go_ret
    refine ⟨_, rfl, ?_, grown_own hb1.size hb1 ho hgrow2⟩
    simpa using hown2

variable {W : World} {K : Nat → Prop} {sb vb fb : Nat} {V : Vrs} {G : Fns}
abbrev nilT : Value × List Txt := (.slice none 0 0, [])
abbrev nilN : Value × List Nd := (.slice none 0 0, [])
theorem lookV (h : W.ownsMap Try.prog 9 hE vb V.length (dM V)) (k : Txt) (hk : k.length ≤ maxLen) (b : Bool) :
    (Instr.lookup 44 (.map (some vb)) (str k) b).run Try.prog W = .ok (if b then .tuple #[(getM V k nilT).1, .bool (hasM V k)] else (getM V k nilT).1) W := by
  cases b
  · obtain ⟨v, ps, h1, h2⟩ := h.lookup key9 Try.underlying44 (Try.zeroValue29 W) (zd := .held nilT.1) (zp := []) rfl (keyOf9 k hk)
    rw [dM_at] at h2
    rw [h1, hE_inv h2]
    rfl
  · obtain ⟨v, ps, h1, h2⟩ := h.look_ok key9 Try.underlying44 (Try.zeroValue29 W) (zd := .held nilT.1) (zp := []) rfl (keyOf9 k hk)
    rw [dM_at] at h2
    rw [dM_has] at h1
    rw [h1, hE_inv h2]
    rfl
theorem lookF (h : W.ownsMap Try.prog 9 hE fb G.length (dM G)) (k : Txt) (hk : k.length ≤ maxLen) (b : Bool) :
    (Instr.lookup 47 (.map (some fb)) (str k) b).run Try.prog W = .ok (if b then .tuple #[(getM G k nilN).1, .bool (hasM G k)] else (getM G k nilN).1) W := by
  cases b
  · obtain ⟨v, ps, h1, h2⟩ := h.lookup key9 Try.underlying47 (Try.zeroValue38 W) (zd := .held nilN.1) (zp := []) rfl (keyOf9 k hk)
    rw [dM_at] at h2
    rw [h1, hE_inv h2]
    rfl
  · obtain ⟨v, ps, h1, h2⟩ := h.look_ok key9 Try.underlying47 (Try.zeroValue38 W) (zd := .held nilN.1) (zp := []) rfl (keyOf9 k hk)
    rw [dM_at] at h2
    rw [dM_has] at h1
    rw [h1, hE_inv h2]
    rfl
theorem Sto.gotV (h : Sto W K sb vb fb V G) (k : Txt) : Tx W (getM V k nilT).1 (getM V k nilT).2 ∧ (getM V k nilT).2.length * 16 ≤ big := by
  cases e : hasM V k with
  | false =>
    rw [getM_none e]
    exact ⟨Tx.nil W, by simp only [List.length_nil, Nat.zero_mul, Nat.zero_le]⟩
  | true =>
    have hm := getM_mem (z := nilT) e
    have h2 := h.vl _ hm
    exact ⟨(h.vt _ hm).tx, h2⟩
theorem Sto.gotF (h : Sto W K sb vb fb V G) (k : Txt) : NdAt W (getM G k nilN).1 (getM G k nilN).2 ∧ (getM G k nilN).2.length < 4294967296 := by
  cases e : hasM G k with
  | false =>
    rw [getM_none e]
    exact ⟨NdAt.nil W, by simp only [List.length_nil, Nat.zero_lt_succ]⟩
  | true =>
    have hm := getM_mem (z := nilN) e
    have h2 := h.fl _ hm
    exact ⟨(h.ft _ hm).at, h2⟩
set_option maxHeartbeats 1000000 in
theorem get_any (h : Sto W K sb vb fb V G) (k : Txt) (hk : k.length ≤ maxLen) :
    Calls Try.prog 14 #[sP sb, str k] W fun e w' => ∃ v', e = .returned (.tuple #[v', .bool (hasM V k)]) ∧ w'.ownsRow W.heap.size 9 1 v' (getM V k nilT).2.length (txV (getM V k nilT).2) ∧ Below W.heap.size W w' := by
  have c0 := h.sc.cell 0
  have hlk := lookV h.vm k hk true
  simp only [if_true] at hlk
  obtain ⟨h1, h2⟩ := h.gotV k
  have HC : Hid (∀ W' v', W' = W → v' = (getM V k nilT).1 → Calls Try.prog 38 #[v'] W' fun e w' => ∃ v', e = .returned v' ∧ w'.ownsRow W.heap.size 9 1 v' (getM V k nilT).2.length (txV (getM V k nilT).2) ∧ Below W.heap.size W w') := by
    rintro W' v' rfl rfl
    exact cloneT_any _ _ _ h1 h2
  clear h h1 h2
  go_enter Try.func14, Try.ntmps14
  go_wp2_with fail
  refine (HC.out _ _ rfl rfl).mono ?_
  rintro e w1 ⟨v', rfl, ho, hb⟩
  go_wp2_with fail
  go_ret2
  exact ⟨v', rfl, ho, hb⟩
set_option maxHeartbeats 1000000 in
theorem fun_any (h : Sto W K sb vb fb V G) (k : Txt) (hk : k.length ≤ maxLen) :
    Calls Try.prog 16 #[fP sb, str k] W fun e w' => ∃ v', e = .returned (.tuple #[v', .bool (hasM G k)]) ∧ NdOwn w' W.heap.size v' (getM G k nilN).2 ∧ Below W.heap.size W w' := by
  have c0 := h.sc.cell 1
  have hlk := lookF h.fm k hk true
  simp only [if_true] at hlk
  obtain ⟨h1, h2⟩ := h.gotF k
  have HC : Hid (∀ W' v', W' = W → v' = (getM G k nilN).1 → Calls Try.prog 40 #[v'] W' fun e w' => ∃ v', e = .returned v' ∧ NdOwn w' W.heap.size v' (getM G k nilN).2 ∧ Below W.heap.size W w') := by
    rintro W' v' rfl rfl
    exact cloneN_any _ _ _ h1 h2
  clear h h1 h2
  go_enter Try.func16, Try.ntmps16
  go_wp2_with fail
  refine (HC.out _ _ rfl rfl).mono ?_
  rintro e w1 ⟨v', rfl, ho, hb⟩
  go_wp2_with fail
  go_ret2
  exact ⟨v', rfl, ho, hb⟩
end Go.Proofs.Ytikogljojnapaaa
