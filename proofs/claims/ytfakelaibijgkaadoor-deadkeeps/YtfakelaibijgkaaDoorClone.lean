/- A list of nodes anew. -/
import Derived.Test.YtfakelaibijgkaaDoorInward
import Derived.Lib.BufferMore
namespace Go.Proofs.YtfakelaibijgkaaDoor
open Go.RowKit
attribute [local go_sem] Oper.semAt_some

theorem owns_none (W : World) : (W.alloc (.cells #[] 26)).ownsRow W.heap.size 26 5 (.slice (some ⟨W.heap.size, 0, none⟩) 0 0) 0 [] :=
  ⟨rfl, .inr ⟨W.heap.size, 0, #[], rfl, Nat.le_refl _, World.alloc_heap_new W _, Nat.le_refl _, by simp, by simp, rfl⟩⟩
set_option maxRecDepth 100000 in
set_option maxHeartbeats 1000000 in
theorem clone_any (v : Value) (X : List Nd) (W : World) (h : NdAt W v X) (hl : X.length < 4294967296) :
    Calls Tryd.prog 20 #[v] W fun e w' => ∃ v', e = .returned v' ∧ NdOwn w' W.heap.size v' X ∧ Below W.heap.size W w' := by
  obtain ⟨i0, hi0, hz0, hz1, hz2⟩ := info_parts info28
  have hb1 := below_new W (.cells #[] 26)
  rcases h.cells with ⟨rfl, rfl⟩ | ⟨adp, capp, rfl, hcs⟩
  · have hq : ∀ w, (binOp .eql 22 (.slice none 0 0) (.slice none 0 0)).run Tryd.prog w = .ok (.bool true) w := fun w => Lib.run_eql_slice_nil_nil w 0 0 Tryd.underlying22
    go_enter Tryd.func20, Tryd.ntmps20
    go_wp2_with fail
    go_ret
    exact ⟨_, rfl, World.ownsRow_nil _ _ _ _, Below.refl _ _⟩
  · have HC : Hid (∀ j u, (ndCs X)[j]? = some u → (W.alloc (.cells #[] 26)).cell? (adp.add j) = some u) := by
      rcases (h.below hb1 (Nat.le_refl _)).cells with ⟨hn, _⟩ | ⟨ad2, cap2, hv, hc2⟩
      · cases hn
      · cases hv
        exact hc2
    have ho := owns_none W
    have hq : ∀ w, (binOp .eql 22 (.slice (some adp) X.length capp) (.slice none 0 0)).run Tryd.prog w = .ok (.bool false) w := fun w => Lib.run_eql_slice_some_nil w _ _ _ Tryd.underlying22
    clear h hcs
    go_enter Tryd.func20, Tryd.ntmps20
    go_wp2_with (at_builtin; refine wpList_append_own_at _ rfl _ _ 22 rfl W.heap.size 26 i0 _ 5 48 Tryd.underlying22 hi0 hz0 hz1 hz2 rfl (by decide) _ _ _ rfl ho adp X.length capp (ndCs X) rfl (ndCs_length X) HC.out (ndC_one X) (by have := maxLen_big; omega) (by omega) hb1.size ?_; intro v2 w2 hown2 hgrow2 _ _)
    go_ret
    refine ⟨_, rfl, ?_, grown_own hb1.size hb1 ho hgrow2⟩
    unfold NdOwn
    simpa using hown2
end Go.Proofs.YtfakelaibijgkaaDoor
