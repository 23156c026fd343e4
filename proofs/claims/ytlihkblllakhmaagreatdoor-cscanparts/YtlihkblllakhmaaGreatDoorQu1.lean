/- A replacer, made. -/
import Derived.Test.YtlihkblllakhmaaGreatDoorRd22
namespace Go.Proofs.YtlihkblllakhmaaGreatDoor
open Go.RowKit
attribute [local go_sem] Oper.semAt_some

theorem infoS : (Tryz.prog.info? 9).map (fun i => (i.zero, i.size, i.bytes)) = some (some (.string ⟨#[]⟩), 1, 16) := by kernel_rfl
set_option maxRecDepth 100000 in
set_option maxHeartbeats 1000000 in
theorem newReplacer_any (W : World) (g : Nat) (xs : List Value) (hl : xs.length = 8) (hx : ∀ j u, xs[j]? = some u → W.cell? ((⟨g, 0, none⟩ : Addr).add j) = some u) (h1 : ∀ u ∈ xs, u.oneCell' = true) :
    Calls Tryz.prog 31 #[.slice (some ⟨g, 0, none⟩) 8 8] W fun e w' => ∃ q ad cap, e = .returned (.pointer (some ⟨q, 0, none⟩)) ∧ W.heap.size ≤ q ∧ Cel w' q 112 #[.int .u32 0, .int .i32 0, .int .u32 0, .nilIface, .slice ad 8 cap] ∧ w'.ownsRow W.heap.size 9 1 (.slice ad 8 cap) 8 xs ∧ Below W.heap.size W w' := by
  obtain ⟨i0, hi, hz0, hz1, hz2⟩ := info_parts infoS
  have HX : Hid (∀ j u, xs[j]? = some u → W.cell? ((⟨g, 0, none⟩ : Addr).add j) = some u) := hx
  clear hx
  go_enter Tryz.func31, Tryz.ntmps31
  go_wp2_with (at_builtin; refine wpList_append_own_at _ rfl _ _ 96 rfl W.heap.size 9 i0 _ 1 16 Tryz.underlying96 hi hz0 hz1 hz2 rfl (by decide) _ 0 [] rfl (World.ownsRow_nil W _ _ _) ⟨g, 0, none⟩ 8 8 xs rfl (by rw [hl]) HX.out h1 (by have := maxLen_big; omega) (by omega) (Nat.le_refl _) ?_; intro v6 w6 hown hgrow _ _; obtain ⟨ad6, cap6, rfl⟩ := owns_slice hown)
  have hbel : Below W.heap.size W w6 := grown_own (Nat.le_refl _) (Below.refl _ W) (World.ownsRow_nil W W.heap.size 9 1) hgrow
  have hs6 : W.heap.size ≤ w6.heap.size := hbel.size
  go_ret
  refine ⟨_, ad6, cap6, rfl, hs6, Cel.new w6 _ _, ?_, hbel.trans (Below.mono (below_new w6 _) hs6)⟩
  exact owns_turn hown (Turn.ofBelow (S := fun _ => False) (below_new w6 _)) (fun _ _ e => e.elim)
end Go.Proofs.YtlihkblllakhmaaGreatDoor
