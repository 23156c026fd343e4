/- StoreFuns answers true at every list of names and every list of nodes, and leaves them as they were. -/
import Derived.Test.YtikogljojnapaaaRows
import Derived.WalkKit
import Derived.ProofKit
import Derived.Below
import Derived.Carry
import Derived.SliceStrings
import Derived.Test.YtikogljojnapaaaOpen
import Derived.Test.YtikogljojnapaaaFunsLaw
import Derived.OpenShut
namespace Go.Proofs.Ytikogljojnapaaa.storeFuns
open Go.ChangeShapes Go.WideShapes Go.ChangeAt Go.RowKit

theorem own : ownKnob Try.prog.godebug = none := by kernel_rfl

set_option maxRecDepth 100000 in
set_option maxHeartbeats 4000000 in
theorem walk (vn vl : Value) (ns : List Txt) (l : List Nd) (W : World) (hn : Tx W vn ns) (hl : NdAt W vl l) (hnm : ∀ n ∈ ns, n.length ≤ maxLen) (h1 : ns.length ≤ maxLen) (h2 : l.length ≤ maxLen) :
    Calls Try.prog 5 #[vn, vl] W fun e w' => e = .returned (.bool true) ∧ Below W.heap.size W w' := by
  by_cases hbig : ns.length > 30
  · obtain ⟨adn, capn, rfl⟩ := hn.form
    obtain ⟨adl, capl, rfl⟩ := hl.form
    unfold maxLen at h1 h2
    clear hn hl hnm
    go_enter Try.func5, Try.ntmps5
    go_wp2_with fail
    refine (first_any _).mono ?_
    rintro e w1 ⟨rfl, hb1⟩
    go_wp2_with fail
    go_ret
    exact ⟨rfl, hb1⟩
  · by_cases hbig2 : l.length > 10
    · obtain ⟨adn, capn, rfl⟩ := hn.form
      obtain ⟨adl, capl, rfl⟩ := hl.form
      unfold maxLen at h1 h2
      clear hn hl hnm
      go_enter Try.func5, Try.ntmps5
      go_wp2_with fail
      refine (first_any _).mono ?_
      rintro e w1 ⟨rfl, hb1⟩
      go_wp2_with fail
      go_ret
      exact ⟨rfl, hb1⟩
    · exact funs_main vn vl ns l W hn hl hnm (by omega) (by omega)

set_option maxRecDepth 100000 in
theorem lifted (os : Os) (started : os.Started) (H : Type) (enc : TypeId × Value → H) :
    ReturnsInHanded {} Try.checked os 5 .any (Rows.storeFunsSpec.pre6 enc Try.prog Try.f5 Rows.storeFunsRow.domain false) (Rows.storeFunsSpec.post enc Try.prog Try.f5 false true false false) := by
  refine returnsInHanded_of_change (C := Try.checked) own started (by kernel_rfl) Try.func5
    (ChangeSpec.witness6 (enc := enc) (C := Try.checked) false ⟨#[], #[.slice none 0 0, .slice none 0 0], []⟩ 8 (by kernel_rfl) (by kernel_rfl) (by kernel_rfl) (by kernel_rfl)) ?_
  intro W base args ds gs before hval0 hW hcnd _
  have hval : ∀ (j : Nat) t v, Try.f5.params[j]? = some t → args[j]? = some v → Value.okWide Try.prog W .any base t v := hval0
  have hW' := hW
  obtain ⟨p, q, hA0, hV, rfl, hfz, hnd⟩ := hW
  have hA : DataW.TrodAll enc Try.prog W 0 (fun _ => true) true Try.f5.params.toList args.toList ds p := hA0
  rw [Try.params5] at hA hval
  obtain ⟨v0, v1, d0, d1, p0, p1, rfl, rfl, rfl, h0, h1⟩ := trodAll_two hA
  obtain ⟨rfl, rfl⟩ := trodVars_none hV
  obtain ⟨a0, l0, c0, rfl⟩ := okWide_slice Try.underlying29 (hval 0 29 v0 rfl rfl)
  obtain ⟨a1, l1, c1, rfl⟩ := okWide_slice Try.underlying38 (hval 1 38 v1 rfl rfl)
  have h0k := h0
  have h1k := h1
  obtain ⟨fuel0, hf0⟩ := h0
  obtain ⟨fuel1, hf1⟩ := h1
  clear hA0 hval0
  simp only [List.append_nil] at hW'
  have hlt : ∀ x ∈ p0 ++ p1, x.block < W.heap.size := fun x hx => by simpa using hW'.lt x hx
  obtain ⟨ns, htx, hln, hlm, hsz⟩ := open_texts hf0
  obtain ⟨X, hnd1, hlx, hlmx⟩ := open_nodes hf1
  refine (walk _ _ ns X W htx hnd1 hsz (by omega) (by omega)).mono fun e W' ⟨he, hg⟩ => ?_
  subst he
  exact ⟨_, rfl, _, _, _, [], _, [], hW', trodAll_mk1 (shut_bool Try.underlying4 _), trodAll_mk2 (Below.trod laidOut3 (by kernel_rfl) (of_decide_eq_true (by kernel_rfl)) h0k hg (fun x hx => hlt x (by simp [hx]))) (Below.trod laidOut3 (by kernel_rfl) (of_decide_eq_true (by kernel_rfl)) h1k hg (fun x hx => hlt x (by simp [hx]))), rfl, hg.frame _, fun h => by cases h⟩

theorem over : Rows.storeFunsRow.holds Try.pinned (OpenSpec.ofChange Rows.storeFunsSpec) :=
  OpenClaim.holds_of_wide 5 Try.f5 rfl rfl rfl rfl rfl rfl rfl ⟨rfl, rfl, rfl, rfl, rfl⟩ rfl rfl rfl rfl rfl (by kernel_rfl) Try.func5 (by kernel_rfl)
    (of_decide_eq_true (by kernel_rfl)) (by unfold Func.isWrapper; first | (rw [if_pos (by decide +kernel)]; kernel_rfl) | (rw [if_neg (by decide +kernel)]; exact ⟨rfl, rfl⟩))
    (fun os started H enc _ => lifted os started H enc)

theorem proved : Rows.StoreFunsSaid :=
  over
end Go.Proofs.Ytikogljojnapaaa.storeFuns
namespace Go.Proofs.Ytikogljojnapaaa
theorem storeFuns_said : Rows.StoreFunsSaid := storeFuns.proved
#print axioms storeFuns_said
end Go.Proofs.Ytikogljojnapaaa
