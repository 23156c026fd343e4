/- A range over a function that reads what the body's own invariant tells, and whose body never leaves it. -/
import Derived.Test.YtfakelaibijgkaaDoorPlaces
import Derived.Shelf.Abstract
import Derived.Shelf.RegionOpen
namespace Go.Proofs.YtfakelaibijgkaaDoor
open Go.RowKit

/-- How a round is left: it goes on. -/
def ownPost (B : Nat) (I : World → Prop) (W : World) : Exit → Act → World → Prop
  | .normal, _, W' => KeepsFrom B W W' ∧ I W'
  | _, _, _ => False

theorem wpIn_range_own {α : Type} {F : Fence} {n : Nat} {P : Program} {g : Operand} {ps : Array Tmp} {assign body : Code} {Q : Exit → Act → World → Prop} {a : Act} {w : World}
    (hro : F.round = none) (h1 : 1 ≤ n) {gf : Nat} {lb : Array Value} (hg : a.eval g = .func (.func gf) #[] lb) (hFg : F.fn gf) (eg : ∀ args w, (callFunc gf args).run P w = .ok (.enter gf args) w)
    {encs : α → Array Value} {xs : List α} (Reads : World → Prop)
    (hseq : ∀ (l : Nat) (J : Nat → World → Prop) (W : World), (∀ k A, J k A → Reads A) → (∀ k A m, J k A → J k (A.drewN m)) → (∀ k x W1, xs[k]? = some x → J k W1 → YieldAt F (n - 1 - 1) P l (encs x) W1 fun e W' => e = .returned (.bool true) ∧ J (k + 1) W') → J 0 W → CallsIn F (n - 1) P gf (#[.func (.yield l) #[] #[]] ++ lb) W fun e W' => (∃ v, e = .returned v) ∧ J xs.length W')
    (hps : ∀ x, (encs x).size = ps.size)
    (I : Nat → World → Prop) (hI : OwnFrom w.heap.size I) (hIr : ∀ k A, I k A → Reads A) (hId : ∀ k A m, I k A → I k (A.drewN m)) (h0 : I 0 w) (Ax : α → Act → World → Prop) (hAx : ∀ x a', OwnFrom w.heap.size (fun (_ : Unit) W => Ax x a' W))
    (hassign : ∀ (l k : Nat) (x : α) (W : World) (K : Act → World → Prop), xs[k]? = some x → I k W → (∀ a' W', KeepsFrom w.heap.size W W' → I k W' → Ax x a' W' → K a' W') →
      assign.wpIn (F.inRound l) (n - 1 - 1) P (Exit.then K (fun _ _ _ => False)) { tmps := (ps.zip (encs x)).foldl (fun t (p, v) => t.setIfInBounds p v) a.tmps, defers := [] } W)
    (hbody : ∀ (l k : Nat) (x : α) (a' : Act) (W : World), xs[k]? = some x → I k W → Ax x a' W → body.wpIn (F.inRound l) (n - 1 - 1) P (ownPost w.heap.size (I (k + 1)) W) a' W)
    (hdone : ∀ (D : Nat) (W : World), w.heap.size ≤ D → I xs.length W → W.heap[D]? = some (.deferred (some [])) → Q .normal { a with defers := { target := .collected D, args := #[] } :: a.defers } W) :
    (Code.rangeFunc g ps assign body).wpIn F n P Q a w := by
  refine wpIn_rangeFunc fun fn hfn => ?_
  rw [hro]
  -- the two blocks of the loop's own: the deferred calls (D), the record (R)
  obtain ⟨D, hD⟩ : ∃ D, w.heap.size = D := ⟨_, rfl⟩
  obtain ⟨rd, hrd⟩ : ∃ rd : Loop, rd = { state := .ready, pending := none, fn, tmps := a.tmps, params := ps, assign, body, defers := D } := ⟨_, rfl⟩
  obtain ⟨W1, hW1⟩ : ∃ W1, (w.alloc (.deferred (some []))).alloc (.loop rd) = W1 := ⟨_, rfl⟩
  have hsz : W1.heap.size = D + 2 := by rw [← hW1, ← hD]; simp
  have hR : W1.heap[D + 1]? = some (.loop rd) := by
    have := World.alloc_heap_new (w.alloc (.deferred (some []))) (.loop rd)
    rw [World.size_alloc, hD] at this
    rw [← hW1]; exact this
  have hDf : W1.heap[D]? = some (.deferred (some [])) := by
    rw [← hW1, ← hD]; exact (Below.heap_alloc _ _ _ (by simp)).trans (World.alloc_heap_new w _)
  have hI1 : I 0 W1 := by rw [← hW1]; exact hI.alloc _ (hI.alloc _ h0)
  refine ⟨D + 1, [{ target := .collected D, args := #[] }], W1, { target := .fn (.func gf) lb, args := #[.func (.yield (D + 1)) #[] #[]] }, W1, gf, #[.func (.yield (D + 1)) #[] #[]] ++ lb, W1, ?_, ?_, ?_, ?_, fun _ => h1, ?_⟩
  · rw [← hW1, hrd, ← hD]; exact run_enterLoop_outer _ _ _ _ _
  · simp only [resolve, hg]
    simp [go_sem]
  · intro f' hf'
    simp [Target.leads] at hf'
    subst hf'; exact hFg
  · simp [invoke, go_sem, eg]
  -- the iterator, at the body's invariant and the two blocks as they stand between rounds
  refine (hseq (D + 1) (fun k W => I k W ∧ W.heap[D + 1]? = some (.loop rd) ∧ W.heap[D]? = some (.deferred (some []))) W1 (fun k A h => hIr k A h.1) (fun k A m h => ⟨hId k A m h.1, h.2.1, h.2.2⟩) ?_ ⟨hI1, hR, hDf⟩).mono ?_
  · rintro k x W hx ⟨i1, i2, i3⟩
    have hy := run_yield (P := P) (args := encs x) i2 (by rw [hrd]; exact hps x)
    rw [hrd] at hy
    refine ⟨fn, _, assign, body, hy, roundIn_of_wpIn hfn (hassign _ k x W _ hx i1 ?_)⟩
    clear hy
    intro a' Wa ka ia ax
    have j2 := ka.same _ _ (by omega) i2 rfl
    have j3 := ka.same _ _ (by omega) i3 rfl
    have jl := (Array.getElem?_eq_some_iff.1 j2).1
    refine ⟨_, run_beginRound j2 (by rw [hrd]), ?_⟩
    refine wpIn_mono (hbody _ k x a' _ hx (hI.putObj _ ia (by omega) j2 rfl) ((hAx x a').putObj (s := ()) _ ax (by omega) j2 rfl)) ?_
    rintro e a3 W3 hp
    cases e with
    | normal =>
      obtain ⟨k3, i3'⟩ := hp
      have m2 := k3.same (D + 1) _ (by omega) (World.putObj_heap_same jl) rfl
      have m3 := k3.same D _ (by omega) ((World.putObj_heap_other (by omega)).trans j3) rfl
      have ml := (Array.getElem?_eq_some_iff.1 m2).1
      have hend := run_endRound (P := P) none m2
      have hrec : ({ ({ rd with state := .busy } : Loop) with state := if (none : Option Code).isNone then .ready else .done, pending := none } : Loop) = rd := by rw [hrd]; rfl
      rw [hrec] at hend
      exact ⟨_, _, hend, rfl, hI.putObj _ i3' (by omega) m2 rfl, World.putObj_heap_same ml, (World.putObj_heap_other (by omega)).trans m3⟩
    | ret => exact hp.elim
    | exit id => exact hp.elim
    | goto t => exact hp.elim
    | panic ch => exact hp.elim
    | outgrown => exact hp.elim
  · rintro e W2 ⟨⟨v, rfl⟩, i1, i2, i3⟩
    have hend := run_endLoop (P := P) i2 (by rw [hrd]; simp)
    refine ⟨_, _, hend, ?_⟩
    have : rd.pending = none := by rw [hrd]
    rw [this]
    exact hdone D _ (by omega) (hI.putObj _ i1 (by omega) i2 rfl) ((World.putObj_heap_other (by omega)).trans i3)

end Go.Proofs.YtfakelaibijgkaaDoor
