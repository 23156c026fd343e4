/- How deep a program goes, over plain lists. -/
import Derived.Test.YtfakelaibijgkaaDoorRange
import Derived.Test.YtfakelaibijgkaaDoorChains
namespace Go.Proofs.YtfakelaibijgkaaDoor
open Go.RowKit

def setAll (v : Int) : List Nat → List Int → List Int
  | [], D => D
  | p :: ps, D => setAll v ps (D.set p v)
def depG (X : List Nd) : Nat → Nat → List Int → List Int
  | 0, _, D => D
  | f + 1, i, D => match D[i]? with
    | none => D
    | some d => if d = 0 then depG X f (i + 1) D else depG X f (i + 1) (setAll (d + 1) (kidPl X i) D)
def maxOf : List Int → Int
  | [] => 0
  | x :: l => maxL x l
def dep0 (n : Nat) : List Int := 1 :: List.replicate (n - 1) 0
def depthL (X : List Nd) : Int := if X.length = 0 then 0 else maxOf (depG X X.length 0 (dep0 X.length))

theorem setAll_len (v : Int) : ∀ (ps : List Nat) (D : List Int), (setAll v ps D).length = D.length
  | [], _ => rfl
  | p :: ps, D => by rw [setAll, setAll_len v ps, List.length_set]
theorem setAll_snoc (v : Int) (p : Nat) : ∀ (ps : List Nat) (D : List Int), setAll v (ps ++ [p]) D = (setAll v ps D).set p v
  | [], _ => rfl
  | q :: ps, D => by rw [List.cons_append, setAll, setAll_snoc v p ps, setAll]
/-- No place is deeper than its number. -/
def DepOk (D : List Int) : Prop := ∀ (j : Nat) (d : Int), D[j]? = some d → 0 ≤ d ∧ d ≤ j + 1
theorem DepOk.set {D : List Int} (h : DepOk D) (p : Nat) (v : Int) (h0 : 0 ≤ v) (h1 : v ≤ p + 1) : DepOk (D.set p v) := by
  intro j d hd
  by_cases e : p = j
  · subst e
    rw [List.getElem?_set] at hd
    simp only [if_true] at hd
    split at hd
    · cases hd; exact ⟨h0, h1⟩
    · cases hd
  · rw [List.getElem?_set_ne e] at hd
    exact h j d hd
theorem DepOk.all {v : Int} (h0 : 0 ≤ v) : ∀ (ps : List Nat) (D : List Int), DepOk D → (∀ p ∈ ps, v ≤ p + 1) → DepOk (setAll v ps D)
  | [], _, h, _ => h
  | p :: ps, D, h, hp => DepOk.all h0 ps _ (h.set p v h0 (hp p (by simp))) (fun q hq => hp q (by simp [hq]))
theorem dep0_ok (n : Nat) : DepOk (dep0 n) := by
  intro j d hd
  cases j with
  | zero => simp [dep0] at hd; subst hd; exact ⟨by decide, by decide⟩
  | succ j =>
    simp only [dep0, List.getElem?_cons_succ] at hd
    have := List.eq_of_mem_replicate (List.mem_of_getElem? hd)
    subst this
    exact ⟨by decide, by omega⟩
theorem dep0_len (n : Nat) (h : 0 < n) : (dep0 n).length = n := by simp [dep0]; omega
theorem plG_bounds (X : List Nd) (K fin : Int) : ∀ (f k at_ p : Nat), p ∈ plG X K fin f k at_ → at_ ≤ p ∧ p < X.length
  | 0, _, _, _, h => by simp [plG] at h
  | f + 1, k, at_, p, h => by
    unfold plG at h
    split at h
    · split at h
      · simp at h
      · split at h
        · simp at h
        · rename_i y hy
          split at h
          · simp at h
          · rcases List.mem_cons.1 h with rfl | h
            · exact ⟨Nat.le_refl _, (List.getElem?_eq_some_iff.1 hy).1⟩
            · have := plG_bounds X K fin f _ _ p h
              exact ⟨by omega, this.2⟩
    · simp at h
theorem kidPl_bounds (X : List Nd) (i p : Nat) (h : p ∈ kidPl X i) : i < p ∧ p < X.length := by
  unfold kidPl at h
  split at h
  · simp at h
  · have := plG_bounds X _ _ _ _ _ p h
    exact ⟨by omega, this.2⟩
def chainDeep (c n : Nat) : Bool := decide (depthL (chain c n) = n + 1)
theorem deeps0 : ((List.range 30).all fun n => chainDeep 0 n) = true := by decide +kernel
theorem deeps1 : ((List.range 30).all fun n => chainDeep 1 n) = true := by decide +kernel
theorem deeps2 : ((List.range 30).all fun n => chainDeep 2 n) = true := by decide +kernel
theorem chain_deep (c n : Nat) (hc : c < 3) (hn : n + 1 ≤ 30) : depthL (chain c n) = n + 1 := by
  match c, hc with
  | 0, _ => exact of_decide_eq_true (List.all_eq_true.1 deeps0 n (List.mem_range.2 (by omega)))
  | 1, _ => exact of_decide_eq_true (List.all_eq_true.1 deeps1 n (List.mem_range.2 (by omega)))
  | 2, _ => exact of_decide_eq_true (List.all_eq_true.1 deeps2 n (List.mem_range.2 (by omega)))
/-! ### marks of loops over functions -/
def marksOf (Ds : List Nat) : List Deferred := Ds.map fun D => { target := .collected D, args := #[] }
/-- These blocks hold the calls that are put off: none. -/
def Mk (W : World) (B : Nat) (Ds : List Nat) : Prop := Ds.Nodup ∧ ∀ D ∈ Ds, B ≤ D ∧ W.heap[D]? = some (.deferred (some []))
theorem Mk.nil (W : World) (B : Nat) : Mk W B [] := ⟨List.nodup_nil, fun D h => by simp at h⟩
theorem leaves_marks {F : Fence} {n : Nat} {P : Program} {fn : Func} {tmps : Array Value} {R : Ending → World → Prop} {B : Nat} : ∀ (Ds : List Nat) (W : World), Mk W B Ds →
    (∀ W', Below B W W' → (∀ b t cs, Cel W b t cs → Cel W' b t cs) → LeavesIn F n P fn tmps R [] .returning W') → LeavesInM F n P fn tmps R (marksOf Ds) .returning W
  | [], W, _, h => h W (Below.refl _ _) (fun _ _ _ h => h)
  | D :: Ds, W, hM, h => by
    have hD := hM.2 D (by simp)
    refine ⟨by simp, .inl ⟨D, _, rfl, run_takeDeferred hD.2, ?_⟩⟩
    have hn := List.nodup_cons.1 hM.1
    have hb : Below B W (W.putObj D (.deferred none)) := (Below.refl B W).grown (grownBy_putObj' W D _) (by have := (Array.getElem?_eq_some_iff.1 hD.2).1; omega) (fun k e => by cases e; exact hD.1)
    refine leaves_marks Ds _ ⟨hn.2, fun D' h' => ?_⟩ (fun W' hb' hc' => h W' (hb.trans hb') (fun b t cs hc => hc' b t cs ?_))
    · have := hM.2 D' (by simp [h'])
      have hne : D' ≠ D := fun e => hn.1 (e ▸ h')
      exact ⟨this.1, (World.putObj_heap_other hne).trans this.2⟩
    · have hne : b ≠ D := by
        intro e
        subst e
        rw [show W.heap[b]? = _ from hc] at hD
        simp at hD
      exact (World.putObj_heap_other hne).trans hc
end Go.Proofs.YtfakelaibijgkaaDoor
