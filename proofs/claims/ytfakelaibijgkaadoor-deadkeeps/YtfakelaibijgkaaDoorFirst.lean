/- The chapter's examples. -/
import Derived.Test.YtfakelaibijgkaaDoorCheck
import Derived.Test.YtfakelaibijgkaaDoorNew
namespace Go.Proofs.YtfakelaibijgkaaDoor
open Go.RowKit
attribute [local go_sem] Oper.semAt_some

/-- Nodes of one's own. -/
def NdOwn (W : World) (B : Nat) (v : Value) (X : List Nd) : Prop := W.ownsRow B 26 5 v X.length (ndCs X)
theorem NdOwn.at {W : World} {B : Nat} {v : Value} {X : List Nd} (h : NdOwn W B v X) : NdAt W v X := NdAt.owned h
theorem NdOwn.below {W W' : World} {B : Nat} {v : Value} {X : List Nd} (h : NdOwn W B v X) (hb : Below W.heap.size W W') : NdOwn W' B v X := owns_turn h (Turn.ofBelow (S := fun _ => False) hb) (fun _ _ h => h)
/-- A list of lists that lies in a block. -/
theorem KdAt.of_cells {W : World} {b : Nat} {t : TypeId} {K : List (Value × List Nd)} {n cap : Nat} (hn : n = K.length) (hc : Cel W b t (K.map Prod.fst).toArray) (h : ∀ p ∈ K, NdAt W p.1 p.2) (hcap : n ≤ cap) : KdAt W (.slice (some ⟨b, 0, none⟩) n cap) K := by
  subst hn
  refine ⟨.inr ⟨b, 0, cap, by simp, by simpa using hcap, hc.lt, fun j cs hj i u hu => ?_⟩, h⟩
  rw [List.getElem?_map] at hj
  cases hp : K[j]? with
  | none => rw [hp] at hj; cases hj
  | some p =>
    rw [hp] at hj
    cases hj
    cases i with
    | succ i => simp at hu
    | zero =>
      simp at hu
      subst hu
      rw [Nat.mul_one, Nat.zero_add, Nat.add_zero, hc.cell, List.getElem?_toArray, List.getElem?_map, hp]
      rfl
theorem new_own (kind n : Int) (s : Txt) (v : Value) (K : List (Value × List Nd)) (w : World) (h : KdAt w v K) (hK : K.length < 4294967296) (hT : (kidL K).length < 4294967296) :
    Calls Tryd.prog 15 #[.int .i64 kind, .int .i64 n, str s, v] w fun e w' => ∃ v', e = .returned v' ∧ NdOwn w' w.heap.size v' (newN kind n s (K.map Prod.snd)) ∧ Below w.heap.size w w' := by
  refine (new_any kind n s v K w h hK hT).mono ?_
  rintro e w' ⟨v', rfl, h1, h2⟩
  refine ⟨v', rfl, ?_, h2⟩
  have e : (newN kind n s (K.map Prod.snd)).length = (kidL K).length + 1 := by simp [newN, kidL]
  unfold NdOwn
  rw [e]
  exact h1
theorem new_leaf (kind n : Int) (s : Txt) (w : World) :
    Calls Tryd.prog 15 #[.int .i64 kind, .int .i64 n, str s, .slice none 0 0] w fun e w' => ∃ v', e = .returned v' ∧ NdOwn w' w.heap.size v' [⟨kind, n, 0, 1, s⟩] ∧ Below w.heap.size w w' :=
  new_own kind n s (.slice none 0 0) [] w (KdAt.nil w) (by decide) (by decide)
theorem lit_any (s : ByteArray) (w : World) : Calls Tryd.prog 16 #[.string s] w fun e w' => ∃ v', e = .returned v' ∧ NdOwn w' w.heap.size v' [litN s.data.toList] ∧ Below w.heap.size w w' := by
  have HL : Hid (∀ W', Calls Tryd.prog 15 #[.int .i64 1, .int .i64 0, .string s, .slice none 0 0] W' fun e w' => ∃ v', e = .returned v' ∧ NdOwn w' W'.heap.size v' [litN s.data.toList] ∧ Below W'.heap.size W' w') := fun W' => new_leaf 1 0 s.data.toList W'
  go_enter Tryd.func16, Tryd.ntmps16
  go_wp2_with fail
  refine Calls.mono (HL.out _) ?_
  rintro e w1 ⟨v1, rfl, ho, hb⟩
  go_wp2_with fail
  go_ret
  exact ⟨_, rfl, ho, hb⟩
theorem ok_small (x : Nd) (h1 : x.s.length ≤ 300) (h2 : x.k ≤ 4294967296) : NdOk x := ⟨by omega, by omega⟩

end Go.Proofs.YtfakelaibijgkaaDoor
