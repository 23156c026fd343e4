/- Lists of programs of one's own. -/
import Derived.Test.YtfakelaibijgkaaDoorFirst
namespace Go.Proofs.YtfakelaibijgkaaDoor
open Go.RowKit
attribute [local go_sem] Oper.semAt_some

theorem info25 : (Tryd.prog.info? 22).map (fun i => (i.zero, i.size, i.bytes)) = some (some (.slice none 0 0), 1, 24) := by kernel_rfl
/-- Lists of nodes of one's own. -/
def KdOwn (W : World) (B : Nat) (v : Value) (K : List (Value × List Nd)) : Prop := W.ownsRow B 22 1 v K.length (K.map Prod.fst) ∧ ∀ p ∈ K, NdOwn W B p.1 p.2
theorem KdOwn.nil (W : World) (B : Nat) : KdOwn W B (.slice none 0 0) [] := ⟨World.ownsRow_nil _ _ _ _, fun p hp => by simp at hp⟩
theorem KdOwn.below {W W' : World} {B : Nat} {v : Value} {K : List (Value × List Nd)} (h : KdOwn W B v K) (hb : Below W.heap.size W W') : KdOwn W' B v K :=
  ⟨owns_turn h.1 (Turn.ofBelow (S := fun _ => False) hb) (fun _ _ h => h), fun p hp => (h.2 p hp).below hb⟩
theorem ones_flat (K : List (Value × List Nd)) : (K.map fun p => [p.1]).flatMap id = K.map Prod.fst := by
  induction K with
  | nil => rfl
  | cons a K ih =>
    rw [List.map_cons, List.flatMap_cons, ih]
    rfl
theorem KdOwn.at {W : World} {B : Nat} {v : Value} {K : List (Value × List Nd)} (h : KdOwn W B v K) : KdAt W v K := by
  refine ⟨RowAt.owned (e := 22) (B := B) ?_ (fun cs hcs => ?_), fun p hp => (h.2 p hp).at⟩
  · rw [ones_flat, List.length_map]
    exact h.1
  · obtain ⟨p, _, rfl⟩ := List.mem_map.1 hcs
    rfl
theorem KdOwn.snoc {W w2 w4 : World} {B B' : Nat} {v v' pv : Value} {K : List (Value × List Nd)} {X : List Nd} {o : Obj} (h : KdOwn W B v K) (hb2 : Below W.heap.size W w2) (hB : B ≤ W.heap.size) (hB' : B ≤ B') (hp : NdOwn w2 B' pv X)
    (hown : w4.ownsRow B 22 1 v' (K.length + 1) (K.map Prod.fst ++ [pv])) (hg : (w2.alloc o).grownBy w4 v.ownBlock) : KdOwn w4 B v' (K ++ [(pv, X)]) ∧ Below B W w4 := by
  have h3 : KdOwn (w2.alloc o) B v K := h.below (hb2.alloc hb2.size o)
  have hp3 : NdOwn (w2.alloc o) B pv X := owns_lower (hp.below (below_new w2 o)) hB'
  have hT := Turn.ofGrown hg
  refine ⟨⟨by rw [List.map_append, List.length_append]; exact hown, fun p hq => ?_⟩, ?_⟩
  · rcases List.mem_append.1 hq with hq | hq
    · exact owns_turn (h3.2 p hq) hT (fun b hb e' => owns_apart2 h3.1 (h3.2 p hq) (by decide) b e' hb)
    · simp only [List.mem_singleton] at hq
      subst hq
      exact owns_turn hp3 hT (fun b hb e' => owns_apart2 h3.1 hp3 (by decide) b e' hb)
  · exact ((hb2.alloc hb2.size o).mono hB).grown hg (Nat.le_trans hB (Nat.le_trans hb2.size (below_new w2 o).size)) (fun b hb => (h3.1.lt b hb).1)
theorem slice_one (v : Value) (h : ∃ ad n cap, v = .slice ad n cap) : ∀ u ∈ [v], u.oneCell' = true := by
  obtain ⟨ad, n, cap, rfl⟩ := h
  intro u hu
  simp only [List.mem_singleton] at hu
  subst hu
  rfl
/-- Of two at least, one behind the other. -/
theorem seq_many (v : Value) (K : List (Value × List Nd)) (w : World) (h : KdAt w v K) (h2 : 2 ≤ K.length) (hK : K.length < 4294967296) (hT : (kidL K).length < 4294967296) :
    Calls Tryd.prog 17 #[v] w fun e w' => ∃ v', e = .returned v' ∧ NdOwn w' w.heap.size v' (newN 23 0 [] (K.map Prod.snd)) ∧ Below w.heap.size w w' := by
  have HN : Hid (Calls Tryd.prog 15 #[.int .i64 23, .int .i64 0, .string ⟨#[]⟩, v] w fun e w' => ∃ v', e = .returned v' ∧ NdOwn w' w.heap.size v' (newN 23 0 [] (K.map Prod.snd)) ∧ Below w.heap.size w w') := new_own 23 0 [] v K w h hK hT
  obtain ⟨ad, cap, rfl⟩ := h.form
  clear h hT
  obtain ⟨n, hn⟩ : ∃ n, K.length = n := ⟨_, rfl⟩
  rw [hn] at h2 HN ⊢
  have h0 : ¬ n = 0 := by omega
  have h1 : ¬ (n : Int) = 1 := by omega
  have h1' : ¬ n = 1 := by omega
  go_enter Tryd.func17, Tryd.ntmps17
  go_wp2_with fail
  refine Calls.mono HN.out ?_
  rintro e w1 ⟨v1, rfl, ho, hb⟩
  go_wp2_with fail
  go_ret
  exact ⟨_, rfl, ho, hb⟩
end Go.Proofs.YtfakelaibijgkaaDoor
