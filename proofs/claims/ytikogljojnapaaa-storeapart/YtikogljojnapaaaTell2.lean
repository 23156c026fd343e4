/- More of what a store is told; one is made. -/
import Derived.Test.YtikogljojnapaaaTell
namespace Go.Proofs.Ytikogljojnapaaa
open Go.RowKit
variable {W : World} {K : Nat → Prop} {sb vb fb : Nat} {V : Vrs} {G : Fns}
abbrev star : Txt := [42]
def unsM (V : Vrs) (k : Txt) (v : Value) : Vrs := if k = star then putM V star (v, []) else delM V k
set_option maxHeartbeats 1000000 in
theorem unset_any (h : Sto W K sb vb fb V G) (k : Txt) (hk : k.length ≤ maxLen) (hV : V.length < 4294967296) :
    Calls Try.prog 32 #[sP sb, str k] W fun e w' => e = .returned (.tuple #[]) ∧ ∃ v' K', Sto w' K' sb vb fb (unsM V k v') G ∧ Stp vb fb W K w' K' := by
  have c0 : W.cell? ⟨sb, 0, none⟩ = some (.map (some vb)) := h.sc.cell 0
  have HH : Hid (Sto W K sb vb fb V G) := h
  clear h
  by_cases hs : k = star
  · subst hs
    go_enter Try.func32, Try.ntmps32
    go_wp2_with fail
    refine (set_any HH.out star (by decide) (.slice none 0 0) [] (Tx.nil W) (by simp only [List.length_nil, Nat.zero_mul, Nat.zero_le]) hV).mono ?_
    rintro e w1 ⟨rfl, h1⟩
    go_wp2_with fail
    refine bodyPost_ret (results_none rfl _ _ _) rfl ?_
    refine ⟨rfl, ?_⟩
    simp only [unsM, if_true]
    exact h1
  · have hb : (k == [42]) = false := by simpa using hs
    go_enter Try.func32, Try.ntmps32
    go_wp2_with (at_delete; refine wpList_delete_own _ rfl _ _ 44 9 rfl 29 key9 Try.underlying44 _ vb V.length (dM V) rfl HH.out.vm _ _ rfl (keyOf9 k hk) ?_; intro w1 hown1 hturn1)
    go_end0
    obtain ⟨h1, h2⟩ := HH.out.vdel hown1 hturn1.grown
    refine ⟨rfl, ?_⟩
    simp only [unsM, if_neg hs]
    exact ⟨.slice none 0 0, K, h1, h2, fun i hi => .inl hi⟩
theorem size46 : (Try.prog.info? 46).map (·.size) = some 1 := by kernel_rfl
theorem size49 : (Try.prog.info? 49).map (·.size) = some 1 := by kernel_rfl
set_option maxRecDepth 100000 in
set_option maxHeartbeats 1000000 in
theorem noVars (W : World) : Calls Try.prog 23 #[] W fun e w' => e = .returned (.agg #[.map (some (W.heap.size + 1))]) ∧ w'.ownsMap Try.prog 9 hE (W.heap.size + 1) 1 (dM ([(star, .slice none 0 0, [])] : Vrs)) ∧ Below W.heap.size W w' := by
  have hmm := @run_makeMap Try.prog
  have hm0 := World.ownsMap_made (W.alloc (.cells #[.map none] 46)) Try.prog 9 hE
  have hb0 : Below W.heap.size W ((W.alloc (.cells #[.map none] 46)).alloc (.map #[] 0)) := (below_new W _).alloc (by simp) _
  have C0 : Cel ((W.alloc (.cells #[.map none] 46)).alloc (.map #[] 0)) W.heap.size 46 #[.map none] := (Cel.new W 46 #[.map none]).turn (Turn.ofBelow (S := fun _ => False) (below_new _ _)) (fun h => h)
  rw [show (W.alloc (.cells #[.map none] 46)).heap.size = W.heap.size + 1 by simp] at hm0
  obtain ⟨w1, hrun, hm1, hg1⟩ := hm0.update key9 Try.underlying44 (by decide) (val := .slice none 0 0) (d := .held (.slice none 0 0)) (ps := []) (keyOf9 star (by decide)) rfl
  have hT := Turn.ofGrown hg1
  have C1 : Cel w1 W.heap.size 46 #[.map none] := C0.turn hT (fun e => by simp at e)
  have hb1 : Below W.heap.size W w1 := hb0.trans (hT.below (fun i e => by cases e; omega) hb0.size)
  have c1 := C1.cell 0
  have f1 := C1.frozen 0
  have C2 := C1.set (j := 0) (.map (some (W.heap.size + 1)))
  clear hm0 hb0 C0 hg1
  go_enter Try.func23, Try.ntmps23
  go_wp2_with fail
  refine bodyPost_ret (results_cell_row (p := 0) (ty := 46) rfl _ _ W.heap.size 46 #[.map (some (W.heap.size + 1))] (0, 0) _ rfl C2 Try.underlying46 rfl size46) rfl ?_
  refine ⟨rfl, ?_, ?_⟩
  · exact map_turn (S := fun i => i = W.heap.size) hm1 ((Turn.refl (fun i => i = W.heap.size) w1).setCell (p := ⟨W.heap.size, 0, none⟩) (fun _ => rfl) _) (fun e => by omega)
  · exact hb1.setCell (Nat.le_refl _) _
set_option maxRecDepth 100000 in
set_option maxHeartbeats 1000000 in
theorem noFuns (W : World) : Calls Try.prog 24 #[] W fun e w' => e = .returned (.agg #[.map (some (W.heap.size + 1))]) ∧ w'.ownsMap Try.prog 9 hE (W.heap.size + 1) 0 (dM ([] : Fns)) ∧ Below W.heap.size W w' := by
  have hmm := @run_makeMap Try.prog
  have hm0 := World.ownsMap_made (W.alloc (.cells #[.map none] 49)) Try.prog 9 hE
  have hb1 : Below W.heap.size W ((W.alloc (.cells #[.map none] 49)).alloc (.map #[] 0)) := (below_new W _).alloc (by simp) _
  have C1 : Cel ((W.alloc (.cells #[.map none] 49)).alloc (.map #[] 0)) W.heap.size 49 #[.map none] := (Cel.new W 49 #[.map none]).turn (Turn.ofBelow (S := fun _ => False) (below_new _ _)) (fun h => h)
  rw [show (W.alloc (.cells #[.map none] 49)).heap.size = W.heap.size + 1 by simp] at hm0
  obtain ⟨w1, hw1⟩ : ∃ w1, w1 = (W.alloc (.cells #[.map none] 49)).alloc (.map #[] 0) := ⟨_, rfl⟩
  have hmk : (Instr.makeMap 47 none).run Try.prog (W.alloc (.cells #[.map none] 49)) = .ok (.map (some (W.heap.size + 1))) w1 := by
    rw [hmm, ← hw1]
    simp
  rw [← hw1] at hm0 hb1 C1
  clear hw1 hmm
  have c1 := C1.cell 0
  have f1 := C1.frozen 0
  have C2 := C1.set (j := 0) (.map (some (W.heap.size + 1)))
  go_enter Try.func24, Try.ntmps24
  go_wp2_with fail
  refine bodyPost_ret (results_cell_row (p := 0) (ty := 49) rfl _ _ W.heap.size 49 #[.map (some (W.heap.size + 1))] (0, 0) _ rfl C2 Try.underlying49 rfl size49) rfl ?_
  refine ⟨rfl, ?_, ?_⟩
  · exact map_turn (S := fun i => i = W.heap.size) hm0 ((Turn.refl (fun i => i = W.heap.size) w1).setCell (p := ⟨W.heap.size, 0, none⟩) (fun _ => rfl) _) (fun e => by omega)
  · exact hb1.setCell (Nat.le_refl _) _

/-! ### swapped, and the arguments -/
def swpM (V : Vrs) (k : Txt) (b : Bool) (u : Value) (l : List Txt) : Vrs := if b then putM V k (u, l) else unsM V k u
set_option maxHeartbeats 1000000 in
theorem swap_any (h : Sto W K sb vb fb V G) (k : Txt) (hk : k.length ≤ maxLen) (b : Bool) (v : Value) (l : List Txt) (ht : Tx W v l) (hl : l.length * 16 ≤ big) (hV : V.length < 4294967296) :
    Calls Try.prog 20 #[sP sb, str k, .bool b, v] W fun e w' => ∃ v', e = .returned (.tuple #[v', .bool (hasM V k)]) ∧ w'.ownsRow W.heap.size 9 1 v' (getM V k nilT).2.length (txV (getM V k nilT).2) ∧ ∃ u K', Sto w' K' sb vb fb (swpM V k b u l) G ∧ Stp vb fb W K w' K' := by
  have HH : Hid (Sto W K sb vb fb V G) := h
  have HT : Hid (Tx W v l) := ht
  have HL : Hid (l.length * 16 ≤ big) := hl
  obtain ⟨ad, cap, rfl⟩ := ht.form
  clear h ht hl
  have key : ∀ {w1 w2 : World} {v' : Value} {V' : Vrs} {K' : Nat → Prop}, Hid (w1.ownsRow W.heap.size 9 1 v' (getM V k nilT).2.length (txV (getM V k nilT).2)) → Hid (Below W.heap.size W w1) → Sto w2 K' sb vb fb V' G → Stp vb fb w1 K w2 K' → w2.ownsRow W.heap.size 9 1 v' (getM V k nilT).2.length (txV (getM V k nilT).2) ∧ Stp vb fb W K w2 K' := by
    intro w1 w2 v' V' K' ho hb h2 hs
    have h1 := HH.out.below hb.out
    exact ⟨owns_turn ho.out hs.1 (fun b hb e => by rcases e with rfl | rfl; exact map_apart h1.vm ho.out hb; exact map_apart h1.fm ho.out hb), (Stp.ofBelow hb.out).trans hs⟩
  cases b with
  | true =>
    go_enter Try.func20, Try.ntmps20
    go_wp2_with fail
    refine (get_any HH.out k hk).mono ?_
    rintro e w1 ⟨v', rfl, ho, hb⟩
    have HO : Hid (w1.ownsRow W.heap.size 9 1 v' (getM V k nilT).2.length (txV (getM V k nilT).2)) := ho
    have HB : Hid (Below W.heap.size W w1) := hb
    clear ho hb
    go_wp2_with fail
    refine (set_any (HH.out.below HB.out) k hk _ l (tx_b HT.out HB.out) HL.out hV).mono ?_
    rintro e w2 ⟨rfl, u, K', h2, hs2⟩
    go_wp2_with fail
    go_ret2
    obtain ⟨k1, k2⟩ := key HO HB h2 hs2
    exact ⟨v', rfl, k1, u, K', h2, k2⟩
  | false =>
    go_enter Try.func20, Try.ntmps20
    go_wp2_with fail
    refine (get_any HH.out k hk).mono ?_
    rintro e w1 ⟨v', rfl, ho, hb⟩
    have HO : Hid (w1.ownsRow W.heap.size 9 1 v' (getM V k nilT).2.length (txV (getM V k nilT).2)) := ho
    have HB : Hid (Below W.heap.size W w1) := hb
    clear ho hb
    go_wp2_with fail
    refine (unset_any (HH.out.below HB.out) k hk hV).mono ?_
    rintro e w2 ⟨rfl, u, K', h2, hs2⟩
    go_wp2_with fail
    go_ret2
    obtain ⟨k1, k2⟩ := key HO HB h2 hs2
    exact ⟨v', rfl, k1, u, K', h2, k2⟩
set_option maxHeartbeats 1000000 in
theorem setArgs_any (h : Sto W K sb vb fb V G) (v : Value) (l : List Txt) (ht : Tx W v l) (hl : l.length * 16 ≤ big) (hV : V.length < 4294967296) :
    Calls Try.prog 21 #[sP sb, v] W fun e w' => ∃ v', e = .returned v' ∧ w'.ownsRow W.heap.size 9 1 v' (getM V star nilT).2.length (txV (getM V star nilT).2) ∧ ∃ u K', Sto w' K' sb vb fb (putM V star (u, l)) G ∧ Stp vb fb W K w' K' := by
  have HC : Hid _ := swap_any h star (by decide) true v l ht hl hV
  obtain ⟨ad, cap, rfl⟩ := ht.form
  clear h ht hl
  go_enter Try.func21, Try.ntmps21
  go_wp2_with fail
  refine Calls.mono HC.out ?_
  rintro e w1 ⟨v', rfl, h1⟩
  go_wp2_with fail
  go_ret
  exact ⟨v', rfl, h1⟩
set_option maxHeartbeats 1000000 in
theorem args_any (h : Sto W K sb vb fb V G) :
    Calls Try.prog 30 #[sP sb] W fun e w' => ∃ v', e = .returned v' ∧ w'.ownsRow W.heap.size 9 1 v' (getM V star nilT).2.length (txV (getM V star nilT).2) ∧ Below W.heap.size W w' := by
  have HC : Hid _ := get_any h star (by decide)
  clear h
  go_enter Try.func30, Try.ntmps30
  go_wp2_with fail
  refine Calls.mono HC.out ?_
  rintro e w1 ⟨v', rfl, h1⟩
  go_wp2_with fail
  go_ret
  exact ⟨v', rfl, h1⟩
end Go.Proofs.Ytikogljojnapaaa
