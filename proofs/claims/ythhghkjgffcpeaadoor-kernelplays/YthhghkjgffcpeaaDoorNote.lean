/- Copies of lists; events are noted. -/
import Derived.Test.YthhghkjgffcpeaaDoorOps
import Derived.Test.YthhghkjgffcpeaaDoorShelf
namespace Go.Proofs.YthhghkjgffcpeaaDoor
open Go.RowKit

theorem txV_length (U : List Txt) : (txV U).length = U.length := by simp [txV]
theorem txV_one (U : List Txt) : ∀ u ∈ txV U, u.oneCell' = true := by
  intro u hu
  obtain ⟨p, _, rfl⟩ := List.mem_map.1 hu
  rfl
theorem bytes_getD (l : List Txt) (j : Nat) (p : Txt) (h : l[j]? = some p) : (l.map fun t => (⟨t.toArray⟩ : ByteArray)).getD j ByteArray.empty = ⟨p.toArray⟩ := by
  rw [List.getD_eq_getElem?_getD, List.getElem?_map, h]
  rfl
theorem Tx.bytes {W : World} {g o n cap : Nat} {l : List Txt} (h : Tx W (.slice (some ⟨g, o, none⟩) n cap) l) : ∀ j, j < (l.map fun t => (⟨t.toArray⟩ : ByteArray)).length → W.cell? ⟨g, o + j, none⟩ = some (.string ((l.map fun t => (⟨t.toArray⟩ : ByteArray)).getD j ByteArray.empty)) := by
  intro j hj
  rw [List.length_map] at hj
  obtain ⟨g', o', cap', h1, _, _, h3⟩ := h.inRow (fun e => by rw [e] at hj; simp at hj)
  cases h1
  rw [bytes_getD l j _ (List.getElem?_eq_getElem hj)]
  exact h3 j _ (List.getElem?_eq_getElem hj)
theorem txV_bytes (l : List Txt) : (l.map fun t => (⟨t.toArray⟩ : ByteArray)).map Value.string = txV l := by simp [txV]

theorem clone_any (v : Value) (l : List Txt) (W : World) (h : Tx W v l) (hl : l.length < 4294967296) :
    Calls Tryd.prog 41 #[v] W fun e w' => ∃ v', e = .returned v' ∧ w'.ownsRow W.heap.size 9 1 v' l.length (txV l) ∧ Below W.heap.size W w' := by
  rcases h with ⟨rfl, rfl⟩ | ⟨ad, cap, rfl, h1, h2⟩
  · refine (Tryd.slices_Clone_string_nil 0 0 W).mono ?_
    rintro e w' ⟨rfl, rfl⟩
    exact ⟨_, rfl, World.ownsRow_nil _ _ _ _, Below.refl _ _⟩
  · by_cases hne : l = []
    · subst hne
      refine (Tryd.slices_Clone_string_zero ad cap W).mono ?_
      rintro e w' ⟨v', rfl, h6, _, h7⟩
      exact ⟨v', rfl, h6, h7⟩
    · have ht : Tx W (.slice (some ad) l.length cap) l := .inr ⟨ad, cap, rfl, h1, h2⟩
      obtain ⟨g, o, rfl, h4, h5⟩ := h2 hne
      refine (Tryd.slices_Clone_string g o l.length cap (l.map fun t => (⟨t.toArray⟩ : ByteArray)) W (by simp) (by omega) ht.bytes).mono ?_
      rintro e w' ⟨v', rfl, h6, _, h7⟩
      refine ⟨v', rfl, ?_, h7⟩
      rw [List.take_of_length_le (by simp), txV_bytes] at h6
      exact h6

theorem size70 : (Tryd.prog.info? 70).map (·.size) = some 5 := by kernel_rfl
abbrev evV (e : Ev) (v : Value) : Value := .agg #[.int .i64 e.kind, .int .i64 e.n, str e.a, str e.b, v]
set_option maxHeartbeats 1000000 in
theorem own_any (e : Ev) (lv : Value) (W : World) (h : Tx W lv e.l) (hl : e.l.length < 4294967296) :
    Calls Tryd.prog 72 #[evV e lv] W fun r w' => ∃ v', r = .returned (evV e v') ∧ w'.ownsRow W.heap.size 9 1 v' e.l.length (txV e.l) ∧ Below W.heap.size W w' := by
  have HT : Hid (∀ W', Below W.heap.size W W' → Tx W' lv e.l) := fun W' hb => h.below hb (Nat.le_refl _)
  obtain ⟨ad, cap, rfl⟩ := h.form
  clear h
  go_enter Tryd.func72, Tryd.ntmps72
  go_wp2_with fail
  have hb2 := (below_new W (.cells #[.int .i64 e.kind, .int .i64 e.n, str e.a, str e.b, .slice ad e.l.length cap] 70)).alloc (Nat.le_of_lt (by simp)) (.cells #[.int .i64 0, .int .i64 0, .string ⟨#[]⟩, .string ⟨#[]⟩, .slice none 0 0] 70)
  refine (clone_any _ e.l _ (HT.out _ hb2) hl).mono ?_
  rintro r w3 ⟨v3, rfl, ho3, hb3⟩
  obtain ⟨ad3, cap3, rfl⟩ := owns_slice ho3
  have cA := ((Cel.new W 70 #[.int .i64 e.kind, .int .i64 e.n, str e.a, str e.b, .slice ad e.l.length cap]).turn (Turn.ofBelow (S := fun _ => False) (below_new _ (.cells #[.int .i64 0, .int .i64 0, .string ⟨#[]⟩, .string ⟨#[]⟩, .slice none 0 0] 70))) (fun h => h)).turn (Turn.ofBelow (S := fun _ => False) hb3) (fun h => h)
  have cB := (Cel.new (W.alloc (.cells #[.int .i64 e.kind, .int .i64 e.n, str e.a, str e.b, .slice ad e.l.length cap] 70)) 70 #[.int .i64 0, .int .i64 0, .string ⟨#[]⟩, .string ⟨#[]⟩, .slice none 0 0]).turn (Turn.ofBelow (S := fun _ => False) hb3) (fun h => h)
  have e1 : (W.alloc (.cells #[.int .i64 e.kind, .int .i64 e.n, str e.a, str e.b, .slice ad e.l.length cap] 70)).heap.size = W.heap.size + 1 := by simp
  rw [e1] at cB
  have hb0 : Below W.heap.size W w3 := hb2.trans (hb3.mono hb2.size)
  have ho4 := owns_lower (B' := W.heap.size + 2) ho3 (by simp)
  have HO : Hid (w3.ownsRow (W.heap.size + 2) 9 1 (.slice ad3 e.l.length cap3) e.l.length (txV e.l)) := ho4
  have HA : Hid _ := cA
  have HB : Hid _ := cB
  have a0 := cA.cell 0
  have a1 := cA.cell 1
  have a2 := cA.cell 2
  have a3 := cA.cell 3
  have a4 := cA.cell 4
  have f4 := cA.frozen 4
  have b0 := cB.cell 0
  have b1 := cB.cell 1
  have b2 := cB.cell 2
  have b3 := cB.cell 3
  have b4 := cB.cell 4
  have g0 := cB.frozen 0
  have g1 := cB.frozen 1
  have g2 := cB.frozen 2
  have g3 := cB.frozen 3
  have g4 := cB.frozen 4
  clear cA cB hb2 hb3 ho3 ho4 e1
  go_wp2_with fail
  have cC := (((((Cel.other HB.out (b' := W.heap.size) (j := 4) (by omega) (.slice ad3 e.l.length cap3)).set (j := 0) (.int .i64 e.kind)).set (j := 1) (.int .i64 e.n)).set (j := 2) (str e.a)).set (j := 3) (str e.b)).set (j := 4) (.slice ad3 e.l.length cap3)
  refine bodyPost_ret (results_cell_row (p := 2) (ty := 70) rfl _ _ (W.heap.size + 1) 70 #[.int .i64 e.kind, .int .i64 e.n, str e.a, str e.b, .slice ad3 e.l.length cap3] (0, 0) _ rfl cC Tryd.underlying70 rfl size70) rfl ?_
  have hT : Turn (fun i => i = W.heap.size ∨ i = W.heap.size + 1) w3 ((((((w3.setCell ⟨W.heap.size, 4, none⟩ (.slice ad3 e.l.length cap3)).setCell ⟨W.heap.size + 1, 0, none⟩ (.int .i64 e.kind)).setCell ⟨W.heap.size + 1, 1, none⟩ (.int .i64 e.n)).setCell ⟨W.heap.size + 1, 2, none⟩ (str e.a)).setCell ⟨W.heap.size + 1, 3, none⟩ (str e.b)).setCell ⟨W.heap.size + 1, 4, none⟩ (.slice ad3 e.l.length cap3)) :=
    ((((((Turn.refl _ w3).setCell (fun _ => .inl rfl) _).setCell (fun _ => .inr rfl) _).setCell (fun _ => .inr rfl) _).setCell (fun _ => .inr rfl) _).setCell (fun _ => .inr rfl) _).setCell (fun _ => .inr rfl) _
  refine ⟨_, rfl, owns_turn (owns_lower HO.out (by omega)) hT (fun b hb => ?_), hb0.trans (hT.below (fun i hi => by omega) hb0.size)⟩
  have := (HO.out.lt b hb).1
  omega
end Go.Proofs.YthhghkjgffcpeaaDoor
