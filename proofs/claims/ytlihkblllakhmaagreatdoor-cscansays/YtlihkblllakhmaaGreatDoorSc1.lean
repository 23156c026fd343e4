/- The document's parts, words and commands in memory; a word, and commands, as the document has them. -/
import Derived.Test.YtlihkblllakhmaaGreatDoorVwA
import Derived.Laws.OwnMore
namespace Go.Proofs.YtlihkblllakhmaaGreatDoor
open Go.RowKit
attribute [local go_sem] Oper.semAt_some

/-- The document's parts, of one's own. -/
def QtOwn (W : World) (B : Nat) (v : Value) (X : List Pt) : Prop := W.ownsRow B 81 4 v X.length (ptCs X)
theorem QtOwn.nil (W : World) (B : Nat) : QtOwn W B (.slice none 0 0) [] := World.ownsRow_nil W B _ _
theorem QtOwn.turn {W W' : World} {B : Nat} {v : Value} {X : List Pt} {S : Nat → Prop} (h : QtOwn W B v X) (hT : Turn S W W') (hS : ∀ i, S i → i < B) : QtOwn W' B v X := by
  refine owns_turn h hT fun g hg hs => ?_
  have := (World.ownsRow.lt h g hg).1
  have := hS g hs
  omega
theorem QtOwn.below {W W' : World} {B : Nat} {v : Value} {X : List Pt} (h : QtOwn W B v X) (hb : Below W.heap.size W W') : QtOwn W' B v X := h.turn (Turn.ofBelow (S := fun _ => False) hb) (fun _ e => e.elim)
theorem QtOwn.lower {W : World} {B B' : Nat} {v : Value} {X : List Pt} (h : QtOwn W B v X) (hB : B' ≤ B) : QtOwn W B' v X := owns_lower h hB
theorem QtOwn.form {W : World} {B : Nat} {v : Value} {X : List Pt} (h : QtOwn W B v X) : ∃ ad cap, v = .slice ad X.length cap := owns_slice h
theorem QtOwn.at_ {W : World} {B : Nat} {v : Value} {X : List Pt} (h : QtOwn W B v X) : PtsAt W v X := by
  have e : ptCs X = (X.map ptC).flatMap id := by simp [ptCs, List.flatMap_map]
  have h' : W.ownsRow B 81 4 v (X.map ptC).length ((X.map ptC).flatMap id) := by
    rw [List.length_map, ← e]
    exact h
  exact RowAt.owned h' (fun cs hcs => by obtain ⟨x, _, rfl⟩ := List.mem_map.1 hcs; rfl)
/-- The document's words, of one's own. -/
structure QdOwn (W : World) (B : Nat) (v : Value) (K : List (Value × Wd)) : Prop where
  row : W.ownsRow B 48 3 v K.length (wdCs K)
  parts : ∀ q ∈ K, QtOwn W B q.1 q.2.parts
theorem QdOwn.nil (W : World) (B : Nat) : QdOwn W B (.slice none 0 0) [] := ⟨World.ownsRow_nil W B _ _, fun q h => by cases h⟩
theorem QdOwn.turn {W W' : World} {B : Nat} {v : Value} {K : List (Value × Wd)} {S : Nat → Prop} (h : QdOwn W B v K) (hT : Turn S W W') (hS : ∀ i, S i → i < B) : QdOwn W' B v K := by
  refine ⟨owns_turn h.row hT fun g hg hs => ?_, fun q hq => (h.parts q hq).turn hT hS⟩
  have := (World.ownsRow.lt h.row g hg).1
  have := hS g hs
  omega
theorem QdOwn.below {W W' : World} {B : Nat} {v : Value} {K : List (Value × Wd)} (h : QdOwn W B v K) (hb : Below W.heap.size W W') : QdOwn W' B v K := h.turn (Turn.ofBelow (S := fun _ => False) hb) (fun _ e => e.elim)
theorem QdOwn.form {W : World} {B : Nat} {v : Value} {K : List (Value × Wd)} (h : QdOwn W B v K) : ∃ ad cap, v = .slice ad K.length cap := owns_slice h.row
theorem QdOwn.lower {W : World} {B B' : Nat} {v : Value} {K : List (Value × Wd)} (h : QdOwn W B v K) (hB : B' ≤ B) : QdOwn W B' v K := ⟨owns_lower h.row hB, fun q hq => (h.parts q hq).lower hB⟩
theorem QtOwn.grown {X w6 : World} {B B' n : Nat} {v row : Value} {P : List Pt} {xs : List Value} (h : QtOwn X B v P) (hr : X.ownsRow B' 48 3 row n xs) (hg : X.grownBy w6 row.ownBlock) : QtOwn w6 B v P :=
  owns_turn h (Turn.ofGrown hg) (fun b hb e => owns_apart2 h hr (by decide) b hb e)
/-- The document's commands, of one's own. -/
structure QmOwn (W : World) (B : Nat) (v : Value) (K : List Mc) : Prop where
  row : W.ownsRow B 51 2 v K.length (cmCs K)
  words : ∀ q ∈ K, QdOwn W B q.1 q.2.2
theorem QmOwn.nil (W : World) (B : Nat) : QmOwn W B (.slice none 0 0) [] := ⟨World.ownsRow_nil W B _ _, fun q h => by cases h⟩
theorem QmOwn.turn {W W' : World} {B : Nat} {v : Value} {K : List Mc} {S : Nat → Prop} (h : QmOwn W B v K) (hT : Turn S W W') (hS : ∀ i, S i → i < B) : QmOwn W' B v K := by
  refine ⟨owns_turn h.row hT fun g hg hs => ?_, fun q hq => (h.words q hq).turn hT hS⟩
  have := (World.ownsRow.lt h.row g hg).1
  have := hS g hs
  omega
theorem QmOwn.below {W W' : World} {B : Nat} {v : Value} {K : List Mc} (h : QmOwn W B v K) (hb : Below W.heap.size W W') : QmOwn W' B v K := h.turn (Turn.ofBelow (S := fun _ => False) hb) (fun _ e => e.elim)
theorem QmOwn.form {W : World} {B : Nat} {v : Value} {K : List Mc} (h : QmOwn W B v K) : ∃ ad cap, v = .slice ad K.length cap := owns_slice h.row
theorem QmOwn.lower {W : World} {B B' : Nat} {v : Value} {K : List Mc} (h : QmOwn W B v K) (hB : B' ≤ B) : QmOwn W B' v K := ⟨owns_lower h.row hB, fun q hq => (h.words q hq).lower hB⟩
theorem QtOwn.grown2 {X w6 : World} {B B' n : Nat} {v row : Value} {P : List Pt} {xs : List Value} (h : QtOwn X B v P) (hr : X.ownsRow B' 51 2 row n xs) (hg : X.grownBy w6 row.ownBlock) : QtOwn w6 B v P :=
  owns_turn h (Turn.ofGrown hg) (fun b hb e => owns_apart2 h hr (by decide) b hb e)
theorem QdOwn.grown2 {X w6 : World} {B B' n : Nat} {v row : Value} {K : List (Value × Wd)} {xs : List Value} (h : QdOwn X B v K) (hr : X.ownsRow B' 51 2 row n xs) (hg : X.grownBy w6 row.ownBlock) : QdOwn w6 B v K :=
  ⟨owns_turn h.row (Turn.ofGrown hg) (fun b hb e => owns_apart2 h.row hr (by decide) b hb e), fun q hq => (h.parts q hq).grown2 hr hg⟩
theorem infoQt : (Tryz.prog.info? 81).map (fun i => (i.zero, i.size, i.bytes)) = some (some (.agg zC), 4, 40) := by kernel_rfl
theorem infoQd : (Tryz.prog.info? 48).map (fun i => (i.zero, i.size, i.bytes)) = some (some (.agg zW), 3, 40) := by kernel_rfl
theorem infoQm : (Tryz.prog.info? 51).map (fun i => (i.zero, i.size, i.bytes)) = some (some (.agg zM), 2, 32) := by kernel_rfl
theorem sizeQd : (Tryz.prog.info? 48).map (·.size) = some 3 := by kernel_rfl
theorem sizeQm : (Tryz.prog.info? 51).map (·.size) = some 2 := by kernel_rfl
theorem take_one {α : Type} (L : List α) (i : Nat) (h : i < L.length) : L.take (i + 1) = L.take i ++ [L[i]] := by rw [List.take_succ_eq_append_getElem h]
set_option maxRecDepth 100000 in
set_option maxHeartbeats 8000000 in
theorem dword_any (W : World) (n : Nat) (b : Bool) (pv : Value) (ps : List Pt) (h : PtsAt W pv ps) (hps : ps.length ≤ 100000) :
    Calls Tryz.prog 29 #[.agg #[.int .i64 (n : Nat), .bool b, pv]] W fun e w' => ∃ v', e = .returned (.agg #[.int .i64 (n : Nat), .bool b, v']) ∧ QtOwn w' W.heap.size v' ps ∧ Below W.heap.size W w' := by
  obtain ⟨i0, hi, hz0, hz1, hz2⟩ := info_parts infoQt
  obtain ⟨ad, cap, rfl⟩ := h.form
  have HG : Hid (∀ w, Below W.heap.size W w → ∀ i p, ps[i]? = some p → ∃ g o, ad = some ⟨g, o, none⟩ ∧ w.cell? ⟨g, o + i * 4, none⟩ = some (.int .i64 (p.kind : Nat)) ∧ w.cell? ⟨g, o + i * 4 + 1, none⟩ = some (.int .i64 (p.pos : Nat)) ∧ w.cell? ⟨g, o + i * 4 + 2, none⟩ = some (.int .i64 (p.n : Nat)) ∧ w.cell? ⟨g, o + i * 4 + 3, none⟩ = some (str p.s)) := fun w hb i p hp => by
    obtain ⟨g, o, c, hv, _, hg, x0, x1, x2, x3⟩ := h.get hp
    injection hv with e1 e2 e3
    exact ⟨g, o, e1, (hb.cell hg).trans x0, (hb.cell hg).trans x1, (hb.cell hg).trans x2, (hb.cell hg).trans x3⟩
  clear h
  go_enter Tryz.func29, Tryz.ntmps29
  go_wp2_with fail
  obtain ⟨w1, hw1⟩ : ∃ w1, w1 = ((W.alloc (.cells #[.int .i64 (n : Nat), .bool b, .slice ad ps.length cap] 44)).alloc (.cells #[.int .i64 0, .bool false, .slice none 0 0] 48)).alloc (.cells #[.int .i64 (n : Nat), .bool b, .slice none 0 0] 48) := ⟨_, rfl⟩
  have k1 : Cel w1 W.heap.size 44 #[.int .i64 (n : Nat), .bool b, .slice ad ps.length cap] := by
    rw [hw1]
    exact ((Cel.new W _ _).below (below_new _ _) (by simp)).below (below_new _ _) (by simp; omega)
  have k2 : Cel w1 (W.heap.size + 1) 48 #[.int .i64 0, .bool false, .slice none 0 0] := by
    rw [hw1]
    have := Cel.new (W.alloc (.cells #[.int .i64 (n : Nat), .bool b, .slice ad ps.length cap] 44)) 48 #[.int .i64 0, .bool false, .slice none 0 0]
    rw [show (W.alloc (.cells #[.int .i64 (n : Nat), .bool b, .slice ad ps.length cap] 44)).heap.size = W.heap.size + 1 by simp] at this
    exact this.below (below_new _ _) (by simp)
  have k3 : Cel w1 (W.heap.size + 1 + 1) 48 #[.int .i64 (n : Nat), .bool b, .slice none 0 0] := by
    rw [hw1]
    have := Cel.new ((W.alloc (.cells #[.int .i64 (n : Nat), .bool b, .slice ad ps.length cap] 44)).alloc (.cells #[.int .i64 0, .bool false, .slice none 0 0] 48)) 48 #[.int .i64 (n : Nat), .bool b, .slice none 0 0]
    rw [show ((W.alloc (.cells #[.int .i64 (n : Nat), .bool b, .slice ad ps.length cap] 44)).alloc (.cells #[.int .i64 0, .bool false, .slice none 0 0] 48)).heap.size = W.heap.size + 1 + 1 by simp] at this
    exact this
  have k4 : Below W.heap.size W w1 := by
    rw [hw1]
    exact ((below_new W _).alloc (by simp) _).alloc (by simp; omega) _
  rw [← hw1]
  clear hw1
  go_loopw [4] (fun v4 wr => ∃ (i : Nat) (vq : Value), i ≤ ps.length ∧ v4 = .int .i64 i ∧ Hid (Cel wr W.heap.size 44 #[.int .i64 (n : Nat), .bool b, .slice ad ps.length cap]) ∧ Hid (Cel wr (W.heap.size + 1) 48 #[.int .i64 0, .bool false, .slice none 0 0]) ∧ Hid (Cel wr (W.heap.size + 1 + 1) 48 #[.int .i64 (n : Nat), .bool b, vq]) ∧ Hid (QtOwn wr (W.heap.size + 1 + 1 + 1) vq (ps.take i)) ∧ Hid (Below W.heap.size W wr)) (fun v4 _ => ps.length - (intOf v4).toNat)
  case atStart => exact ⟨0, _, Nat.zero_le _, rfl, k1, k2, k3, QtOwn.nil _ _, k4⟩
  case round =>
    obtain ⟨i, vq, hi', rfl, H1, H2, H3, HQ, HB⟩ := hrel
    have x0 := H1.out.cell 2
    by_cases hlt : i < ps.length
    · have hlt' : (i : Int) < (ps.length : Nat) := by omega
      obtain ⟨g, o, rfl, c0, c1, c2, c3⟩ := HG.out wr HB.out i ps[i] (List.getElem?_eq_getElem hlt)
      have HT := take_one ps i hlt
      have HT' : Hid (ps.take (i + 1) = ps.take i ++ [ps[i]]) := HT
      generalize ps[i] = p at c0 c1 c2 c3 HT'
      obtain ⟨pk, pp, pn, pt⟩ := p
      simp only at c0 c1 c2 c3
      obtain ⟨adq, cpq, rfl⟩ := HQ.out.form
      have hl : (ps.take i).length = i := by rw [List.length_take]; omega
      rw [hl] at HQ H3
      have ho : Hid (wr.ownsRow (W.heap.size + 1 + 1 + 1) 81 4 (.slice adq i cpq) i (ptCs (ps.take i))) := by
        have := HQ.out
        unfold QtOwn at this
        rw [hl] at this
        exact this
      have hsz := H3.out.lt
      have e2 := H3.out.cell 2
      have f2 := H3.out.frozen 2
      clear HT
      have hB3 : W.heap.size + 1 + 1 < wr.heap.size := hsz
      have HS : Hid (wr.heap.size = wr.heap.size) := rfl
      go_wp2_with (at_builtin; refine wpList_append_own_at _ rfl _ _ 46 rfl (W.heap.size + 1 + 1 + 1) 81 i0 _ 4 40 Tryz.underlying46 hi hz0 hz1 hz2 rfl (by decide) _ i _ rfl ((ho.out.alloc _).alloc _) ⟨wr.heap.size + 1, 0, none⟩ 1 1 (ptC ⟨pk, pp, pn, pt⟩) rfl rfl (cells_new2 _ _ (ptC ⟨pk, pp, pn, pt⟩) _) (by simp [Value.oneCell']) (by have := maxLen_big; omega) (by omega) (by simp; omega) ?_; intro v' w' hown hgrow _ _; obtain ⟨ad', cp', rfl⟩ := owns_slice hown; have hbel : Below (W.heap.size + 1 + 1 + 1) wr w' := grown_own (by simp; omega) (((Below.refl _ wr).alloc (by omega) _).alloc (by simp; omega) _) ((ho.out.alloc _).alloc _) hgrow; have H3' := H3.out.below hbel (by omega); have e2' := H3'.cell 2; have f2' := H3'.frozen 2)
      have hT : Turn (fun x => x = W.heap.size + 1 + 1) w' (w'.setCell ⟨W.heap.size + 1 + 1, 2, none⟩ (.slice ad' (i + 1) cp')) := Turn.setCell (p := ⟨W.heap.size + 1 + 1, 2, none⟩) (Turn.refl (fun x => x = W.heap.size + 1 + 1) w') (fun _ => rfl) _
      refine ⟨⟨i + 1, .slice ad' (i + 1) cp', by omega, rfl, ?_, ?_, ?_, ?_, ?_⟩, by simp only [intOf]; omega⟩
      · exact (H1.out.below hbel (by omega)).turn hT (by omega)
      · exact (H2.out.below hbel (by omega)).turn hT (by omega)
      · exact H3'.set (j := 2) _
      · unfold Hid QtOwn
        rw [HT'.out, ptCs_append, ptCs_one, List.length_append, hl]
        exact owns_turn (S := fun x => x = W.heap.size + 1 + 1) hown hT (fun x hx e => by
          have := (World.ownsRow.lt hown x hx).1
          omega)
      · exact HB.out.trans ((Below.mono hbel (by omega)).setCell (p := ⟨W.heap.size + 1 + 1, 2, none⟩) (by show W.heap.size ≤ W.heap.size + 1 + 1; omega) _)
    · have hlt' : ¬ ((i : Int) < (ps.length : Nat)) := by omega
      obtain rfl : i = ps.length := by omega
      have hl : ps.take ps.length = ps := List.take_of_length_le (Nat.le_refl _)
      rw [hl] at HQ
      have z0 := H3.out.cell 0
      have z1 := H3.out.cell 1
      have z2 := H3.out.cell 2
      have hfr := H2.out.frozen
      have y0 := H2.out.cell 0
      have y1 := H2.out.cell 1
      have y2 := H2.out.cell 2
      have g0 := H2.out.frozen 0
      have g1 := H2.out.frozen 1
      have g2 := H2.out.frozen 2
      obtain ⟨adq, cpq, rfl⟩ := HQ.out.form
      clear hfr
      go_wp2_with fail
      have hT : Turn (fun x => x = W.heap.size + 1) wr (((wr.setCell ⟨W.heap.size + 1, 0, none⟩ (.int .i64 (n : Nat))).setCell ⟨W.heap.size + 1, 1, none⟩ (.bool b)).setCell ⟨W.heap.size + 1, 2, none⟩ (.slice adq ps.length cpq)) := Turn.setCell (p := ⟨W.heap.size + 1, 2, none⟩) (Turn.setCell (p := ⟨W.heap.size + 1, 1, none⟩) (Turn.setCell (p := ⟨W.heap.size + 1, 0, none⟩) (Turn.refl (fun x => x = W.heap.size + 1) wr) (fun _ => rfl) _) (fun _ => rfl) _) (fun _ => rfl) _
      have kk := ((H2.out.set (j := 0) (.int .i64 (n : Nat))).set (j := 1) (.bool b)).set (j := 2) (.slice adq ps.length cpq)
      refine bodyPost_ret (results_cell_row (p := 2) (ty := 48) rfl _ _ (W.heap.size + 1) 48 _ (0, 0) _ rfl kk Tryz.underlying48 rfl sizeQd) rfl ?_
      refine ⟨_, rfl, ?_, ?_⟩
      · exact QtOwn.lower (HQ.out.turn hT (by omega)) (by omega)
      · exact (((HB.out.setCell (p := ⟨W.heap.size + 1, 0, none⟩) (by show W.heap.size ≤ W.heap.size + 1; omega) _).setCell (p := ⟨W.heap.size + 1, 1, none⟩) (by show W.heap.size ≤ W.heap.size + 1; omega) _).setCell (p := ⟨W.heap.size + 1, 2, none⟩) (by show W.heap.size ≤ W.heap.size + 1; omega) _)
end Go.Proofs.YtlihkblllakhmaaGreatDoor
