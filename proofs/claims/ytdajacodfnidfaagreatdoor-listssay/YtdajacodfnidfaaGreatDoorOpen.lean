/- Brackets: opens, closing. -/
import Derived.Test.YtdajacodfnidfaaGreatDoorSet
namespace Go.Proofs.YtdajacodfnidfaaGreatDoor
open Go.RowKit Go.Shelf

/-- From cell o of block g on lie these letters. -/
def LtAt (W : World) (g o : Nat) (l : List Lt) : Prop := ∀ k x, l[k]? = some x → W.cell? ⟨g, o + k * 2, none⟩ = some (.int .u8 x.1.toNat) ∧ W.cell? ⟨g, o + k * 2 + 1, none⟩ = some (.bool x.2)
theorem LtAt.below {W W' : World} {g o B : Nat} {l : List Lt} (h : LtAt W g o l) (hb : Below B W W') (hg : g < B) : LtAt W' g o l := fun k x hx =>
  ⟨(hb.cell (p := ⟨g, o + k * 2, none⟩) hg).trans (h k x hx).1, (hb.cell (p := ⟨g, o + k * 2 + 1, none⟩) hg).trans (h k x hx).2⟩
/-- What is owned reads so. -/
theorem LtAt.owned {W : World} {B : Nat} {v : Value} {l : List Lt} (h : W.ownsRow B 70 2 v l.length (ltCells l)) : ∃ g cap, (l ≠ [] → v = .slice (some ⟨g, 0, none⟩) l.length cap ∧ l.length ≤ cap) ∧ (l = [] → ∃ ad cap, v = .slice ad 0 cap) ∧ LtAt W g 0 l ∧ (l ≠ [] → g < W.heap.size ∧ B ≤ g) := by
  rcases h.2 with ⟨hv, h0⟩ | ⟨g, cap, cur, hv, hb, hc, h1, _, h2, h3⟩
  · have hl : l = [] := List.eq_nil_of_length_eq_zero h0
    subst hl
    exact ⟨0, 0, fun e => absurd rfl e, fun _ => ⟨none, 0, hv⟩, fun k x hx => by simp at hx, fun e => absurd rfl e⟩
  · refine ⟨g, cap, fun _ => ⟨hv, h1⟩, fun e => ⟨_, cap, by rw [hv, e]; rfl⟩, fun k x hx => ?_, fun _ => ⟨(Array.getElem?_eq_some_iff.1 hc).1, hb⟩⟩
    have hk := (List.getElem?_eq_some_iff.1 hx).1
    have key : ∀ j, j < 2 → W.cell? ⟨g, 0 + k * 2 + j, none⟩ = (ltCells l)[k * 2 + j]? := by
      intro j hj
      have e1 : W.cell? ⟨g, 0 + k * 2 + j, none⟩ = cur[k * 2 + j]? := by simp [World.cell?, hc]
      rw [e1, ← h3, List.getElem?_take_of_lt (by omega), Array.getElem?_toList]
    have hg : ∀ (l : List Lt) k x, l[k]? = some x → (ltCells l)[k * 2]? = some (.int .u8 x.1.toNat) ∧ (ltCells l)[k * 2 + 1]? = some (.bool x.2) := by
      intro l
      induction l with
      | nil => intro k x h; simp at h
      | cons y l ih =>
        intro k x h
        cases k with
        | zero => simp at h; subst h; exact ⟨rfl, rfl⟩
        | succ k =>
          have := ih k x (by simpa using h)
          rw [show (k + 1) * 2 = k * 2 + 2 by omega]
          exact this
    obtain ⟨g1, g2⟩ := hg l k x hx
    exact ⟨(key 0 (by omega)).trans g1, (key 1 (by omega)).trans g2⟩

theorem isl_at {l : List Lt} {i : Nat} {x : Lt} (hx : l[i]? = some x) : i < l.length := (List.getElem?_eq_some_iff.1 hx).1

set_option maxRecDepth 100000 in
set_option maxHeartbeats 1000000 in
theorem opens_any (g o cap : Nat) (last : Nat) (l : List Lt) (i : Nat) (x : Lt) (hx : l[i]? = some x) (w : World) (h : LtAt w g o l) (hi : i < 4294967296) (_hc : l.length ≤ cap) :
    Calls Tryz.prog 92 #[.agg #[.slice (some ⟨g, o, none⟩) l.length cap, .int .i64 last], .int .i64 i] w fun e w' => e = .returned (.bool (isL x 91 && decide (i + 1 < last))) ∧ Below w.heap.size w w' := by
  obtain ⟨h1, h2⟩ := h i x hx
  have hil := isl_at hx
  have hgl : g < w.heap.size := lt_of_cell h1
  have HX : Hid _ := hx
  clear hx h
  have hlast : ((last : Int) > (i : Int) + 1 ↔ i + 1 < last) := by omega
  cases hq : isL x 91
  all_goals
    go_enter Tryz.func92, Tryz.ntmps92
    go_wp2_with (go_at_call 91; refine (is_any x 91 91 rfl _).mono ?_; rintro e w1 ⟨rfl, hw1⟩; subst hw1; rw [hq])
    go_ret
    exact ⟨ret_bool (by first | rfl | (simp; omega) | (rw [Bool.true_and]; exact decide_eq_decide.2 (by omega))), ((Below.refl _ w).alloc (Nat.le_refl _) _).alloc (by simp) _⟩

set_option maxRecDepth 100000 in
set_option maxHeartbeats 2000000 in
theorem closing_any (g cap : Nat) (last : Nat) (l : List Lt) (i k : Nat) (hk : ((l.drop (i + 2)).findIdx? (isL · 93)) = some k) (w : World) (h : LtAt w g 0 l) (hi : i < 4294967296) (hl : l.length < 4294967296) (_hc : l.length ≤ cap) (hgw : g < w.heap.size) :
    Calls Tryz.prog 110 #[.agg #[.slice (some ⟨g, 0, none⟩) l.length cap, .int .i64 last], .int .i64 i] w fun e w' => e = .returned (.int .i64 ((i + 2 + k : Nat) : Int)) ∧ Below w.heap.size w w' := by
  have hf := List.findIdx?_eq_some_iff_getElem.1 hk
  obtain ⟨hkl, hk1, hk2⟩ := hf
  have HF : Hid (∀ j, j < k → ∃ x, l[i + 2 + j]? = some x ∧ isL x 93 = false) := by
    intro j hj
    have h3 := hk2 j hj
    have h4 : j < (l.drop (i + 2)).length := by omega
    refine ⟨(l.drop (i + 2))[j], ?_, by simpa using h3⟩
    rw [← List.getElem?_drop, List.getElem?_eq_getElem h4]
  have HK : Hid (∃ x, l[i + 2 + k]? = some x ∧ isL x 93 = true) := by
    refine ⟨(l.drop (i + 2))[k], ?_, by simpa using hk1⟩
    rw [← List.getElem?_drop, List.getElem?_eq_getElem hkl]
  have hkl' : i + 2 + k < l.length := by simp at hkl; omega
  have H : Hid (LtAt w g 0 l) := h
  clear h hk hk1 hk2 hkl
  go_enter Tryz.func110, Tryz.ntmps110
  go_wp2
  go_loopw [5] (fun ve wr => ∃ j : Nat, ve = .int .i64 ((i + 2 + j : Nat) : Int) ∧ j ≤ k ∧ Below w.heap.size w wr ∧ Cel wr w.heap.size 104 #[.slice (some ⟨g, 0, none⟩) l.length cap, .int .i64 last] ∧ Hid (LtAt wr g 0 l)) (fun ve _ => (i + 2 + k) - (intOf ve).toNat)
  case atStart => exact ⟨0, by simp, by omega, (Below.refl _ w).alloc (Nat.le_refl _) _, Cel.new w 104 _, LtAt.below H.out ((Below.refl _ w).alloc (Nat.le_refl _) _) hgw⟩
  case round =>
    obtain ⟨j, rfl, hj, hb, hcl, hlt⟩ := hrel
    have c1 : wr.cell? ⟨w.heap.size, 0, none⟩ = some (.slice (some ⟨g, 0, none⟩) l.length cap) := hcl.cell 0
    have hgr : g < wr.heap.size := Nat.lt_of_lt_of_le hgw hb.size
    have hbd : i + 2 + j < l.length := by omega
    by_cases hjk : j < k
    · obtain ⟨x, hx, hq⟩ := HF.out j hjk
      obtain ⟨q1, q2⟩ := hlt.out _ _ hx
      have HX : Hid _ := hx
      clear hx
      simp only [Nat.zero_add] at q1 q2
      go_wp2_with (go_at_call 91; refine (is_below x 93 93 rfl _).mono ?_; rintro e w1 ⟨rfl, hb1⟩; rw [hq])
      refine ⟨⟨j + 1, by congr 1, by omega, hb.trans (hb1.mono hb.size), hcl.below hb1 hcl.lt, LtAt.below hlt.out hb1 hgr⟩, by simp [intOf]; omega⟩
    · have hjk' : j = k := by omega
      subst hjk'
      obtain ⟨x, hx, hq⟩ := HK.out
      obtain ⟨q1, q2⟩ := hlt.out _ _ hx
      have HX : Hid _ := hx
      clear hx
      simp only [Nat.zero_add] at q1 q2
      go_wp2_with (go_at_call 91; refine (is_below x 93 93 rfl _).mono ?_; rintro e w1 ⟨rfl, hb1⟩; rw [hq])
      go_ret
      exact ⟨rfl, hb.trans (hb1.mono hb.size)⟩
end Go.Proofs.YtdajacodfnidfaaGreatDoor
