/- Equalities, as the statements have them. -/
import Derived.Test.YthhghkjgffcpeaaDoorTrace
namespace Go.Proofs.YthhghkjgffcpeaaDoor
open Go.RowKit

theorem ret_bool {a b : Bool} (h : a = b) : Ending.returned (.bool a) = .returned (.bool b) := by rw [h]
theorem list_ext_upto (us vs : List Txt) (k : Nat) (hl : us.length = vs.length) (h : ∀ j, j < k → us[j]? = vs[j]?) (hk : k = us.length) : us = vs := by
  apply List.ext_getElem?
  intro j
  by_cases hj : j < k
  · exact h j hj
  · rw [List.getElem?_eq_none (by omega), List.getElem?_eq_none (by omega)]
set_option maxRecDepth 100000 in
set_option maxHeartbeats 2000000 in
theorem sameTexts_any (va vb : Value) (us vs : List Txt) (w : World) (ha : Tx w va us) (hb : Tx w vb vs) (hla : us.length < 4294967296) (_hlb : vs.length < 4294967296) :
    Calls Tryd.prog 31 #[va, vb] w fun e w' => e = .returned (.bool (decide (us = vs))) ∧ Below w.heap.size w w' := by
  have HA : Hid (Tx w va us) := ha
  have HB : Hid (Tx w vb vs) := hb
  obtain ⟨ada, capa, rfl⟩ := ha.form
  obtain ⟨adb, capb, rfl⟩ := hb.form
  clear ha hb
  by_cases hl : us.length = vs.length
  · have hf : ((us.length : Int) != (vs.length : Int)) = false := by rw [hl]; simp
    have hge : vs.length ≥ us.length ∧ us.length ≥ vs.length := by omega
    have HL : Hid _ := hl
    clear hl
    go_enter Tryd.func31, Tryd.ntmps31
    go_wp2
    go_loopw [5, 6] (fun v5 _ wr => ∃ k : Nat, v5 = .int .i64 k ∧ k ≤ us.length ∧ Hid (∀ j, j < k → us[j]? = vs[j]?) ∧ Below w.heap.size w wr) (fun v5 _ _ => us.length - (intOf v5).toNat)
    case atStart => exact ⟨0, rfl, by omega, fun j hj => absurd hj (by omega), Below.refl _ _⟩
    case round =>
      obtain ⟨k, rfl, hk, hh, hb⟩ := hrel
      by_cases hlt : k < us.length
      · obtain ⟨p, hp⟩ : ∃ p, us[k]? = some p := ⟨_, List.getElem?_eq_getElem hlt⟩
        obtain ⟨q, hq⟩ : ∃ q, vs[k]? = some q := ⟨_, List.getElem?_eq_getElem (by omega)⟩
        obtain ⟨ga, oa, capa', hva, _, hga2, hcea⟩ := HA.out.inRow (fun e => by rw [e] at hlt; simp at hlt)
        obtain ⟨gb, ob, capb', hvb, _, hgb2, hceb⟩ := HB.out.inRow (fun e => by have h5 := HL.out; rw [e] at h5; simp at h5; rw [h5] at hlt; simp at hlt)
        cases hva
        cases hvb
        have q1 := (hb.cell (p := ⟨ga, oa + k, none⟩) hga2).trans (hcea k p hp)
        have q2 := (hb.cell (p := ⟨gb, ob + k, none⟩) hgb2).trans (hceb k q hq)
        clear hcea hceb
        have HP : Hid _ := hp
        have HQ : Hid _ := hq
        clear hp hq
        have hltb : k < vs.length := by omega
        by_cases hpq : p = q
        · have hbt : (p == q) = true := by simpa using hpq
          go_wp2
          go_region
          all_goals go_wp2
          refine ⟨⟨k + 1, by simp, by omega, ?_, hb.drew⟩, by simp [intOf]; omega⟩
          intro j hj
          by_cases hjk : j < k
          · exact hh.out j hjk
          · rw [show j = k by omega, HP.out, HQ.out, hpq]
        · have hbf : (p == q) = false := by simpa using hpq
          go_wp2
          go_region
          all_goals go_wp2
          go_ret
          refine ⟨ret_bool (decide_eq_false (fun e => ?_)).symm, hb.drew⟩
          have h1 := HP.out
          rw [e, HQ.out] at h1
          exact hpq (by simpa using h1.symm)
      · go_wp2
        go_ret
        refine ⟨ret_bool (decide_eq_true (list_ext_upto us vs k HL.out hh.out (by omega))).symm, hb⟩
  · have hf : ((us.length : Int) != (vs.length : Int)) = true := by simp; omega
    go_enter Tryd.func31, Tryd.ntmps31
    go_wp2
    go_ret
    exact ⟨ret_bool (decide_eq_false (fun e => hl (by rw [e]))).symm, Below.refl _ _⟩


def sameE (x y : Ev) : Bool := x.kind == y.kind && x.n == y.n && x.a == y.a && x.b == y.b && decide (x.l = y.l)
theorem sameE_iff (x y : Ev) : sameE x y = true ↔ x = y := by
  obtain ⟨a, b, c, d, e⟩ := x
  obtain ⟨a', b', c', d', e'⟩ := y
  simp [sameE, and_assoc]
def sameEs : List Ev → List Ev → Bool
  | [], [] => true
  | x :: A, y :: B => sameE x y && sameEs A B
  | _, _ => false
theorem sameEs_iff : ∀ A B : List Ev, sameEs A B = true ↔ A = B
  | [], [] => by simp [sameEs]
  | [], _ :: _ => by simp [sameEs]
  | _ :: _, [] => by simp [sameEs]
  | x :: A, y :: B => by simp [sameEs, sameE_iff, sameEs_iff A B]
theorem sameEs_true {A B : List Ev} (h : A = B) : sameEs A B = true := (sameEs_iff A B).2 h
theorem sameEs_false {A B : List Ev} (h : ¬ A = B) : sameEs A B = false := by
  cases e : sameEs A B
  · rfl
  · exact absurd ((sameEs_iff A B).1 e) h

set_option maxHeartbeats 2000000 in
theorem sameEvent_any (x y : Ev) (vx vy : Value) (w : World) (hx : Tx w vx x.l) (hy : Tx w vy y.l) (hlx : x.l.length < 4294967296) (hly : y.l.length < 4294967296) :
    Calls Tryd.prog 54 #[evV x vx, evV y vy] w fun e w' => e = .returned (.bool (sameE x y)) ∧ Below w.heap.size w w' := by
  have HX : Hid (∀ W', Below w.heap.size w W' → Tx W' vx x.l) := fun W' hb => hx.below hb (Nat.le_refl _)
  have HY : Hid (∀ W', Below w.heap.size w W' → Tx W' vy y.l) := fun W' hb => hy.below hb (Nat.le_refl _)
  obtain ⟨kx, nx, ax, bx, lx⟩ := x
  obtain ⟨ky, ny, ay, bY, ly⟩ := y
  obtain ⟨adx, capx, hvx⟩ := hx.form
  obtain rfl : vx = .slice adx lx.length capx := hvx
  obtain ⟨ady, capy, hvy⟩ := hy.form
  obtain rfl : vy = .slice ady ly.length capy := hvy
  have HLX : Hid (lx.length < 4294967296) := hlx
  have HLY : Hid (ly.length < 4294967296) := hly
  clear hx hy hlx hly
  have hb2 : Below w.heap.size w ((w.alloc (.cells #[.int .i64 kx, .int .i64 nx, str ax, str bx, .slice adx lx.length capx] 70)).alloc (.cells #[.int .i64 ky, .int .i64 ny, str ay, str bY, .slice ady ly.length capy] 70)) := (below_new w _).alloc (below_new w _).size _
  have HC : Hid (∀ W', Below ((w.alloc (.cells #[.int .i64 kx, .int .i64 nx, str ax, str bx, .slice adx lx.length capx] 70)).alloc (.cells #[.int .i64 ky, .int .i64 ny, str ay, str bY, .slice ady ly.length capy] 70)).heap.size ((w.alloc (.cells #[.int .i64 kx, .int .i64 nx, str ax, str bx, .slice adx lx.length capx] 70)).alloc (.cells #[.int .i64 ky, .int .i64 ny, str ay, str bY, .slice ady ly.length capy] 70)) W' → Cel W' w.heap.size 70 #[.int .i64 kx, .int .i64 nx, str ax, str bx, .slice adx lx.length capx] ∧ Cel W' (w.heap.size + 1) 70 #[.int .i64 ky, .int .i64 ny, str ay, str bY, .slice ady ly.length capy]) := by
    intro W' hb
    have h1 := ((Cel.new w 70 #[.int .i64 kx, .int .i64 nx, str ax, str bx, .slice adx lx.length capx]).turn (Turn.ofBelow (S := fun _ => False) (below_new _ (.cells #[.int .i64 ky, .int .i64 ny, str ay, str bY, .slice ady ly.length capy] 70))) (fun h => h)).turn (Turn.ofBelow (S := fun _ => False) hb) (fun h => h)
    have h2 := (Cel.new (w.alloc (.cells #[.int .i64 kx, .int .i64 nx, str ax, str bx, .slice adx lx.length capx] 70)) 70 #[.int .i64 ky, .int .i64 ny, str ay, str bY, .slice ady ly.length capy]).turn (Turn.ofBelow (S := fun _ => False) hb) (fun h => h)
    rw [show (w.alloc (.cells #[.int .i64 kx, .int .i64 nx, str ax, str bx, .slice adx lx.length capx] 70)).heap.size = w.heap.size + 1 by simp] at h2
    exact ⟨h1, h2⟩
  go_enter Tryd.func54, Tryd.ntmps54
  go_wp2_with fail
  refine (sameTexts_any _ _ lx ly _ (HX.out _ hb2) (HY.out _ hb2) HLX.out HLY.out).mono ?_
  rintro e w1 ⟨rfl, hb1⟩
  obtain ⟨dl, hdl⟩ : ∃ dl, decide (lx = ly) = dl := ⟨_, rfl⟩
  have HD : Hid (decide (lx = ly) = dl) := hdl
  rw [hdl]
  clear hdl
  obtain ⟨C1, C2⟩ := HC.out _ hb1
  have hb0 : Below w.heap.size w w1 := hb2.trans (hb1.mono hb2.size)
  have x0 := C1.cell 0
  have x1 := C1.cell 1
  have x2 := C1.cell 2
  have x3 := C1.cell 3
  have y0 := C2.cell 0
  have y1 := C2.cell 1
  have y2 := C2.cell 2
  have y3 := C2.cell 3
  clear C1 C2 hb1 hb2
  cases h0 : (kx == ky) with
  | false =>
    go_wp2_with fail
    go_ret
    exact ⟨ret_bool (by simp only [sameE, h0, Bool.false_and]), hb0⟩
  | true =>
    cases h1 : (nx == ny) with
    | false =>
      go_wp2_with fail
      go_ret
      exact ⟨ret_bool (by simp only [sameE, h0, h1, Bool.false_and, Bool.true_and]), hb0⟩
    | true =>
      cases h2 : (ax == ay) with
      | false =>
        go_wp2_with fail
        go_ret
        exact ⟨ret_bool (by simp only [sameE, h0, h1, h2, Bool.false_and, Bool.true_and]), hb0⟩
      | true =>
        cases h3 : (bx == bY) with
        | false =>
          go_wp2_with fail
          go_ret
          exact ⟨ret_bool (by simp only [sameE, h0, h1, h2, h3, Bool.false_and, Bool.true_and]), hb0⟩
        | true =>
          go_wp2_with fail
          go_ret
          refine ⟨ret_bool ?_, hb0⟩
          have := HD.out
          simp only [sameE, h0, h1, h2, h3, Bool.true_and, this]
end Go.Proofs.YthhghkjgffcpeaaDoor
