/- The program's own equality of events. -/
import Derived.Test.YthhghkjgffcpeaaDoorFirst
namespace Go.Proofs.YthhghkjgffcpeaaDoor
open Go.RowKit Go.Shelf

set_option maxHeartbeats 2000000 in
theorem wsame_any (x y : Ev) (vx vy : Value) (w : World) (hx : Tx w vx x.l) (hy : Tx w vy y.l) (hlx : x.l.length < 4294967296) (hly : y.l.length < 4294967296) :
    Calls Tryd.prog 62 #[evV x vx, evV y vy] w fun e w' => e = .returned (.bool (sameE x y)) ∧ Below w.heap.size w w' := by
  have HX : Hid (∀ W', Below w.heap.size w W' → Tx W' vx x.l) := fun W' hb => hx.below hb (Nat.le_refl _)
  have HY : Hid (∀ W', Below w.heap.size w W' → Tx W' vy y.l) := fun W' hb => hy.below hb (Nat.le_refl _)
  obtain ⟨kx, nx, ax, bx, lx⟩ := x
  obtain ⟨ky, ny, ay, bY, ly⟩ := y
  obtain ⟨adx, capx, hvx⟩ := hx.form
  obtain rfl : vx = .slice adx lx.length capx := hvx
  obtain ⟨ady, capy, hvy⟩ := hy.form
  obtain rfl : vy = .slice ady ly.length capy := hvy
  have HLX : Hid (lx.length < 4294967296) := hlx
  have HLY : Hid (ly.length < 4294967296) := hly
  clear hx hy hlx hly
  have hb2 : Below w.heap.size w ((w.alloc (.cells #[.int .i64 kx, .int .i64 nx, str ax, str bx, .slice adx lx.length capx] 70)).alloc (.cells #[.int .i64 ky, .int .i64 ny, str ay, str bY, .slice ady ly.length capy] 70)) := (below_new w _).alloc (below_new w _).size _
  have HB : Hid _ := hb2
  clear hb2
  cases h0 : (kx == ky) with
  | false =>
    go_enter Tryd.func62, Tryd.ntmps62
    go_wp2_with fail
    go_ret
    exact ⟨ret_bool (by simp only [sameE, h0, Bool.false_and]), HB.out⟩
  | true =>
    cases h1 : (nx == ny) with
    | false =>
      go_enter Tryd.func62, Tryd.ntmps62
      go_wp2_with fail
      go_ret
      exact ⟨ret_bool (by simp only [sameE, h0, h1, Bool.false_and, Bool.true_and]), HB.out⟩
    | true =>
      cases h2 : (ax == ay) with
      | false =>
        go_enter Tryd.func62, Tryd.ntmps62
        go_wp2_with fail
        go_ret
        exact ⟨ret_bool (by simp only [sameE, h0, h1, h2, Bool.false_and, Bool.true_and]), HB.out⟩
      | true =>
        cases h3 : (bx == bY) with
        | false =>
          go_enter Tryd.func62, Tryd.ntmps62
          go_wp2_with fail
          go_ret
          exact ⟨ret_bool (by simp only [sameE, h0, h1, h2, h3, Bool.false_and, Bool.true_and]), HB.out⟩
        | true =>
          go_enter Tryd.func62, Tryd.ntmps62
          go_wp2_with fail
          refine (equal_any _ _ lx ly _ (HX.out _ HB.out) (HY.out _ HB.out) HLX.out HLY.out).mono ?_
          rintro e w1 ⟨rfl, hb1⟩
          obtain ⟨dl, HD⟩ : ∃ dl, Hid (decide (lx = ly) = dl) := ⟨_, rfl⟩
          rw [HD.out]
          go_wp2_with fail
          go_ret
          refine ⟨ret_bool ?_, HB.out.trans (hb1.mono HB.out.size)⟩
          have := HD.out
          simp only [sameE, h0, h1, h2, h3, Bool.true_and, this]
theorem ent62 : ∀ args w, (callFunc 62 args).run Tryd.prog w = .ok (.enter 62 args) w := enters_of Tryd.func62 (by kernel_rfl) rfl

set_option maxRecDepth 100000 in
set_option maxHeartbeats 4000000 in
theorem equalFunc_any (va vb : Value) (X Z : List (Ev × Value)) (w : World) (ha : EvAt w va X) (hb : EvAt w vb Z) (hlx : X.length < 4294967296) (hx : ∀ p ∈ X, p.1.l.length < 4294967296) (hy : ∀ p ∈ Z, p.1.l.length < 4294967296) :
    Calls Tryd.prog 61 #[va, vb, .func (.func 62) #[] #[]] w fun e w' => e = .returned (.bool (sameEs (X.map Prod.fst) (Z.map Prod.fst))) ∧ Below w.heap.size w w' := by
  have HA : Hid (∀ W', Below w.heap.size w W' → EvAt W' va X) := fun W' h => ha.below h (Nat.le_refl _)
  have HB : Hid (∀ W', Below w.heap.size w W' → EvAt W' vb Z) := fun W' h => hb.below h (Nat.le_refl _)
  have HX : Hid (∀ p ∈ X, p.1.l.length < 4294967296) := hx
  have HY : Hid (∀ p ∈ Z, p.1.l.length < 4294967296) := hy
  have hen := ent62
  obtain ⟨ada, capa, rfl⟩ := ha.form
  obtain ⟨adb, capb, rfl⟩ := hb.form
  clear ha hb hx hy
  by_cases hl : X.length = Z.length
  · have hf : ((X.length : Int) != (Z.length : Int)) = false := by rw [hl]; simp
    have HL : Hid (X.length = Z.length) := hl
    have hge : Z.length ≥ X.length ∧ X.length ≥ Z.length := by omega
    clear hl
    go_enter Tryd.func61, Tryd.ntmps61
    go_wp2_with fail
    go_loopw [17] (fun v17 wr => ∃ k : Nat, v17 = .int .i64 k ∧ k ≤ X.length ∧ Hid (∀ j, j < k → (X.map Prod.fst)[j]? = (Z.map Prod.fst)[j]?) ∧ Below w.heap.size w wr) (fun v17 _ => X.length - (intOf v17).toNat)
    case atStart => exact ⟨0, rfl, by omega, fun j hj => absurd hj (by omega), Below.refl _ _⟩
    case round =>
      obtain ⟨k, rfl, hk, hh, hbr⟩ := hrel
      by_cases hlt : k < X.length
      · obtain ⟨p, hp⟩ : ∃ p, X[k]? = some p := ⟨_, List.getElem?_eq_getElem hlt⟩
        obtain ⟨q, hq⟩ : ∃ q, Z[k]? = some q := ⟨_, List.getElem?_eq_getElem (by omega)⟩
        obtain ⟨ga, oa, capa', hva, hga, x0, x1, x2, x3, x4⟩ := (HA.out _ hbr).at hp
        cases hva
        have HTP : Hid (∀ W', Below w.heap.size w W' → Tx W' p.2 p.1.l) := fun W' h => (HA.out _ h).2 p (List.mem_of_getElem? hp)
        have HTQ : Hid (∀ W', Below w.heap.size w W' → Tx W' q.2 q.1.l) := fun W' h => (HB.out _ h).2 q (List.mem_of_getElem? hq)
        have hpl := HX.out p (List.mem_of_getElem? hp)
        have hql := HY.out q (List.mem_of_getElem? hq)
        have HP : Hid _ := fst_at X k p hp
        have HQ : Hid _ := fst_at Z k q hq
        obtain ⟨⟨kx, nx, ax, bx, lx⟩, vx⟩ := p
        obtain ⟨adx, capx, hvx⟩ := (HTP.out _ hbr).form
        obtain rfl : vx = .slice adx lx.length capx := hvx
        have hba : Below w.heap.size w (wr.alloc (.cells #[.int .i64 kx, .int .i64 nx, str ax, str bx, .slice adx lx.length capx] 70)) := hbr.alloc hbr.size _
        obtain ⟨gb, ob, capb', hvb, hgb, y0, y1, y2, y3, y4⟩ := (HB.out _ hba).at hq
        cases hvb
        obtain ⟨⟨ky, ny, ay, bY, ly⟩, vy⟩ := q
        obtain ⟨ady, capy, hvy⟩ := (HTQ.out _ hbr).form
        obtain rfl : vy = .slice ady ly.length capy := hvy
        have hbb : Below w.heap.size w ((wr.alloc (.cells #[.int .i64 kx, .int .i64 nx, str ax, str bx, .slice adx lx.length capx] 70)).alloc (.cells #[.int .i64 ky, .int .i64 ny, str ay, str bY, .slice ady ly.length capy] 70)) := hba.alloc hba.size _
        have HBB : Hid _ := hbb
        clear hp hq hga hgb hba hbb
        have hltb : k < Z.length := by omega
        obtain ⟨sm, HSM⟩ : ∃ sm, Hid (sameE ⟨kx, nx, ax, bx, lx⟩ ⟨ky, ny, ay, bY, ly⟩ = sm) := ⟨_, rfl⟩
        go_wp2_with fail
        refine (wsame_any ⟨kx, nx, ax, bx, lx⟩ ⟨ky, ny, ay, bY, ly⟩ _ _ _ (HTP.out _ HBB.out) (HTQ.out _ HBB.out) hpl hql).mono ?_
        rintro e w2 ⟨rfl, hb2'⟩
        rw [HSM.out]
        have hb2 := HBB.out.trans (hb2'.mono HBB.out.size)
        clear x0 x1 x2 x3 x4 y0 y1 y2 y3 y4 hb2'
        cases sm with
        | true =>
          go_wp2_with fail
          refine ⟨⟨k + 1, by simp, by omega, ?_, hb2⟩, by simp [intOf]; omega⟩
          intro j hj
          by_cases hjk : j < k
          · exact hh.out j hjk
          · rw [show j = k by omega, HP.out, HQ.out, (sameE_iff _ _).1 HSM.out]
        | false =>
          go_wp2_with fail
          go_ret
          refine ⟨ret_bool (sameEs_false (fun e => ?_)).symm, hb2⟩
          have h1 := HP.out
          rw [e, HQ.out] at h1
          have h2 := HSM.out
          rw [(sameE_iff _ _).2 (Option.some.inj h1).symm] at h2
          cases h2
      · go_wp2_with fail
        go_ret
        refine ⟨ret_bool (sameEs_true (evs_ext _ _ k (by rw [List.length_map, List.length_map]; exact HL.out) hh.out (by rw [List.length_map]; omega))).symm, hbr⟩
  · have hf : ((X.length : Int) != (Z.length : Int)) = true := by simp; omega
    go_enter Tryd.func61, Tryd.ntmps61
    go_wp2_with fail
    go_ret
    exact ⟨ret_bool (sameEs_false (fun e => hl (by have := congrArg List.length e; rw [List.length_map, List.length_map] at this; exact this))).symm, Below.refl _ _⟩

set_option maxHeartbeats 1000000 in
theorem wsameEvents_any (va vb : Value) (X Z : List (Ev × Value)) (w : World) (ha : EvAt w va X) (hb : EvAt w vb Z) (hlx : X.length < 4294967296) (hx : ∀ p ∈ X, p.1.l.length < 4294967296) (hy : ∀ p ∈ Z, p.1.l.length < 4294967296) :
    Calls Tryd.prog 38 #[va, vb] w fun e w' => e = .returned (.bool (sameEs (X.map Prod.fst) (Z.map Prod.fst))) ∧ Below w.heap.size w w' := by
  have H : Hid _ := equalFunc_any va vb X Z w ha hb hlx hx hy
  obtain ⟨ada, capa, rfl⟩ := ha.form
  obtain ⟨adb, capb, rfl⟩ := hb.form
  clear ha hb hx hy
  go_enter Tryd.func38, Tryd.ntmps38
  go_wp2_with fail
  refine Calls.mono H.out ?_
  rintro e w1 ⟨rfl, hb1⟩
  go_wp2_with fail
  go_ret
  exact ⟨rfl, hb1⟩
end Go.Proofs.YthhghkjgffcpeaaDoor
