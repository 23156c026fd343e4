/- SameTexts; the chapter's examples. -/
import Derived.Test.YtdajacodfnidfaaGreatDoorLive
namespace Go.Proofs.YtdajacodfnidfaaGreatDoor
open Go.RowKit Go.Shelf

/-- The value is a slice of these texts. -/
def TxAt (W : World) (v : Value) (ps : List (List UInt8)) : Prop :=
  ∃ (g o : Nat) (ad : Option Addr) (cap : Nat), v = .slice ad ps.length cap ∧ ps.length ≤ cap ∧ (ps ≠ [] → ad = some ⟨g, o, none⟩ ∧ g < W.heap.size) ∧ ∀ k p, ps[k]? = some p → W.cell? ⟨g, o + k, none⟩ = some (.string ⟨p.toArray⟩)
theorem TxAt.below {W W' : World} {v : Value} {ps : List (List UInt8)} {B : Nat} (h : TxAt W v ps) (hb : Below B W W') (hB : W.heap.size ≤ B) : TxAt W' v ps := by
  obtain ⟨g, o, ad, cap, h1, h2, h3, h4⟩ := h
  refine ⟨g, o, ad, cap, h1, h2, fun hne => ⟨(h3 hne).1, Nat.lt_of_lt_of_le (h3 hne).2 hb.size⟩, fun k p hp => ?_⟩
  have hg := (h3 (fun e => by rw [e] at hp; simp at hp)).2
  exact (hb.cell (p := ⟨g, o + k, none⟩) (by show g < B; omega)).trans (h4 k p hp)
theorem TxAt.owned {W : World} {B : Nat} {v : Value} {ps : List (List UInt8)} (h : W.ownsRow B 9 1 v ps.length (txV ps)) : TxAt W v ps := by
  rcases h.2 with ⟨hv, h0⟩ | ⟨g, cap, cur, hv, hb, hc, h1, _, h2, h3⟩
  · have hl : ps = [] := List.eq_nil_of_length_eq_zero h0
    subst hl
    exact ⟨0, 0, none, 0, hv, Nat.le_refl _, fun e => absurd rfl e, fun k p hp => by simp at hp⟩
  · refine ⟨g, 0, some ⟨g, 0, none⟩, cap, hv, h1, fun _ => ⟨rfl, (Array.getElem?_eq_some_iff.1 hc).1⟩, fun k p hp => ?_⟩
    have hk := (List.getElem?_eq_some_iff.1 hp).1
    have e1 : W.cell? ⟨g, 0 + k, none⟩ = cur[k]? := by simp [World.cell?, hc]
    rw [e1, ← Array.getElem?_toList, ← List.getElem?_take_of_lt (show k < ps.length * 1 by omega), h3, txV, List.getElem?_map, hp]
    rfl

theorem list_ext_upto (us vs : List (List UInt8)) (k : Nat) (hl : us.length = vs.length) (h : ∀ j, j < k → us[j]? = vs[j]?) (hk : k = us.length) : us = vs := by
  apply List.ext_getElem?
  intro j
  by_cases hj : j < k
  · exact h j hj
  · rw [List.getElem?_eq_none (by omega), List.getElem?_eq_none (by omega)]
set_option maxRecDepth 100000 in
set_option maxHeartbeats 2000000 in
theorem sameTexts_any (va vb : Value) (us vs : List (List UInt8)) (w : World) (ha : TxAt w va us) (hb : TxAt w vb vs) (hla : us.length < 4294967296) (_hlb : vs.length < 4294967296) :
    Calls Tryz.prog 20 #[va, vb] w fun e w' => e = .returned (.bool (decide (us = vs))) ∧ Below w.heap.size w w' := by
  obtain ⟨ga, oa, ada, capa, rfl, hca, hga, hcea⟩ := ha
  obtain ⟨gb, ob, adb, capb, rfl, hcb, hgb, hceb⟩ := hb
  have HA : Hid _ := hcea
  have HB : Hid _ := hceb
  clear hcea hceb
  by_cases hl : us.length = vs.length
  · have hf : ((us.length : Int) != (vs.length : Int)) = false := by rw [hl]; simp
    have hge : vs.length ≥ us.length ∧ us.length ≥ vs.length := by omega
    have HL : Hid _ := hl
    clear hl
    go_enter Tryz.func20, Tryz.ntmps20
    go_wp2
    go_loopw [5, 6] (fun v5 _ wr => ∃ k : Nat, v5 = .int .i64 k ∧ k ≤ us.length ∧ Hid (∀ j, j < k → us[j]? = vs[j]?) ∧ Below w.heap.size w wr) (fun v5 _ _ => us.length - (intOf v5).toNat)
    case atStart => exact ⟨0, rfl, by omega, fun j hj => absurd hj (by omega), Below.refl _ _⟩
    case round =>
      obtain ⟨k, rfl, hk, hh, hb⟩ := hrel
      by_cases hlt : k < us.length
      · obtain ⟨p, hp⟩ : ∃ p, us[k]? = some p := ⟨_, List.getElem?_eq_getElem hlt⟩
        obtain ⟨q, hq⟩ : ∃ q, vs[k]? = some q := ⟨_, List.getElem?_eq_getElem (by omega)⟩
        obtain ⟨rfl, hga2⟩ := hga (fun e => by rw [e] at hlt; simp at hlt)
        obtain ⟨rfl, hgb2⟩ := hgb (fun e => by have h5 := HL.out; rw [e] at h5; simp at h5; rw [h5] at hlt; simp at hlt)
        have q1 := (hb.cell (p := ⟨ga, oa + k, none⟩) hga2).trans (HA.out k p hp)
        have q2 := (hb.cell (p := ⟨gb, ob + k, none⟩) hgb2).trans (HB.out k q hq)
        have HP : Hid _ := hp
        have HQ : Hid _ := hq
        clear hp hq
        have hltb : k < vs.length := by omega
        by_cases hpq : p = q
        · have hbt : (p == q) = true := by simpa using hpq
          go_wp2
          go_region
          all_goals go_wp2
          refine ⟨⟨k + 1, by simp, by omega, ?_, hb.drew⟩, by simp [intOf]; omega⟩
          intro j hj
          by_cases hjk : j < k
          · exact hh.out j hjk
          · rw [show j = k by omega, HP.out, HQ.out, hpq]
        · have hbf : (p == q) = false := by simpa using hpq
          go_wp2
          go_region
          all_goals go_wp2
          go_ret
          refine ⟨ret_bool (decide_eq_false (fun e => ?_)).symm, hb.drew⟩
          have h1 := HP.out
          rw [e, HQ.out] at h1
          exact hpq (by simpa using h1.symm)
      · go_wp2
        go_ret
        refine ⟨ret_bool (decide_eq_true (list_ext_upto us vs k HL.out hh.out (by omega))).symm, hb⟩
  · have hf : ((us.length : Int) != (vs.length : Int)) = true := by simp; omega
    go_enter Tryz.func20, Tryz.ntmps20
    go_wp2
    go_ret
    exact ⟨ret_bool (decide_eq_false (fun e => hl (by rw [e]))).symm, Below.refl _ _⟩

theorem ex1 : escL [97, 42, 98, 32, 99] = [97, 92, 42, 98, 92, 32, 99] := by decide
theorem ex2 : (letts [97, 92, 42, 92, 92]).map Prod.fst = [97, 42, 92] := by decide
theorem ex3 : matchL [97, 42, 91, 98, 45, 100, 93] [97, 120, 120, 99] = true := by
  have e : letts [97, 42, 91, 98, 45, 100, 93] = [(97, true), (42, true), (91, true), (98, true), (45, true), (100, true), (93, true)] := by decide
  unfold matchL
  rw [e]
  have e2 : pcs [(97, true), (42, true), (91, true), (98, true), (45, true), (100, true), (93, true)] = [(false, setAdd setNo 97 97), (true, setNo), (false, amongS [(98, true), (45, true), (100, true)])] := by
    rw [pcs, pcs, pcs]
    simp [isL, closeIn, List.findIdx?_cons, pcs]
  rw [e2]
  rfl
theorem ex4 : matchL [91, 94, 97, 93] [97] = false := by
  have e : letts [91, 94, 97, 93] = [(91, true), (94, true), (97, true), (93, true)] := by decide
  unfold matchL
  rw [e]
  have e2 : pcs [(91, true), (94, true), (97, true), (93, true)] = [(false, amongS [(94, true), (97, true)])] := by
    rw [pcs]
    simp [isL, closeIn, List.findIdx?_cons, pcs]
  rw [e2]
  rfl
theorem ex5 : matchL [92, 42] [42] = true := by
  have e : letts [92, 42] = [(42, false)] := by decide
  unfold matchL
  rw [e]
  have e2 : pcs [((42 : UInt8), false)] = [(false, setAdd setNo 42 42)] := by
    rw [pcs]
    simp [isL, closeIn, pcs]
  rw [e2]
  rfl
theorem ex6 : splitL [97, 32, 98, 92, 32, 99, 32, 32, 100] = [[97], [98, 92, 32, 99], [100]] := by decide
theorem ex7 : liveR (letts [91, 93]) = false := by decide
theorem ex8 : liveR (letts [91, 97, 93]) = true := by decide

end Go.Proofs.YtdajacodfnidfaaGreatDoor
