/- Values held against one another. -/
import Derived.Test.YtikogljojnapaaaFunsPlain
import Derived.Deep.Cut
namespace Go.Proofs.Ytikogljojnapaaa
open Go.RowKit
attribute [local go_sem] Oper.semAt_some

abbrev vaV (p : Txt × Value × List Txt) : Value := .agg #[str p.1, p.2.1]
def sameV (p q : Txt × Value × List Txt) : Bool := p.1 == q.1 && decide (p.2.2 = q.2.2)
theorem sameV_iff (p q : Txt × Value × List Txt) : sameV p q = true ↔ (p.1, p.2.2) = (q.1, q.2.2) := by
  simp [sameV]
set_option maxHeartbeats 2000000 in
theorem sameValue_any (p q : Txt × Value × List Txt) (w : World) (hp : Tx w p.2.1 p.2.2) (hq : Tx w q.2.1 q.2.2) (hlp : p.2.2.length < 4294967296) (hlq : q.2.2.length < 4294967296) :
    Calls Try.prog 42 #[vaV p, vaV q] w fun e w' => e = .returned (.bool (sameV p q)) ∧ Below w.heap.size w w' := by
  obtain ⟨n, pv, pl⟩ := p
  obtain ⟨m, qv, ql⟩ := q
  simp only at hp hq hlp hlq
  obtain ⟨adp, capp, rfl⟩ := hp.form
  obtain ⟨adq, capq, rfl⟩ := hq.form
  obtain ⟨wa, hwa⟩ : ∃ wa, wa = (w.alloc (.cells #[str n, .slice adp pl.length capp] 34)).alloc (.cells #[str m, .slice adq ql.length capq] 34) := ⟨_, rfl⟩
  have hb : Below w.heap.size w wa := by rw [hwa]; exact (below_new w _).alloc (below_new w _).size _
  have C1 : Cel wa w.heap.size 34 #[str n, .slice adp pl.length capp] := by
    rw [hwa]
    exact (Cel.new w 34 _).turn (Turn.ofBelow (S := fun _ => False) (below_new _ _)) (fun h => h)
  have C2 : Cel wa (w.heap.size + 1) 34 #[str m, .slice adq ql.length capq] := by
    rw [hwa, show w.heap.size + 1 = (w.alloc (.cells #[str n, .slice adp pl.length capp] 34)).heap.size by simp]
    exact Cel.new _ 34 _
  have HC : Hid (Calls Try.prog 22 #[.slice adp pl.length capp, .slice adq ql.length capq] wa fun e w' => e = .returned (.bool (decide (pl = ql))) ∧ Below wa.heap.size wa w') := sameTexts_any _ _ pl ql wa (hp.below hb (Nat.le_refl _)) (hq.below hb (Nat.le_refl _)) hlp hlq
  clear hp hq
  go_enter Try.func42, Try.ntmps42
  go_upto_region 1 with fail
  rw [← hwa]
  clear hwa
  have x1 := C1.cell 1
  have y1 := C2.cell 1
  go_wp2_with fail
  refine Calls.mono HC.out ?_
  rintro e w2 ⟨rfl, hb2⟩
  have x0 := (C1.turn (Turn.ofBelow (S := fun _ => False) hb2) (fun h => h)).cell 0
  have y0 := (C2.turn (Turn.ofBelow (S := fun _ => False) hb2) (fun h => h)).cell 0
  have hbf := hb.trans (hb2.mono hb.size)
  clear C1 C2 x1 y1
  cases hn : (n == m) with
  | true =>
    go_wp2_with fail
    go_ret
    exact ⟨ret_bool (by simp only [sameV, hn, Bool.true_and]), hbf⟩
  | false =>
    go_wp2_with fail
    go_ret
    exact ⟨ret_bool (by simp only [sameV, hn, Bool.false_and]), hbf⟩
theorem cont_ext (X Y : Vrs) (k : Nat) (hl : X.length = Y.length) (h : ∀ j, j < k → (cont X)[j]? = (cont Y)[j]?) (hk : k = X.length) : cont X = cont Y := by
  apply List.ext_getElem?
  intro j
  by_cases hj : j < k
  · exact h j hj
  · rw [List.getElem?_eq_none (by rw [cont_length]; omega), List.getElem?_eq_none (by rw [cont_length]; omega)]
set_option maxRecDepth 100000 in
set_option maxHeartbeats 2000000 in
theorem sameValues_any (va vb : Value) (X Y : Vrs) (w : World) (hx : VaAt w va X) (hy : VaAt w vb Y) (he : cont X = cont Y) (hl : X.length < 4294967296) (hll : ∀ p ∈ X, p.2.2.length < 4294967296) (hll2 : ∀ p ∈ Y, p.2.2.length < 4294967296) :
    Calls Try.prog 31 #[va, vb] w fun e w' => e = .returned (.bool true) ∧ Below w.heap.size w w' := by
  have HX : Hid (∀ W', Below w.heap.size w W' → VaAt W' va X) := fun W' hb => hx.below hb (Nat.le_refl _)
  have HY : Hid (∀ W', Below w.heap.size w W' → VaAt W' vb Y) := fun W' hb => hy.below hb (Nat.le_refl _)
  have HL1 : Hid (∀ p ∈ X, p.2.2.length < 4294967296) := hll
  have HL2 : Hid (∀ p ∈ Y, p.2.2.length < 4294967296) := hll2
  have HE : Hid (cont X = cont Y) := he
  have hle : X.length = Y.length := by rw [← cont_length, he, cont_length]
  obtain ⟨ada, capa, rfl⟩ := hx.form
  obtain ⟨adb, capb, rfl⟩ := hy.form
  have hf : ((X.length : Int) != (Y.length : Int)) = false := by rw [hle]; simp
  have hge : Y.length ≥ X.length ∧ X.length ≥ Y.length := by omega
  clear hx hy he hll hll2 hle
  go_enter Try.func31, Try.ntmps31
  go_wp2_with fail
  go_loopw [5, 6] (fun v5 _ wr => ∃ k : Nat, v5 = .int .i64 k ∧ k ≤ X.length ∧ Below w.heap.size w wr) (fun v5 _ _ => X.length - (intOf v5).toNat)
  case atStart => exact ⟨0, rfl, Nat.zero_le _, Below.refl _ _⟩
  case round =>
    obtain ⟨k, rfl, hk, hb⟩ := hrel
    by_cases hlt : k < X.length
    · obtain ⟨p, hp⟩ : ∃ p, X[k]? = some p := ⟨_, List.getElem?_eq_getElem hlt⟩
      obtain ⟨q, hq⟩ : ∃ q, Y[k]? = some q := ⟨_, List.getElem?_eq_getElem (by omega)⟩
      obtain ⟨ga, oa, capa', hva, hga, a0, a1, ta⟩ := (HX.out _ hb.drew).at hp
      obtain ⟨gb, ob, capb', hvb, hgb, b0, b1, tb⟩ := (HY.out _ hb.drew).at hq
      cases hva
      cases hvb
      have hltb : k < Y.length := by omega
      have hsv : sameV p q = true := by
        rw [sameV_iff]
        have e1 : (cont X)[k]? = some (p.1, p.2.2) := by unfold cont; rw [List.getElem?_map, hp]; rfl
        have e2 : (cont Y)[k]? = some (q.1, q.2.2) := by unfold cont; rw [List.getElem?_map, hq]; rfl
        rw [HE.out, e2] at e1
        exact (Option.some.inj e1).symm
      have HC : Hid (Calls Try.prog 42 #[vaV p, vaV q] wr.drew fun e w' => e = .returned (.bool true) ∧ Below wr.drew.heap.size wr.drew w') := by
        have := sameValue_any p q wr.drew ta tb (HL1.out p (List.mem_of_getElem? hp)) (HL2.out q (List.mem_of_getElem? hq))
        rw [hsv] at this
        exact this
      obtain ⟨adp, capp, hvp⟩ := ta.form
      obtain ⟨adq, capq, hvq⟩ := tb.form
      obtain ⟨n, pv, pl⟩ := p
      obtain ⟨m, qv, ql⟩ := q
      simp only at hvp hvq a0 a1 b0 b1
      subst hvp hvq
      have c0 : wr.cell? ⟨ga, oa + k * 2, none⟩ = some (str n) := a0
      have c1 : wr.cell? ⟨ga, oa + k * 2 + 1, none⟩ = some (.slice adp pl.length capp) := a1
      have c2 : wr.cell? ⟨gb, ob + k * 2, none⟩ = some (str m) := b0
      have c3 : wr.cell? ⟨gb, ob + k * 2 + 1, none⟩ = some (.slice adq ql.length capq) := b1
      clear hp hq hsv ta tb
      go_wp2_with fail
      go_region_with (go_at_call 42; refine Calls.mono HC.out ?_; rintro e w3 ⟨rfl, hb3⟩)
      all_goals
        go_wp2_with fail
        exact ⟨⟨k + 1, by simp, by omega, hb.drew.trans (hb3.mono hb.size)⟩, by simp [intOf]; omega⟩
    · go_wp2_with fail
      go_ret
      exact ⟨rfl, hb⟩
end Go.Proofs.Ytikogljojnapaaa
