/- Is a world small? -/
import Derived.Test.YthhghkjgffcpeaaDoorMay3
import Derived.BigQuiet
namespace Go.Proofs.YthhghkjgffcpeaaDoor
open Go.RowKit Go.Shelf

/-- What a small world keeps. -/
structure Lite (Fl : Fls) (Y : List (Rw × Value)) : Prop where
  f : Fl.length ≤ 60
  y : Y.length ≤ 60
  fn : ∀ p ∈ Fl, p.1.length ≤ 60000 ∧ p.2.length ≤ 60000
  rw : ∀ p ∈ Y, p.1.args.length ≤ 120 ∧ p.1.name.length ≤ 60000 ∧ p.1.out.length ≤ 60000 ∧ ∀ s ∈ p.1.args, s.length ≤ 60000
/-- An answer, and what it says. -/
def LiteA (Fl : Fls) (Y : List (Rw × Value)) (e : Ending) : Prop := ∃ b, e = .returned (.bool b) ∧ (b = true → Lite Fl Y)
/-- So far. -/
def FlSo (Fl : Fls) (i n : Nat) : Prop := ∀ j p, j < i → Fl[j]? = some p → p.1.length ≤ n ∧ p.2.length ≤ n
def RwIs (r : Rw) (n : Nat) : Prop := r.args.length ≤ 120 ∧ r.name.length ≤ n ∧ r.out.length ≤ n ∧ ∀ s ∈ r.args, s.length ≤ n
def RwSo (Y : List (Rw × Value)) (i n : Nat) : Prop := ∀ j p, j < i → Y[j]? = some p → RwIs p.1 n
theorem RwSo.mono {Y : List (Rw × Value)} {i n m : Nat} (h : RwSo Y i n) (hm : n ≤ m) : RwSo Y i m := fun j p hj hp => by
  obtain ⟨h1, h2, h3, h4⟩ := h j p hj hp
  exact ⟨h1, by omega, by omega, fun s hs => by have := h4 s hs; omega⟩
def AgSo (l : List Txt) (i n : Nat) : Prop := ∀ j s, j < i → l[j]? = some s → s.length ≤ n
theorem lite_of {Fl : Fls} {Y : List (Rw × Value)} {i k n : Nat} (hf : ∀ j p, j < i → Fl[j]? = some p → p.1.length ≤ n ∧ p.2.length ≤ n) (hi : Fl.length ≤ i) (hr : RwSo Y k n) (hk : Y.length ≤ k) (h60 : Fl.length ≤ 60) (hy : Y.length ≤ 60) (hn : n ≤ 60000) : Lite Fl Y := {
  f := h60
  y := hy
  fn := fun p hp => by
    obtain ⟨j, hj⟩ := List.mem_iff_getElem?.1 hp
    obtain ⟨h1, h2⟩ := hf j p (by have := (List.getElem?_eq_some_iff.1 hj).1; omega) hj
    exact ⟨by omega, by omega⟩
  rw := fun p hp => by
    obtain ⟨j, hj⟩ := List.mem_iff_getElem?.1 hp
    obtain ⟨h1, h2, h3, h4⟩ := hr j p (by have := (List.getElem?_eq_some_iff.1 hj).1; omega) hj
    exact ⟨h1, by omega, by omega, fun s hs => by have := h4 s hs; omega⟩ }
/-- The argument in its block, and what was there. -/
def Pot (W : World) (fv rv : Value) (wr : World) : Prop := Below W.heap.size W wr ∧ Cel wr W.heap.size 25 #[fv, rv]
theorem Pot.drewN {W wr : World} {fv rv : Value} (h : Pot W fv rv wr) (m : Nat) : Pot W fv rv (wr.drewN m) := ⟨h.1.trans ⟨rfl, rfl, rfl, Nat.le_refl _, fun _ _ => rfl⟩, h.2⟩
theorem lit_gen {M k q m : Nat} (hm : m ≤ (k + 1) * (122 * M) + 2 * M + q * M) (hq : q ≤ 120) : m ≤ (k + 1 + 1) * (122 * M) := by
  have h1 := Nat.mul_le_mul_right M hq
  have h2 : (k + 1 + 1) * (122 * M) = (k + 1) * (122 * M) + 122 * M := Nat.succ_mul _ _
  rw [h2]
  generalize (k + 1) * (122 * M) = A at *
  generalize q * M = Z at *
  omega
theorem lit_step {k q m : Nat} (hm : m ≤ (k + 1) * 17169973579350016 + 281474976710656 + q * 140737488355328) (hq : q ≤ 120) : m ≤ (k + 1 + 1) * 17169973579350016 := lit_gen (M := 140737488355328) hm hq
set_option maxRecDepth 100000 in
set_option maxHeartbeats 4000000 in
theorem light_ff (fv rv : Value) (Fl : Fls) (Y : List (Rw × Value)) (W : World) (hf : FlAt W fv Fl) (hr : RwAt W rv Y) (hF : ∀ p ∈ Fl, p.1.length ≤ 140737488355328 ∧ p.2.length ≤ 140737488355328) (hY : ∀ p ∈ Y, p.1.args.length < 140737488355328 ∧ (∀ s ∈ p.1.args, s.length ≤ 140737488355328) ∧ p.1.name.length ≤ 140737488355328 ∧ p.1.out.length ≤ 140737488355328) (hFl : Fl.length < 4611686018427387904) (hYl : Y.length < 4611686018427387904) (h60 : Fl.length ≤ 61) (hy60 : Y.length ≤ 61) :
    Calls Tryd.prog 10 #[wV fv rv] W fun e w' => LiteA Fl Y e ∧ Below W.heap.size W w' := by
  have HFA : Hid (∀ W', Below W.heap.size W W' → FlAt W' fv Fl) := fun W' hb => hf.below hb (Nat.le_refl _)
  have HRA : Hid (∀ W', Below W.heap.size W W' → RwAt W' rv Y) := fun W' hb => hr.below hb (Nat.le_refl _)
  have HSF : Hid (∀ p ∈ Fl, p.1.length ≤ 140737488355328 ∧ p.2.length ≤ 140737488355328) := hF
  have HSY : Hid (∀ p ∈ Y, p.1.args.length < 140737488355328 ∧ (∀ s ∈ p.1.args, s.length ≤ 140737488355328) ∧ p.1.name.length ≤ 140737488355328 ∧ p.1.out.length ≤ 140737488355328) := hY
  obtain ⟨adf, capf, rfl⟩ := hf.form
  obtain ⟨adr, capr, rfl⟩ := hr.form
  have HP0 : Hid (Pot W (.slice adf Fl.length capf) (.slice adr Y.length capr) (W.alloc (.cells #[.slice adf Fl.length capf, .slice adr Y.length capr] 25))) := ⟨below_new W _, Cel.new W 25 _⟩
  clear hf hr hF hY
  go_enter Tryd.func10, Tryd.ntmps10
  go_wp2_with fail
  go_loopw [3, 4] (fun v3 v4 wr => ∃ i n : Nat, v3 = .int .i64 n ∧ v4 = .int .i64 i ∧ i ≤ Fl.length ∧ n ≤ i * 281474976710656 ∧ Hid (FlSo Fl i n) ∧ Hid (Pot W (.slice adf Fl.length capf) (.slice adr Y.length capr) wr)) (fun _ v4 _ => Fl.length - (intOf v4).toNat)
  case atStart => exact ⟨0, 0, rfl, rfl, Nat.zero_le _, Nat.zero_le _, fun j p hj => absurd hj (Nat.not_lt_zero _), HP0.out⟩
  case round =>
    obtain ⟨i, n, rfl, rfl, hi, hn, HI, HP⟩ := hrel
    have d0 := HP.out.2.cell 0
    have d1 := HP.out.2.cell 1
    have hi61 : i ≤ 61 := by omega
    by_cases hil : i < Fl.length
    · obtain ⟨p, hp⟩ : ∃ p, Fl[i]? = some p := ⟨_, List.getElem?_eq_getElem (by omega)⟩
      obtain ⟨g, o, cap', hv, _, _, x0, x1⟩ := (HFA.out _ HP.out.1).at hp
      cases hv
      obtain ⟨z1, z2⟩ := HSF.out p (List.mem_of_getElem? hp)
      have HI2 : Hid (FlSo Fl (i + 1) (n + p.1.length + p.2.length)) := fun j q hj hq => by
        rcases Nat.lt_or_ge j i with h1 | h1
        · obtain ⟨h2, h3⟩ := HI.out j q h1 hq
          exact ⟨by omega, by omega⟩
        · rw [show j = i by omega, hp] at hq
          cases hq
          exact ⟨by omega, by omega⟩
      obtain ⟨pn, pd⟩ := p
      have hks : (⟨pn.toArray⟩ : ByteArray).size = pn.length := str_size pn
      have hkt : (⟨pd.toArray⟩ : ByteArray).size = pd.length := str_size pd
      have hif : (i : Int) < (Fl.length : Int) := by omega
      have hi60 : (i : Int) ≤ 60 := by omega
      clear hp
      go_wp2_with fail
      go_quiet (fail)
      have HP2 : Hid (Pot W (.slice (some ⟨g, o, none⟩) Fl.length capf) (.slice adr Y.length capr) (wr.drewN nq)) := HP.out.drewN nq
      clear x0 x1 d0 d1
      go_wp2_with fail
      exact ⟨⟨i + 1, n + pn.length + pd.length, by simp, by simp, by omega, by omega, HI2.out, HP2.out⟩, by simp [intOf]; omega⟩
    · obtain rfl : i = Fl.length := by omega
      have HFS : Hid (FlSo Fl Fl.length n) := HI.out
      have hnC : n ≤ 17169973579350016 := by omega
      clear HI
      go_wp2_with fail
      go_loopw [3, 5, 6] (fun v3 v5 _ wr => ∃ k n : Nat, v3 = .int .i64 n ∧ v5 = .int .i64 k ∧ k ≤ Y.length ∧ n ≤ (k + 1) * 17169973579350016 ∧ Hid (FlSo Fl Fl.length n) ∧ Hid (RwSo Y k n) ∧ Hid (Pot W (.slice adf Fl.length capf) (.slice adr Y.length capr) wr)) (fun _ v5 _ _ => Y.length - (intOf v5).toNat)
      case atStart => exact ⟨0, n, rfl, rfl, Nat.zero_le _, by omega, HFS.out, fun j p hj => absurd hj (Nat.not_lt_zero _), HP.out⟩
      case round =>
        clear HFS hnC hn d0 d1
        obtain ⟨k, n, rfl, rfl, hk, hn, HFS, HI, HPo⟩ := hrel
        have d0 := HPo.out.2.cell 0
        have d1 := HPo.out.2.cell 1
        have hk61 : k ≤ 61 := by omega
        by_cases hkl : k < Y.length
        · obtain ⟨p, hp⟩ : ∃ p, Y[k]? = some p := ⟨_, List.getElem?_eq_getElem (by omega)⟩
          obtain ⟨g, o, cap', hv, _, x0, x1, _, _, _, x5, _⟩ := (HRA.out _ HPo.out.1).at hp
          cases hv
          obtain ⟨z1, z2, z3, z4⟩ := HSY.out p (List.mem_of_getElem? hp)
          obtain ⟨ada, capa, hva⟩ := ((HRA.out _ HPo.out.1).2 p (List.mem_of_getElem? hp)).form
          rw [hva] at x1
          have hks : (⟨p.1.name.toArray⟩ : ByteArray).size = p.1.name.length := str_size p.1.name
          have hkt : (⟨p.1.out.toArray⟩ : ByteArray).size = p.1.out.length := str_size p.1.out
          have HZ2 : Hid (∀ s ∈ p.1.args, s.length ≤ 140737488355328) := z2
          have hkf : (k : Int) < (Y.length : Int) := by omega
          have hk60 : (k : Int) ≤ 60 := by omega
          have HBW : Hid (Below W.heap.size W wr) := HPo.out.1
          have HPP : Hid (Y[k]? = some p) := hp
          have HVA : Hid (p.2 = .slice ada p.1.args.length capa) := hva
          clear z2 hp hva
          by_cases h120 : 120 < p.1.args.length
          · go_wp2_with fail
            go_ret
            exact ⟨⟨false, rfl, fun h => by cases h⟩, HBW.out⟩
          · go_wp2_with fail
            go_quiet (fail)
            obtain ⟨w2, hw2⟩ : ∃ w2, w2 = wr.drewN nq := ⟨_, rfl⟩
            have HP2 : Hid (Pot W (.slice adf Fl.length capf) (.slice (some ⟨g, o, none⟩) Y.length capr) w2) := by unfold Hid; rw [hw2]; exact HPo.out.drewN nq
            rw [← hw2]
            clear hw2 x0 x1 x5 d0 d1 HPo
            have d1 := HP2.out.2.cell 1
            have d0 := HP2.out.2.cell 0
            obtain ⟨g', o', cap'', hv', _, y0, y1, _, _, _, y5, _⟩ := (HRA.out _ HP2.out.1).at HPP.out
            cases hv'
            rw [HVA.out] at y1
            have HT : Hid (Tx w2 (.slice ada p.1.args.length capa) p.1.args) := by
              unfold Hid
              rw [← HVA.out]
              exact (HRA.out _ HP2.out.1).2 p (List.mem_of_getElem? HPP.out)
            clear y0 y5
            go_wp2_with fail
            go_loopw [3, 6] (fun v3 v6 wi => ∃ q m : Nat, v3 = .int .i64 m ∧ v6 = .int .i64 q ∧ q ≤ p.1.args.length ∧ m ≤ (k + 1) * 17169973579350016 + 281474976710656 + q * 140737488355328 ∧ n + p.1.name.length + p.1.out.length ≤ m ∧ Hid (AgSo p.1.args q m) ∧ w2 = wi) (fun _ v6 _ => p.1.args.length - (intOf v6).toNat)
            case atStart => exact ⟨0, n + p.1.name.length + p.1.out.length, by simp, rfl, Nat.zero_le _, by omega, Nat.le_refl _, fun j s hj => absurd hj (Nat.not_lt_zero _), rfl⟩
            case round =>
              obtain ⟨q, m, rfl, rfl, hq, hm, hnm, HA, hwi⟩ := hrel
              subst hwi
              by_cases hql : q < p.1.args.length
              · obtain ⟨s, hs⟩ : ∃ s, p.1.args[q]? = some s := ⟨_, List.getElem?_eq_getElem hql⟩
                obtain ⟨gl, ol, capl, hvl, _, hgl, hcl⟩ := HT.out.inRow (fun e => by rw [e] at hql; simp at hql)
                cases hvl
                have e1 := hcl q s hs
                have hss : (⟨s.toArray⟩ : ByteArray).size = s.length := str_size s
                have hsl := HZ2.out s (List.mem_of_getElem? hs)
                have HA2 : Hid (AgSo p.1.args (q + 1) (m + s.length)) := fun j t hj ht => by
                  rcases Nat.lt_or_ge j q with h1 | h1
                  · have := HA.out j t h1 ht
                    omega
                  · rw [show j = q by omega, hs] at ht
                    cases ht
                    omega
                clear hcl hgl hs
                go_wp2_with fail
                exact ⟨⟨q + 1, m + s.length, by simp, by simp, by omega, by omega, by omega, HA2.out, trivial⟩, by simp [intOf]; omega⟩
              · obtain rfl : q = p.1.args.length := by omega
                have HFS2 : Hid (FlSo Fl Fl.length m) := fun j t hj ht => by
                  obtain ⟨h1, h2⟩ := HFS.out j t hj ht
                  exact ⟨by omega, by omega⟩
                have HI2 : Hid (RwSo Y (k + 1) m) := fun j t hj ht => by
                  rcases Nat.lt_or_ge j k with h1 | h1
                  · exact RwSo.mono HI.out (by omega) j t h1 ht
                  · rw [show j = k by omega, HPP.out] at ht
                    cases ht
                    refine ⟨by omega, by omega, by omega, fun s hs => ?_⟩
                    obtain ⟨j', hj'⟩ := List.mem_iff_getElem?.1 hs
                    exact HA.out j' s (List.getElem?_eq_some_iff.1 hj').1 hj'
                go_wp2_with fail
                go_roundw
                case rel => exact ⟨k + 1, m, rfl, by simp, by omega, lit_step hm (Nat.le_of_not_lt h120), HFS2.out, HI2.out, HP2.out⟩
                case measure => simp [intOf]; omega
        · obtain rfl : k = Y.length := by omega
          have HBW : Hid (Below W.heap.size W wr) := HPo.out.1
          by_cases hf6 : Fl.length ≤ 60
          · have e60 : (Fl.length : Int) ≤ 60 := by omega
            by_cases hy6 : Y.length ≤ 60
            · have y60 : (Y.length : Int) ≤ 60 := by omega
              by_cases hn6 : n ≤ 60000
              · have n60 : (n : Int) ≤ 60000 := by omega
                go_wp2_with fail
                go_ret
                exact ⟨⟨true, rfl, fun _ => lite_of HFS.out (Nat.le_refl _) HI.out (Nat.le_refl _) hf6 hy6 hn6⟩, HBW.out⟩
              · have n60 : ¬ (n : Int) ≤ 60000 := by omega
                go_wp2_with fail
                go_ret
                exact ⟨⟨false, rfl, fun h => by cases h⟩, HBW.out⟩
            · have y60 : ¬ (Y.length : Int) ≤ 60 := by omega
              go_wp2_with fail
              go_ret
              exact ⟨⟨false, rfl, fun h => by cases h⟩, HBW.out⟩
          · have e60 : ¬ (Fl.length : Int) ≤ 60 := by omega
            go_wp2_with fail
            go_ret
            exact ⟨⟨false, rfl, fun h => by cases h⟩, HBW.out⟩
set_option maxRecDepth 100000 in
set_option maxHeartbeats 4000000 in
theorem light_mf (fv rv : Value) (Fl : Fls) (Y : List (Rw × Value)) (W : World) (hf : FlAt W fv Fl) (hr : RwAt W rv Y) (hF : ∀ p ∈ Fl, p.1.length ≤ 140737488355328 ∧ p.2.length ≤ 140737488355328) (hY : ∀ p ∈ Y, p.1.args.length < 140737488355328 ∧ (∀ s ∈ p.1.args, s.length ≤ 140737488355328) ∧ p.1.name.length ≤ 140737488355328 ∧ p.1.out.length ≤ 140737488355328) (hFl : Fl.length < 4611686018427387904) (hYl : Y.length < 4611686018427387904) (h60 : 61 < Fl.length) (hy60 : Y.length ≤ 61) :
    Calls Tryd.prog 10 #[wV fv rv] W fun e w' => LiteA Fl Y e ∧ Below W.heap.size W w' := by
  have HFA : Hid (∀ W', Below W.heap.size W W' → FlAt W' fv Fl) := fun W' hb => hf.below hb (Nat.le_refl _)
  have HRA : Hid (∀ W', Below W.heap.size W W' → RwAt W' rv Y) := fun W' hb => hr.below hb (Nat.le_refl _)
  have HSF : Hid (∀ p ∈ Fl, p.1.length ≤ 140737488355328 ∧ p.2.length ≤ 140737488355328) := hF
  have HSY : Hid (∀ p ∈ Y, p.1.args.length < 140737488355328 ∧ (∀ s ∈ p.1.args, s.length ≤ 140737488355328) ∧ p.1.name.length ≤ 140737488355328 ∧ p.1.out.length ≤ 140737488355328) := hY
  obtain ⟨adf, capf, rfl⟩ := hf.form
  obtain ⟨adr, capr, rfl⟩ := hr.form
  have HP0 : Hid (Pot W (.slice adf Fl.length capf) (.slice adr Y.length capr) (W.alloc (.cells #[.slice adf Fl.length capf, .slice adr Y.length capr] 25))) := ⟨below_new W _, Cel.new W 25 _⟩
  clear hf hr hF hY
  go_enter Tryd.func10, Tryd.ntmps10
  go_wp2_with fail
  go_loopw [3, 4] (fun v3 v4 wr => ∃ i n : Nat, v3 = .int .i64 n ∧ v4 = .int .i64 i ∧ i ≤ 61 ∧ n ≤ i * 281474976710656 ∧ Hid (FlSo Fl i n) ∧ Hid (Pot W (.slice adf Fl.length capf) (.slice adr Y.length capr) wr)) (fun _ v4 _ => 61 - (intOf v4).toNat)
  case atStart => exact ⟨0, 0, rfl, rfl, Nat.zero_le _, Nat.zero_le _, fun j p hj => absurd hj (Nat.not_lt_zero _), HP0.out⟩
  case round =>
    obtain ⟨i, n, rfl, rfl, hi, hn, HI, HP⟩ := hrel
    have d0 := HP.out.2.cell 0
    have d1 := HP.out.2.cell 1
    have hi61 : i ≤ 61 := by omega
    by_cases hil : i < 61
    · obtain ⟨p, hp⟩ : ∃ p, Fl[i]? = some p := ⟨_, List.getElem?_eq_getElem (by omega)⟩
      obtain ⟨g, o, cap', hv, _, _, x0, x1⟩ := (HFA.out _ HP.out.1).at hp
      cases hv
      obtain ⟨z1, z2⟩ := HSF.out p (List.mem_of_getElem? hp)
      have HI2 : Hid (FlSo Fl (i + 1) (n + p.1.length + p.2.length)) := fun j q hj hq => by
        rcases Nat.lt_or_ge j i with h1 | h1
        · obtain ⟨h2, h3⟩ := HI.out j q h1 hq
          exact ⟨by omega, by omega⟩
        · rw [show j = i by omega, hp] at hq
          cases hq
          exact ⟨by omega, by omega⟩
      obtain ⟨pn, pd⟩ := p
      have hks : (⟨pn.toArray⟩ : ByteArray).size = pn.length := str_size pn
      have hkt : (⟨pd.toArray⟩ : ByteArray).size = pd.length := str_size pd
      have hif : (i : Int) < (Fl.length : Int) := by omega
      have hi60 : (i : Int) ≤ 60 := by omega
      clear hp
      go_wp2_with fail
      go_quiet (fail)
      have HP2 : Hid (Pot W (.slice (some ⟨g, o, none⟩) Fl.length capf) (.slice adr Y.length capr) (wr.drewN nq)) := HP.out.drewN nq
      clear x0 x1 d0 d1
      go_wp2_with fail
      exact ⟨⟨i + 1, n + pn.length + pd.length, by simp, by simp, by omega, by omega, HI2.out, HP2.out⟩, by simp [intOf]; omega⟩
    · obtain rfl : i = 61 := by omega
      have h61 : (61 : Int) < (Fl.length : Int) := by omega
      have HFS : Hid (FlSo Fl 61 n) := HI.out
      have hnC : n ≤ 17169973579350016 := by omega
      clear HI
      go_wp2_with fail
      go_loopw [3, 5, 6] (fun v3 v5 _ wr => ∃ k n : Nat, v3 = .int .i64 n ∧ v5 = .int .i64 k ∧ k ≤ Y.length ∧ n ≤ (k + 1) * 17169973579350016 ∧ Hid (FlSo Fl 61 n) ∧ Hid (RwSo Y k n) ∧ Hid (Pot W (.slice adf Fl.length capf) (.slice adr Y.length capr) wr)) (fun _ v5 _ _ => Y.length - (intOf v5).toNat)
      case atStart => exact ⟨0, n, rfl, rfl, Nat.zero_le _, by omega, HFS.out, fun j p hj => absurd hj (Nat.not_lt_zero _), HP.out⟩
      case round =>
        clear HFS hnC hn d0 d1
        obtain ⟨k, n, rfl, rfl, hk, hn, HFS, HI, HPo⟩ := hrel
        have d0 := HPo.out.2.cell 0
        have d1 := HPo.out.2.cell 1
        have hk61 : k ≤ 61 := by omega
        by_cases hkl : k < Y.length
        · obtain ⟨p, hp⟩ : ∃ p, Y[k]? = some p := ⟨_, List.getElem?_eq_getElem (by omega)⟩
          obtain ⟨g, o, cap', hv, _, x0, x1, _, _, _, x5, _⟩ := (HRA.out _ HPo.out.1).at hp
          cases hv
          obtain ⟨z1, z2, z3, z4⟩ := HSY.out p (List.mem_of_getElem? hp)
          obtain ⟨ada, capa, hva⟩ := ((HRA.out _ HPo.out.1).2 p (List.mem_of_getElem? hp)).form
          rw [hva] at x1
          have hks : (⟨p.1.name.toArray⟩ : ByteArray).size = p.1.name.length := str_size p.1.name
          have hkt : (⟨p.1.out.toArray⟩ : ByteArray).size = p.1.out.length := str_size p.1.out
          have HZ2 : Hid (∀ s ∈ p.1.args, s.length ≤ 140737488355328) := z2
          have hkf : (k : Int) < (Y.length : Int) := by omega
          have hk60 : (k : Int) ≤ 60 := by omega
          have HBW : Hid (Below W.heap.size W wr) := HPo.out.1
          have HPP : Hid (Y[k]? = some p) := hp
          have HVA : Hid (p.2 = .slice ada p.1.args.length capa) := hva
          clear z2 hp hva
          by_cases h120 : 120 < p.1.args.length
          · go_wp2_with fail
            go_ret
            exact ⟨⟨false, rfl, fun h => by cases h⟩, HBW.out⟩
          · go_wp2_with fail
            go_quiet (fail)
            obtain ⟨w2, hw2⟩ : ∃ w2, w2 = wr.drewN nq := ⟨_, rfl⟩
            have HP2 : Hid (Pot W (.slice adf Fl.length capf) (.slice (some ⟨g, o, none⟩) Y.length capr) w2) := by unfold Hid; rw [hw2]; exact HPo.out.drewN nq
            rw [← hw2]
            clear hw2 x0 x1 x5 d0 d1 HPo
            have d1 := HP2.out.2.cell 1
            have d0 := HP2.out.2.cell 0
            obtain ⟨g', o', cap'', hv', _, y0, y1, _, _, _, y5, _⟩ := (HRA.out _ HP2.out.1).at HPP.out
            cases hv'
            rw [HVA.out] at y1
            have HT : Hid (Tx w2 (.slice ada p.1.args.length capa) p.1.args) := by
              unfold Hid
              rw [← HVA.out]
              exact (HRA.out _ HP2.out.1).2 p (List.mem_of_getElem? HPP.out)
            clear y0 y5
            go_wp2_with fail
            go_loopw [3, 6] (fun v3 v6 wi => ∃ q m : Nat, v3 = .int .i64 m ∧ v6 = .int .i64 q ∧ q ≤ p.1.args.length ∧ m ≤ (k + 1) * 17169973579350016 + 281474976710656 + q * 140737488355328 ∧ n + p.1.name.length + p.1.out.length ≤ m ∧ Hid (AgSo p.1.args q m) ∧ w2 = wi) (fun _ v6 _ => p.1.args.length - (intOf v6).toNat)
            case atStart => exact ⟨0, n + p.1.name.length + p.1.out.length, by simp, rfl, Nat.zero_le _, by omega, Nat.le_refl _, fun j s hj => absurd hj (Nat.not_lt_zero _), rfl⟩
            case round =>
              obtain ⟨q, m, rfl, rfl, hq, hm, hnm, HA, hwi⟩ := hrel
              subst hwi
              by_cases hql : q < p.1.args.length
              · obtain ⟨s, hs⟩ : ∃ s, p.1.args[q]? = some s := ⟨_, List.getElem?_eq_getElem hql⟩
                obtain ⟨gl, ol, capl, hvl, _, hgl, hcl⟩ := HT.out.inRow (fun e => by rw [e] at hql; simp at hql)
                cases hvl
                have e1 := hcl q s hs
                have hss : (⟨s.toArray⟩ : ByteArray).size = s.length := str_size s
                have hsl := HZ2.out s (List.mem_of_getElem? hs)
                have HA2 : Hid (AgSo p.1.args (q + 1) (m + s.length)) := fun j t hj ht => by
                  rcases Nat.lt_or_ge j q with h1 | h1
                  · have := HA.out j t h1 ht
                    omega
                  · rw [show j = q by omega, hs] at ht
                    cases ht
                    omega
                clear hcl hgl hs
                go_wp2_with fail
                exact ⟨⟨q + 1, m + s.length, by simp, by simp, by omega, by omega, by omega, HA2.out, trivial⟩, by simp [intOf]; omega⟩
              · obtain rfl : q = p.1.args.length := by omega
                have HFS2 : Hid (FlSo Fl 61 m) := fun j t hj ht => by
                  obtain ⟨h1, h2⟩ := HFS.out j t hj ht
                  exact ⟨by omega, by omega⟩
                have HI2 : Hid (RwSo Y (k + 1) m) := fun j t hj ht => by
                  rcases Nat.lt_or_ge j k with h1 | h1
                  · exact RwSo.mono HI.out (by omega) j t h1 ht
                  · rw [show j = k by omega, HPP.out] at ht
                    cases ht
                    refine ⟨by omega, by omega, by omega, fun s hs => ?_⟩
                    obtain ⟨j', hj'⟩ := List.mem_iff_getElem?.1 hs
                    exact HA.out j' s (List.getElem?_eq_some_iff.1 hj').1 hj'
                go_wp2_with fail
                go_roundw
                case rel => exact ⟨k + 1, m, rfl, by simp, by omega, lit_step hm (Nat.le_of_not_lt h120), HFS2.out, HI2.out, HP2.out⟩
                case measure => simp [intOf]; omega
        · obtain rfl : k = Y.length := by omega
          have HBW : Hid (Below W.heap.size W wr) := HPo.out.1
          have e60 : ¬ (Fl.length : Int) ≤ 60 := by omega
          go_wp2_with fail
          go_ret
          exact ⟨⟨false, rfl, fun h => by cases h⟩, HBW.out⟩
set_option maxRecDepth 100000 in
set_option maxHeartbeats 4000000 in
theorem light_fm (fv rv : Value) (Fl : Fls) (Y : List (Rw × Value)) (W : World) (hf : FlAt W fv Fl) (hr : RwAt W rv Y) (hF : ∀ p ∈ Fl, p.1.length ≤ 140737488355328 ∧ p.2.length ≤ 140737488355328) (hY : ∀ p ∈ Y, p.1.args.length < 140737488355328 ∧ (∀ s ∈ p.1.args, s.length ≤ 140737488355328) ∧ p.1.name.length ≤ 140737488355328 ∧ p.1.out.length ≤ 140737488355328) (hFl : Fl.length < 4611686018427387904) (hYl : Y.length < 4611686018427387904) (h60 : Fl.length ≤ 61) (hy60 : 61 < Y.length) :
    Calls Tryd.prog 10 #[wV fv rv] W fun e w' => LiteA Fl Y e ∧ Below W.heap.size W w' := by
  have HFA : Hid (∀ W', Below W.heap.size W W' → FlAt W' fv Fl) := fun W' hb => hf.below hb (Nat.le_refl _)
  have HRA : Hid (∀ W', Below W.heap.size W W' → RwAt W' rv Y) := fun W' hb => hr.below hb (Nat.le_refl _)
  have HSF : Hid (∀ p ∈ Fl, p.1.length ≤ 140737488355328 ∧ p.2.length ≤ 140737488355328) := hF
  have HSY : Hid (∀ p ∈ Y, p.1.args.length < 140737488355328 ∧ (∀ s ∈ p.1.args, s.length ≤ 140737488355328) ∧ p.1.name.length ≤ 140737488355328 ∧ p.1.out.length ≤ 140737488355328) := hY
  obtain ⟨adf, capf, rfl⟩ := hf.form
  obtain ⟨adr, capr, rfl⟩ := hr.form
  have HP0 : Hid (Pot W (.slice adf Fl.length capf) (.slice adr Y.length capr) (W.alloc (.cells #[.slice adf Fl.length capf, .slice adr Y.length capr] 25))) := ⟨below_new W _, Cel.new W 25 _⟩
  clear hf hr hF hY
  go_enter Tryd.func10, Tryd.ntmps10
  go_wp2_with fail
  go_loopw [3, 4] (fun v3 v4 wr => ∃ i n : Nat, v3 = .int .i64 n ∧ v4 = .int .i64 i ∧ i ≤ Fl.length ∧ n ≤ i * 281474976710656 ∧ Hid (FlSo Fl i n) ∧ Hid (Pot W (.slice adf Fl.length capf) (.slice adr Y.length capr) wr)) (fun _ v4 _ => Fl.length - (intOf v4).toNat)
  case atStart => exact ⟨0, 0, rfl, rfl, Nat.zero_le _, Nat.zero_le _, fun j p hj => absurd hj (Nat.not_lt_zero _), HP0.out⟩
  case round =>
    obtain ⟨i, n, rfl, rfl, hi, hn, HI, HP⟩ := hrel
    have d0 := HP.out.2.cell 0
    have d1 := HP.out.2.cell 1
    have hi61 : i ≤ 61 := by omega
    by_cases hil : i < Fl.length
    · obtain ⟨p, hp⟩ : ∃ p, Fl[i]? = some p := ⟨_, List.getElem?_eq_getElem (by omega)⟩
      obtain ⟨g, o, cap', hv, _, _, x0, x1⟩ := (HFA.out _ HP.out.1).at hp
      cases hv
      obtain ⟨z1, z2⟩ := HSF.out p (List.mem_of_getElem? hp)
      have HI2 : Hid (FlSo Fl (i + 1) (n + p.1.length + p.2.length)) := fun j q hj hq => by
        rcases Nat.lt_or_ge j i with h1 | h1
        · obtain ⟨h2, h3⟩ := HI.out j q h1 hq
          exact ⟨by omega, by omega⟩
        · rw [show j = i by omega, hp] at hq
          cases hq
          exact ⟨by omega, by omega⟩
      obtain ⟨pn, pd⟩ := p
      have hks : (⟨pn.toArray⟩ : ByteArray).size = pn.length := str_size pn
      have hkt : (⟨pd.toArray⟩ : ByteArray).size = pd.length := str_size pd
      have hif : (i : Int) < (Fl.length : Int) := by omega
      have hi60 : (i : Int) ≤ 60 := by omega
      clear hp
      go_wp2_with fail
      go_quiet (fail)
      have HP2 : Hid (Pot W (.slice (some ⟨g, o, none⟩) Fl.length capf) (.slice adr Y.length capr) (wr.drewN nq)) := HP.out.drewN nq
      clear x0 x1 d0 d1
      go_wp2_with fail
      exact ⟨⟨i + 1, n + pn.length + pd.length, by simp, by simp, by omega, by omega, HI2.out, HP2.out⟩, by simp [intOf]; omega⟩
    · obtain rfl : i = Fl.length := by omega
      have HFS : Hid (FlSo Fl Fl.length n) := HI.out
      have hnC : n ≤ 17169973579350016 := by omega
      clear HI
      go_wp2_with fail
      go_loopw [3, 5, 6] (fun v3 v5 _ wr => ∃ k n : Nat, v3 = .int .i64 n ∧ v5 = .int .i64 k ∧ k ≤ 61 ∧ n ≤ (k + 1) * 17169973579350016 ∧ Hid (FlSo Fl Fl.length n) ∧ Hid (RwSo Y k n) ∧ Hid (Pot W (.slice adf Fl.length capf) (.slice adr Y.length capr) wr)) (fun _ v5 _ _ => 61 - (intOf v5).toNat)
      case atStart => exact ⟨0, n, rfl, rfl, Nat.zero_le _, by omega, HFS.out, fun j p hj => absurd hj (Nat.not_lt_zero _), HP.out⟩
      case round =>
        clear HFS hnC hn d0 d1
        obtain ⟨k, n, rfl, rfl, hk, hn, HFS, HI, HPo⟩ := hrel
        have d0 := HPo.out.2.cell 0
        have d1 := HPo.out.2.cell 1
        have hk61 : k ≤ 61 := by omega
        by_cases hkl : k < 61
        · obtain ⟨p, hp⟩ : ∃ p, Y[k]? = some p := ⟨_, List.getElem?_eq_getElem (by omega)⟩
          obtain ⟨g, o, cap', hv, _, x0, x1, _, _, _, x5, _⟩ := (HRA.out _ HPo.out.1).at hp
          cases hv
          obtain ⟨z1, z2, z3, z4⟩ := HSY.out p (List.mem_of_getElem? hp)
          obtain ⟨ada, capa, hva⟩ := ((HRA.out _ HPo.out.1).2 p (List.mem_of_getElem? hp)).form
          rw [hva] at x1
          have hks : (⟨p.1.name.toArray⟩ : ByteArray).size = p.1.name.length := str_size p.1.name
          have hkt : (⟨p.1.out.toArray⟩ : ByteArray).size = p.1.out.length := str_size p.1.out
          have HZ2 : Hid (∀ s ∈ p.1.args, s.length ≤ 140737488355328) := z2
          have hkf : (k : Int) < (Y.length : Int) := by omega
          have hk60 : (k : Int) ≤ 60 := by omega
          have HBW : Hid (Below W.heap.size W wr) := HPo.out.1
          have HPP : Hid (Y[k]? = some p) := hp
          have HVA : Hid (p.2 = .slice ada p.1.args.length capa) := hva
          clear z2 hp hva
          by_cases h120 : 120 < p.1.args.length
          · go_wp2_with fail
            go_ret
            exact ⟨⟨false, rfl, fun h => by cases h⟩, HBW.out⟩
          · go_wp2_with fail
            go_quiet (fail)
            obtain ⟨w2, hw2⟩ : ∃ w2, w2 = wr.drewN nq := ⟨_, rfl⟩
            have HP2 : Hid (Pot W (.slice adf Fl.length capf) (.slice (some ⟨g, o, none⟩) Y.length capr) w2) := by unfold Hid; rw [hw2]; exact HPo.out.drewN nq
            rw [← hw2]
            clear hw2 x0 x1 x5 d0 d1 HPo
            have d1 := HP2.out.2.cell 1
            have d0 := HP2.out.2.cell 0
            obtain ⟨g', o', cap'', hv', _, y0, y1, _, _, _, y5, _⟩ := (HRA.out _ HP2.out.1).at HPP.out
            cases hv'
            rw [HVA.out] at y1
            have HT : Hid (Tx w2 (.slice ada p.1.args.length capa) p.1.args) := by
              unfold Hid
              rw [← HVA.out]
              exact (HRA.out _ HP2.out.1).2 p (List.mem_of_getElem? HPP.out)
            clear y0 y5
            go_wp2_with fail
            go_loopw [3, 6] (fun v3 v6 wi => ∃ q m : Nat, v3 = .int .i64 m ∧ v6 = .int .i64 q ∧ q ≤ p.1.args.length ∧ m ≤ (k + 1) * 17169973579350016 + 281474976710656 + q * 140737488355328 ∧ n + p.1.name.length + p.1.out.length ≤ m ∧ Hid (AgSo p.1.args q m) ∧ w2 = wi) (fun _ v6 _ => p.1.args.length - (intOf v6).toNat)
            case atStart => exact ⟨0, n + p.1.name.length + p.1.out.length, by simp, rfl, Nat.zero_le _, by omega, Nat.le_refl _, fun j s hj => absurd hj (Nat.not_lt_zero _), rfl⟩
            case round =>
              obtain ⟨q, m, rfl, rfl, hq, hm, hnm, HA, hwi⟩ := hrel
              subst hwi
              by_cases hql : q < p.1.args.length
              · obtain ⟨s, hs⟩ : ∃ s, p.1.args[q]? = some s := ⟨_, List.getElem?_eq_getElem hql⟩
                obtain ⟨gl, ol, capl, hvl, _, hgl, hcl⟩ := HT.out.inRow (fun e => by rw [e] at hql; simp at hql)
                cases hvl
                have e1 := hcl q s hs
                have hss : (⟨s.toArray⟩ : ByteArray).size = s.length := str_size s
                have hsl := HZ2.out s (List.mem_of_getElem? hs)
                have HA2 : Hid (AgSo p.1.args (q + 1) (m + s.length)) := fun j t hj ht => by
                  rcases Nat.lt_or_ge j q with h1 | h1
                  · have := HA.out j t h1 ht
                    omega
                  · rw [show j = q by omega, hs] at ht
                    cases ht
                    omega
                clear hcl hgl hs
                go_wp2_with fail
                exact ⟨⟨q + 1, m + s.length, by simp, by simp, by omega, by omega, by omega, HA2.out, trivial⟩, by simp [intOf]; omega⟩
              · obtain rfl : q = p.1.args.length := by omega
                have HFS2 : Hid (FlSo Fl Fl.length m) := fun j t hj ht => by
                  obtain ⟨h1, h2⟩ := HFS.out j t hj ht
                  exact ⟨by omega, by omega⟩
                have HI2 : Hid (RwSo Y (k + 1) m) := fun j t hj ht => by
                  rcases Nat.lt_or_ge j k with h1 | h1
                  · exact RwSo.mono HI.out (by omega) j t h1 ht
                  · rw [show j = k by omega, HPP.out] at ht
                    cases ht
                    refine ⟨by omega, by omega, by omega, fun s hs => ?_⟩
                    obtain ⟨j', hj'⟩ := List.mem_iff_getElem?.1 hs
                    exact HA.out j' s (List.getElem?_eq_some_iff.1 hj').1 hj'
                go_wp2_with fail
                go_roundw
                case rel => exact ⟨k + 1, m, rfl, by simp, by omega, lit_step hm (Nat.le_of_not_lt h120), HFS2.out, HI2.out, HP2.out⟩
                case measure => simp [intOf]; omega
        · obtain rfl : k = 61 := by omega
          have HBW : Hid (Below W.heap.size W wr) := HPo.out.1
          have y61 : (61 : Int) < (Y.length : Int) := by omega
          by_cases hf6 : Fl.length ≤ 60
          · have e60 : (Fl.length : Int) ≤ 60 := by omega
            have y60 : ¬ (Y.length : Int) ≤ 60 := by omega
            go_wp2_with fail
            go_ret
            exact ⟨⟨false, rfl, fun h => by cases h⟩, HBW.out⟩
          · have e60 : ¬ (Fl.length : Int) ≤ 60 := by omega
            go_wp2_with fail
            go_ret
            exact ⟨⟨false, rfl, fun h => by cases h⟩, HBW.out⟩
set_option maxRecDepth 100000 in
set_option maxHeartbeats 4000000 in
theorem light_mm (fv rv : Value) (Fl : Fls) (Y : List (Rw × Value)) (W : World) (hf : FlAt W fv Fl) (hr : RwAt W rv Y) (hF : ∀ p ∈ Fl, p.1.length ≤ 140737488355328 ∧ p.2.length ≤ 140737488355328) (hY : ∀ p ∈ Y, p.1.args.length < 140737488355328 ∧ (∀ s ∈ p.1.args, s.length ≤ 140737488355328) ∧ p.1.name.length ≤ 140737488355328 ∧ p.1.out.length ≤ 140737488355328) (hFl : Fl.length < 4611686018427387904) (hYl : Y.length < 4611686018427387904) (h60 : 61 < Fl.length) (hy60 : 61 < Y.length) :
    Calls Tryd.prog 10 #[wV fv rv] W fun e w' => LiteA Fl Y e ∧ Below W.heap.size W w' := by
  have HFA : Hid (∀ W', Below W.heap.size W W' → FlAt W' fv Fl) := fun W' hb => hf.below hb (Nat.le_refl _)
  have HRA : Hid (∀ W', Below W.heap.size W W' → RwAt W' rv Y) := fun W' hb => hr.below hb (Nat.le_refl _)
  have HSF : Hid (∀ p ∈ Fl, p.1.length ≤ 140737488355328 ∧ p.2.length ≤ 140737488355328) := hF
  have HSY : Hid (∀ p ∈ Y, p.1.args.length < 140737488355328 ∧ (∀ s ∈ p.1.args, s.length ≤ 140737488355328) ∧ p.1.name.length ≤ 140737488355328 ∧ p.1.out.length ≤ 140737488355328) := hY
  obtain ⟨adf, capf, rfl⟩ := hf.form
  obtain ⟨adr, capr, rfl⟩ := hr.form
  have HP0 : Hid (Pot W (.slice adf Fl.length capf) (.slice adr Y.length capr) (W.alloc (.cells #[.slice adf Fl.length capf, .slice adr Y.length capr] 25))) := ⟨below_new W _, Cel.new W 25 _⟩
  clear hf hr hF hY
  go_enter Tryd.func10, Tryd.ntmps10
  go_wp2_with fail
  go_loopw [3, 4] (fun v3 v4 wr => ∃ i n : Nat, v3 = .int .i64 n ∧ v4 = .int .i64 i ∧ i ≤ 61 ∧ n ≤ i * 281474976710656 ∧ Hid (FlSo Fl i n) ∧ Hid (Pot W (.slice adf Fl.length capf) (.slice adr Y.length capr) wr)) (fun _ v4 _ => 61 - (intOf v4).toNat)
  case atStart => exact ⟨0, 0, rfl, rfl, Nat.zero_le _, Nat.zero_le _, fun j p hj => absurd hj (Nat.not_lt_zero _), HP0.out⟩
  case round =>
    obtain ⟨i, n, rfl, rfl, hi, hn, HI, HP⟩ := hrel
    have d0 := HP.out.2.cell 0
    have d1 := HP.out.2.cell 1
    have hi61 : i ≤ 61 := by omega
    by_cases hil : i < 61
    · obtain ⟨p, hp⟩ : ∃ p, Fl[i]? = some p := ⟨_, List.getElem?_eq_getElem (by omega)⟩
      obtain ⟨g, o, cap', hv, _, _, x0, x1⟩ := (HFA.out _ HP.out.1).at hp
      cases hv
      obtain ⟨z1, z2⟩ := HSF.out p (List.mem_of_getElem? hp)
      have HI2 : Hid (FlSo Fl (i + 1) (n + p.1.length + p.2.length)) := fun j q hj hq => by
        rcases Nat.lt_or_ge j i with h1 | h1
        · obtain ⟨h2, h3⟩ := HI.out j q h1 hq
          exact ⟨by omega, by omega⟩
        · rw [show j = i by omega, hp] at hq
          cases hq
          exact ⟨by omega, by omega⟩
      obtain ⟨pn, pd⟩ := p
      have hks : (⟨pn.toArray⟩ : ByteArray).size = pn.length := str_size pn
      have hkt : (⟨pd.toArray⟩ : ByteArray).size = pd.length := str_size pd
      have hif : (i : Int) < (Fl.length : Int) := by omega
      have hi60 : (i : Int) ≤ 60 := by omega
      clear hp
      go_wp2_with fail
      go_quiet (fail)
      have HP2 : Hid (Pot W (.slice (some ⟨g, o, none⟩) Fl.length capf) (.slice adr Y.length capr) (wr.drewN nq)) := HP.out.drewN nq
      clear x0 x1 d0 d1
      go_wp2_with fail
      exact ⟨⟨i + 1, n + pn.length + pd.length, by simp, by simp, by omega, by omega, HI2.out, HP2.out⟩, by simp [intOf]; omega⟩
    · obtain rfl : i = 61 := by omega
      have h61 : (61 : Int) < (Fl.length : Int) := by omega
      have HFS : Hid (FlSo Fl 61 n) := HI.out
      have hnC : n ≤ 17169973579350016 := by omega
      clear HI
      go_wp2_with fail
      go_loopw [3, 5, 6] (fun v3 v5 _ wr => ∃ k n : Nat, v3 = .int .i64 n ∧ v5 = .int .i64 k ∧ k ≤ 61 ∧ n ≤ (k + 1) * 17169973579350016 ∧ Hid (FlSo Fl 61 n) ∧ Hid (RwSo Y k n) ∧ Hid (Pot W (.slice adf Fl.length capf) (.slice adr Y.length capr) wr)) (fun _ v5 _ _ => 61 - (intOf v5).toNat)
      case atStart => exact ⟨0, n, rfl, rfl, Nat.zero_le _, by omega, HFS.out, fun j p hj => absurd hj (Nat.not_lt_zero _), HP.out⟩
      case round =>
        clear HFS hnC hn d0 d1
        obtain ⟨k, n, rfl, rfl, hk, hn, HFS, HI, HPo⟩ := hrel
        have d0 := HPo.out.2.cell 0
        have d1 := HPo.out.2.cell 1
        have hk61 : k ≤ 61 := by omega
        by_cases hkl : k < 61
        · obtain ⟨p, hp⟩ : ∃ p, Y[k]? = some p := ⟨_, List.getElem?_eq_getElem (by omega)⟩
          obtain ⟨g, o, cap', hv, _, x0, x1, _, _, _, x5, _⟩ := (HRA.out _ HPo.out.1).at hp
          cases hv
          obtain ⟨z1, z2, z3, z4⟩ := HSY.out p (List.mem_of_getElem? hp)
          obtain ⟨ada, capa, hva⟩ := ((HRA.out _ HPo.out.1).2 p (List.mem_of_getElem? hp)).form
          rw [hva] at x1
          have hks : (⟨p.1.name.toArray⟩ : ByteArray).size = p.1.name.length := str_size p.1.name
          have hkt : (⟨p.1.out.toArray⟩ : ByteArray).size = p.1.out.length := str_size p.1.out
          have HZ2 : Hid (∀ s ∈ p.1.args, s.length ≤ 140737488355328) := z2
          have hkf : (k : Int) < (Y.length : Int) := by omega
          have hk60 : (k : Int) ≤ 60 := by omega
          have HBW : Hid (Below W.heap.size W wr) := HPo.out.1
          have HPP : Hid (Y[k]? = some p) := hp
          have HVA : Hid (p.2 = .slice ada p.1.args.length capa) := hva
          clear z2 hp hva
          by_cases h120 : 120 < p.1.args.length
          · go_wp2_with fail
            go_ret
            exact ⟨⟨false, rfl, fun h => by cases h⟩, HBW.out⟩
          · go_wp2_with fail
            go_quiet (fail)
            obtain ⟨w2, hw2⟩ : ∃ w2, w2 = wr.drewN nq := ⟨_, rfl⟩
            have HP2 : Hid (Pot W (.slice adf Fl.length capf) (.slice (some ⟨g, o, none⟩) Y.length capr) w2) := by unfold Hid; rw [hw2]; exact HPo.out.drewN nq
            rw [← hw2]
            clear hw2 x0 x1 x5 d0 d1 HPo
            have d1 := HP2.out.2.cell 1
            have d0 := HP2.out.2.cell 0
            obtain ⟨g', o', cap'', hv', _, y0, y1, _, _, _, y5, _⟩ := (HRA.out _ HP2.out.1).at HPP.out
            cases hv'
            rw [HVA.out] at y1
            have HT : Hid (Tx w2 (.slice ada p.1.args.length capa) p.1.args) := by
              unfold Hid
              rw [← HVA.out]
              exact (HRA.out _ HP2.out.1).2 p (List.mem_of_getElem? HPP.out)
            clear y0 y5
            go_wp2_with fail
            go_loopw [3, 6] (fun v3 v6 wi => ∃ q m : Nat, v3 = .int .i64 m ∧ v6 = .int .i64 q ∧ q ≤ p.1.args.length ∧ m ≤ (k + 1) * 17169973579350016 + 281474976710656 + q * 140737488355328 ∧ n + p.1.name.length + p.1.out.length ≤ m ∧ Hid (AgSo p.1.args q m) ∧ w2 = wi) (fun _ v6 _ => p.1.args.length - (intOf v6).toNat)
            case atStart => exact ⟨0, n + p.1.name.length + p.1.out.length, by simp, rfl, Nat.zero_le _, by omega, Nat.le_refl _, fun j s hj => absurd hj (Nat.not_lt_zero _), rfl⟩
            case round =>
              obtain ⟨q, m, rfl, rfl, hq, hm, hnm, HA, hwi⟩ := hrel
              subst hwi
              by_cases hql : q < p.1.args.length
              · obtain ⟨s, hs⟩ : ∃ s, p.1.args[q]? = some s := ⟨_, List.getElem?_eq_getElem hql⟩
                obtain ⟨gl, ol, capl, hvl, _, hgl, hcl⟩ := HT.out.inRow (fun e => by rw [e] at hql; simp at hql)
                cases hvl
                have e1 := hcl q s hs
                have hss : (⟨s.toArray⟩ : ByteArray).size = s.length := str_size s
                have hsl := HZ2.out s (List.mem_of_getElem? hs)
                have HA2 : Hid (AgSo p.1.args (q + 1) (m + s.length)) := fun j t hj ht => by
                  rcases Nat.lt_or_ge j q with h1 | h1
                  · have := HA.out j t h1 ht
                    omega
                  · rw [show j = q by omega, hs] at ht
                    cases ht
                    omega
                clear hcl hgl hs
                go_wp2_with fail
                exact ⟨⟨q + 1, m + s.length, by simp, by simp, by omega, by omega, by omega, HA2.out, trivial⟩, by simp [intOf]; omega⟩
              · obtain rfl : q = p.1.args.length := by omega
                have HFS2 : Hid (FlSo Fl 61 m) := fun j t hj ht => by
                  obtain ⟨h1, h2⟩ := HFS.out j t hj ht
                  exact ⟨by omega, by omega⟩
                have HI2 : Hid (RwSo Y (k + 1) m) := fun j t hj ht => by
                  rcases Nat.lt_or_ge j k with h1 | h1
                  · exact RwSo.mono HI.out (by omega) j t h1 ht
                  · rw [show j = k by omega, HPP.out] at ht
                    cases ht
                    refine ⟨by omega, by omega, by omega, fun s hs => ?_⟩
                    obtain ⟨j', hj'⟩ := List.mem_iff_getElem?.1 hs
                    exact HA.out j' s (List.getElem?_eq_some_iff.1 hj').1 hj'
                go_wp2_with fail
                go_roundw
                case rel => exact ⟨k + 1, m, rfl, by simp, by omega, lit_step hm (Nat.le_of_not_lt h120), HFS2.out, HI2.out, HP2.out⟩
                case measure => simp [intOf]; omega
        · obtain rfl : k = 61 := by omega
          have HBW : Hid (Below W.heap.size W wr) := HPo.out.1
          have y61 : (61 : Int) < (Y.length : Int) := by omega
          have e60 : ¬ (Fl.length : Int) ≤ 60 := by omega
          go_wp2_with fail
          go_ret
          exact ⟨⟨false, rfl, fun h => by cases h⟩, HBW.out⟩
theorem light_any (fv rv : Value) (Fl : Fls) (Y : List (Rw × Value)) (W : World) (hf : FlAt W fv Fl) (hr : RwAt W rv Y) (hF : ∀ p ∈ Fl, p.1.length ≤ 140737488355328 ∧ p.2.length ≤ 140737488355328) (hY : ∀ p ∈ Y, p.1.args.length < 140737488355328 ∧ (∀ s ∈ p.1.args, s.length ≤ 140737488355328) ∧ p.1.name.length ≤ 140737488355328 ∧ p.1.out.length ≤ 140737488355328) (hFl : Fl.length < 4611686018427387904) (hYl : Y.length < 4611686018427387904) :
    Calls Tryd.prog 10 #[wV fv rv] W fun e w' => LiteA Fl Y e ∧ Below W.heap.size W w' := by
  rcases Nat.lt_or_ge 61 Fl.length with h1 | h1 <;> rcases Nat.lt_or_ge 61 Y.length with h2 | h2
  · exact light_mm fv rv Fl Y W hf hr hF hY hFl hYl h1 h2
  · exact light_mf fv rv Fl Y W hf hr hF hY hFl hYl h1 h2
  · exact light_fm fv rv Fl Y W hf hr hF hY hFl hYl h1 h2
  · exact light_ff fv rv Fl Y W hf hr hF hY hFl hYl h1 h2
end Go.Proofs.YthhghkjgffcpeaaDoor
