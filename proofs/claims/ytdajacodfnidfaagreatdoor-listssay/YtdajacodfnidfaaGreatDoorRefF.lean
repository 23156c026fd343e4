/- The document's own answers: has. -/
import Derived.Test.YtdajacodfnidfaaGreatDoorRefE
namespace Go.Proofs.YtdajacodfnidfaaGreatDoor
open Go.RowKit Go.Shelf

theorem fill_or : ∀ (n : Nat) (l : List Lt) (f : Nat → Bool) (c : Nat), l.length ≤ n → fillS l f c = (f c || fillS l setNo c)
  | _, [], f, c, _ => by simp [fillS, setNo]
  | _, [a], f, c, _ => by simp [fillS, setAdd, setNo]
  | n, [a, b], f, c, _ => by simp [fillS, setAdd, setNo, Bool.or_assoc]
  | 0, _ :: _ :: _ :: _, _, _, h => by simp at h
  | n + 1, a :: b :: d :: r, f, c, h => by
    simp only [List.length_cons] at h
    have e : ∀ f, fillS (a :: b :: d :: r) f = if isL b 45 then fillS r (setAdd f a.1.toNat d.1.toNat) else fillS (b :: d :: r) (setAdd f a.1.toNat a.1.toNat) := fun f => by rw [fillS]
    rw [e, e]
    split
    · rw [fill_or n r _ c (by omega), fill_or n r (setAdd setNo _ _) c (by omega)]
      simp [setAdd, setNo, Bool.or_assoc]
    · rw [fill_or n _ _ c (by simp; omega), fill_or n _ (setAdd setNo _ _) c (by simp; omega)]
      simp [setAdd, setNo, Bool.or_assoc]
theorem fill_range (L : List Lt) (i : Nat) (x y z : Lt) (c : Nat) (hx : L[i]? = some x) (hy : L[i + 1]? = some y) (hz : L[i + 2]? = some z) (h : isL y 45 = true) :
    fillS (L.drop i) setNo c = (decide (x.1.toNat ≤ c) && decide (c ≤ z.1.toNat) || fillS (L.drop (i + 3)) setNo c) := by
  rw [drop_cons hx, drop_cons hy, drop_cons hz, fillS, if_pos h, fill_or _ _ _ _ (Nat.le_refl _)]
  simp [setAdd, setNo]
theorem fill_one (L : List Lt) (i : Nat) (x : Lt) (c : Nat) (hx : L[i]? = some x) (h : i + 2 < L.length → ∃ y, L[i + 1]? = some y ∧ isL y 45 = false) :
    fillS (L.drop i) setNo c = (decide (x.1.toNat = c) || fillS (L.drop (i + 1)) setNo c) := by
  have e2 : (decide (x.1.toNat ≤ c) && decide (c ≤ x.1.toNat)) = decide (x.1.toNat = c) := by
    rw [Bool.eq_iff_iff]; simp; omega
  rw [drop_cons hx]
  have hlen : (L.drop (i + 1)).length = L.length - (i + 1) := by simp
  have hget : ∀ j, (L.drop (i + 1))[j]? = L[i + 1 + j]? := fun j => by rw [List.getElem?_drop]
  generalize L.drop (i + 1) = r at hlen hget ⊢
  match r with
  | [] => simp [fillS, setAdd, setNo, ← e2]
  | [b] =>
    have e3 : fillS [x, b] setNo = fillS [b] (setAdd setNo x.1.toNat x.1.toNat) := by simp only [fillS]
    rw [e3, fill_or _ _ _ _ (Nat.le_refl _)]
    simp only [setAdd, setNo, Bool.false_or, e2]
  | b :: d :: r =>
    simp only [List.length_cons] at hlen
    obtain ⟨y, h1, h2⟩ := h (by omega)
    have h3 := hget 0
    rw [Nat.add_zero, h1] at h3
    simp at h3
    subst h3
    rw [fillS, if_neg (by rw [h2]; simp), fill_or _ _ _ _ (Nat.le_refl _)]
    simp only [setAdd, setNo, Bool.false_or, e2]

set_option maxRecDepth 100000 in
set_option maxHeartbeats 4000000 in
theorem rhas_any (g o cap : Nat) (L : List Lt) (c : UInt8) (hl : L.length < 4294967296) (_hcap : L.length ≤ cap) (w : World) (h : LtAt w g o (dd L)) :
    Calls Tryz.prog 98 #[.slice (some ⟨g, o, none⟩) L.length cap, .int .u8 c.toNat] w fun e w' => e = .returned (.bool (fillS L setNo c.toNat)) ∧ w' = w := by
  have H : Hid (LtAt w g o (dd L)) := h
  clear h
  obtain ⟨A, hA⟩ : ∃ A, fillS L setNo c.toNat = A := ⟨_, rfl⟩
  have HA : Hid _ := hA
  rw [hA]
  clear hA
  go_enter Tryz.func98, Tryz.ntmps98
  go_wp2_with fail
  go_loopw [5] (fun ve wr => ∃ i : Nat, ve = .int .i64 i ∧ i ≤ L.length ∧ Hid (fillS (L.drop i) setNo c.toNat = A) ∧ wr = w) (fun ve _ => L.length - (intOf ve).toNat)
  case atStart => exact ⟨0, by simp, by omega, by rw [List.drop_zero]; exact HA.out, rfl⟩
  case round =>
    obtain ⟨i, rfl, hi, HE, hwr⟩ := hrel
    obtain rfl := hwr.symm
    by_cases hil : i < L.length
    · obtain ⟨x, hx⟩ : ∃ x, L[i]? = some x := ⟨_, List.getElem?_eq_getElem hil⟩
      obtain ⟨q1, q2⟩ := H.out _ _ (dd_get hx)
      dsimp only at q1 q2
      have ONE : Hid ((i + 2 < L.length → ∃ y, L[i + 1]? = some y ∧ isL y 45 = false) → A = (decide (x.1.toNat = c.toNat) || fillS (L.drop (i + 1)) setNo c.toNat)) := fun h => by
        rw [← HE.out]; exact fill_one L i x c.toNat hx h
      by_cases h2 : i + 2 < L.length
      · obtain ⟨y, hy⟩ : ∃ y, L[i + 1]? = some y := ⟨_, List.getElem?_eq_getElem (by omega)⟩
        obtain ⟨z, hz⟩ : ∃ z, L[i + 2]? = some z := ⟨_, List.getElem?_eq_getElem (by omega)⟩
        obtain ⟨y1, y2⟩ := H.out _ _ (dd_get hy)
        obtain ⟨z1, z2⟩ := H.out _ _ (dd_get hz)
        dsimp only at y1 y2 z1 z2
        have RNG : Hid (isL y 45 = true → A = (decide (x.1.toNat ≤ c.toNat) && decide (c.toNat ≤ z.1.toNat) || fillS (L.drop (i + 3)) setNo c.toNat)) := fun h => by
          rw [← HE.out]; exact fill_range L i x y z c.toNat hx hy hz h
        have ey : ((y.1.toNat : Int) == 45) = (y.1 == 45) := beq_u8 y.1 45
        have HX : Hid _ := hx
        have HY : Hid _ := hy
        have HZ : Hid _ := hz
        clear hx hy hz
        cases hy45 : y.1 == 45
        · have HA2 := ONE.out fun _ => ⟨y, HY.out, by unfold isL; rw [hy45]; simp⟩
          have HA3 : Hid _ := HA2
          rw [hy45] at ey
          clear HA2 hy45 ONE RNG
          by_cases hc : x.1.toNat = c.toNat
          · have ex : ((x.1.toNat : Int) == (c.toNat : Int)) = true := by rw [hc]; simp
            have HA4 : Hid (A = true) := by unfold Hid; rw [HA3.out, decide_eq_true hc]; simp
            clear hc
            go_wp2_with fail
            go_ret
            exact ⟨ret_bool (by rw [HA4.out]), rfl⟩
          · have ex : ((x.1.toNat : Int) == (c.toNat : Int)) = false := by
              rw [beq_eq_false_iff_ne]; omega
            have HA4 : Hid (fillS (L.drop (i + 1)) setNo c.toNat = A) := by unfold Hid; rw [HA3.out, decide_eq_false hc]; simp
            clear hc
            go_wp2_with fail
            exact ⟨⟨i + 1, by simp, by omega, HA4, trivial⟩, by simp [intOf]; omega⟩
        · rw [hy45] at ey
          cases hy2 : y.2
          · have HA2 := ONE.out fun _ => ⟨y, HY.out, by unfold isL; rw [hy2]; simp⟩
            have HA3 : Hid _ := HA2
            rw [hy2] at y2
            clear HA2 hy45 hy2 ONE RNG
            by_cases hc : x.1.toNat = c.toNat
            · have ex : ((x.1.toNat : Int) == (c.toNat : Int)) = true := by rw [hc]; simp
              have HA4 : Hid (A = true) := by unfold Hid; rw [HA3.out, decide_eq_true hc]; simp
              clear hc
              go_wp2_with fail
              go_ret
              exact ⟨ret_bool (by rw [HA4.out]), rfl⟩
            · have ex : ((x.1.toNat : Int) == (c.toNat : Int)) = false := by
                rw [beq_eq_false_iff_ne]; omega
              have HA4 : Hid (fillS (L.drop (i + 1)) setNo c.toNat = A) := by unfold Hid; rw [HA3.out, decide_eq_false hc]; simp
              clear hc
              go_wp2_with fail
              exact ⟨⟨i + 1, by simp, by omega, HA4, trivial⟩, by simp [intOf]; omega⟩
          · have HA2 := RNG.out (by unfold isL; rw [hy45, hy2]; rfl)
            have HA3 : Hid _ := HA2
            rw [hy2] at y2
            clear HA2 hy45 hy2 ONE RNG
            by_cases hc1 : x.1.toNat ≤ c.toNat
            · by_cases hc2 : c.toNat ≤ z.1.toNat
              · have HA4 : Hid (A = true) := by unfold Hid; rw [HA3.out, decide_eq_true hc1, decide_eq_true hc2]; simp
                have ex1 : (x.1.toNat : Int) ≤ (c.toNat : Int) := by omega
                have ex2 : (c.toNat : Int) ≤ (z.1.toNat : Int) := by omega
                clear hc1 hc2
                go_wp2_with fail
                go_ret
                exact ⟨ret_bool (by rw [HA4.out]), rfl⟩
              · have HA4 : Hid (fillS (L.drop (i + 3)) setNo c.toNat = A) := by unfold Hid; rw [HA3.out, decide_eq_false hc2]; simp
                have ex1 : (x.1.toNat : Int) ≤ (c.toNat : Int) := by omega
                have ex2 : ¬ (c.toNat : Int) ≤ (z.1.toNat : Int) := by omega
                clear hc1 hc2
                go_wp2_with fail
                exact ⟨⟨i + 3, by simp; omega, by omega, HA4, trivial⟩, by simp [intOf]; omega⟩
            · have HA4 : Hid (fillS (L.drop (i + 3)) setNo c.toNat = A) := by unfold Hid; rw [HA3.out, decide_eq_false hc1]; simp
              have ex1 : ¬ (x.1.toNat : Int) ≤ (c.toNat : Int) := by omega
              clear hc1
              go_wp2_with fail
              exact ⟨⟨i + 3, by simp; omega, by omega, HA4, trivial⟩, by simp [intOf]; omega⟩
      · have HA2 := ONE.out fun h => absurd h h2
        have HA3 : Hid _ := HA2
        have HX : Hid _ := hx
        clear HA2 ONE hx
        by_cases hc : x.1.toNat = c.toNat
        · have ex : ((x.1.toNat : Int) == (c.toNat : Int)) = true := by rw [hc]; simp
          have HA4 : Hid (A = true) := by unfold Hid; rw [HA3.out, decide_eq_true hc]; simp
          clear hc
          go_wp2_with fail
          go_ret
          exact ⟨ret_bool (by rw [HA4.out]), rfl⟩
        · have ex : ((x.1.toNat : Int) == (c.toNat : Int)) = false := by
            rw [beq_eq_false_iff_ne]; omega
          have HA4 : Hid (fillS (L.drop (i + 1)) setNo c.toNat = A) := by unfold Hid; rw [HA3.out, decide_eq_false hc]; simp
          clear hc
          go_wp2_with fail
          exact ⟨⟨i + 1, by simp, by omega, HA4, trivial⟩, by simp [intOf]; omega⟩
    · have HS2 : Hid (A = false) := by
        have := HE.out
        rw [List.drop_eq_nil_of_le (by omega)] at this
        exact this.symm
      go_wp2_with fail
      go_ret
      exact ⟨ret_bool (by rw [HS2.out]), rfl⟩
end Go.Proofs.YtdajacodfnidfaaGreatDoor
