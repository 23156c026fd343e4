/- A Not; what has a word first. -/
import Derived.Test.YtfakelaibijgkaaDoorDe3
namespace Go.Proofs.YtfakelaibijgkaaDoor
open Go.RowKit
attribute [local go_sem] Oper.semAt_some

theorem new_one (kind n : Int) (s : Txt) (v : Value) (Y : List Nd) (W : World) (h : NdAt W v Y) (hl : Y.length ≤ 3000) :
    Calls Tryd.prog 15 #[.int .i64 kind, .int .i64 n, str s, .slice (some ⟨W.heap.size, 0, none⟩) 1 1] (W.alloc (.cells #[v] 22)) fun e w' => ∃ v', e = .returned v' ∧ NdOwn w' W.heap.size v' (newN kind n s [Y]) ∧ Below W.heap.size W w' := by
  have hb := below_new W (.cells #[v] 22)
  have hk : KdAt (W.alloc (.cells #[v] 22)) (.slice (some ⟨W.heap.size, 0, none⟩) 1 1) [(v, Y)] := KdAt.of_cells rfl (Cel.new W 22 #[v]) (fun p hp => by
    rw [List.mem_singleton] at hp
    subst hp
    exact h.below hb (Nat.le_refl _)) (Nat.le_refl _)
  refine (new_own kind n s _ [(v, Y)] _ hk (by simp) (by simp [kidL]; omega)).mono ?_
  rintro e w' ⟨v', rfl, h1, h2⟩
  exact ⟨v', rfl, owns_lower h1 hb.size, hb.trans (h2.mono hb.size)⟩
set_option maxRecDepth 100000 in
set_option maxHeartbeats 4000000 in
theorem not_any {d B : Nat} {v : Value} {Y : List Nd} {x : Nd} {W : World} (h : NdOwn W B v Y) (hB : B ≤ W.heap.size) (hF : Fits d false Y) (hl : Y.length ≤ 3000) (hx : x.kind = 27) :
    Calls Tryd.prog 52 #[ndV x, v] W fun e w' => ∃ v', e = .returned v' ∧ NdOwn w' B v' (notD x.n x.s [Y]) ∧ Below W.heap.size W w' := by
  obtain ⟨xk, xn, xc, xz, xs⟩ := x
  simp only at hx
  subst hx
  obtain ⟨W1, hW1⟩ : ∃ W1, W1 = W.alloc (.cells #[.int .i64 27, .int .i64 xn, .int .i64 xc, .int .i64 xz, str xs] 26) := ⟨_, rfl⟩
  have HW1 : Hid (W.alloc (.cells #[.int .i64 27, .int .i64 xn, .int .i64 xc, .int .i64 xz, str xs] 26) = W1) := hW1.symm
  have HX : Hid (∀ w, Below W1.heap.size W1 w → Cel w W.heap.size 26 #[.int .i64 27, .int .i64 xn, .int .i64 xc, .int .i64 xz, str xs]) := fun w hb => by
    have h1 : Cel W1 W.heap.size 26 #[.int .i64 27, .int .i64 xn, .int .i64 xc, .int .i64 xz, str xs] := by rw [hW1]; exact Cel.new W _ _
    exact h1.below hb h1.lt
  have hb1 : Below W.heap.size W W1 := by rw [hW1]; exact below_new _ _
  have HB1 : Hid (Below W.heap.size W W1) := hb1
  have HO : Hid (∀ w, Below W1.heap.size W1 w → NdOwn w B v Y) := fun w hb => (h.below hb1).below hb
  have HIs : Hid _ := is_any v Y W1 27 ((h.below hb1).at) hF.pos
  have HKd : Hid _ := kids_fit ((h.below hb1).at) hF hl
  have HN : Hid (∀ w, Below W1.heap.size W1 w → Calls Tryd.prog 15 #[.int .i64 27, .int .i64 xn, str xs, .slice (some ⟨w.heap.size, 0, none⟩) 1 1] (w.alloc (.cells #[v] 22)) fun e w' => ∃ v', e = .returned v' ∧ NdOwn w' B v' (newN 27 xn xs [Y]) ∧ Below W.heap.size W w') := fun w hb => by
    refine (new_one 27 xn xs v Y w ((h.below hb1).below hb).at hl).mono ?_
    rintro e w' ⟨v', rfl, h1, h2⟩
    have h3 := hb1.trans (hb.mono hb1.size)
    exact ⟨v', rfl, owns_lower h1 (by have := h3.size; omega), h3.trans (h2.mono h3.size)⟩
  have HBB : Hid (B ≤ W1.heap.size) := Nat.le_trans hB hb1.size
  have HZ : Hid (kindOf Y = 27 → ∃ Z e, kidsL Y = [Z] ∧ Fits e false Z) := fun hk => by
    obtain ⟨e, kn, ks, Zs, _, _, hqk, _, _, _, hc, hz⟩ := hF.out
    rw [hk] at hc hz
    rw [hqk]
    match Zs, hc, hz with
    | [], hc, _ => exact absurd hc (by decide)
    | [Z], _, hz => exact ⟨Z, e, rfl, by have := hz 0 Z rfl; rw [not_word] at this; exact this⟩
    | _ :: _ :: r, hc, _ => exact absurd hc (by unfold cntB; simp; omega)
  obtain ⟨ad, cap, rfl⟩ := h.at.form
  clear h hF hl hb1 hW1 hB
  by_cases hk : kindOf Y = 27
  · obtain ⟨Z, e, hkz, hfz⟩ := HZ.out hk
    rw [hkz] at HKd
    have hk' : (kindOf Y == 27) = true := by simp [hk]
    rw [hk'] at HIs
    have HDY : Hid (∀ n s, notD n s [Y] = if kindOf Z = 27 then Z else newN 27 n s [Y]) := fun n s => by
      unfold notD
      simp only
      rw [if_pos hk, hkz]
    have HFZ : Hid (Fits e false Z) := hfz
    obtain ⟨R, HR⟩ : ∃ R, Hid (R = if kindOf Z = 27 then Z else newN 27 xn xs [Y]) := ⟨_, rfl⟩
    rw [HDY.out, ← HR.out]
    clear hk hk' hkz hfz HZ HDY
    go_enter Tryd.func52, Tryd.ntmps52
    go_wp2_with fail
    rw [HW1.out]
    refine Calls.mono HIs.out ?_
    rintro e w1 ⟨rfl, hw⟩
    obtain rfl := hw.symm
    clear hw HIs
    go_wp2_with fail
    refine Calls.mono HKd.out ?_
    rintro e w2 ⟨v2, K2, rfl, hk2, hs2, hb2⟩
    obtain ⟨zv, rfl⟩ : ∃ zv, K2 = [(zv, Z)] := by
      match K2, hs2 with
      | [q], hs2 =>
        simp at hs2
        exact ⟨q.1, by rw [← hs2]⟩
    obtain ⟨g2, o2, cp2, rfl, hg2, cz, hNz⟩ := hk2.at.at (j := 0) (p := (zv, Z)) rfl
    have hOZ := hk2.2 (zv, Z) (by simp)
    simp only [Nat.add_zero] at cz hNz hOZ
    have HOZ : Hid (NdOwn w2 W1.heap.size zv Z) := hOZ
    have HI2 : Hid _ := is_any zv Z w2 27 hNz HFZ.out.pos
    have HB2 : Hid (Below W1.heap.size W1 w2) := hb2
    simp only [List.length_cons, List.length_nil, Nat.zero_add]
    obtain ⟨za, zc, rfl⟩ := hNz.form
    clear hk2 hs2 hb2 hNz hOZ HKd
    by_cases hz : kindOf Z = 27
    · have hz' : (kindOf Z == 27) = true := by simp [hz]
      rw [hz'] at HI2
      have HRZ : Hid (R = Z) := by unfold Hid; rw [HR.out, if_pos hz]
      clear hz hz'
      go_wp2_with fail
      refine Calls.mono HI2.out ?_
      rintro e w3 ⟨rfl, hw⟩
      obtain rfl := hw.symm
      clear hw HI2
      go_wp2_with fail
      go_ret
      exact ⟨_, rfl, by rw [HRZ.out]; exact owns_lower HOZ.out HBB.out, HB1.out.trans (HB2.out.mono HB1.out.size)⟩
    · have hz' : (kindOf Z == 27) = false := beq_eq_false_iff_ne.2 hz
      rw [hz'] at HI2
      have HRZ : Hid (R = newN 27 xn xs [Y]) := by unfold Hid; rw [HR.out, if_neg hz]
      clear hz hz'
      go_wp2_with fail
      refine Calls.mono HI2.out ?_
      rintro e w3 ⟨rfl, hw⟩
      obtain rfl := hw.symm
      clear hw HI2
      have c0 := (HX.out _ HB2.out).cell 0
      have c1 := (HX.out _ HB2.out).cell 1
      have c4 := (HX.out _ HB2.out).cell 4
      simp only [List.getElem?_toArray, List.getElem?_cons_zero, List.getElem?_cons_succ] at c0 c1 c4
      have HNN : Hid _ := HN.out _ HB2.out
      clear HN
      go_wp2_with fail
      refine Calls.mono HNN.out ?_
      rintro e w3 ⟨v3, rfl, ho3, hb3⟩
      have HO3 : Hid _ := ho3
      clear ho3
      go_wp2_with fail
      go_ret
      exact ⟨_, rfl, by rw [HRZ.out]; exact HO3.out, hb3⟩
  · have HD : Hid (notD xn xs [Y] = newN 27 xn xs [Y]) := by unfold Hid notD; simp only; rw [if_neg hk]
    have hk' : (kindOf Y == 27) = false := beq_eq_false_iff_ne.2 hk
    rw [hk'] at HIs
    rw [HD.out]
    clear hk hk' HD HKd HZ
    go_enter Tryd.func52, Tryd.ntmps52
    go_wp2_with fail
    rw [HW1.out]
    refine Calls.mono HIs.out ?_
    rintro e w1 ⟨rfl, hw⟩
    obtain rfl := hw.symm
    clear hw HIs
    have c0 := (HX.out _ (Below.refl _ _)).cell 0
    have c1 := (HX.out _ (Below.refl _ _)).cell 1
    have c4 := (HX.out _ (Below.refl _ _)).cell 4
    simp only [List.getElem?_toArray, List.getElem?_cons_zero, List.getElem?_cons_succ] at c0 c1 c4
    have HNN : Hid _ := HN.out _ (Below.refl _ _)
    clear HN
    go_wp2_with fail
    refine Calls.mono HNN.out ?_
    rintro e w2 ⟨v2, rfl, ho2, hb2⟩
    have HO2 : Hid _ := ho2
    clear ho2
    go_wp2_with fail
    go_ret
    exact ⟨_, rfl, HO2.out, hb2⟩
end Go.Proofs.YtfakelaibijgkaaDoor
