/- The document's scanner: a bracket, a dollar. -/
import Derived.Test.YtlihkblllakhmaaGreatDoorRg6
namespace Go.Proofs.YtlihkblllakhmaaGreatDoor
open Go.RowKit
attribute [local go_sem] Oper.semAt_some

theorem passK_suf : ∀ (f : Nat) (l u : List UInt8) (n m : Nat), l.length ≤ f → passK n m l = some u → u <:+ l := by
  intro f
  induction f with
  | zero =>
    intro l u n m h e
    obtain rfl := List.eq_nil_of_length_eq_zero (Nat.le_zero.1 h)
    rw [passK_nil] at e
    cases e
  | succ f ih =>
    intro l u n m h e
    cases l with
    | nil => rw [passK_nil] at e; cases e
    | cons c t =>
      rw [List.length_cons] at h
      have ht : t <:+ c :: t := List.suffix_cons _ _
      rw [passK_cons] at e
      split at e
      · exact ((ih _ _ _ _ (by rw [List.length_tail]; omega) e).trans (List.tail_suffix t)).trans ht
      · repeat' (split at e)
        all_goals first | (cases e; exact ht) | exact (ih _ _ _ _ (by omega) e).trans ht
theorem passK_drop {s : ByteArray} {i : Nat} {u : List UInt8} (h : passK 0 0 (s.data.toList.drop i) = some u) : u = s.data.toList.drop (s.size - u.length) ∧ u.length + i < s.size := by
  have h1 := (passK_suf _ _ u 0 0 (Nat.le_refl _) h).trans (List.drop_suffix i s.data.toList)
  have h2 := passK_lt _ _ u 0 0 (Nat.le_refl _) h
  have hl : s.data.toList.length = s.size := by rw [Array.length_toList]; rfl
  rw [len_drop] at h2
  refine ⟨?_, by omega⟩
  have h3 := List.suffix_iff_eq_drop.1 h1
  rwa [hl] at h3
theorem cnts_no {c : UInt8} (h : cnts c = true) : start8 c = false ∧ 49 ≤ (c.toNat : Int) ∧ (c.toNat : Int) ≤ 57 := by
  have h1 := cntB_byte c
  rw [h] at h1
  have h2 : 49 ≤ (c.toNat : Int) ∧ (c.toNat : Int) ≤ 57 := by
    unfold cntB at h1
    simpa using h1
  refine ⟨?_, h2.1, h2.2⟩
  show startB _ = false
  unfold startB
  exact decide_eq_false (by omega)
theorem ext_take (s : ByteArray) (a c : Nat) : (s.extract a c).data.toList = (s.data.toList.drop a).take (c - a) := by rw [Lib.extract_eq]
set_option maxRecDepth 100000 in
set_option maxHeartbeats 4000000 in
theorem part_sub0 {W : World} {b B : Nat} {s : ByteArray} {i : Nat} {av v : Value} {X : List Pt} (h : Lx W b s i 0 av) (hO : QtOwn W B v X) (_hbB : b < B) (_hBW : B ≤ W.heap.size) (hs : s.size ≤ 8192) (_hX : X.length < 100000) (_hXs : ∀ p ∈ X, p.s.length ≤ 100000) (hi : i < s.size) (hc : s[i] = 91) (hk : passK 0 0 (s.data.toList.drop (i + 1)) = none) :
    Calls Tryz.prog 42 #[.pointer (some ⟨b, 0, none⟩), v] W fun e w' => ∃ v', e = .returned v' ∧ PrtR W b B s av (jnR X (stepD s.size (s.data.toList.drop i))) v' w' := by
  obtain ⟨i0, hif, hz0, hz1, hz2⟩ := info_parts infoQt
  obtain ⟨ad, cap, rfl⟩ := hO.form
  have l0 : W.cell? ⟨b, 0, none⟩ = some (.string s) := h.cell 0
  have l1 : W.cell? ⟨b, 1, none⟩ = some (.int .i64 (i : Nat)) := h.cell 1
  have lf := h.frozen 1
  have HL : Hid (Lx W b s i 0 av) := h
  have HO : Hid (QtOwn W B (.slice ad X.length cap) X) := hO
  have hi' : (i : Int) < (s.size : Int) := by omega
  have HB : Hid (Calls Tryz.prog 54 #[.string s, .int .i64 ((i : Int) + 1)] W fun e w' => e = .returned (.int .i64 (-1)) ∧ w' = W) := by
    have e := rbracket_any s W (by omega) (i + 1) (by omega)
    rw [hk, show ((i + 1 : Nat) : Int) = (i : Int) + 1 by simp] at e
    have e2 : clR s.size none = -1 := rfl
    rw [e2] at e
    exact e
  have HF : Hid (Calls Tryz.prog 39 #[.pointer (some ⟨b, 0, none⟩), .int .i64 104, .int .i64 (i : Nat)] W fun e w' => e = .returned (.tuple #[]) ∧ Flt W b s ⟨1, i⟩ w') := fail_any h ⟨1, i⟩
  have HR : Hid (jnR X (stepD s.size (s.data.toList.drop i)) = .error ⟨1, i⟩) := by
    unfold Hid
    have hl := len_drop s (i + 1)
    rw [drop_cons s i hi, hc, stepD_cons, if_neg (by decide), if_pos rfl, hk, show s.size - ((s.data.toList.drop (i + 1)).length + 1) = i by omega]
    rfl
  rw [HR.out]
  have q92 : (((s[i]).toNat : Int) == 92) = false := by rw [hc]; rfl
  have q91 : (((s[i]).toNat : Int) == 91) = true := by rw [hc]; rfl
  clear hc hk HR h hO _hXs hif hz0 hz1 hz2
  go_enter Tryz.func42, Tryz.ntmps42
  go_wp2_with fail
  refine Calls.mono HB.out ?_
  rintro e w1 ⟨rfl, hw⟩
  obtain rfl := hw.symm
  clear hw
  go_wp2_with fail
  refine Calls.mono HF.out ?_
  rintro e w1 ⟨rfl, hf⟩
  have HF1 : Hid _ := hf
  clear hf HF
  go_wp2_with fail
  go_ret
  obtain ⟨j, fb, h1, h2, _, h4⟩ := HF1.out
  exact ⟨_, rfl, h4.wide, ⟨_, _, _, rfl⟩, j, fb, h1, h2⟩
set_option maxRecDepth 100000 in
set_option maxHeartbeats 4000000 in
theorem part_subR {W : World} {b B : Nat} {s : ByteArray} {i : Nat} {av v : Value} {X : List Pt} (h : Lx W b s i 0 av) (hO : QtOwn W B v X) (hbB : b < B) (hBW : B ≤ W.heap.size) (hs : s.size ≤ 8192) (hX : X.length < 100000) (_hXs : ∀ p ∈ X, p.s.length ≤ 100000) (hi : i < s.size) (hc : s[i] = 91) (u : List UInt8) (hk : passK 0 0 (s.data.toList.drop (i + 1)) = some u) :
    Calls Tryz.prog 42 #[.pointer (some ⟨b, 0, none⟩), v] W fun e w' => ∃ v', e = .returned v' ∧ PrtR W b B s av (jnR X (stepD s.size (s.data.toList.drop i))) v' w' := by
  obtain ⟨i0, hif, hz0, hz1, hz2⟩ := info_parts infoQt
  obtain ⟨ad, cap, rfl⟩ := hO.form
  have l0 : W.cell? ⟨b, 0, none⟩ = some (.string s) := h.cell 0
  have l1 : W.cell? ⟨b, 1, none⟩ = some (.int .i64 (i : Nat)) := h.cell 1
  have lf := h.frozen 1
  have HL : Hid (Lx W b s i 0 av) := h
  have HO : Hid (QtOwn W B (.slice ad X.length cap) X) := hO
  have hi' : (i : Int) < (s.size : Int) := by omega
  have hd := passK_drop hk
  obtain ⟨K, hK⟩ : ∃ K, K = s.size - u.length - 1 := ⟨_, rfl⟩
  have hK1 : i + 1 ≤ K := by omega
  have hK2 : K < s.size := by omega
  have HB : Hid (Calls Tryz.prog 54 #[.string s, .int .i64 ((i : Int) + 1)] W fun e w' => e = .returned (.int .i64 ((K : Nat))) ∧ w' = W) := by
    have e := rbracket_any s W (by omega) (i + 1) (by omega)
    rw [hk, show ((i + 1 : Nat) : Int) = (i : Int) + 1 by simp] at e
    have e2 : clR s.size (some u) = (K : Nat) := by simp only [clR]; omega
    rw [e2] at e
    exact e
  have HR : Hid (jnR X (stepD s.size (s.data.toList.drop i)) = .ok (X ++ [⟨3, i, 0, (s.extract (i + 1) K).data.toList⟩], s.data.toList.drop (K + 1))) := by
    unfold Hid
    have hl := len_drop s (i + 1)
    rw [drop_cons s i hi, hc, stepD_cons, if_neg (by decide), if_pos rfl, hk, show s.size - ((s.data.toList.drop (i + 1)).length + 1) = i by omega, ext_take, show K - (i + 1) = (s.data.toList.drop (i + 1)).length - u.length - 1 by omega, show K + 1 = s.size - u.length by omega, ← hd.1]
    simp only [jnR]
    rw [joinP_new (.inr (by simp))]
  rw [HR.out]
  have q92 : (((s[i]).toNat : Int) == 92) = false := by rw [hc]; rfl
  have q91 : (((s[i]).toNat : Int) == 91) = true := by rw [hc]; rfl
  have hK3 : ¬ (K : Int) < 0 := by omega
  have hK4 : (i : Int) + 1 ≤ (K : Int) := by omega
  have hK5 : (K : Int) ≤ (s.size : Int) := by omega
  clear hc hk HR h hO _hXs hd hK
  go_enter Tryz.func42, Tryz.ntmps42
  go_wp2_with fail
  refine Calls.mono HB.out ?_
  rintro e w1 ⟨rfl, hw⟩
  obtain rfl := hw.symm
  clear hw
  go_upto_region 20 with fail
  obtain ⟨W1, hW1⟩ : ∃ W1, W1 = W.setCell ⟨b, 1, none⟩ (.int .i64 ((K : Int) + 1)) := ⟨_, rfl⟩
  have HL1 : Hid (Lx W1 b s (K + 1) 0 av) := by rw [hW1]; exact HL.out.move (by simp)
  have HT1 : Hid (Turn (fun g => g = b) W W1) := by rw [hW1]; exact Turn.move W _
  have HO1 : Hid (QtOwn W1 B (.slice ad X.length cap) X) := HO.out.turn HT1.out (fun _ e => by omega)
  have hz1' : B ≤ W1.heap.size := Nat.le_trans hBW HT1.out.size
  rw [← hW1]
  have m0 : W1.cell? ⟨b, 0, none⟩ = some (.string s) := HL1.out.cell 0
  clear hW1 l0 l1 lf HL HO
  go_wp2_with (at_builtin; refine wpList_append_own_at _ rfl _ _ 46 rfl B 81 i0 _ 4 40 Tryz.underlying46 hif hz0 hz1 hz2 rfl (by decide) _ _ _ rfl (World.ownsRow.alloc HO1.out _) ⟨W1.heap.size, 0, none⟩ 1 1 (ptC (⟨3, i, 0, (s.extract (i + 1) K).data.toList⟩ : Pt)) rfl rfl (cells_new _ _ _) (by simp [Value.oneCell']) (by have := maxLen_big; omega) (by omega) (by simp; omega) ?_; intro v6 w6 hown hgrow _ _)
  have HB6 : Hid (Below B W1 w6) := grown_own (by simp; omega) ((Below.refl B W1).alloc hz1' _) (World.ownsRow.alloc HO1.out _) hgrow
  have HO6 : Hid (QtOwn w6 B v6 (X ++ [⟨3, i, 0, (s.extract (i + 1) K).data.toList⟩])) := by
    unfold Hid QtOwn
    rw [ptCs_append, ptCs_one, List.length_append]
    exact hown
  clear hown hgrow
  go_wp2_with fail
  go_ret
  exact ⟨v6, rfl, HT1.out.both HB6.out, HO6.out, K + 1, HL1.out.below HB6.out hbB, by omega, rfl⟩
set_option maxRecDepth 100000 in
set_option maxHeartbeats 4000000 in
theorem part_long {W : World} {b B : Nat} {s : ByteArray} {i : Nat} {av v : Value} {X : List Pt} (h : Lx W b s i 0 av) (hO : QtOwn W B v X) (_hbB : b < B) (_hBW : B ≤ W.heap.size) (hs : s.size ≤ 8192) (_hX : X.length < 100000) (_hXs : ∀ p ∈ X, p.s.length ≤ 100000) (hi : i < s.size) (hc : s[i] = 36) (hn : i + 1 < s.size) (hd : start8 s[i + 1] = true) (hg : 20 < (nrun (s.data.toList.drop (i + 1))).length) :
    Calls Tryz.prog 42 #[.pointer (some ⟨b, 0, none⟩), v] W fun e w' => ∃ v', e = .returned v' ∧ PrtR W b B s av (jnR X (stepD s.size (s.data.toList.drop i))) v' w' := by
  obtain ⟨i0, hif, hz0, hz1, hz2⟩ := info_parts infoQt
  obtain ⟨ad, cap, rfl⟩ := hO.form
  have l0 : W.cell? ⟨b, 0, none⟩ = some (.string s) := h.cell 0
  have l1 : W.cell? ⟨b, 1, none⟩ = some (.int .i64 (i : Nat)) := h.cell 1
  have lf := h.frozen 1
  have HL : Hid (Lx W b s i 0 av) := h
  have HO : Hid (QtOwn W B (.slice ad X.length cap) X) := hO
  have hi' : (i : Int) < (s.size : Int) := by omega
  have hl2 := len_drop s (i + 1 + 1)
  have hdc := drop_cons s (i + 1) hn
  have hst : startB ((s[i + 1]).toNat : Int) = true := hd
  have hst2 := start_eq ((s[i + 1]).toNat : Int)
  rw [hst] at hst2
  have hct : contB ((s[i + 1]).toNat : Int) = true := by
    cases e : contB ((s[i + 1]).toNat : Int) with
    | true => rfl
    | false => rw [e] at hst2; cases hst2
  have hdg : ((s[i + 1]).toNat : Int) < 48 ∨ 57 < ((s[i + 1]).toNat : Int) := by
    rw [hct] at hst2
    have e : digitB ((s[i + 1]).toNat : Int) = false := by simpa using hst2.symm
    unfold digitB at e
    have := of_decide_eq_false e
    omega
  obtain ⟨nr, hnr⟩ : ∃ nr, nr = nrun (s.data.toList.drop (i + 1)) := ⟨_, rfl⟩
  obtain ⟨K, hK⟩ : ∃ K, K = i + 1 + nr.length := ⟨_, rfl⟩
  have hn42 : s[i + 1] ≠ 42 := by intro e; rw [e] at hst; exact absurd hst (by decide)
  have hncn : ¬ cnts s[i + 1] = true := fun e => by
    have := (cnts_no e).1
    rw [show start8 s[i + 1] = true from hd] at this
    cases this
  have hpos : 1 ≤ nr.length := by rw [hnr, hdc]; exact nrun_pos hd
  have hnl : nr.length ≤ s.size - (i + 1) := by
    rw [hnr, ← len_drop s (i + 1), hdc, nrun_cons, if_pos (show start8 s[i + 1] = true from hd)]
    exact (List.takeWhile_sublist _).length_le
  have hK1 : i + 1 < K := by omega
  have hK2 : K ≤ s.size := by omega
  have HN : Hid (Calls Tryz.prog 55 #[.string s, .int .i64 ((i : Int) + 1)] W fun e w' => e = .returned (.int .i64 ((K : Nat))) ∧ w' = W) := by
    have e := run_yes s (i + 1) W (by omega) hn hct hdg
    rw [← hnr, ← hK, show ((i + 1 : Nat) : Int) = (i : Int) + 1 by simp] at e
    exact e
  have HF : Hid (Calls Tryz.prog 39 #[.pointer (some ⟨b, 0, none⟩), .int .i64 106, .int .i64 (i : Nat)] W fun e w' => e = .returned (.tuple #[]) ∧ Flt W b s ⟨0, i⟩ w') := fail_any h ⟨0, i⟩
  have HR : Hid (jnR X (stepD s.size (s.data.toList.drop i)) = .error ⟨0, i⟩) := by
    unfold Hid
    rw [hdc] at hg
    rw [drop_cons s i hi, hc, stepD_cons, if_neg (by decide), if_neg (by decide), if_pos (by simp [dolB, dolC, hdc, hd]), hdc, dollar_cons, if_neg hn42, if_neg hncn, if_pos hg, show s.size - ((s.data.toList.drop (i + 1 + 1)).length + 2) = i by omega]
    rfl
  rw [HR.out]
  have q92 : (((s[i]).toNat : Int) == 92) = false := by rw [hc]; rfl
  have q91 : (((s[i]).toNat : Int) == 91) = false := by rw [hc]; rfl
  have q36 : (((s[i]).toNat : Int) == 36) = true := by rw [hc]; rfl
  have hK3 : (i : Int) + 1 < (K : Int) := by omega
  have hK4 : (20 : Int) < (K : Int) - (i : Int) - 1 := by rw [← hnr] at hg; omega
  clear hc HR h hO _hXs hif hz0 hz1 hz2 hdc hst hst2 hct hdg hnr hK hn42 hncn hpos hnl hg hd
  go_enter Tryz.func42, Tryz.ntmps42
  go_wp2_with fail
  refine Calls.mono HN.out ?_
  rintro e w1 ⟨rfl, hw⟩
  obtain rfl := hw.symm
  clear hw
  go_wp2_with fail
  refine Calls.mono HF.out ?_
  rintro e w1 ⟨rfl, hf⟩
  have HF1 : Hid _ := hf
  clear hf HF
  go_wp2_with fail
  go_ret
  obtain ⟨j, fb, h1, h2, _, h4⟩ := HF1.out
  exact ⟨_, rfl, h4.wide, ⟨_, _, _, rfl⟩, j, fb, h1, h2⟩
set_option maxRecDepth 100000 in
set_option maxHeartbeats 4000000 in
theorem part_var {W : World} {b B : Nat} {s : ByteArray} {i : Nat} {av v : Value} {X : List Pt} (h : Lx W b s i 0 av) (hO : QtOwn W B v X) (hbB : b < B) (hBW : B ≤ W.heap.size) (hs : s.size ≤ 8192) (hX : X.length < 100000) (_hXs : ∀ p ∈ X, p.s.length ≤ 100000) (hi : i < s.size) (hc : s[i] = 36) (hn : i + 1 < s.size) (hd : start8 s[i + 1] = true) (hg : ¬ 20 < (nrun (s.data.toList.drop (i + 1))).length) :
    Calls Tryz.prog 42 #[.pointer (some ⟨b, 0, none⟩), v] W fun e w' => ∃ v', e = .returned v' ∧ PrtR W b B s av (jnR X (stepD s.size (s.data.toList.drop i))) v' w' := by
  obtain ⟨i0, hif, hz0, hz1, hz2⟩ := info_parts infoQt
  obtain ⟨ad, cap, rfl⟩ := hO.form
  have l0 : W.cell? ⟨b, 0, none⟩ = some (.string s) := h.cell 0
  have l1 : W.cell? ⟨b, 1, none⟩ = some (.int .i64 (i : Nat)) := h.cell 1
  have lf := h.frozen 1
  have HL : Hid (Lx W b s i 0 av) := h
  have HO : Hid (QtOwn W B (.slice ad X.length cap) X) := hO
  have hi' : (i : Int) < (s.size : Int) := by omega
  have hl2 := len_drop s (i + 1 + 1)
  have hdc := drop_cons s (i + 1) hn
  have hst : startB ((s[i + 1]).toNat : Int) = true := hd
  have hst2 := start_eq ((s[i + 1]).toNat : Int)
  rw [hst] at hst2
  have hct : contB ((s[i + 1]).toNat : Int) = true := by
    cases e : contB ((s[i + 1]).toNat : Int) with
    | true => rfl
    | false => rw [e] at hst2; cases hst2
  have hdg : ((s[i + 1]).toNat : Int) < 48 ∨ 57 < ((s[i + 1]).toNat : Int) := by
    rw [hct] at hst2
    have e : digitB ((s[i + 1]).toNat : Int) = false := by simpa using hst2.symm
    unfold digitB at e
    have := of_decide_eq_false e
    omega
  obtain ⟨nr, hnr⟩ : ∃ nr, nr = nrun (s.data.toList.drop (i + 1)) := ⟨_, rfl⟩
  obtain ⟨K, hK⟩ : ∃ K, K = i + 1 + nr.length := ⟨_, rfl⟩
  have hn42 : s[i + 1] ≠ 42 := by intro e; rw [e] at hst; exact absurd hst (by decide)
  have hncn : ¬ cnts s[i + 1] = true := fun e => by
    have := (cnts_no e).1
    rw [show start8 s[i + 1] = true from hd] at this
    cases this
  have hpos : 1 ≤ nr.length := by rw [hnr, hdc]; exact nrun_pos hd
  have hnl : nr.length ≤ s.size - (i + 1) := by
    rw [hnr, ← len_drop s (i + 1), hdc, nrun_cons, if_pos (show start8 s[i + 1] = true from hd)]
    exact (List.takeWhile_sublist _).length_le
  have hK1 : i + 1 < K := by omega
  have hK2 : K ≤ s.size := by omega
  have HN : Hid (Calls Tryz.prog 55 #[.string s, .int .i64 ((i : Int) + 1)] W fun e w' => e = .returned (.int .i64 ((K : Nat))) ∧ w' = W) := by
    have e := run_yes s (i + 1) W (by omega) hn hct hdg
    rw [← hnr, ← hK, show ((i + 1 : Nat) : Int) = (i : Int) + 1 by simp] at e
    exact e
  have HR : Hid (jnR X (stepD s.size (s.data.toList.drop i)) = .ok (X ++ [⟨2, i, 0, (s.extract (i + 1) K).data.toList⟩], s.data.toList.drop K)) := by
    unfold Hid
    have e1 : (s.data.toList.drop (i + 1)).take (K - (i + 1)) = nr := by
      rw [show K - (i + 1) = nr.length by omega, hnr, hdc, nrun_cons, if_pos (show start8 s[i + 1] = true from hd)]
      exact List.prefix_iff_eq_take.1 (List.takeWhile_prefix _) |>.symm
    rw [ext_take, e1]
    rw [hdc] at hg hnr
    rw [drop_cons s i hi, hc, stepD_cons, if_neg (by decide), if_neg (by decide), if_pos (by simp [dolB, dolC, hdc, hd]), hdc, dollar_cons, if_neg hn42, if_neg hncn, if_neg hg, show s.size - ((s.data.toList.drop (i + 1 + 1)).length + 2) = i by omega, ← hnr, ← hdc, List.drop_drop, hK]
    simp only [jnR]
    rw [joinP_new (.inr (by simp))]
  rw [HR.out]
  have q92 : (((s[i]).toNat : Int) == 92) = false := by rw [hc]; rfl
  have q91 : (((s[i]).toNat : Int) == 91) = false := by rw [hc]; rfl
  have q36 : (((s[i]).toNat : Int) == 36) = true := by rw [hc]; rfl
  have hK3 : (i : Int) + 1 < (K : Int) := by omega
  have hK4 : ¬ (20 : Int) < (K : Int) - (i : Int) - 1 := by rw [← hnr] at hg; omega
  have hK5 : (K : Int) ≤ (s.size : Int) := by omega
  have hK6 : (i : Int) + 1 ≤ (K : Int) := by omega
  clear hc HR h hO _hXs hdc hst hst2 hct hdg hnr hK hn42 hncn hpos hnl hg hd
  go_enter Tryz.func42, Tryz.ntmps42
  go_wp2_with fail
  refine Calls.mono HN.out ?_
  rintro e w1 ⟨rfl, hw⟩
  obtain rfl := hw.symm
  clear hw
  go_upto_region 28 with fail
  obtain ⟨W1, hW1⟩ : ∃ W1, W1 = W.setCell ⟨b, 1, none⟩ (.int .i64 ((K : Nat))) := ⟨_, rfl⟩
  have HL1 : Hid (Lx W1 b s (K) 0 av) := by rw [hW1]; exact HL.out.move (rfl)
  have HT1 : Hid (Turn (fun g => g = b) W W1) := by rw [hW1]; exact Turn.move W _
  have HO1 : Hid (QtOwn W1 B (.slice ad X.length cap) X) := HO.out.turn HT1.out (fun _ e => by omega)
  have hz1' : B ≤ W1.heap.size := Nat.le_trans hBW HT1.out.size
  rw [← hW1]
  have m0 : W1.cell? ⟨b, 0, none⟩ = some (.string s) := HL1.out.cell 0
  clear hW1 l0 l1 lf HL HO
  go_wp2_with (at_builtin; refine wpList_append_own_at _ rfl _ _ 46 rfl B 81 i0 _ 4 40 Tryz.underlying46 hif hz0 hz1 hz2 rfl (by decide) _ _ _ rfl (World.ownsRow.alloc HO1.out _) ⟨W1.heap.size, 0, none⟩ 1 1 (ptC (⟨2, i, 0, (s.extract (i + 1) K).data.toList⟩ : Pt)) rfl rfl (cells_new _ _ _) (by simp [Value.oneCell']) (by have := maxLen_big; omega) (by omega) (by simp; omega) ?_; intro v6 w6 hown hgrow _ _)
  have HB6 : Hid (Below B W1 w6) := grown_own (by simp; omega) ((Below.refl B W1).alloc hz1' _) (World.ownsRow.alloc HO1.out _) hgrow
  have HO6 : Hid (QtOwn w6 B v6 (X ++ [⟨2, i, 0, (s.extract (i + 1) K).data.toList⟩])) := by
    unfold Hid QtOwn
    rw [ptCs_append, ptCs_one, List.length_append]
    exact hown
  clear hown hgrow
  go_wp2_with fail
  go_ret
  exact ⟨v6, rfl, HT1.out.both HB6.out, HO6.out, K, HL1.out.below HB6.out hbB, by omega, rfl⟩
set_option maxRecDepth 100000 in
set_option maxHeartbeats 4000000 in
theorem part_star {W : World} {b B : Nat} {s : ByteArray} {i : Nat} {av v : Value} {X : List Pt} (h : Lx W b s i 0 av) (hO : QtOwn W B v X) (hbB : b < B) (hBW : B ≤ W.heap.size) (hs : s.size ≤ 8192) (hX : X.length < 100000) (_hXs : ∀ p ∈ X, p.s.length ≤ 100000) (hi : i < s.size) (hc : s[i] = 36) (hn : i + 1 < s.size) (hd : s[i + 1] = 42) :
    Calls Tryz.prog 42 #[.pointer (some ⟨b, 0, none⟩), v] W fun e w' => ∃ v', e = .returned v' ∧ PrtR W b B s av (jnR X (stepD s.size (s.data.toList.drop i))) v' w' := by
  obtain ⟨i0, hif, hz0, hz1, hz2⟩ := info_parts infoQt
  obtain ⟨ad, cap, rfl⟩ := hO.form
  have l0 : W.cell? ⟨b, 0, none⟩ = some (.string s) := h.cell 0
  have l1 : W.cell? ⟨b, 1, none⟩ = some (.int .i64 (i : Nat)) := h.cell 1
  have lf := h.frozen 1
  have HL : Hid (Lx W b s i 0 av) := h
  have HO : Hid (QtOwn W B (.slice ad X.length cap) X) := hO
  have hi' : (i : Int) < (s.size : Int) := by omega
  have hl2 := len_drop s (i + 1 + 1)
  have hdc := drop_cons s (i + 1) hn
  have hns : ∀ c, (s.data.toList.drop (i + 1)).head? = some c → start8 c = false := fun c e => by
    rw [hdc, hd] at e
    cases e
    rfl
  have HN : Hid (Calls Tryz.prog 55 #[.string s, .int .i64 ((i : Int) + 1)] W fun e w' => e = .returned (.int .i64 ((i : Int) + 1)) ∧ w' = W) := by
    have e := run_no s (i + 1) W (nrun_no _ hns)
    rw [show ((i + 1 : Nat) : Int) = (i : Int) + 1 by simp] at e
    exact e
  have HR : Hid (jnR X (stepD s.size (s.data.toList.drop i)) = .ok (X ++ [⟨2, i, 0, [42]⟩], s.data.toList.drop (i + 2))) := by
    unfold Hid
    rw [drop_cons s i hi, hc, stepD_cons, if_neg (by decide), if_neg (by decide), if_pos (by simp [dolB, dolC, hdc, hd]), hdc, dollar_cons, if_pos hd, show s.size - ((s.data.toList.drop (i + 1 + 1)).length + 2) = i by omega]
    simp only [jnR]
    rw [joinP_new (.inr (by simp))]
  rw [HR.out]
  have q92 : (((s[i]).toNat : Int) == 92) = false := by rw [hc]; rfl
  have q91 : (((s[i]).toNat : Int) == 91) = false := by rw [hc]; rfl
  have q36 : (((s[i]).toNat : Int) == 36) = true := by rw [hc]; rfl
  have q42 : (((s[i + 1]).toNat : Int) == 42) = true := by rw [hd]; rfl
  have hn1 : (i : Int) + 1 < (s.size : Int) := by omega
  clear hc HR h hO _hXs hdc hns hd
  go_enter Tryz.func42, Tryz.ntmps42
  go_wp2_with fail
  refine Calls.mono HN.out ?_
  rintro e w1 ⟨rfl, hw⟩
  obtain rfl := hw.symm
  clear hw
  go_upto_region 31 with fail
  obtain ⟨W1, hW1⟩ : ∃ W1, W1 = W.setCell ⟨b, 1, none⟩ (.int .i64 ((i : Int) + 2)) := ⟨_, rfl⟩
  have HL1 : Hid (Lx W1 b s (i + 2) 0 av) := by rw [hW1]; exact HL.out.move (by simp)
  have HT1 : Hid (Turn (fun g => g = b) W W1) := by rw [hW1]; exact Turn.move W _
  have HO1 : Hid (QtOwn W1 B (.slice ad X.length cap) X) := HO.out.turn HT1.out (fun _ e => by omega)
  have hz1' : B ≤ W1.heap.size := Nat.le_trans hBW HT1.out.size
  rw [← hW1]
  have m0 : W1.cell? ⟨b, 0, none⟩ = some (.string s) := HL1.out.cell 0
  clear hW1 l0 l1 lf HL HO
  go_wp2_with (at_builtin; refine wpList_append_own_at _ rfl _ _ 46 rfl B 81 i0 _ 4 40 Tryz.underlying46 hif hz0 hz1 hz2 rfl (by decide) _ _ _ rfl (World.ownsRow.alloc HO1.out _) ⟨W1.heap.size, 0, none⟩ 1 1 (ptC (⟨2, i, 0, [42]⟩ : Pt)) rfl rfl (cells_new _ _ _) (by simp [Value.oneCell']) (by have := maxLen_big; omega) (by omega) (by simp; omega) ?_; intro v6 w6 hown hgrow _ _)
  have HB6 : Hid (Below B W1 w6) := grown_own (by simp; omega) ((Below.refl B W1).alloc hz1' _) (World.ownsRow.alloc HO1.out _) hgrow
  have HO6 : Hid (QtOwn w6 B v6 (X ++ [⟨2, i, 0, [42]⟩])) := by
    unfold Hid QtOwn
    rw [ptCs_append, ptCs_one, List.length_append]
    exact hown
  clear hown hgrow
  go_wp2_with fail
  go_ret
  exact ⟨v6, rfl, HT1.out.both HB6.out, HO6.out, i + 2, HL1.out.below HB6.out hbB, by omega, rfl⟩
set_option maxRecDepth 100000 in
set_option maxHeartbeats 4000000 in
theorem part_num {W : World} {b B : Nat} {s : ByteArray} {i : Nat} {av v : Value} {X : List Pt} (h : Lx W b s i 0 av) (hO : QtOwn W B v X) (hbB : b < B) (hBW : B ≤ W.heap.size) (hs : s.size ≤ 8192) (hX : X.length < 100000) (_hXs : ∀ p ∈ X, p.s.length ≤ 100000) (hi : i < s.size) (hc : s[i] = 36) (hn : i + 1 < s.size) (hd : cnts s[i + 1] = true) :
    Calls Tryz.prog 42 #[.pointer (some ⟨b, 0, none⟩), v] W fun e w' => ∃ v', e = .returned v' ∧ PrtR W b B s av (jnR X (stepD s.size (s.data.toList.drop i))) v' w' := by
  obtain ⟨i0, hif, hz0, hz1, hz2⟩ := info_parts infoQt
  obtain ⟨ad, cap, rfl⟩ := hO.form
  have l0 : W.cell? ⟨b, 0, none⟩ = some (.string s) := h.cell 0
  have l1 : W.cell? ⟨b, 1, none⟩ = some (.int .i64 (i : Nat)) := h.cell 1
  have lf := h.frozen 1
  have HL : Hid (Lx W b s i 0 av) := h
  have HO : Hid (QtOwn W B (.slice ad X.length cap) X) := hO
  have hi' : (i : Int) < (s.size : Int) := by omega
  have hl2 := len_drop s (i + 1 + 1)
  have hdc := drop_cons s (i + 1) hn
  have hcn := cnts_no hd
  have hns : ∀ c, (s.data.toList.drop (i + 1)).head? = some c → start8 c = false := fun c e => by
    rw [hdc] at e
    cases e
    exact hcn.1
  have HN : Hid (Calls Tryz.prog 55 #[.string s, .int .i64 ((i : Int) + 1)] W fun e w' => e = .returned (.int .i64 ((i : Int) + 1)) ∧ w' = W) := by
    have e := run_no s (i + 1) W (nrun_no _ hns)
    rw [show ((i + 1 : Nat) : Int) = (i : Int) + 1 by simp] at e
    exact e
  have hn42 : s[i + 1] ≠ 42 := by intro e; rw [e] at hd; exact absurd hd (by decide)
  have HR : Hid (jnR X (stepD s.size (s.data.toList.drop i)) = .ok (X ++ [⟨4, i, (s[i + 1]).toNat - 48, []⟩], s.data.toList.drop (i + 2))) := by
    unfold Hid
    rw [drop_cons s i hi, hc, stepD_cons, if_neg (by decide), if_neg (by decide), if_pos (by simp [dolB, dolC, hdc, hd]), hdc, dollar_cons, if_neg hn42, if_pos hd, show s.size - ((s.data.toList.drop (i + 1 + 1)).length + 2) = i by omega]
    simp only [jnR]
    rw [joinP_new (.inr (by simp))]
  rw [HR.out]
  have q92 : (((s[i]).toNat : Int) == 92) = false := by rw [hc]; rfl
  have q91 : (((s[i]).toNat : Int) == 91) = false := by rw [hc]; rfl
  have q36 : (((s[i]).toNat : Int) == 36) = true := by rw [hc]; rfl
  have q42 : (((s[i + 1]).toNat : Int) == 42) = false := byte_ne _ 42 hn42
  have hn1 : (i : Int) + 1 < (s.size : Int) := by omega
  have hn2 := hcn.2.1
  have hn3 := hcn.2.2
  have hn4 : (((s[i + 1]).toNat - 48 : Nat) : Int) = ((s[i + 1]).toNat : Int) - 48 := by omega
  clear hc HR h hO _hXs hdc hns hd hn42 hcn
  go_enter Tryz.func42, Tryz.ntmps42
  go_wp2_with fail
  refine Calls.mono HN.out ?_
  rintro e w1 ⟨rfl, hw⟩
  obtain rfl := hw.symm
  clear hw
  go_upto_region 34 with fail
  obtain ⟨W1, hW1⟩ : ∃ W1, W1 = W.setCell ⟨b, 1, none⟩ (.int .i64 ((i : Int) + 2)) := ⟨_, rfl⟩
  have HL1 : Hid (Lx W1 b s (i + 2) 0 av) := by rw [hW1]; exact HL.out.move (by simp)
  have HT1 : Hid (Turn (fun g => g = b) W W1) := by rw [hW1]; exact Turn.move W _
  have HO1 : Hid (QtOwn W1 B (.slice ad X.length cap) X) := HO.out.turn HT1.out (fun _ e => by omega)
  have hz1' : B ≤ W1.heap.size := Nat.le_trans hBW HT1.out.size
  rw [← hW1]
  have m0 : W1.cell? ⟨b, 0, none⟩ = some (.string s) := HL1.out.cell 0
  clear hW1 l0 l1 lf HL HO
  go_wp2_with (at_builtin; refine wpList_append_own_at _ rfl _ _ 46 rfl B 81 i0 _ 4 40 Tryz.underlying46 hif hz0 hz1 hz2 rfl (by decide) _ _ _ rfl (World.ownsRow.alloc HO1.out _) ⟨W1.heap.size, 0, none⟩ 1 1 [.int .i64 4, .int .i64 (i : Nat), .int .i64 (((s[i + 1]).toNat : Int) - 48), str []] rfl rfl (cells_new _ _ _) (by simp [Value.oneCell']) (by have := maxLen_big; omega) (by omega) (by simp; omega) ?_; intro v6 w6 hown hgrow _ _)
  have HB6 : Hid (Below B W1 w6) := grown_own (by simp; omega) ((Below.refl B W1).alloc hz1' _) (World.ownsRow.alloc HO1.out _) hgrow
  have HO6 : Hid (QtOwn w6 B v6 (X ++ [⟨4, i, (s[i + 1]).toNat - 48, []⟩])) := by
    unfold Hid QtOwn
    rw [ptCs_append, ptCs_one, List.length_append, show ptC (⟨4, i, (s[i + 1]).toNat - 48, []⟩ : Pt) = [.int .i64 4, .int .i64 (i : Nat), .int .i64 (((s[i + 1]).toNat : Int) - 48), str []] by rw [← hn4]; rfl]
    exact hown
  clear hown hgrow
  go_wp2_with fail
  go_ret
  exact ⟨v6, rfl, HT1.out.both HB6.out, HO6.out, i + 2, HL1.out.below HB6.out hbB, by omega, rfl⟩
set_option maxRecDepth 100000 in
set_option maxHeartbeats 4000000 in
theorem part_dol {W : World} {b B : Nat} {s : ByteArray} {i : Nat} {av v : Value} {X : List Pt} (h : Lx W b s i 0 av) (hO : QtOwn W B v X) (hbB : b < B) (hBW : B ≤ W.heap.size) (hs : s.size ≤ 8192) (hX : X.length < 100000) (hXs : ∀ p ∈ X, p.s.length ≤ 100000) (hi : i < s.size) (hc : s[i] = 36) (hd : dolB (s[i] :: s.data.toList.drop (i + 1)) = false) :
    Calls Tryz.prog 42 #[.pointer (some ⟨b, 0, none⟩), v] W fun e w' => ∃ v', e = .returned v' ∧ PrtR W b B s av (jnR X (stepD s.size (s.data.toList.drop i))) v' w' := by
  obtain ⟨i0, hif, hz0, hz1, hz2⟩ := info_parts infoQt
  obtain ⟨ad, cap, rfl⟩ := hO.form
  have l0 : W.cell? ⟨b, 0, none⟩ = some (.string s) := h.cell 0
  have l1 : W.cell? ⟨b, 1, none⟩ = some (.int .i64 (i : Nat)) := h.cell 1
  have lf := h.frozen 1
  have HL : Hid (Lx W b s i 0 av) := h
  have HO : Hid (QtOwn W B (.slice ad X.length cap) X) := hO
  have hi' : (i : Int) < (s.size : Int) := by omega
  have HC : Hid _ := text_call h hO hbB hBW hX hXs (show i + 1 ≤ s.size by omega) (s.extract i (i + 1)) (by simp; omega) ((i : Int) + 1) (by simp)
  have m0 : (W.setCell ⟨b, 1, none⟩ (.int .i64 ((i : Int) + 1))).cell? ⟨b, 0, none⟩ = some (.string s) := (h.move (j' := i + 1) (by simp)).cell 0
  have hns : ∀ c, (s.data.toList.drop (i + 1)).head? = some c → start8 c = false := fun c e => by
    cases ht : s.data.toList.drop (i + 1) with
    | nil => rw [ht] at e; cases e
    | cons d t =>
      rw [ht, hc] at hd
      rw [ht] at e
      cases e
      simp [dolB, dolC] at hd
      exact hd.2
  have HN : Hid (Calls Tryz.prog 55 #[.string s, .int .i64 ((i : Int) + 1)] W fun e w' => e = .returned (.int .i64 ((i : Int) + 1)) ∧ w' = W) := by
    have e := run_no s (i + 1) W (nrun_no _ hns)
    rw [show ((i + 1 : Nat) : Int) = (i : Int) + 1 by simp] at e
    exact e
  have HR : Hid (jnR X (stepD s.size (s.data.toList.drop i)) = .ok (joinP X ⟨1, i, 0, (s.extract i (i + 1)).data.toList⟩, s.data.toList.drop (i + 1))) := by
    unfold Hid
    have hl := len_drop s (i + 1)
    rw [one_eq s i hi, drop_cons s i hi, stepD_cons, if_neg (by rw [hc]; decide), if_neg (by rw [hc]; decide), if_neg (by rw [hd]; simp), show s.size - ((s.data.toList.drop (i + 1)).length + 1) = i by omega]
    rfl
  rw [HR.out]
  have q92 : (((s[i]).toNat : Int) == 92) = false := by rw [hc]; rfl
  have q91 : (((s[i]).toNat : Int) == 91) = false := by rw [hc]; rfl
  have q36 : (((s[i]).toNat : Int) == 36) = true := by rw [hc]; rfl
  have hcc : s.size ≤ i + 1 ∨ ∃ hn : i + 1 < s.size, (((s[i + 1]).toNat : Int) == 42) = false ∧ (((s[i + 1]).toNat : Int) < 49 ∨ (49 ≤ ((s[i + 1]).toNat : Int) ∧ 57 < ((s[i + 1]).toNat : Int))) := by
    by_cases hn : i + 1 < s.size
    · right
      rw [drop_cons s (i + 1) hn, hc] at hd
      simp [dolB, dolC] at hd
      refine ⟨hn, byte_ne _ 42 hd.1.1, ?_⟩
      have e := cntB_byte s[i + 1]
      rw [hd.1.2] at e
      unfold cntB at e
      have e' : ¬ (49 ≤ ((s[i + 1]).toNat : Int) ∧ ((s[i + 1]).toNat : Int) ≤ 57) := by
        intro h
        rw [decide_eq_true h.1, decide_eq_true h.2] at e
        cases e
      omega
    · exact .inl (by omega)
  clear hc HR h hO hXs hif hz0 hz1 hz2 hns hd HL HO
  rcases hcc with hn | ⟨hn, q42, hq⟩
  · have hn1 : ¬ (i : Int) + 1 < (s.size : Int) := by omega
    go_enter Tryz.func42, Tryz.ntmps42
    go_wp2_with fail
    refine Calls.mono HN.out ?_
    rintro e w1 ⟨rfl, hw⟩
    obtain rfl := hw.symm
    clear hw
    go_wp2_with fail
    refine Calls.mono HC.out ?_
    rintro e w1 ⟨v', rfl, hq⟩
    have HQ : Hid _ := hq
    clear hq
    go_wp2_with fail
    go_ret
    exact ⟨v', rfl, HQ.out⟩
  · have hn1 : (i : Int) + 1 < (s.size : Int) := by omega
    rcases hq with hq | ⟨hq, hq2⟩
    · go_enter Tryz.func42, Tryz.ntmps42
      go_wp2_with fail
      refine Calls.mono HN.out ?_
      rintro e w1 ⟨rfl, hw⟩
      obtain rfl := hw.symm
      clear hw
      go_wp2_with fail
      refine Calls.mono HC.out ?_
      rintro e w1 ⟨v', rfl, hq⟩
      have HQ : Hid _ := hq
      clear hq
      go_wp2_with fail
      go_ret
      exact ⟨v', rfl, HQ.out⟩
    · go_enter Tryz.func42, Tryz.ntmps42
      go_wp2_with fail
      refine Calls.mono HN.out ?_
      rintro e w1 ⟨rfl, hw⟩
      obtain rfl := hw.symm
      clear hw
      go_wp2_with fail
      refine Calls.mono HC.out ?_
      rintro e w1 ⟨v', rfl, hq⟩
      have HQ : Hid _ := hq
      clear hq
      go_wp2_with fail
      go_ret
      exact ⟨v', rfl, HQ.out⟩
end Go.Proofs.YtlihkblllakhmaaGreatDoor
