/- The document's own lexer: what stands between double quotes. -/
import Derived.Test.YtlbdecohmjpgaaaDoorRf7
namespace Go.Proofs.YtlbdecohmjpgaaaDoor
open Go.RowKit
attribute [local go_sem] Oper.semAt_some

theorem nrun_sz (l : List UInt8) : (nrun l).length ≤ l.length := nrun_len l
theorem dollar_sz {N : Nat} {l : List UInt8} {p : Pt} {u : List UInt8} (h : dollar N l = .ok (p, u)) : p.s.length ≤ l.length := by
  match l, h with
  | [], h => cases h
  | [_], h => cases h
  | a :: c :: t, h =>
    rw [dollar] at h
    split at h
    · split at h
      · cases h
      · cases h
        simp only [List.length_take, List.length_cons]
        omega
    · split at h
      · split at h
        · obtain ⟨rfl, _, _⟩ := varR_ok h
          have := (List.takeWhile_sublist (l := t) isNB).length_le
          simp only [List.length_cons]
          omega
        · cases h
      · split at h
        · cases h; simp
        · split at h
          · cases h; simp
          · split at h
            · cases h; simp
            · obtain ⟨rfl, _, _⟩ := varR_ok h
              have := nrun_sz (c :: t)
              simp only [List.length_cons] at this ⊢
              omega
/-- The parts with these bytes behind. -/
def nextY (on : Bool) (Y : List Pt) (k : Nat) (x : List UInt8) : List Pt := if on then textP Y 2 k x else Y ++ [⟨2, k, 0, false, x⟩]
theorem nextY_on (on : Bool) (Y : List Pt) (k : Nat) (x : List UInt8) (h : OnP on Y) : OnP true (nextY on Y k x) := by
  intro _
  unfold nextY
  cases on with
  | false => exact ⟨Y, _, rfl, rfl⟩
  | true =>
    obtain ⟨Z, p, rfl, hp⟩ := h rfl
    rw [if_pos rfl, textP_on hp]
    exact ⟨Z, _, rfl, hp⟩
theorem nextY_len (on : Bool) (Y : List Pt) (k : Nat) (x : List UInt8) (h : OnP on Y) : (nextY on Y k x).length ≤ Y.length + 1 := by
  unfold nextY
  cases on with
  | false => simp
  | true =>
    obtain ⟨Z, p, rfl, hp⟩ := h rfl
    rw [if_pos rfl, textP_on hp]
    simp
theorem nextY_sz {on : Bool} {Y : List Pt} {k : Nat} {x : List UInt8} (h : OnP on Y) {M d : Nat} (hY : ∀ q ∈ Y, q.s.length ≤ M) (hx : x.length ≤ d) : ∀ q ∈ nextY on Y k x, q.s.length ≤ M + d := by
  unfold nextY
  intro q hq
  cases on with
  | false =>
    rw [if_neg (by simp), List.mem_append] at hq
    rcases hq with hq | hq
    · have := hY q hq; omega
    · simp at hq; rw [hq]; show x.length ≤ _; omega
  | true =>
    obtain ⟨Z, p, rfl, hp⟩ := h rfl
    rw [if_pos rfl, textP_on hp, List.mem_append] at hq
    rcases hq with hq | hq
    · have := hY q (by simp [hq]); omega
    · have := hY p (by simp)
      simp at hq; rw [hq]; simp only [List.length_append]; omega
theorem finD_text {N a g : Nat} {on : Bool} {Y : List Pt} {c : UInt8} {t : List UInt8} (h : OnP on Y) (hc : c ≠ 34) (hd : dolB (c :: t) = false) : ∃ g', g ≤ g' ∧ finD N a on Y (g + 1) (c :: t) = finD N a true (nextY on Y (N - (t.length + 1)) (dByte (c :: t)).1) g' ((c :: t).drop (dByte (c :: t)).2) := by
  cases on with
  | false => exact ⟨g, Nat.le_refl _, finD_off hc hd⟩
  | true =>
    obtain ⟨Z, p, rfl, hp⟩ := h rfl
    refine ⟨g + 1, by omega, ?_⟩
    unfold nextY
    rw [finD_on hp hc hd, if_pos rfl, textP_on hp]
theorem text_dq {W : World} {B : Nat} {v : Value} {Y : List Pt} {on : Bool} (h : RPt W B v Y) (hon : OnP on Y) (hB : B ≤ W.heap.size) (a : Nat) (t : ByteArray) (hX : Y.length < 100000) (hXs : ∀ p ∈ Y, p.s.length ≤ 100000) (ht : t.size ≤ 100000) :
    Calls Tryd.prog 39 #[v, .int .i64 2, .int .i64 (a : Nat), .string t, .bool on] W fun e w' => ∃ v', e = .returned v' ∧ RPt w' B v' (nextY on Y a t.data.toList) ∧ Below B W w' := by
  unfold nextY
  cases on with
  | false => exact text_new h hB 2 a t false hX (Or.inl rfl)
  | true => exact text_any h hB 2 a t hX hXs ht
theorem Lx.pos {W : World} {b : Nat} {s : ByteArray} {i : Nat} {c : Int} {av : Value} (h : Lx W b s i c av) : posOf W b = i := by
  unfold posOf
  rw [show W.cell? ⟨b, 1, none⟩ = some (.int .i64 (i : Nat)) from Cel.cell h 1]
  simp [intOf]
theorem Turn.more {b B : Nat} {W X w' : World} (h1 : Turn (fun g => g = b ∨ B ≤ g) W X) (h2 : Turn (fun g => g = b ∨ B ≤ g) X w') : Turn (fun g => g = b ∨ B ≤ g) W w' := h1.trans h2 (fun _ e _ => e)
theorem Turn.drewN {S : Nat → Prop} {W X : World} (h : Turn S W X) (n : Nat) : Turn S W (X.drewN n) := ⟨h.os, h.tape, h.output, h.size, h.block⟩
set_option maxRecDepth 100000 in
set_option maxHeartbeats 16000000 in
theorem part_double {W : World} {b B : Nat} {s : ByteArray} {i : Nat} {av v : Value} {X : List Pt} (h : Lx W b s i 0 av) (hO : RPt W B v X) (hbB : b < B) (hBW : B ≤ W.heap.size) (hs : s.size ≤ 8192) (hX : X.length ≤ i) (hi : i < s.size) (hXs : ∀ p ∈ X, p.s.length ≤ 8192 + i) (hc : s[i] = 34) :
    Calls Tryd.prog 26 #[.pointer (some ⟨b, 0, none⟩), v] W fun e w' => ∃ v', e = .returned v' ∧ PrtR W b B s av (preR X (parts s.size s[i] (s.data.toList.drop (i + 1)))) v' w' := by
  obtain ⟨i0, hif, hz0, hz1, hz2⟩ := info_parts infoR
  obtain ⟨ad, cap, rfl⟩ := hO.form
  have l0 : W.cell? ⟨b, 0, none⟩ = some (.string s) := h.cell 0
  have l1 : W.cell? ⟨b, 1, none⟩ = some (.int .i64 (i : Nat)) := h.cell 1
  have HL : Hid (Lx W b s i 0 av) := h
  have HO : Hid (RPt W B (.slice ad X.length cap) X) := hO
  have hi' : (i : Int) < (s.size : Int) := by omega
  have q92 : (((s[i]).toNat : Int) == 92) = false := by rw [hc]; rfl
  have q39 : (((s[i]).toNat : Int) == 39) = false := by rw [hc]; rfl
  have q34 : (((s[i]).toNat : Int) == 34) = true := by rw [hc]; rfl
  have hl1 := len_drop' s (i + 1)
  obtain ⟨R, HR⟩ : ∃ R, Hid (preR X (parts s.size s[i] (s.data.toList.drop (i + 1))) = R) := ⟨preR X (parts s.size s[i] (s.data.toList.drop (i + 1))), by unfold Hid; rfl⟩
  have HR0 : Hid (R = finD s.size i true (X ++ [⟨2, i, 0, false, []⟩]) ((s.data.toList.drop (i + 1)).length + 1) (s.data.toList.drop (i + 1))) := by
    unfold Hid
    rw [← HR.out, hc, parts_dq, show s.size - ((s.data.toList.drop (i + 1)).length + 1) = i by omega, finD_start]
  rw [HR.out]
  have hz1' := hBW
  have HXS : Hid (∀ p ∈ X, p.s.length ≤ 8192 + i) := hXs
  clear h hO hc HR hXs
  go_enter Tryd.func26, Tryd.ntmps26
  go_upto_region 21 with (at_builtin; refine wpList_append_own_at _ rfl _ _ 43 rfl B 72 i0 _ 5 48 Tryd.underlying43 hif hz0 hz1 hz2 rfl (by decide) _ _ _ rfl (World.ownsRow.alloc HO.out _) ⟨W.heap.size, 0, none⟩ 1 1 (ptC (⟨2, i, 0, false, []⟩ : Pt)) rfl rfl (cells_new _ _ _) (by simp [Value.oneCell']) (by have := maxLen_big; omega) (by omega) (by simp; omega) ?_; intro v6 w6 hown hgrow hx1 hx2; clear hx1 hx2)
  have hB6 : Below B W w6 := grown_own (by simp; omega) ((Below.refl B W).alloc hz1' _) (World.ownsRow.alloc HO.out _) hgrow
  have HO6 : Hid (RPt w6 B v6 (X ++ [⟨2, i, 0, false, []⟩])) := by
    unfold Hid RPt
    rw [ptCs_append, ptCs_one, List.length_append]
    exact hown
  have HL6 : Hid (Lx w6 b s i 0 av) := HL.out.below hB6 hbB
  have HT6 : Hid (Turn (fun g => g = b ∨ B ≤ g) W w6) := (Turn.refl (fun g => g = b) W).both hB6
  have k0 : w6.cell? ⟨b, 0, none⟩ = some (.string s) := HL6.out.cell 0
  have k1 : w6.cell? ⟨b, 1, none⟩ = some (.int .i64 (i : Nat)) := HL6.out.cell 1
  have kf := HL6.out.frozen 1
  clear hown hgrow hB6 HL HO l0 l1
  obtain ⟨ad6, cap6, rfl⟩ := HO6.out.form
  have hl6 : (X ++ [(⟨2, i, 0, false, []⟩ : Pt)]).length = X.length + 1 := by simp
  rw [hl6] at HO6 ⊢
  clear hl6
  go_wp2_with fail
  obtain ⟨W2, hW2⟩ : ∃ W2, W2 = w6.setCell ⟨b, 1, none⟩ (.int .i64 ((i : Int) + 1)) := ⟨_, rfl⟩
  have HL2 : Hid (Lx W2 b s (i + 1) 0 av) := by rw [hW2]; exact HL6.out.move (by simp)
  have HT2 : Hid (Turn (fun g => g = b ∨ B ≤ g) W W2) := by rw [hW2]; exact HT6.out.more (Turn.wide (Turn.move w6 _))
  have HO2 : Hid (RPt W2 B (.slice ad6 (X.length + 1) cap6) (X ++ [⟨2, i, 0, false, []⟩])) := by rw [hW2]; exact HO6.out.turn (Turn.move (b := b) w6 _) (fun _ e => by omega)
  rw [← hW2]
  clear hW2 k0 k1 kf HL6 HT6 HO6
  go_loopw [1, 4, 8, 9, 10, 11, 12, 13, 14, 15] (fun v1 v4 v8 _ _ _ _ _ _ _ wr => ∃ (p g : Nat) (on : Bool) (Y : List Pt), v4 = .slice none 0 0 ∧ v8 = .bool on ∧ i + 1 ≤ p ∧ p ≤ s.size ∧ s.size - p < g ∧ Y.length ≤ p ∧ Hid (∀ q ∈ Y, q.s.length ≤ 8192 + p) ∧ Hid (OnP on Y) ∧ Hid (RPt wr B v1 Y) ∧ Hid (Lx wr b s p 0 av) ∧ Hid (Turn (fun g => g = b ∨ B ≤ g) W wr) ∧ Hid (R = finD s.size i on Y g (s.data.toList.drop p))) (fun _ _ _ _ _ _ _ _ _ _ wr => s.size + 1 - posOf wr b)
  case atStart =>
    refine ⟨i + 1, _, true, _, rfl, rfl, Nat.le_refl _, by omega, ?_, by simp; omega, ?_, fun _ => ⟨X, _, rfl, rfl⟩, HO2.out, HL2.out, HT2.out, HR0.out⟩
    · omega
    · intro q hq
      rw [List.mem_append] at hq
      rcases hq with hq | hq
      · have := HXS.out q hq; omega
      · simp at hq; rw [hq]; simp
  case round =>
    obtain ⟨p, g, on, Y, rfl, rfl, hp1, hp2, hg, hYl, HYS, HON, HOY, HLY, HTY, HRY⟩ := hrel
    clear HO2 HL2 HT2 HR0
    obtain ⟨ad, cap, rfl⟩ := HOY.out.form
    have HPO : Hid (posOf wr b = p) := HLY.out.pos
    have l0 : wr.cell? ⟨b, 0, none⟩ = some (.string s) := HLY.out.cell 0
    have l1 : wr.cell? ⟨b, 1, none⟩ = some (.int .i64 (p : Nat)) := HLY.out.cell 1
    have hBr : B ≤ wr.heap.size := Nat.le_trans hBW HTY.out.size
    by_cases hlt : p < s.size
    · have hlt' : (p : Int) < (s.size : Int) := by omega
      obtain ⟨g, rfl⟩ : ∃ g', g = g' + 1 := ⟨g - 1, by omega⟩
      have hd := drop_cons s p hlt
      have hln := len_drop' s (p + 1)
      go_wp2_with fail
      go_quiet (fail)
      obtain ⟨Wd, hWd⟩ : ∃ Wd, Wd = wr.drewN nq := ⟨_, rfl⟩
      have HOD : Hid (RPt Wd B (.slice ad Y.length cap) Y) := by rw [hWd]; exact HOY.out
      have HLD : Hid (Lx Wd b s p 0 av) := by rw [hWd]; exact HLY.out
      have HTD : Hid (Turn (fun g => g = b ∨ B ≤ g) W Wd) := by rw [hWd]; exact HTY.out.drewN nq
      have hBd : B ≤ Wd.heap.size := by rw [hWd]; exact hBr
      rw [← hWd]
      clear hWd HOY HLY HTY l0 l1
      have l0 : Wd.cell? ⟨b, 0, none⟩ = some (.string s) := HLD.out.cell 0
      have l1 : Wd.cell? ⟨b, 1, none⟩ = some (.int .i64 (p : Nat)) := HLD.out.cell 1
      have lf := HLD.out.frozen 1
      by_cases c34 : s[p] = 34
      · have d34 : (((s[p]).toNat : Int) == 34) = true := by rw [c34]; rfl
        have HRR : Hid (R = .ok (Y, s.data.toList.drop (p + 1))) := by
          unfold Hid
          rw [HRY.out, hd, c34, finD_quote HON.out]
        clear HRY hd c34
        go_wp2_with fail
        go_ret
        refine ⟨_, rfl, ?_⟩
        rw [HRR.out]
        exact ⟨HTD.out.more (Turn.wide (Turn.move Wd _)), HOD.out.turn (Turn.move (b := b) Wd _) (fun _ e => by omega), p + 1, HLD.out.move (by simp), by omega, rfl⟩
      · have d34 : (((s[p]).toNat : Int) == 34) = false := byte_ne s[p] 34 c34
        by_cases c36 : s[p] = 36
        · have d36 : (((s[p]).toNat : Int) == 36) = true := by rw [c36]; rfl
          have HD := dolR_any HLD.out true (by omega) hlt c36
          cases hdl : dolB (s.data.toList.drop p) with
          | true =>
            rw [hdl, if_pos rfl] at HD
            cases hdr : dollar s.size (s.data.toList.drop p) with
            | error x =>
              rw [hdr] at HD
              have HDH : Hid _ := HD
              have HRR : Hid (R = .error x) := by
                unfold Hid
                have hdl' := hdl
                have hdr' := hdr
                rw [hd] at hdl' hdr'
                rw [HRY.out, hd, finD_err HON.out c34 hdl' hdr']
              have hcx : (codE x.code == 0) = false := by unfold codE; split <;> rfl
              have hcx2 : ¬ codE x.code = 0 := by simpa using hcx
              clear HD HRY hd hdl hdr c34 c36
              go_wp2_with fail
              refine Calls.mono HDH.out ?_
              rintro e w3 ⟨⟨kd, ps, n, qd, sx⟩, is, rfl, rfl, j, fb, f1, f2, f3, f4⟩
              have m2 : w3.cell? ⟨b, 2, none⟩ = some (.int .i64 (codE x.code)) := Cel.cell f1 2
              have hbw : b < w3.heap.size := Cel.lt f1
              have HF1 : Hid (Lx w3 b s j (codE x.code) (.slice (some ⟨fb, 0, none⟩) 1 1)) := f1
              have HF2 : Hid (Cel w3 fb 3 #[.int .i64 (x.pos : Nat)]) := f2
              have HT3 : Hid (Turn (fun g => g = b ∨ B ≤ g) W w3) := HTD.out.more (Turn.wide f4)
              clear f1 f2 f4 HDH l0 l1 lf
              obtain ⟨cx, HCX⟩ : ∃ cx, Hid (codE x.code = cx) := ⟨_, rfl⟩
              rw [HCX.out] at HF1 m2 hcx hcx2
              go_wp2_with fail
              go_ret
              refine ⟨_, rfl, ?_⟩
              rw [HRR.out]
              exact ⟨HT3.out.more ((Turn.refl (fun g => g = b) w3).both ((Below.refl B w3).alloc (Nat.le_trans hBW HT3.out.size) _)), ⟨_, _, _, rfl⟩, j, fb, by rw [HCX.out]; exact Cel.below HF1.out (below_new _ _) (Cel.lt HF1.out), HF2.out.below (below_new _ _) HF2.out.lt⟩
            | ok q0 =>
              obtain ⟨p0, u0⟩ := q0
              rw [hdr] at HD
              have HDH : Hid _ := HD
              have hsz := dollar_sz hdr
              rw [len_drop'] at hsz
              have hul : u0.length < (s.data.toList.drop p).length := (dollar_ok hdr).2
              rw [len_drop'] at hul
              have HRR : Hid (R = finD s.size i false (Y ++ [quo p0]) g u0) := by
                unfold Hid
                have hdl' := hdl
                have hdr' := hdr
                rw [hd] at hdl' hdr'
                rw [HRY.out, hd, finD_ok HON.out c34 hdl' hdr']
              clear HD HRY hd hdl hdr c34 c36 HON
              go_wp2_with fail
              refine Calls.mono HDH.out ?_
              rintro e w3 ⟨pp, is, rfl, rfl, rfl, j, f1, f2, f3, f4⟩
              have m2 : w3.cell? ⟨b, 2, none⟩ = some (.int .i64 0) := Cel.cell f1 2
              have hbw : b < w3.heap.size := Cel.lt f1
              have HF1 : Hid (Lx w3 b s j 0 av) := f1
              have HT3 : Hid (Turn (fun g => g = b ∨ B ≤ g) W w3) := HTD.out.more (Turn.wide f2)
              have HO3 : Hid (RPt w3 B (.slice ad Y.length cap) Y) := HOD.out.turn f2 (fun _ e => by omega)
              have hB3 : B ≤ w3.heap.size := Nat.le_trans hBW HT3.out.size
              have HU : Hid (u0 = s.data.toList.drop j) := f4
              have hjl : p < j := by
                have := congrArg List.length f4
                rw [len_drop'] at this
                simp only at this
                omega
              clear f1 f2 f4 HDH l0 l1 lf HOD HLD HTD
              obtain ⟨kd, ps, n, qd, sx⟩ := p0
              go_wp2_with (at_builtin; refine wpList_append_own_at _ rfl _ _ 43 rfl B 72 i0 _ 5 48 Tryd.underlying43 hif hz0 hz1 hz2 rfl (by decide) _ _ _ rfl (World.ownsRow.alloc (World.ownsRow.alloc HO3.out _) _) ⟨w3.heap.size + 1, 0, none⟩ 1 1 (ptC (⟨kd, ps, n, true, sx⟩ : Pt)) rfl rfl (cells_new2 _ _ _ _) (by simp [Value.oneCell']) (by have := maxLen_big; omega) (by omega) (by simp; omega) ?_; intro v7 w7 hown hgrow hx1 hx2; clear hx1 hx2)
              have hB7 : Below B w3 w7 := grown_own (by simp; omega) (((Below.refl B w3).alloc hB3 _).alloc (by simp; omega) _) (World.ownsRow.alloc (World.ownsRow.alloc HO3.out _) _) hgrow
              have HO7 : Hid (RPt w7 B v7 (Y ++ [⟨kd, ps, n, true, sx⟩])) := by
                unfold Hid RPt
                rw [ptCs_append, ptCs_one, List.length_append]
                exact hown
              have HL7 : Hid (Lx w7 b s j 0 av) := Cel.below HF1.out hB7 hbB
              have HT7 : Hid (Turn (fun g => g = b ∨ B ≤ g) W w7) := HT3.out.more ((Turn.refl (fun g => g = b) w3).both hB7)
              clear hown hgrow hB7 HF1 HO3 HT3
              obtain ⟨ad7, cap7, rfl⟩ := HO7.out.form
              go_wp2_with fail
              go_roundw
              case rel =>
                refine ⟨j, g, false, Y ++ [(⟨kd, ps, n, true, sx⟩ : Pt)], rfl, rfl, by omega, f3, by omega, by simp; omega, ?_, (fun e => by cases e), HO7.out, HL7.out, HT7.out, ?_⟩
                · intro q hq
                  rw [List.mem_append] at hq
                  rcases hq with hq | hq
                  · have := HYS.out q hq; omega
                  · simp at hq; rw [hq]; simp only at hsz ⊢; omega
                · unfold Hid
                  rw [HRR.out, HU.out]
                  rfl
              case measure =>
                rw [HL7.out.pos, HPO.out]
                omega
          | false =>
            rw [hdl] at HD
            have HDH : Hid _ := HD
            have hdl' := hdl
            rw [hd] at hdl'
            have hdb : dByte (s.data.toList.drop p) = ((s.extract p (p + 1)).data.toList, 1) := by rw [dByte_other s p hlt (by rw [c36]; decide), one_eq s p hlt]
            obtain ⟨g', hg', hft⟩ := finD_text (N := s.size) (a := i) (g := g) HON.out c34 hdl'
            rw [← hd, hdb, ← HRY.out, show s.size - ((s.data.toList.drop (p + 1)).length + 1) = p by omega, List.drop_drop] at hft
            have d92 : (((s[p]).toNat : Int) == 92) = false := by rw [c36]; rfl
            have HFT : Hid _ := hft
            clear HD hdl hdl' hdb hft HRY hd c34 c36
            go_wp2_with fail
            refine Calls.mono HDH.out ?_
            rintro e w3 ⟨⟨kd, ps, n, qd, sx⟩, is, rfl, rfl, f1, f2⟩
            obtain ⟨W3, hW3⟩ : ∃ W3, W3 = w3.alloc (.cells (ptC ⟨kd, ps, n, qd, sx⟩).toArray 72) := ⟨_, rfl⟩
            have hl3 : Lx W3 b s p 0 av := by rw [hW3]; exact Cel.below f1 (below_new _ _) (Cel.lt f1)
            have hT3 : Turn (fun g => g = b) Wd W3 := by rw [hW3]; exact f2.trans (Turn.ofBelow (S := fun g => g = b) (below_new w3 _)) (fun _ e _ => e)
            have HL3 : Hid (Lx W3 b s p 0 av) := hl3
            have HT3 : Hid (Turn (fun g => g = b ∨ B ≤ g) W W3) := HTD.out.more (Turn.wide hT3)
            have HO3 : Hid (RPt W3 B (.slice ad Y.length cap) Y) := HOD.out.turn hT3 (fun _ e => by omega)
            have HW3 : Hid (w3.alloc (.cells (ptC ⟨kd, ps, n, qd, sx⟩).toArray 72) = W3) := hW3.symm
            clear f1 f2 HDH l0 l1 lf HOD HLD HTD hl3 hT3 hW3
            go_upto_region 31 with fail
            rw [HW3.out]
            clear HW3
            have l0 : W3.cell? ⟨b, 0, none⟩ = some (.string s) := HL3.out.cell 0
            have l2 : W3.cell? ⟨b, 2, none⟩ = some (.int .i64 0) := HL3.out.cell 2
            have hBx : B ≤ W3.heap.size := Nat.le_trans hBW HT3.out.size
            have hes : (s.extract p (p + 1)).size ≤ 2 := by rw [ByteArray.size_extract]; omega
            have HTX : Hid _ := text_dq HO3.out HON.out hBx p (s.extract p (p + 1)) (by omega) (fun q hq => by have := HYS.out q hq; omega) (by omega)
            have HTL : Hid ((s.extract p (p + 1)).data.toList.length ≤ 1) := by
              rw [Hid, Array.length_toList]
              show (s.extract p (p + 1)).size ≤ 1
              rw [ByteArray.size_extract]
              omega
            clear hes
            go_wp2_with fail
            refine Calls.mono HTX.out ?_
            rintro e w5 ⟨v5, rfl, hR5, hb5⟩
            have HB5 : Hid (Below B W3 w5) := hb5
            have HO5 : Hid (RPt w5 B v5 (nextY on Y p (s.extract p (p + 1)).data.toList)) := hR5
            have HL5 : Hid (Lx w5 b s p 0 av) := HL3.out.below hb5 hbB
            have k1 : w5.cell? ⟨b, 1, none⟩ = some (.int .i64 (p : Nat)) := HL5.out.cell 1
            have kf := HL5.out.frozen 1
            have hny := nextY_len on Y p (s.extract p (p + 1)).data.toList HON.out
            have HNO : Hid (OnP true (nextY on Y p (s.extract p (p + 1)).data.toList)) := nextY_on on Y p _ HON.out
            have HNS : Hid _ := nextY_sz (k := p) HON.out HYS.out HTL.out
            obtain ⟨Y5, HY5⟩ : ∃ Y5, Hid (nextY on Y p (s.extract p (p + 1)).data.toList = Y5) := ⟨_, rfl⟩
            rw [HY5.out] at HO5 HNO HNS hny HFT
            clear hR5 hb5 HTX HTL
            obtain ⟨ad5, cap5, rfl⟩ := HO5.out.form
            go_wp2_with fail
            go_roundw
            case rel =>
              refine ⟨p + 1, g', true, Y5, rfl, rfl, by omega, by omega, by omega, by omega, ?_, HNO.out, HO5.out.turn (Turn.move (b := b) w5 _) (fun _ e => by omega), HL5.out.move (by simp), HT3.out.more (((Turn.refl (fun g => g = b) W3).both HB5.out).more (Turn.wide (Turn.move w5 _))), HFT.out⟩
              intro q hq
              have := HNS.out q hq
              omega
            case measure =>
              rw [(HL5.out.move (j' := p + 1) (by simp)).pos, HPO.out]
              omega
        · have d36 : (((s[p]).toNat : Int) == 36) = false := byte_ne s[p] 36 c36
          have hdl : dolB (s[p] :: s.data.toList.drop (p + 1)) = false := by
            cases s.data.toList.drop (p + 1) with
            | nil => rfl
            | cons a r => simp [dolB, c36]
          obtain ⟨g', hg', hft⟩ := finD_text (N := s.size) (a := i) (g := g) HON.out c34 hdl
          rw [← hd, ← HRY.out, show s.size - ((s.data.toList.drop (p + 1)).length + 1) = p by omega, List.drop_drop] at hft
          by_cases c92 : s[p] = 92
          · have d92 : (((s[p]).toNat : Int) == 92) = true := by rw [c92]; rfl
            by_cases hp3 : p + 1 < s.size
            · have hp3' : (p : Int) + 1 < (s.size : Int) := by omega
              have hdb := dByte_two s p hp3 c92
              by_cases hsp : [36, 34, 92].contains s[p + 1] = true
              · rw [if_pos hsp] at hdb
                have hdb2 : dByte (s.data.toList.drop p) = ((s.extract (p + 1) (p + 2)).data.toList, 2) := by rw [hdb, one_eq s (p + 1) hp3]
                rw [hdb2] at hft
                have HFT : Hid _ := hft
                have hca : s[p + 1] = 36 ∨ s[p + 1] = 34 ∨ s[p + 1] = 92 := by simpa using hsp
                clear hft HRY hd hdl hdb hdb2 c34 c36 c92 hsp
                rcases hca with ca | ca | ca
                · have e36 : (((s[p + 1]).toNat : Int) == 36) = true := by rw [ca]; rfl
                  clear ca
                  have hBx : B ≤ Wd.heap.size := Nat.le_trans hBW HTD.out.size
                  have hes : (s.extract (p + 1) (p + 2)).size ≤ 2 := by rw [ByteArray.size_extract]; omega
                  have HTX : Hid _ := text_dq HOD.out HON.out hBx p (s.extract (p + 1) (p + 2)) (by omega) (fun q hq => by have := HYS.out q hq; omega) (by omega)
                  have HTL : Hid ((s.extract (p + 1) (p + 2)).data.toList.length ≤ 2) := by
                    rw [Hid, Array.length_toList]
                    show (s.extract (p + 1) (p + 2)).size ≤ 2
                    rw [ByteArray.size_extract]
                    omega
                  clear hes
                  go_wp2_with fail
                  refine Calls.mono HTX.out ?_
                  rintro e w5 ⟨v5, rfl, hR5, hb5⟩
                  have HB5 : Hid (Below B Wd w5) := hb5
                  have HO5 : Hid (RPt w5 B v5 (nextY on Y p (s.extract (p + 1) (p + 2)).data.toList)) := hR5
                  have HL5 : Hid (Lx w5 b s p 0 av) := HLD.out.below hb5 hbB
                  have k1 : w5.cell? ⟨b, 1, none⟩ = some (.int .i64 (p : Nat)) := HL5.out.cell 1
                  have kf := HL5.out.frozen 1
                  have hny := nextY_len on Y p (s.extract (p + 1) (p + 2)).data.toList HON.out
                  have HNO : Hid (OnP true (nextY on Y p (s.extract (p + 1) (p + 2)).data.toList)) := nextY_on on Y p _ HON.out
                  have HNS : Hid _ := nextY_sz (k := p) HON.out HYS.out HTL.out
                  obtain ⟨Y5, HY5⟩ : ∃ Y5, Hid (nextY on Y p (s.extract (p + 1) (p + 2)).data.toList = Y5) := ⟨_, rfl⟩
                  rw [HY5.out] at HO5 HNO HNS hny HFT
                  clear hR5 hb5 HTX HTL
                  obtain ⟨ad5, cap5, rfl⟩ := HO5.out.form
                  go_wp2_with fail
                  go_roundw
                  case rel =>
                    refine ⟨p + 2, g', true, Y5, rfl, rfl, by omega, by omega, by omega, by omega, ?_, HNO.out, HO5.out.turn (Turn.move (b := b) w5 _) (fun _ e => by omega), HL5.out.move (by simp), HTD.out.more (((Turn.refl (fun g => g = b) Wd).both HB5.out).more (Turn.wide (Turn.move w5 _))), HFT.out⟩
                    intro q hq
                    have := HNS.out q hq
                    omega
                  case measure =>
                    rw [(HL5.out.move (j' := p + 2) (by simp)).pos, HPO.out]
                    omega
                · have e36 : (((s[p + 1]).toNat : Int) == 36) = false := by rw [ca]; rfl
                  have e34 : (((s[p + 1]).toNat : Int) == 34) = true := by rw [ca]; rfl
                  clear ca
                  have hBx : B ≤ Wd.heap.size := Nat.le_trans hBW HTD.out.size
                  have hes : (s.extract (p + 1) (p + 2)).size ≤ 2 := by rw [ByteArray.size_extract]; omega
                  have HTX : Hid _ := text_dq HOD.out HON.out hBx p (s.extract (p + 1) (p + 2)) (by omega) (fun q hq => by have := HYS.out q hq; omega) (by omega)
                  have HTL : Hid ((s.extract (p + 1) (p + 2)).data.toList.length ≤ 2) := by
                    rw [Hid, Array.length_toList]
                    show (s.extract (p + 1) (p + 2)).size ≤ 2
                    rw [ByteArray.size_extract]
                    omega
                  clear hes
                  go_wp2_with fail
                  refine Calls.mono HTX.out ?_
                  rintro e w5 ⟨v5, rfl, hR5, hb5⟩
                  have HB5 : Hid (Below B Wd w5) := hb5
                  have HO5 : Hid (RPt w5 B v5 (nextY on Y p (s.extract (p + 1) (p + 2)).data.toList)) := hR5
                  have HL5 : Hid (Lx w5 b s p 0 av) := HLD.out.below hb5 hbB
                  have k1 : w5.cell? ⟨b, 1, none⟩ = some (.int .i64 (p : Nat)) := HL5.out.cell 1
                  have kf := HL5.out.frozen 1
                  have hny := nextY_len on Y p (s.extract (p + 1) (p + 2)).data.toList HON.out
                  have HNO : Hid (OnP true (nextY on Y p (s.extract (p + 1) (p + 2)).data.toList)) := nextY_on on Y p _ HON.out
                  have HNS : Hid _ := nextY_sz (k := p) HON.out HYS.out HTL.out
                  obtain ⟨Y5, HY5⟩ : ∃ Y5, Hid (nextY on Y p (s.extract (p + 1) (p + 2)).data.toList = Y5) := ⟨_, rfl⟩
                  rw [HY5.out] at HO5 HNO HNS hny HFT
                  clear hR5 hb5 HTX HTL
                  obtain ⟨ad5, cap5, rfl⟩ := HO5.out.form
                  go_wp2_with fail
                  go_roundw
                  case rel =>
                    refine ⟨p + 2, g', true, Y5, rfl, rfl, by omega, by omega, by omega, by omega, ?_, HNO.out, HO5.out.turn (Turn.move (b := b) w5 _) (fun _ e => by omega), HL5.out.move (by simp), HTD.out.more (((Turn.refl (fun g => g = b) Wd).both HB5.out).more (Turn.wide (Turn.move w5 _))), HFT.out⟩
                    intro q hq
                    have := HNS.out q hq
                    omega
                  case measure =>
                    rw [(HL5.out.move (j' := p + 2) (by simp)).pos, HPO.out]
                    omega
                · have e36 : (((s[p + 1]).toNat : Int) == 36) = false := by rw [ca]; rfl
                  have e34 : (((s[p + 1]).toNat : Int) == 34) = false := by rw [ca]; rfl
                  have e92 : (((s[p + 1]).toNat : Int) == 92) = true := by rw [ca]; rfl
                  clear ca
                  have hBx : B ≤ Wd.heap.size := Nat.le_trans hBW HTD.out.size
                  have hes : (s.extract (p + 1) (p + 2)).size ≤ 2 := by rw [ByteArray.size_extract]; omega
                  have HTX : Hid _ := text_dq HOD.out HON.out hBx p (s.extract (p + 1) (p + 2)) (by omega) (fun q hq => by have := HYS.out q hq; omega) (by omega)
                  have HTL : Hid ((s.extract (p + 1) (p + 2)).data.toList.length ≤ 2) := by
                    rw [Hid, Array.length_toList]
                    show (s.extract (p + 1) (p + 2)).size ≤ 2
                    rw [ByteArray.size_extract]
                    omega
                  clear hes
                  go_wp2_with fail
                  refine Calls.mono HTX.out ?_
                  rintro e w5 ⟨v5, rfl, hR5, hb5⟩
                  have HB5 : Hid (Below B Wd w5) := hb5
                  have HO5 : Hid (RPt w5 B v5 (nextY on Y p (s.extract (p + 1) (p + 2)).data.toList)) := hR5
                  have HL5 : Hid (Lx w5 b s p 0 av) := HLD.out.below hb5 hbB
                  have k1 : w5.cell? ⟨b, 1, none⟩ = some (.int .i64 (p : Nat)) := HL5.out.cell 1
                  have kf := HL5.out.frozen 1
                  have hny := nextY_len on Y p (s.extract (p + 1) (p + 2)).data.toList HON.out
                  have HNO : Hid (OnP true (nextY on Y p (s.extract (p + 1) (p + 2)).data.toList)) := nextY_on on Y p _ HON.out
                  have HNS : Hid _ := nextY_sz (k := p) HON.out HYS.out HTL.out
                  obtain ⟨Y5, HY5⟩ : ∃ Y5, Hid (nextY on Y p (s.extract (p + 1) (p + 2)).data.toList = Y5) := ⟨_, rfl⟩
                  rw [HY5.out] at HO5 HNO HNS hny HFT
                  clear hR5 hb5 HTX HTL
                  obtain ⟨ad5, cap5, rfl⟩ := HO5.out.form
                  go_wp2_with fail
                  go_roundw
                  case rel =>
                    refine ⟨p + 2, g', true, Y5, rfl, rfl, by omega, by omega, by omega, by omega, ?_, HNO.out, HO5.out.turn (Turn.move (b := b) w5 _) (fun _ e => by omega), HL5.out.move (by simp), HTD.out.more (((Turn.refl (fun g => g = b) Wd).both HB5.out).more (Turn.wide (Turn.move w5 _))), HFT.out⟩
                    intro q hq
                    have := HNS.out q hq
                    omega
                  case measure =>
                    rw [(HL5.out.move (j' := p + 2) (by simp)).pos, HPO.out]
                    omega
              · rw [if_neg hsp] at hdb
                have hdb2 : dByte (s.data.toList.drop p) = ((s.extract p (p + 2)).data.toList, 2) := by rw [hdb, two_eq s p hp3]
                rw [hdb2] at hft
                have HFT : Hid _ := hft
                have hca : s[p + 1] ≠ 36 ∧ s[p + 1] ≠ 34 ∧ s[p + 1] ≠ 92 := by simpa using hsp
                have e36 : (((s[p + 1]).toNat : Int) == 36) = false := byte_ne s[p + 1] 36 hca.1
                have e34 : (((s[p + 1]).toNat : Int) == 34) = false := byte_ne s[p + 1] 34 hca.2.1
                have e92 : (((s[p + 1]).toNat : Int) == 92) = false := byte_ne s[p + 1] 92 hca.2.2
                clear hft HRY hd hdl hdb hdb2 c34 c36 c92 hsp hca
                have hBx : B ≤ Wd.heap.size := Nat.le_trans hBW HTD.out.size
                have hes : (s.extract p (p + 2)).size ≤ 2 := by rw [ByteArray.size_extract]; omega
                have HTX : Hid _ := text_dq HOD.out HON.out hBx p (s.extract p (p + 2)) (by omega) (fun q hq => by have := HYS.out q hq; omega) (by omega)
                have HTL : Hid ((s.extract p (p + 2)).data.toList.length ≤ 2) := by
                  rw [Hid, Array.length_toList]
                  show (s.extract p (p + 2)).size ≤ 2
                  rw [ByteArray.size_extract]
                  omega
                clear hes
                go_wp2_with fail
                refine Calls.mono HTX.out ?_
                rintro e w5 ⟨v5, rfl, hR5, hb5⟩
                have HB5 : Hid (Below B Wd w5) := hb5
                have HO5 : Hid (RPt w5 B v5 (nextY on Y p (s.extract p (p + 2)).data.toList)) := hR5
                have HL5 : Hid (Lx w5 b s p 0 av) := HLD.out.below hb5 hbB
                have k1 : w5.cell? ⟨b, 1, none⟩ = some (.int .i64 (p : Nat)) := HL5.out.cell 1
                have kf := HL5.out.frozen 1
                have hny := nextY_len on Y p (s.extract p (p + 2)).data.toList HON.out
                have HNO : Hid (OnP true (nextY on Y p (s.extract p (p + 2)).data.toList)) := nextY_on on Y p _ HON.out
                have HNS : Hid _ := nextY_sz (k := p) HON.out HYS.out HTL.out
                obtain ⟨Y5, HY5⟩ : ∃ Y5, Hid (nextY on Y p (s.extract p (p + 2)).data.toList = Y5) := ⟨_, rfl⟩
                rw [HY5.out] at HO5 HNO HNS hny HFT
                clear hR5 hb5 HTX HTL
                obtain ⟨ad5, cap5, rfl⟩ := HO5.out.form
                go_wp2_with fail
                go_roundw
                case rel =>
                  refine ⟨p + 2, g', true, Y5, rfl, rfl, by omega, by omega, by omega, by omega, ?_, HNO.out, HO5.out.turn (Turn.move (b := b) w5 _) (fun _ e => by omega), HL5.out.move (by simp), HTD.out.more (((Turn.refl (fun g => g = b) Wd).both HB5.out).more (Turn.wide (Turn.move w5 _))), HFT.out⟩
                  intro q hq
                  have := HNS.out q hq
                  omega
                case measure =>
                  rw [(HL5.out.move (j' := p + 2) (by simp)).pos, HPO.out]
                  omega
            · have hp3' : decide ((p : Int) + 1 < (s.size : Int)) = false := decide_eq_false (by omega)
              have hdb : dByte (s.data.toList.drop p) = ((s.extract p (p + 1)).data.toList, 1) := by rw [dByte_end s p hlt c92 hp3, one_eq s p hlt]
              rw [hdb] at hft
              have HFT : Hid _ := hft
              clear hft HRY hd hdl hdb c34 c36 c92
              have hBx : B ≤ Wd.heap.size := Nat.le_trans hBW HTD.out.size
              have hes : (s.extract p (p + 1)).size ≤ 2 := by rw [ByteArray.size_extract]; omega
              have HTX : Hid _ := text_dq HOD.out HON.out hBx p (s.extract p (p + 1)) (by omega) (fun q hq => by have := HYS.out q hq; omega) (by omega)
              have HTL : Hid ((s.extract p (p + 1)).data.toList.length ≤ 1) := by
                rw [Hid, Array.length_toList]
                show (s.extract p (p + 1)).size ≤ 1
                rw [ByteArray.size_extract]
                omega
              clear hes
              go_wp2_with fail
              refine Calls.mono HTX.out ?_
              rintro e w5 ⟨v5, rfl, hR5, hb5⟩
              have HB5 : Hid (Below B Wd w5) := hb5
              have HO5 : Hid (RPt w5 B v5 (nextY on Y p (s.extract p (p + 1)).data.toList)) := hR5
              have HL5 : Hid (Lx w5 b s p 0 av) := HLD.out.below hb5 hbB
              have k1 : w5.cell? ⟨b, 1, none⟩ = some (.int .i64 (p : Nat)) := HL5.out.cell 1
              have kf := HL5.out.frozen 1
              have hny := nextY_len on Y p (s.extract p (p + 1)).data.toList HON.out
              have HNO : Hid (OnP true (nextY on Y p (s.extract p (p + 1)).data.toList)) := nextY_on on Y p _ HON.out
              have HNS : Hid _ := nextY_sz (k := p) HON.out HYS.out HTL.out
              obtain ⟨Y5, HY5⟩ : ∃ Y5, Hid (nextY on Y p (s.extract p (p + 1)).data.toList = Y5) := ⟨_, rfl⟩
              rw [HY5.out] at HO5 HNO HNS hny HFT
              clear hR5 hb5 HTX HTL
              obtain ⟨ad5, cap5, rfl⟩ := HO5.out.form
              go_wp2_with fail
              go_roundw
              case rel =>
                refine ⟨p + 1, g', true, Y5, rfl, rfl, by omega, by omega, by omega, by omega, ?_, HNO.out, HO5.out.turn (Turn.move (b := b) w5 _) (fun _ e => by omega), HL5.out.move (by simp), HTD.out.more (((Turn.refl (fun g => g = b) Wd).both HB5.out).more (Turn.wide (Turn.move w5 _))), HFT.out⟩
                intro q hq
                have := HNS.out q hq
                omega
              case measure =>
                rw [(HL5.out.move (j' := p + 1) (by simp)).pos, HPO.out]
                omega
          · have d92 : (((s[p]).toNat : Int) == 92) = false := byte_ne s[p] 92 c92
            have hdb : dByte (s.data.toList.drop p) = ((s.extract p (p + 1)).data.toList, 1) := by rw [dByte_other s p hlt c92, one_eq s p hlt]
            rw [hdb] at hft
            have HFT : Hid _ := hft
            clear hft HRY hd hdl hdb c34 c36 c92
            have hBx : B ≤ Wd.heap.size := Nat.le_trans hBW HTD.out.size
            have hes : (s.extract p (p + 1)).size ≤ 2 := by rw [ByteArray.size_extract]; omega
            have HTX : Hid _ := text_dq HOD.out HON.out hBx p (s.extract p (p + 1)) (by omega) (fun q hq => by have := HYS.out q hq; omega) (by omega)
            have HTL : Hid ((s.extract p (p + 1)).data.toList.length ≤ 1) := by
              rw [Hid, Array.length_toList]
              show (s.extract p (p + 1)).size ≤ 1
              rw [ByteArray.size_extract]
              omega
            clear hes
            go_wp2_with fail
            refine Calls.mono HTX.out ?_
            rintro e w5 ⟨v5, rfl, hR5, hb5⟩
            have HB5 : Hid (Below B Wd w5) := hb5
            have HO5 : Hid (RPt w5 B v5 (nextY on Y p (s.extract p (p + 1)).data.toList)) := hR5
            have HL5 : Hid (Lx w5 b s p 0 av) := HLD.out.below hb5 hbB
            have k1 : w5.cell? ⟨b, 1, none⟩ = some (.int .i64 (p : Nat)) := HL5.out.cell 1
            have kf := HL5.out.frozen 1
            have hny := nextY_len on Y p (s.extract p (p + 1)).data.toList HON.out
            have HNO : Hid (OnP true (nextY on Y p (s.extract p (p + 1)).data.toList)) := nextY_on on Y p _ HON.out
            have HNS : Hid _ := nextY_sz (k := p) HON.out HYS.out HTL.out
            obtain ⟨Y5, HY5⟩ : ∃ Y5, Hid (nextY on Y p (s.extract p (p + 1)).data.toList = Y5) := ⟨_, rfl⟩
            rw [HY5.out] at HO5 HNO HNS hny HFT
            clear hR5 hb5 HTX HTL
            obtain ⟨ad5, cap5, rfl⟩ := HO5.out.form
            go_wp2_with fail
            go_roundw
            case rel =>
              refine ⟨p + 1, g', true, Y5, rfl, rfl, by omega, by omega, by omega, by omega, ?_, HNO.out, HO5.out.turn (Turn.move (b := b) w5 _) (fun _ e => by omega), HL5.out.move (by simp), HTD.out.more (((Turn.refl (fun g => g = b) Wd).both HB5.out).more (Turn.wide (Turn.move w5 _))), HFT.out⟩
              intro q hq
              have := HNS.out q hq
              omega
            case measure =>
              rw [(HL5.out.move (j' := p + 1) (by simp)).pos, HPO.out]
              omega
    · have hnl : ¬ (p : Int) < (s.size : Int) := by omega
      have HRR : Hid (R = .error ⟨2, i⟩) := by
        unfold Hid
        rw [HRY.out, drop_out s p (by omega), finD_nil]
      clear HRY
      go_wp2_with fail
      go_quiet (fail)
      obtain ⟨Wd, hWd⟩ : ∃ Wd, Wd = wr.drewN nq := ⟨_, rfl⟩
      have hLD : Lx Wd b s p 0 av := by rw [hWd]; exact HLY.out
      have HTD : Hid (Turn (fun g => g = b ∨ B ≤ g) W Wd) := by rw [hWd]; exact HTY.out.drewN nq
      have HFA : Hid _ := fail_any hLD ⟨2, i⟩
      rw [← hWd]
      clear hWd HOY HLY HTY l0 l1 hLD
      go_wp2_with fail
      refine Calls.mono HFA.out ?_
      rintro e w3 ⟨rfl, j, fb, f1, f2, _, f4⟩
      have HF1 : Hid (Lx w3 b s j (codE 2) (.slice (some ⟨fb, 0, none⟩) 1 1)) := f1
      have HF2 : Hid (Cel w3 fb 3 #[.int .i64 (i : Nat)]) := f2
      have HF4 : Hid (Turn (fun g => g = b) Wd w3) := f4
      clear f1 f2 f4 HFA
      go_wp2_with fail
      go_ret
      refine ⟨_, rfl, ?_⟩
      rw [HRR.out]
      exact ⟨HTD.out.more (Turn.wide HF4.out), ⟨_, _, _, rfl⟩, j, fb, HF1.out, HF2.out⟩
end Go.Proofs.YtlbdecohmjpgaaaDoor
