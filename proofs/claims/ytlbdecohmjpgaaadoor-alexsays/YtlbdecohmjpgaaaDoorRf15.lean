/- The document's own lexer: a source's tokens. -/
import Derived.Test.YtlbdecohmjpgaaaDoorRf14
import Derived.Deep.AppendLies
namespace Go.Proofs.YtlbdecohmjpgaaaDoor
open Go.RowKit
attribute [local go_sem] Oper.semAt_some

/-- The operators are asked one after the other: not found yet, or found. -/
def OpRel (W1 Wd : World) (b : Nat) (s : ByteArray) (p k0 : Nat) (v : Value) (K : List (Value × Tk)) (v5 v9 v10 : Value) (w3 : World) : Prop :=
  (∃ k m : Nat, v5 = v ∧ v9 = .bool false ∧ v10 = .int .i64 (k : Nat) ∧ k ≤ k0 ∧ w3 = Wd.drewN m) ∨
  (∃ ad cap, v9 = .bool true ∧ v10 = .int .i64 ((k0 + 1 : Nat) : Int) ∧ v5 = .slice ad (K.length + 1) cap ∧ Lst W1 b s (p + ((opsT[k0]?).getD []).length) (.slice ad (K.length + 1) cap) (K ++ [(.slice none 0 0, ⟨(opsK[k0]?).getD 0, p, []⟩)]) w3)
theorem below_drew (B : Nat) (W : World) : Below B W W.drew := ⟨rfl, rfl, rfl, Nat.le_refl _, fun _ _ => rfl⟩
set_option maxRecDepth 100000 in
set_option maxHeartbeats 16000000 in
theorem lexR_any (s : ByteArray) (W : World) (hs : s.size ≤ 8192) :
    Calls Tryd.prog 10 #[.string s] W fun e w' => ∃ v c av, e = .returned (.tuple #[v, .agg #[.int .i64 c, av]]) ∧ LexR W (lexL s.data.toList) v c av w' ∧ Below W.heap.size W w' := by
  obtain ⟨i0, hi, hz0, hz1, hz2⟩ := info_parts infoTR
  obtain ⟨b0, hb0⟩ : ∃ b0, b0 = W.heap.size := ⟨_, rfl⟩
  obtain ⟨W1, hW1⟩ : ∃ W1, W1 = (((W.alloc (.cells #[.int .i64 0, .slice none 0 0] 31)).alloc (.cells (lx s 0 0 (.slice none 0 0)) 65)).alloc (.cells opsTV 9)).alloc (.cells opsKV 3) := ⟨_, rfl⟩
  obtain ⟨W0, hW0⟩ : ∃ W0, W0 = (W.alloc (.cells #[.int .i64 0, .slice none 0 0] 31)).alloc (.cells (lx s 0 0 (.slice none 0 0)) 65) := ⟨_, rfl⟩
  have hz : W1.heap.size = b0 + 4 := by rw [hW1, hb0]; simp
  have HB1 : Hid (Below W.heap.size W W1) := by rw [hW1]; exact (((below_new W _).alloc (by simp) _).alloc (by simp; omega) _).alloc (by simp; omega) _
  have HRD : Hid (Rnd W1 (b0 + 1)) := by
    rw [hW1, hb0]
    refine ⟨⟨W.heap.size, rfl, ?_⟩, ?_, ?_, by simp⟩
    · exact (((Cel.new W _ _).below (below_new _ _) (by simp)).below (below_new _ _) (by simp; omega)).below (below_new _ _) (by simp; omega)
    · have h1 := Cel.new ((W.alloc (.cells #[.int .i64 0, .slice none 0 0] 31)).alloc (.cells (lx s 0 0 (.slice none 0 0)) 65)) 9 opsTV
      have h2 := h1.below (below_new _ (.cells opsKV 3)) (by simp)
      simpa using h2
    · have h1 := Cel.new (((W.alloc (.cells #[.int .i64 0, .slice none 0 0] 31)).alloc (.cells (lx s 0 0 (.slice none 0 0)) 65)).alloc (.cells opsTV 9)) 3 opsKV
      simpa using h1
  have HL1 : Hid (Lst W1 (b0 + 1) s 0 (.slice none 0 0) [] W1) := by
    refine ⟨?_, RTk.nil _ _, Turn.refl _ _⟩
    rw [hW1, hb0]
    exact ((Cel.new2 W _ _ _).below (below_new _ _) (by simp)).below (below_new _ _) (by simp)
  have HOP : Hid (Calls Tryd.prog 23 #[] W0 fun e w' => e = .returned (.tuple #[.slice (some ⟨b0 + 2, 0, none⟩) 12 12, .slice (some ⟨b0 + 3, 0, none⟩) 12 12]) ∧ w' = W1) := by
    have := operators_any W0
    rw [show W0.heap.size = b0 + 2 by rw [hW0, hb0]; simp] at this
    rw [hW1, ← hW0]
    exact this
  have HW0 : Hid ((W.alloc (.cells #[.int .i64 0, .slice none 0 0] 31)).alloc (.cells #[.string s, .int .i64 0, .int .i64 0, .slice none 0 0] 65) = W0) := hW0.symm
  obtain ⟨T, HT⟩ : ∃ T : List UInt8 → Except Er (Tk × List UInt8), Hid (T = tokT s.size) := ⟨_, rfl⟩
  obtain ⟨R, HR⟩ : ∃ R, Hid (lexL s.data.toList = R) := ⟨_, rfl⟩
  have HRW : Hid (R = lexW T (s.size + 1) s.data.toList) := by
    unfold Hid
    rw [← HR.out, HT.out]
    unfold lexL
    rw [show s.data.toList.length = s.size by simp]
  rw [HR.out]
  have hs' : (s.size : Int) ≤ 8192 := by omega
  have hs2 : ¬ (8192 : Int) < (s.size : Int) := by omega
  have HB0 : Hid (b0 = W.heap.size) := hb0
  clear hW1 hW0 HR
  go_enter Tryd.func10, Tryd.ntmps10
  go_upto_region 5 with fail
  rw [HW0.out, ← hb0]
  clear hb0
  go_wp2_with fail
  refine Calls.mono HOP.out ?_
  rintro e w1 ⟨rfl, hw⟩
  obtain rfl := hw.symm
  clear hw
  go_wp2_with fail
  clear HOP HW0
  go_loopw [2, 5, 8, 9, 10, 11] (fun v2 v5 _ _ _ _ wr => ∃ (p g : Nat) (K : List (Value × Tk)), v2 = .slice none 0 0 ∧ p ≤ s.size ∧ s.size - p < g ∧ K.length ≤ p ∧ Hid (Lst W1 (b0 + 1) s p v5 K wr) ∧ Hid (R = preT (K.map Prod.snd) (lexW T g (s.data.toList.drop p)))) (fun _ _ _ _ _ _ wr => s.size + 1 - posOf wr (b0 + 1))
  case atStart => exact ⟨0, s.size + 1, [], rfl, Nat.zero_le _, by omega, Nat.zero_le _, HL1.out, by unfold Hid; rw [HRW.out, List.drop_zero]; cases lexW T (s.size + 1) s.data.toList <;> rfl⟩
  case round =>
    obtain ⟨p, g, K, rfl, hp, hg, hKp, HL, HEQ⟩ := hrel
    clear HL1 HRW
    obtain ⟨ad, cap, rfl⟩ := HL.out.tk.form
    have HPO : Hid (posOf wr (b0 + 1) = p) := HL.out.lx.pos
    have l1 : wr.cell? ⟨b0 + 1, 1, none⟩ = some (.int .i64 (p : Nat)) := HL.out.lx.cell 1
    have lf : wr.frozen? ⟨b0 + 1, 1, none⟩ = false := Cel.frozen HL.out.lx 1
    by_cases hlt : p < s.size
    · have hlt' : (p : Int) < (s.size : Int) := by omega
      have hd := drop_cons s p hlt
      have hln := len_drop' s (p + 1)
      by_cases c32 : s[p] = 32
      · have d32 : (((s[p]).toNat : Int) == 32) = true := by rw [c32]; rfl
        have HRR : Hid (R = preT (K.map Prod.snd) (lexW T g (s.data.toList.drop (p + 1)))) := by
          unfold Hid
          rw [HEQ.out, hd, HT.out, lex_blank _ _ _ _ (by rw [c32]; rfl)]
        clear HEQ hd c32
        go_wp2_with fail
        have hL2 := HL.out.move (x := (p : Int) + 1) (p' := p + 1) (by simp)
        refine ⟨⟨p + 1, g, K, rfl, by omega, by omega, by omega, hL2, HRR.out⟩, ?_⟩
        rw [hL2.lx.pos, HPO.out]
        omega
      have d32 : (((s[p]).toNat : Int) == 32) = false := byte_ne s[p] 32 c32
      by_cases c9 : s[p] = 9
      · have d9 : (((s[p]).toNat : Int) == 9) = true := by rw [c9]; rfl
        have HRR : Hid (R = preT (K.map Prod.snd) (lexW T g (s.data.toList.drop (p + 1)))) := by
          unfold Hid
          rw [HEQ.out, hd, HT.out, lex_blank _ _ _ _ (by rw [c9]; rfl)]
        clear HEQ hd c9 c32
        go_wp2_with fail
        have hL2 := HL.out.move (x := (p : Int) + 1) (p' := p + 1) (by simp)
        refine ⟨⟨p + 1, g, K, rfl, by omega, by omega, by omega, hL2, HRR.out⟩, ?_⟩
        rw [hL2.lx.pos, HPO.out]
        omega
      have d9 : (((s[p]).toNat : Int) == 9) = false := byte_ne s[p] 9 c9
      have hblk : blk s[p] = false := by simp [blk, c32, c9]
      by_cases c35 : s[p] = 35
      · have d35 : (((s[p]).toNat : Int) == 35) = true := by rw [c35]; rfl
        have HRR : Hid (R = preT (K.map Prod.snd) (lexW T g ((s.data.toList.drop p).dropWhile notNl))) := by
          unfold Hid
          rw [HEQ.out, hd, HT.out, c35, lex_comment]
        have H35 : Hid (s[p] = 35) := c35
        clear HEQ hd c35 c9 c32 hblk
        obtain ⟨wo, hwo⟩ : ∃ wo, wo = wr := ⟨_, rfl⟩
        subst hwo
        go_wp2_with fail
        go_loopw [] (fun w2 => ∃ q : Nat, p ≤ q ∧ q ≤ s.size ∧ Hid (Lst W1 (b0 + 1) s q (.slice ad K.length cap) K w2) ∧ Hid (R = preT (K.map Prod.snd) (lexW T g ((s.data.toList.drop q).dropWhile notNl)))) (fun w2 => s.size + 1 - posOf w2 (b0 + 1))
        case atStart => exact ⟨p, Nat.le_refl _, hp, HL.out, HRR.out⟩
        case round =>
          obtain ⟨q, hpq, hq, HLq, HRq⟩ := hrel
          clear HL HRR l1 lf
          have HPQ : Hid (posOf wr (b0 + 1) = q) := HLq.out.lx.pos
          have l1 : wr.cell? ⟨b0 + 1, 1, none⟩ = some (.int .i64 (q : Nat)) := HLq.out.lx.cell 1
          have lf : wr.frozen? ⟨b0 + 1, 1, none⟩ = false := Cel.frozen HLq.out.lx 1
          by_cases hlq : q < s.size
          · have hlq' : (q : Int) < (s.size : Int) := by omega
            by_cases h10 : s[q] = 10
            · have d10 : (((s[q]).toNat : Int) == 10) = true := by rw [h10]; rfl
              have HRE : Hid (R = preT (K.map Prod.snd) (lexW T g (s.data.toList.drop q))) := by
                unfold Hid
                rw [HRq.out, dw_stop s q (fun _ => by rw [h10]; rfl)]
              have hpq2 : p < q := by
                rcases Nat.lt_or_ge p q with h | h
                · exact h
                · have he : q = p := by omega
                  subst he
                  rw [H35.out] at h10
                  exact absurd h10 (by decide)
              clear HRq h10
              go_wp2_with fail
              refine ⟨⟨q, g, K, rfl, hq, by omega, by omega, HLq.out, HRE.out⟩, ?_⟩
              rw [HPQ.out, HPO.out]
              omega
            · have d10 : (((s[q]).toNat : Int) == 10) = false := byte_ne s[q] 10 h10
              have HRE : Hid (R = preT (K.map Prod.snd) (lexW T g ((s.data.toList.drop (q + 1)).dropWhile notNl))) := by
                unfold Hid
                rw [HRq.out, dw_more s q hlq (by unfold notNl; simpa using h10)]
              clear HRq h10
              go_wp2_with fail
              have hL2 := HLq.out.move (x := (q : Int) + 1) (p' := q + 1) (by simp)
              refine ⟨⟨q + 1, by omega, by omega, hL2, HRE.out⟩, ?_⟩
              rw [hL2.lx.pos, HPQ.out]
              omega
          · have hlq' : ¬ (q : Int) < (s.size : Int) := by omega
            have HRE : Hid (R = preT (K.map Prod.snd) (lexW T g (s.data.toList.drop q))) := by
              unfold Hid
              rw [HRq.out, dw_stop s q (fun h => absurd h hlq)]
            clear HRq
            go_wp2_with fail
            refine ⟨⟨q, g, K, rfl, hq, by omega, by omega, HLq.out, HRE.out⟩, ?_⟩
            rw [HPQ.out, HPO.out]
            omega
      have d35 : (((s[p]).toNat : Int) == 35) = false := byte_ne s[p] 35 c35
      obtain ⟨g, rfl⟩ : ∃ g', g = g' + 1 := ⟨g - 1, by omega⟩
      have hN : s.size - ((s.data.toList.drop (p + 1)).length + 1) = p := by rw [hln]; omega
      have HOT : Hid (∀ m k, k < 12 → (wr.drewN m).cell? ⟨b0 + 2, k, none⟩ = some (str ((opsT[k]?).getD []))) := fun m k hk => ((HL.out.ot HRD.out).cell k).trans (ops_at k hk).1
      have HOK : Hid (∀ m k, k < 12 → (wr.drewN m).cell? ⟨b0 + 3, k, none⟩ = some (.int .i64 (((opsK[k]?).getD 0 : Nat) : Int))) := fun m k hk => ((HL.out.ok HRD.out).cell k).trans (ops_at k hk).2
      have HHAS : Hid (∀ m k, k < 12 → Calls Tryd.prog 24 #[.pointer (some ⟨b0 + 1, 0, none⟩), str ((opsT[k]?).getD [])] (wr.drewN m) fun e w' => e = .returned (.bool (isOp (s.data.toList.drop p) k)) ∧ ∃ n, w' = (wr.drewN m).drewN n) := fun m k hk => hasR_any (b0 + 1) s ⟨((opsT[k]?).getD []).toArray⟩ p (wr.drewN m) (HL.out.lx.cell 0) (HL.out.lx.cell 1) (by omega) hp (by have := (ops_len k hk).2; show ((opsT[k]?).getD []).length < 100; omega) (ops_len k hk).1
      rcases ops_cases (s.data.toList.drop p) with hnone | ⟨k0, hk0, hop, hfirst⟩
      · have HF2 : Hid (∀ j, j < 12 → isOp (s.data.toList.drop p) j = false) := hnone
        have HNO : Hid (∀ j, j < 12 → isOp (s[p] :: s.data.toList.drop (p + 1)) j = false) := fun j hj => by have := hnone j hj; rwa [hd] at this
        have HD : Hid (s.data.toList.drop p = s[p] :: s.data.toList.drop (p + 1)) := hd
        have HBK : Hid (blk s[p] = false) := hblk
        have H35 : Hid (s[p] ≠ 35) := c35
        clear hd c35 c9 c32 hblk hnone
        obtain ⟨wo, hwo⟩ : ∃ wo, wo = wr := ⟨_, rfl⟩
        subst hwo
        go_wp2_with fail
        go_loopw [5, 9, 10] (fun v5 v9 v10 w3 => ∃ k m : Nat, v5 = .slice ad K.length cap ∧ v9 = .bool false ∧ v10 = .int .i64 (k : Nat) ∧ k ≤ 12 ∧ w3 = wo.drewN m) (fun _ _ v10 _ => 13 - (intOf v10).toNat)
        case atStart => exact ⟨0, 0, rfl, rfl, rfl, Nat.zero_le _, rfl⟩
        case round =>
          obtain ⟨k, m, rfl, rfl, rfl, hk, rfl⟩ := hrel
          clear l1 lf
          rcases Nat.lt_or_ge k 12 with hlk | hgk
          · have hk12 : (k : Int) < 12 := by omega
            have t0 := HOT.out m k hlk
            have HHK := HHAS.out m k hlk
            rw [HF2.out k hlk] at HHK
            have HHK2 : Hid _ := HHK
            clear HHK
            generalize (opsT[k]?).getD [] = tk at t0 HHK2
            go_wp2_with fail
            refine Calls.mono HHK2.out ?_
            rintro e w5 ⟨rfl, n, rfl⟩
            go_wp2_with fail
            exact ⟨⟨k + 1, m + n, rfl, rfl, by simp, by omega, rfl⟩, by simp [intOf]; omega⟩
          · have hk12 : ¬ (k : Int) < 12 := by omega
            clear hk
            obtain ⟨X, hX⟩ : ∃ X, X = wo.drewN m := ⟨_, rfl⟩
            have HLX : Hid (Lst W1 (b0 + 1) s p (.slice ad K.length cap) K X) := by rw [hX]; exact HL.out.drewN _
            have x1 : X.cell? ⟨b0 + 1, 1, none⟩ = some (.int .i64 (p : Nat)) := HLX.out.lx.cell 1
            rw [← hX]
            clear hX HOT HOK HHAS HL
            by_cases c38 : s[p] = 38
            · have d38 : (((s[p]).toNat : Int) == 38) = true := by rw [c38]; rfl
              have HRR : Hid (R = .error ⟨3, p⟩) := by
                unfold Hid
                have hno := HNO.out
                rw [c38] at hno
                rw [HEQ.out, HD.out, HT.out, c38, lex_amp hno, hN]
                rfl
              have HPL : Hid _ := placed_any 107 (p : Nat) (by decide) X
              clear HEQ c38 HNO HD
              go_wp2_with fail
              refine Calls.mono HPL.out ?_
              rintro e w5 ⟨fb, rfl, hf, hfb, hb5⟩
              have HF5 : Hid (Cel w5 fb 3 #[.int .i64 (p : Nat)]) := hf
              have HB5 : Hid (Below X.heap.size X w5) := hb5
              have HC5 : Hid (Cel w5 b0 31 #[.int .i64 0, .slice none 0 0]) := (HLX.out.fl HRD.out).below hb5 (HLX.out.fl HRD.out).lt
              have r0 : w5.cell? ⟨b0, 0, none⟩ = some (.int .i64 0) := HC5.out.cell 0
              have r1 : w5.cell? ⟨b0, 1, none⟩ = some (.slice none 0 0) := HC5.out.cell 1
              have rf0 := HC5.out.frozen 0
              have rf1 := HC5.out.frozen 1
              have hXs : b0 + 4 ≤ X.heap.size := HLX.out.size HRD.out
              clear hf hb5 HPL x1
              go_wp2_with fail
              refine bodyPost_ret (results_flt (p := 3) (u := 2) rfl _ _ b0 _ rfl ((HC5.out.set (j := 0) (.int .i64 107)).set (j := 1) (.slice (some ⟨fb, 0, none⟩) 1 1)) rfl) rfl ?_
              rw [HRR.out]
              refine ⟨_, _, _, rfl, ⟨rfl, rfl, fb, rfl, (HF5.out.other (by omega) _).other (by omega) _⟩, ?_⟩
              rw [← HB0.out] at HB1 ⊢
              exact ((HB1.out.trans ((HLX.out.under HRD.out).trans (HB5.out.mono (by omega)))).setCell (p := ⟨b0, 0, none⟩) (Nat.le_refl _) _).setCell (p := ⟨b0, 1, none⟩) (Nat.le_refl _) _
            · have d38 : (((s[p]).toNat : Int) == 38) = false := byte_ne s[p] 38 c38
              have HRR : Hid (R = afterW T g p (K.map Prod.snd) (fin s.size [] (s.data.toList.drop p))) := by
                unfold Hid
                have hlp := len_drop' s p
                rw [HEQ.out, fin_nil (by omega), HD.out, HT.out, lex_wordT HBK.out H35.out c38 HNO.out, hN]
                cases wordX s.size (s[p] :: s.data.toList.drop (p + 1)) with
                | error e => rfl
                | ok q => exact preT_pre _ _ _
              have hwp : wEnd s[p] = false := best_byte s[p] _ (ops_none _ HNO.out) c38 HBK.out
              clear HEQ c38 HNO HD H35 HBK HF2
              go_wp2_with fail
              have hXs : b0 + 4 ≤ X.heap.size := HLX.out.size HRD.out
              obtain ⟨tb, htb⟩ : ∃ tb, tb = X.heap.size := ⟨_, rfl⟩
              obtain ⟨Y0, hY0⟩ : ∃ Y0, Y0 = X.alloc (.cells #[.int .i64 13, .int .i64 (p : Nat), .slice none 0 0] 45) := ⟨_, rfl⟩
              have HW0 : Hid (WdRel X (b0 + 1) tb s p T g (K.map Prod.snd) R Y0) := by
                rw [hY0]
                refine ⟨Turn.ofBelow (below_new X _), by rw [htb]; simp, Or.inl ⟨p, [], none, 0, Nat.le_refl _, hp, Nat.zero_le _, fun _ => rfl, (fun x hx => by cases hx), Cel.below HLX.out.lx (below_new X _) (Cel.lt HLX.out.lx), ?_, RPt.nil _ _, HRR.out⟩⟩
                rw [htb]
                exact Cel.new X _ _
              rw [← hY0, ← htb]
              have hXt : b0 + 4 ≤ tb := by omega
              have HTB : Hid (tb = X.heap.size) := htb
              clear hY0 htb x1
              go_loopw [] (fun w4 => WdRel X (b0 + 1) tb s p T g (K.map Prod.snd) R w4) (fun w4 => mW s (b0 + 1) w4)
              case atStart => exact HW0.out
              case round =>
                clear HW0 HRR
                obtain ⟨hT4, hz4, hcase⟩ := hrel
                have HT4 : Hid (Turn (fun g => g = b0 + 1 ∨ tb ≤ g) X wr) := hT4
                clear hT4
                rcases hcase with ⟨q, Y, ad4, cap4, hpq, hq, hYl, hY0, hYs, hlx, hct, hrp, hrr⟩ | ⟨q, x, fb, hrx, hlx, hcf, hfb⟩
                · have HLq : Hid (Lx wr (b0 + 1) s q 0 (.slice none 0 0)) := hlx
                  have HCt : Hid (Cel wr tb 45 #[.int .i64 13, .int .i64 (p : Nat), .slice ad4 Y.length cap4]) := hct
                  have HRP : Hid (RPt wr (tb + 1) (.slice ad4 Y.length cap4) Y) := hrp
                  have HRq : Hid (R = afterW T g p (K.map Prod.snd) (fin s.size Y (s.data.toList.drop q))) := hrr
                  have HYS : Hid (∀ x ∈ Y, x.s.length ≤ 8192 + q) := hYs
                  have HY0 : Hid (q = p → Y = []) := hY0
                  have l1 : wr.cell? ⟨b0 + 1, 1, none⟩ = some (.int .i64 (q : Nat)) := Cel.cell hlx 1
                  have l2 : wr.cell? ⟨b0 + 1, 2, none⟩ = some (.int .i64 0) := Cel.cell hlx 2
                  have t0 : wr.cell? ⟨tb, 0, none⟩ = some (.int .i64 13) := hct.cell 0
                  have t1 : wr.cell? ⟨tb, 1, none⟩ = some (.int .i64 (p : Nat)) := hct.cell 1
                  have t2 : wr.cell? ⟨tb, 2, none⟩ = some (.slice ad4 Y.length cap4) := hct.cell 2
                  have tf := hct.frozen 2
                  clear hlx hct hrp hrr hYs hY0
                  have HMW : Hid (mW s (b0 + 1) wr = s.size + 2 - q) := by unfold Hid mW; rw [HLq.out.cod, HLq.out.pos, if_pos rfl]
                  have HEX : Hid ((q < s.size → wEnd s[q]! = true) → fin s.size Y (s.data.toList.drop q) = .ok (Y, s.data.toList.drop q)) := fun h => by
                    refine fin_end ?_
                    by_cases hlq : q < s.size
                    · refine Or.inr ⟨_, _, drop_cons s q hlq, ?_⟩
                      have := h hlq
                      rwa [getElem!_pos s q hlq] at this
                    · exact Or.inl (drop_none s q hlq)
                  have HEND : Hid ((q < s.size → wEnd s[q]! = true) → q ≠ p ∧ R = preT ((K ++ [(Value.slice ad4 Y.length cap4, (⟨13, p, Y⟩ : Tk))]).map Prod.snd) (lexW T g (s.data.toList.drop q))) := fun h => by
                    refine ⟨fun e => ?_, ?_⟩
                    · subst e
                      have := h hlt
                      rw [getElem!_pos s q hlt, hwp] at this
                      cases this
                    · rw [HRq.out, HEX.out h, List.map_append]
                      rfl
                  have HTK4 : Hid (RTk wr (b0 + 4) (.slice ad K.length cap) K) := HLX.out.tk.past HT4.out (fun i e => by have := HTB.out; omega)
                  have HTU : Hid (Turn (fun g => g = b0 + 1 ∨ b0 + 4 ≤ g) W1 wr) := HLX.out.turn.more (HT4.out.mono (fun i e => by omega))
                  by_cases hlq : q < s.size
                  · have hlq' : (q : Int) < (s.size : Int) := by omega
                    have HEN : Hid _ := ends_any s[q] wr
                    cases hwe : wEnd s[q] with
                    | true =>
                      obtain ⟨hqp, hrr⟩ := HEND.out (fun _ => by rw [getElem!_pos s q hlq]; exact hwe)
                      have HRR : Hid (R = preT ((K ++ [(Value.slice ad4 Y.length cap4, (⟨13, p, Y⟩ : Tk))]).map Prod.snd) (lexW T g (s.data.toList.drop q))) := hrr
                      rw [hwe] at HEN
                      clear hwe hrr HEND HEX HRq HT4 HYS HY0
                      go_wp2_with fail
                      refine Calls.mono HEN.out ?_
                      rintro e w1 ⟨rfl, hw⟩
                      obtain rfl := hw.symm
                      clear hw
                      go_wp2_with (at_builtin; refine wpList_append_own_at _ rfl _ _ 28 rfl (b0 + 4) 45 i0 _ 3 40 Tryd.underlying28 hi hz0 hz1 hz2 rfl (by decide) _ _ _ rfl (World.ownsRow.alloc HTK4.out.row _) ⟨wr.heap.size, 0, none⟩ 1 1 (tkC (.slice ad4 Y.length cap4, ⟨13, p, Y⟩)) rfl rfl (cells_new _ _ _) (by simp [Value.oneCell']) (by have := maxLen_big; omega) (by omega) (by simp; omega) ?_; intro v6 w6 hown hgrow hx1 hx2; clear hx1 hx2)
                      have hb6 : Below (b0 + 4) wr w6 := grown_own (by simp; omega) ((Below.refl _ wr).alloc (by omega) _) (World.ownsRow.alloc HTK4.out.row _) hgrow
                      have HL6 : Hid (Lst W1 (b0 + 1) s q v6 (K ++ [(.slice ad4 Y.length cap4, ⟨13, p, Y⟩)]) w6) :=
                        ⟨Cel.below HLq.out hb6 (by omega), RTk.snoc (HTK4.out.below (below_new wr _)) ((HRP.out.lower (by omega)).below (below_new wr _)) hown hgrow, HTU.out.more ((Turn.refl (fun g => g = b0 + 1) wr).both hb6)⟩
                      clear hown hgrow hb6
                      go_wp2_with fail
                      refine ⟨⟨q, g, _, rfl, hq, by omega, by rw [List.length_append]; simp only [List.length_cons, List.length_nil]; omega, HL6.out, HRR.out⟩, ?_⟩
                      rw [HL6.out.lx.pos, HPO.out]
                      omega
                    | false =>
                      rw [hwe] at HEN
                      have hPA := part_any HLq.out HRP.out (by omega) (by omega) hs hYl hlq HYS.out
                      cases hst : stepR s.size Y (s.data.toList.drop q) with
                      | error xe =>
                        have HRE : Hid (R = .error xe) := by
                          unfold Hid
                          rw [drop_cons s q hlq] at hst
                          have hfe := step_err hwe hst
                          rw [← drop_cons s q hlq] at hfe
                          rw [HRq.out, hfe]
                          rfl
                        rw [hst] at hPA
                        have HPA : Hid _ := hPA
                        clear hPA hst hwe HEND HEX HRq HYS HY0 HTK4 HTU
                        go_wp2_with fail
                        refine Calls.mono HEN.out ?_
                        rintro e w1 ⟨rfl, hw⟩
                        obtain rfl := hw.symm
                        clear hw
                        go_wp2_with fail
                        refine Calls.mono HPA.out ?_
                        rintro e w5 ⟨v5, rfl, hT5, ⟨ad5, n5, cap5, rfl⟩, j5, fb5, f1, f2⟩
                        have HC5 : Hid (Cel w5 tb 45 #[.int .i64 13, .int .i64 (p : Nat), .slice ad4 Y.length cap4]) := HCt.out.turn hT5 (by omega)
                        have HF1 : Hid (Lx w5 (b0 + 1) s j5 (codE xe.code) (.slice (some ⟨fb5, 0, none⟩) 1 1)) := f1
                        have HF2 : Hid (Cel w5 fb5 3 #[.int .i64 (xe.pos : Nat)]) := f2
                        have HT5 : Hid (Turn (fun g => g = b0 + 1 ∨ tb ≤ g) X w5) := HT4.out.more (hT5.mono (fun i e => by omega))
                        have hz5 : tb + 1 ≤ w5.heap.size := Nat.le_trans hz4 hT5.size
                        have u2 : w5.cell? ⟨tb, 2, none⟩ = some (.slice ad4 Y.length cap4) := HC5.out.cell 2
                        have uf := HC5.out.frozen 2
                        have hnf : fb5 ≠ tb := fun e => by
                          subst e
                          have := (show w5.heap[fb5]? = _ from HF2.out).symm.trans HC5.out
                          simp at this
                        have hnb : fb5 ≠ b0 + 1 := fun e => by
                          subst e
                          have := (show w5.heap[b0 + 1]? = _ from HF2.out).symm.trans HF1.out
                          simp at this
                        have hcx : ¬ codE xe.code = 0 := by unfold codE; split <;> decide
                        clear hT5 f1 f2 HPA HLq HCt HRP HT4 l1 l2 t0 t1 t2 tf HEN
                        go_wp2_with fail
                        have hF1' : Lx (w5.setCell ⟨tb, 2, none⟩ (.slice ad5 n5 cap5)) (b0 + 1) s j5 (codE xe.code) (.slice (some ⟨fb5, 0, none⟩) 1 1) := Cel.other HF1.out (by omega) _
                        refine ⟨⟨HT5.out.setCell (p := ⟨tb, 2, none⟩) (fun _ => Or.inr (Nat.le_refl _)) _, by simpa using hz5, Or.inr ⟨j5, xe, fb5, HRE.out, hF1', HF2.out.other hnf _, hnb⟩⟩, ?_⟩
                        rw [HMW.out]
                        unfold mW
                        rw [hF1'.cod, if_neg hcx]
                        omega
                      | ok r =>
                        obtain ⟨Y', u⟩ := r
                        have hq1 := len_drop' s (q + 1)
                        have hso := step_ok (N := s.size) (t := s.data.toList.drop (q + 1)) hwe (by omega) (by rw [← drop_cons s q hlq]; exact hst)
                        rw [← drop_cons s q hlq] at hso
                        obtain ⟨hs1, hs3, hs4, hs5⟩ := hso
                        have HRE : Hid (R = afterW T g p (K.map Prod.snd) (fin s.size Y' u)) := by
                          unfold Hid
                          rw [HRq.out, hs1]
                        have HS5 : Hid (∀ x ∈ Y', x.s.length ≤ 8192 + q + 1) := hs5 (8192 + q) (by omega) HYS.out
                        rw [hst] at hPA
                        have HPA : Hid _ := hPA
                        clear hPA hst hwe HEND HEX HRq HYS HY0 HTK4 HTU hs1 hs5
                        go_wp2_with fail
                        refine Calls.mono HEN.out ?_
                        rintro e w1 ⟨rfl, hw⟩
                        obtain rfl := hw.symm
                        clear hw
                        go_wp2_with fail
                        refine Calls.mono HPA.out ?_
                        rintro e w5 ⟨v5, rfl, hT5, hr5, j5, f1, f2, f3⟩
                        simp only at hr5 f3
                        have HC5 : Hid (Cel w5 tb 45 #[.int .i64 13, .int .i64 (p : Nat), .slice ad4 Y.length cap4]) := HCt.out.turn hT5 (by omega)
                        have HF1 : Hid (Lx w5 (b0 + 1) s j5 0 (.slice none 0 0)) := f1
                        have HR5 : Hid (RPt w5 (tb + 1) v5 Y') := hr5
                        have HT5 : Hid (Turn (fun g => g = b0 + 1 ∨ tb ≤ g) X w5) := HT4.out.more (hT5.mono (fun i e => by omega))
                        have hz5 : tb + 1 ≤ w5.heap.size := Nat.le_trans hz4 hT5.size
                        have u2 : w5.cell? ⟨tb, 2, none⟩ = some (.slice ad4 Y.length cap4) := HC5.out.cell 2
                        have uf := HC5.out.frozen 2
                        have hul : u.length = s.size - j5 := by rw [f3, len_drop']
                        have HU : Hid (u = s.data.toList.drop j5) := f3
                        obtain ⟨ad5, cap5, rfl⟩ := HR5.out.form
                        clear hT5 f1 f3 hr5 HPA HLq HCt HRP HT4 l1 l2 t0 t1 t2 tf HEN
                        go_wp2_with fail
                        have hF1' : Lx (w5.setCell ⟨tb, 2, none⟩ (.slice ad5 Y'.length cap5)) (b0 + 1) s j5 0 (.slice none 0 0) := Cel.other HF1.out (by omega) _
                        refine ⟨⟨HT5.out.setCell (p := ⟨tb, 2, none⟩) (fun _ => Or.inr (Nat.le_refl _)) _, by simpa using hz5, Or.inl ⟨j5, Y', ad5, cap5, by omega, f2, by omega, fun e => absurd e (by omega), fun x hx => by have := HS5.out x hx; omega, hF1', HC5.out.set (j := 2) _, HR5.out.turn (Turn.setCell (S := fun g => g = tb) (p := ⟨tb, 2, none⟩) (Turn.refl _ w5) (fun _ => rfl) _) (fun _ e => by omega), by rw [HRE.out, HU.out]⟩⟩, ?_⟩
                        rw [HMW.out]
                        unfold mW
                        rw [hF1'.cod, hF1'.pos, if_pos rfl]
                        omega
                  · have hlq' : ¬ (q : Int) < (s.size : Int) := by omega
                    obtain ⟨hqp, hrr⟩ := HEND.out (fun h => absurd h hlq)
                    have HRR : Hid (R = preT ((K ++ [(Value.slice ad4 Y.length cap4, (⟨13, p, Y⟩ : Tk))]).map Prod.snd) (lexW T g (s.data.toList.drop q))) := hrr
                    clear hrr HEND HEX HRq HT4 HYS HY0
                    go_wp2_with (at_builtin; refine wpList_append_own_at _ rfl _ _ 28 rfl (b0 + 4) 45 i0 _ 3 40 Tryd.underlying28 hi hz0 hz1 hz2 rfl (by decide) _ _ _ rfl (World.ownsRow.alloc HTK4.out.row _) ⟨wr.heap.size, 0, none⟩ 1 1 (tkC (.slice ad4 Y.length cap4, ⟨13, p, Y⟩)) rfl rfl (cells_new _ _ _) (by simp [Value.oneCell']) (by have := maxLen_big; omega) (by omega) (by simp; omega) ?_; intro v6 w6 hown hgrow hx1 hx2; clear hx1 hx2)
                    have hb6 : Below (b0 + 4) wr w6 := grown_own (by simp; omega) ((Below.refl _ wr).alloc (by omega) _) (World.ownsRow.alloc HTK4.out.row _) hgrow
                    have HL6 : Hid (Lst W1 (b0 + 1) s q v6 (K ++ [(.slice ad4 Y.length cap4, ⟨13, p, Y⟩)]) w6) :=
                      ⟨Cel.below HLq.out hb6 (by omega), RTk.snoc (HTK4.out.below (below_new wr _)) ((HRP.out.lower (by omega)).below (below_new wr _)) hown hgrow, HTU.out.more ((Turn.refl (fun g => g = b0 + 1) wr).both hb6)⟩
                    clear hown hgrow hb6
                    go_wp2_with fail
                    refine ⟨⟨q, g, _, rfl, hq, by omega, by rw [List.length_append]; simp only [List.length_cons, List.length_nil]; omega, HL6.out, HRR.out⟩, ?_⟩
                    rw [HL6.out.lx.pos, HPO.out]
                    omega
                · obtain ⟨cx, HCX⟩ : ∃ cx, Hid (codE x.code = cx) := ⟨_, rfl⟩
                  have hcx : ¬ cx = 0 := by rw [← HCX.out]; unfold codE; split <;> decide
                  have hcx2 : (cx == 0) = false := by simpa using hcx
                  rw [HCX.out] at hlx
                  have HRX : Hid (R = .error x) := hrx
                  have HCF : Hid (Cel wr fb 3 #[.int .i64 (x.pos : Nat)]) := hcf
                  have HC4 : Hid (Cel wr b0 31 #[.int .i64 0, .slice none 0 0]) := (HLX.out.fl HRD.out).turn HT4.out (by omega)
                  have HUN : Hid (Below b0 W1 wr) := (HLX.out.under HRD.out).trans (Turn.below HT4.out (fun i e => by omega) (by omega))
                  have hfb0 : fb ≠ b0 := fun e => by
                    subst e
                    have := (show wr.heap[fb]? = _ from HCF.out).symm.trans HC4.out
                    simp at this
                  have l1 : wr.cell? ⟨b0 + 1, 1, none⟩ = some (.int .i64 (q : Nat)) := Cel.cell hlx 1
                  have l2 : wr.cell? ⟨b0 + 1, 2, none⟩ = some (.int .i64 cx) := Cel.cell hlx 2
                  have l3 : wr.cell? ⟨b0 + 1, 3, none⟩ = some (.slice (some ⟨fb, 0, none⟩) 1 1) := Cel.cell hlx 3
                  have r0 : wr.cell? ⟨b0, 0, none⟩ = some (.int .i64 0) := HC4.out.cell 0
                  have r1 : wr.cell? ⟨b0, 1, none⟩ = some (.slice none 0 0) := HC4.out.cell 1
                  have rf0 := HC4.out.frozen 0
                  have rf1 := HC4.out.frozen 1
                  clear hrx hlx hcf HT4 HLX
                  by_cases hlq : q < s.size
                  · have hlq' : (q : Int) < (s.size : Int) := by omega
                    have HEN : Hid _ := ends_any s[q] wr
                    cases hwe : wEnd s[q] with
                    | true =>
                      rw [hwe] at HEN
                      clear hwe
                      go_wp2_with fail
                      refine Calls.mono HEN.out ?_
                      rintro e w1 ⟨rfl, hw⟩
                      obtain rfl := hw.symm
                      clear hw
                      go_wp2_with fail
                      go_region
                      obtain ⟨W7, hW7⟩ : ∃ W7, W7 = ((wr.setCell ⟨b0, 0, none⟩ (.int .i64 cx)).setCell ⟨b0, 1, none⟩ (.slice (some ⟨fb, 0, none⟩) 1 1)).drew := ⟨_, rfl⟩
                      have HC7 : Hid (Cel W7 b0 31 #[.int .i64 cx, .slice (some ⟨fb, 0, none⟩) 1 1]) := by rw [hW7]; exact (HC4.out.set (j := 0) (.int .i64 cx)).set (j := 1) (.slice (some ⟨fb, 0, none⟩) 1 1)
                      have HF7 : Hid (Cel W7 fb 3 #[.int .i64 (x.pos : Nat)]) := by rw [hW7]; exact (HCF.out.other (by omega) _).other (by omega) _
                      have HB7 : Hid (Below b0 W1 W7) := by rw [hW7]; exact ((HUN.out.setCell (p := ⟨b0, 0, none⟩) (Nat.le_refl _) _).setCell (p := ⟨b0, 1, none⟩) (Nat.le_refl _) _).trans (below_drew _ _)
                      rw [← hW7]
                      clear hW7 HC4 HCF HUN
                      go_wp2_with fail
                      refine bodyPost_ret (results_flt (p := 3) (u := 2) rfl _ _ b0 _ rfl HC7.out rfl) rfl ?_
                      rw [HRX.out]
                      refine ⟨_, _, _, rfl, ⟨rfl, HCX.out.symm, fb, rfl, HF7.out⟩, ?_⟩
                      rw [← HB0.out] at HB1 ⊢
                      exact HB1.out.trans HB7.out
                    | false =>
                      rw [hwe] at HEN
                      clear hwe
                      go_wp2_with fail
                      refine Calls.mono HEN.out ?_
                      rintro e w1 ⟨rfl, hw⟩
                      obtain rfl := hw.symm
                      clear hw
                      go_wp2_with fail
                      go_region
                      obtain ⟨W7, hW7⟩ : ∃ W7, W7 = ((wr.setCell ⟨b0, 0, none⟩ (.int .i64 cx)).setCell ⟨b0, 1, none⟩ (.slice (some ⟨fb, 0, none⟩) 1 1)).drew := ⟨_, rfl⟩
                      have HC7 : Hid (Cel W7 b0 31 #[.int .i64 cx, .slice (some ⟨fb, 0, none⟩) 1 1]) := by rw [hW7]; exact (HC4.out.set (j := 0) (.int .i64 cx)).set (j := 1) (.slice (some ⟨fb, 0, none⟩) 1 1)
                      have HF7 : Hid (Cel W7 fb 3 #[.int .i64 (x.pos : Nat)]) := by rw [hW7]; exact (HCF.out.other (by omega) _).other (by omega) _
                      have HB7 : Hid (Below b0 W1 W7) := by rw [hW7]; exact ((HUN.out.setCell (p := ⟨b0, 0, none⟩) (Nat.le_refl _) _).setCell (p := ⟨b0, 1, none⟩) (Nat.le_refl _) _).trans (below_drew _ _)
                      rw [← hW7]
                      clear hW7 HC4 HCF HUN
                      go_wp2_with fail
                      refine bodyPost_ret (results_flt (p := 3) (u := 2) rfl _ _ b0 _ rfl HC7.out rfl) rfl ?_
                      rw [HRX.out]
                      refine ⟨_, _, _, rfl, ⟨rfl, HCX.out.symm, fb, rfl, HF7.out⟩, ?_⟩
                      rw [← HB0.out] at HB1 ⊢
                      exact HB1.out.trans HB7.out
                  · have hlq' : ¬ (q : Int) < (s.size : Int) := by omega
                    go_wp2_with fail
                    go_region
                    obtain ⟨W7, hW7⟩ : ∃ W7, W7 = ((wr.setCell ⟨b0, 0, none⟩ (.int .i64 cx)).setCell ⟨b0, 1, none⟩ (.slice (some ⟨fb, 0, none⟩) 1 1)).drew := ⟨_, rfl⟩
                    have HC7 : Hid (Cel W7 b0 31 #[.int .i64 cx, .slice (some ⟨fb, 0, none⟩) 1 1]) := by rw [hW7]; exact (HC4.out.set (j := 0) (.int .i64 cx)).set (j := 1) (.slice (some ⟨fb, 0, none⟩) 1 1)
                    have HF7 : Hid (Cel W7 fb 3 #[.int .i64 (x.pos : Nat)]) := by rw [hW7]; exact (HCF.out.other (by omega) _).other (by omega) _
                    have HB7 : Hid (Below b0 W1 W7) := by rw [hW7]; exact ((HUN.out.setCell (p := ⟨b0, 0, none⟩) (Nat.le_refl _) _).setCell (p := ⟨b0, 1, none⟩) (Nat.le_refl _) _).trans (below_drew _ _)
                    rw [← hW7]
                    clear hW7 HC4 HCF HUN
                    go_wp2_with fail
                    refine bodyPost_ret (results_flt (p := 3) (u := 2) rfl _ _ b0 _ rfl HC7.out rfl) rfl ?_
                    rw [HRX.out]
                    refine ⟨_, _, _, rfl, ⟨rfl, HCX.out.symm, fb, rfl, HF7.out⟩, ?_⟩
                    rw [← HB0.out] at HB1 ⊢
                    exact HB1.out.trans HB7.out
      · have HRR : Hid (R = preT (K.map Prod.snd ++ [⟨(opsK[k0]?).getD 0, p, []⟩]) (lexW T g (s.data.toList.drop (p + ((opsT[k0]?).getD []).length)))) := by
          unfold Hid
          have hop' := hop
          rw [hd] at hop'
          rw [HEQ.out, hd, HT.out, lex_op hblk c35 k0 hk0 hop' (fun j hj => by have := hfirst j hj; rwa [hd] at this), preT_pre, hN, ← hd, List.drop_drop]
        have HF1 : Hid (isOp (s.data.toList.drop p) k0 = true) := hop
        have HF2 : Hid (∀ j, j < k0 → isOp (s.data.toList.drop p) j = false) := hfirst
        have hol := isOp_len _ _ hop
        rw [len_drop'] at hol
        have hol2 := ops_len k0 hk0
        clear HEQ hd c35 c9 c32 hblk hop hfirst
        obtain ⟨wo, hwo⟩ : ∃ wo, wo = wr := ⟨_, rfl⟩
        subst hwo
        go_wp2_with fail
        go_loopw [5, 9, 10] (fun v5 v9 v10 w3 => OpRel W1 wo (b0 + 1) s p k0 (.slice ad K.length cap) K v5 v9 v10 w3) (fun _ _ v10 _ => 13 - (intOf v10).toNat)
        case atStart => exact Or.inl ⟨0, 0, rfl, rfl, rfl, Nat.zero_le _, rfl⟩
        case round =>
          rcases hrel with ⟨k, m, rfl, rfl, rfl, hk, rfl⟩ | ⟨ad2, cap2, rfl, rfl, rfl, hL2⟩
          · clear l1 lf
            have hk12 : (k : Int) < 12 := by omega
            have t0 := HOT.out m k (by omega)
            have HHK := HHAS.out m k (by omega)
            rcases Nat.lt_or_ge k k0 with hlk | hgk
            · have HHK2 : Hid (Calls Tryd.prog 24 #[.pointer (some ⟨b0 + 1, 0, none⟩), str ((opsT[k]?).getD [])] (wo.drewN m) fun e w' => e = .returned (.bool false) ∧ ∃ n, w' = (wo.drewN m).drewN n) := by
                rw [HF2.out k hlk] at HHK
                exact HHK
              clear HHK
              generalize (opsT[k]?).getD [] = tk at t0 HHK2
              go_wp2_with fail
              refine Calls.mono HHK2.out ?_
              rintro e w5 ⟨rfl, n, rfl⟩
              go_wp2_with fail
              exact ⟨Or.inl ⟨k + 1, m + n, rfl, rfl, by simp, by omega, rfl⟩, by simp [intOf]; omega⟩
            · obtain rfl : k = k0 := by omega
              rw [HF1.out] at HHK
              have HHK2 : Hid _ := HHK
              have e0 := HOK.out m k (by omega)
              clear HHK
              obtain ⟨tk, HTK⟩ : ∃ tk, Hid ((opsT[k]?).getD [] = tk) := ⟨_, rfl⟩
              obtain ⟨kd, HKD⟩ : ∃ kd, Hid ((opsK[k]?).getD 0 = kd) := ⟨_, rfl⟩
              rw [HTK.out] at t0 HHK2 hol hol2
              rw [HKD.out] at e0
              obtain ⟨hol3, hol4⟩ := hol2
              go_wp2_with fail
              refine Calls.mono HHK2.out ?_
              rintro e w5 ⟨rfl, n, rfl⟩
              rw [World.drewN_drewN]
              obtain ⟨X, hX⟩ : ∃ X, X = wo.drewN (m + n) := ⟨_, rfl⟩
              have HLX : Hid (Lst W1 (b0 + 1) s p (.slice ad K.length cap) K X) := by rw [hX]; exact HL.out.drewN _
              have x1 : X.cell? ⟨b0 + 1, 1, none⟩ = some (.int .i64 (p : Nat)) := HLX.out.lx.cell 1
              have xf : X.frozen? ⟨b0 + 1, 1, none⟩ = false := Cel.frozen HLX.out.lx 1
              have x2 : X.cell? ⟨b0 + 2, k, none⟩ = some (str tk) := by rw [hX]; exact t0
              have x3 : X.cell? ⟨b0 + 3, k, none⟩ = some (.int .i64 (kd : Nat)) := by rw [hX]; exact e0
              rw [← hX]
              have HXO : Hid (X.ownsRow (b0 + 4) 45 3 (.slice ad K.length cap) K.length (tkCs K)) := HLX.out.tk.row
              have hXs : b0 + 4 ≤ X.heap.size := HLX.out.size HRD.out
              have HCX : Hid (∀ (X' w6 : World) (o : Obj), X'.heap = (X.alloc o).heap → X'.grownBy w6 (Value.slice ad K.length cap).ownBlock → w6.cell? ⟨b0 + 3, k, none⟩ = some (.int .i64 (kd : Nat)) ∧ w6.cell? ⟨b0 + 1, 1, none⟩ = some (.int .i64 (p : Nat))) := fun X' w6 o hX' hg => by
                have hne : ∀ j, j < b0 + 4 → some j ≠ (Value.slice ad K.length cap).ownBlock := fun j hj e => by
                  have := (World.ownsRow.lt HXO.out _ e.symm).1
                  omega
                have c3 : Cel X' (b0 + 3) 3 opsKV := by unfold Cel; rw [hX']; exact Cel.below (HLX.out.ok HRD.out) (below_new X o) (Cel.lt (HLX.out.ok HRD.out))
                have c1 : Cel X' (b0 + 1) 65 (lx s p 0 (.slice none 0 0)) := by unfold Cel; rw [hX']; exact Cel.below HLX.out.lx (below_new X o) (Cel.lt HLX.out.lx)
                have c3' : Cel w6 (b0 + 3) 3 opsKV := Cel.kept c3 hg (hne _ (by omega))
                have c1' : Lx w6 (b0 + 1) s p 0 (.slice none 0 0) := Cel.kept c1 hg (hne _ (by omega))
                rw [← HKD.out]
                exact ⟨(c3'.cell k).trans (ops_at k (by omega)).2, Cel.cell c1' 1⟩
              clear hX t0 e0 HHK2
              go_upto_region 18 with fail
              go_region_held3 (fun w' => w'.cell? ⟨b0 + 3, k, none⟩ = some (.int .i64 (kd : Nat)) ∧ w'.cell? ⟨b0 + 1, 1, none⟩ = some (.int .i64 (p : Nat))) (first | go_keep | exact HCX.out _ _ _ (by rfl) hgrow) (first | (refine step_append_lies _ (by rfl) _ _ 28 (by rfl) (b0 + 4) 45 i0 _ 3 40 Tryd.underlying28 hi hz0 hz1 hz2 (by rfl) (by decide) (.slice ad K.length cap) K.length (tkCs K) (by rfl) (World.ownsRow.alloc HXO.out _) ⟨X.heap.size, 0, none⟩ 1 1 (tkC (.slice none 0 0, ⟨kd, p, []⟩)) (by rfl) (by rfl) (cells_new _ _ _) (by simp [Value.oneCell']) (by omega) (by have := maxLen_big; omega) (by omega) (by simp; omega) (X.heap.size + 1) (by simp) ?_; intro g6 cap6 w6 hown hgrow hat hlt6))
              have hXd : Below X.heap.size X (X.alloc (.cells #[.int .i64 (kd : Nat), .int .i64 (p : Nat), .slice none 0 0] 45)).drew := (below_new X _).trans (below_drew _ _)
              have hTd := HLX.out.tk.below hXd
              have hb6 : Below (b0 + 4) X w6 := grown_own (by simp; omega) (hXd.mono hXs) hTd.row hgrow
              have HL6 : Hid (Lst W1 (b0 + 1) s p (.slice (some ⟨g6, 0, none⟩) (K.length + 1) cap6) (K ++ [(.slice none 0 0, ⟨kd, p, []⟩)]) w6) :=
                HLX.out.below hb6 (RTk.snoc hTd (RPt.nil _ _) hown hgrow)
              obtain ⟨x6, x7⟩ := HCX.out _ _ _ (by rfl) hgrow
              have x8 : w6.cell? ⟨b0 + 2, k, none⟩ = some (str tk) := (World.cell?_of_block (w := X) (a := ⟨b0 + 2, k, none⟩) (hb6.block _ (by show b0 + 2 < b0 + 4; omega))).trans x2
              have xf6 : w6.frozen? ⟨b0 + 1, 1, none⟩ = false := Cel.frozen HL6.out.lx 1
              clear hown hgrow hb6 hTd hXd hat hlt6 x1 x2 x3 xf HXO HCX HLX
              go_wp2_with fail
              go_region
              obtain ⟨W7, hW7⟩ : ∃ W7, W7 = (w6.setCell ⟨b0 + 1, 1, none⟩ (.int .i64 ((p : Int) + (tk.length : Nat)))).drew := ⟨_, rfl⟩
              have HL7 : Hid (Lst W1 (b0 + 1) s (p + tk.length) (.slice (some ⟨g6, 0, none⟩) (K.length + 1) cap6) (K ++ [(.slice none 0 0, ⟨kd, p, []⟩)]) W7) := by
                rw [hW7]
                exact (HL6.out.move (by omega)).drewN 1
              rw [← hW7]
              clear hW7 HL6 x6 x7 x8 xf6
              go_wp2_with fail
              refine ⟨Or.inr ⟨_, _, rfl, by simp, rfl, ?_⟩, by simp [intOf]; omega⟩
              rw [HTK.out, HKD.out]
              exact HL7.out
          · clear l1 lf HOT HOK HHAS
            have HL2 : Hid (Lst W1 (b0 + 1) s (p + ((opsT[k0]?).getD []).length) (.slice ad2 (K.length + 1) cap2) (K ++ [(.slice none 0 0, ⟨(opsK[k0]?).getD 0, p, []⟩)]) wr) := hL2
            clear hL2
            have HE2 : Hid (R = preT ((K ++ [(Value.slice none 0 0, (⟨(opsK[k0]?).getD 0, p, []⟩ : Tk))]).map Prod.snd) (lexW T g (s.data.toList.drop (p + ((opsT[k0]?).getD []).length)))) := by
              unfold Hid
              rw [HRR.out, List.map_append]
              rfl
            have hKl : (K ++ [(Value.slice none 0 0, (⟨(opsK[k0]?).getD 0, p, []⟩ : Tk))]).length ≤ p + ((opsT[k0]?).getD []).length := by
              rw [List.length_append]
              simp only [List.length_cons, List.length_nil]
              omega
            have hme : s.size + 1 - posOf wr (b0 + 1) < s.size + 1 - posOf wo (b0 + 1) := by
              rw [HL2.out.lx.pos, HPO.out]
              omega
            by_cases hk2 : k0 + 1 < 12
            · have hk3 : ((k0 : Int) + 1) < 12 := by omega
              go_wp2_with fail
              exact ⟨⟨p + ((opsT[k0]?).getD []).length, g, _, rfl, by omega, by omega, hKl, HL2.out, HE2.out⟩, hme⟩
            · have hk3 : ¬ ((k0 : Int) + 1) < 12 := by omega
              go_wp2_with fail
              exact ⟨⟨p + ((opsT[k0]?).getD []).length, g, _, rfl, by omega, by omega, hKl, HL2.out, HE2.out⟩, hme⟩
    · have hlt' : ¬ (p : Int) < (s.size : Int) := by omega
      have HRR : Hid (R = .ok ((K ++ [(Value.slice none 0 0, (⟨0, s.size, []⟩ : Tk))]).map Prod.snd)) := by
        unfold Hid
        obtain ⟨g', rfl⟩ : ∃ g', g = g' + 1 := ⟨g - 1, by omega⟩
        rw [HEQ.out, drop_none s p hlt, HT.out, lexW_end (tokT s.size) g' [] ⟨0, s.size, []⟩ [] rfl rfl, List.map_append]
        rfl
      have hXs : b0 + 4 ≤ wr.heap.size := HL.out.size HRD.out
      clear HEQ
      go_wp2_with (at_builtin; refine wpList_append_own_at _ rfl _ _ 28 rfl (b0 + 4) 45 i0 _ 3 40 Tryd.underlying28 hi hz0 hz1 hz2 rfl (by decide) _ _ _ rfl (World.ownsRow.alloc HL.out.tk.row _) ⟨wr.heap.size, 0, none⟩ 1 1 (tkC (.slice none 0 0, ⟨0, s.size, []⟩)) rfl rfl (cells_new _ _ _) (by simp [Value.oneCell']) (by have := maxLen_big; omega) (by omega) (by simp; omega) ?_; intro v6 w6 hown hgrow hx1 hx2; clear hx1 hx2)
      have hb6 : Below (b0 + 4) wr w6 := grown_own (by simp; omega) ((Below.refl _ wr).alloc (by omega) _) (World.ownsRow.alloc HL.out.tk.row _) hgrow
      have HK6 : Hid (RTk w6 (b0 + 4) v6 (K ++ [(.slice none 0 0, ⟨0, s.size, []⟩)])) := RTk.snoc (HL.out.tk.below (below_new wr _)) (RPt.nil _ _) hown hgrow
      have HN6 : Hid _ := none_any w6
      have HC6 : Hid (Cel w6 b0 31 #[.int .i64 0, .slice none 0 0]) := (HL.out.fl HRD.out).below hb6 (by omega)
      have HU6 : Hid (Below b0 W1 w6) := (HL.out.under HRD.out).trans (hb6.mono (by omega))
      have hz6 : b0 + 4 ≤ w6.heap.size := Nat.le_trans hXs hb6.size
      clear hown hgrow hb6
      refine Calls.mono HN6.out ?_
      rintro e w7 ⟨rfl, hb7⟩
      have HC7 : Hid (Cel w7 b0 31 #[.int .i64 0, .slice none 0 0]) := HC6.out.below hb7 (by omega)
      have HK7 : Hid (RTk w7 (b0 + 4) v6 (K ++ [(.slice none 0 0, ⟨0, s.size, []⟩)])) := HK6.out.below hb7
      have HU7 : Hid (Below b0 W1 w7) := HU6.out.trans (hb7.mono (by omega))
      have r0 : w7.cell? ⟨b0, 0, none⟩ = some (.int .i64 0) := HC7.out.cell 0
      have r1 : w7.cell? ⟨b0, 1, none⟩ = some (.slice none 0 0) := HC7.out.cell 1
      have rf0 := HC7.out.frozen 0
      have rf1 := HC7.out.frozen 1
      clear hb7 HN6 HK6 HC6 HU6 l1 lf
      go_wp2_with fail
      refine bodyPost_ret (results_flt (p := 3) (u := 2) rfl _ _ b0 _ rfl ((HC7.out.set (j := 0) (.int .i64 0)).set (j := 1) (.slice none 0 0)) rfl) rfl ?_
      rw [HRR.out]
      have hT7 : Turn (fun g => g = b0) w7 ((w7.setCell ⟨b0, 0, none⟩ (.int .i64 0)).setCell ⟨b0, 1, none⟩ (.slice none 0 0)) := Turn.setCell (S := fun g => g = b0) (p := ⟨b0, 1, none⟩) (Turn.setCell (S := fun g => g = b0) (p := ⟨b0, 0, none⟩) (Turn.refl _ w7) (fun _ => rfl) _) (fun _ => rfl) _
      refine ⟨_, _, _, rfl, ⟨rfl, rfl, _, rfl, ?_⟩, ?_⟩
      · rw [← HB0.out]
        exact (HK7.out.past hT7 (fun i e => Or.inl (by omega))).lower (by omega)
      · rw [← HB0.out] at HB1 ⊢
        exact ((HB1.out.trans HU7.out).setCell (p := ⟨b0, 0, none⟩) (Nat.le_refl _) _).setCell (p := ⟨b0, 1, none⟩) (Nat.le_refl _) _
end Go.Proofs.YtlbdecohmjpgaaaDoor
