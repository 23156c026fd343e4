/- What is written here, where no sign stands. -/
import Derived.Test.YtddekcohfbnmbaaDoorRd5
import Derived.Test.YtddekcohfbnmbaaDoorRd6
namespace Go.Proofs.YtddekcohfbnmbaaDoor
open Go.RowKit
attribute [local go_sem] Oper.semAt_some

set_option maxRecDepth 100000 in
set_option maxHeartbeats 8000000 in
theorem written_any {W : World} {b sb p : Nat} {s : ByteArray} {ea : Nat → Addr} (h : Rd W b sb s p) (hE : Env W ea) (hb64 : (ea 64).block ≤ b) (g : Bool) (hs : s.size ≤ 8192) (hp : p < s.size) :
    Calls Tryd.prog 33 #[.pointer (some ⟨b, 0, none⟩), .agg (tbC ⟨0, p, 0, [], g⟩).toArray] W fun e w' => ∃ v ev, e = .returned (.tuple #[v, ev]) ∧ TokV W b sb s ea (writ p g s[p] (s.data.toList.drop (p + 1))) v ev w' := by
  have hlb := h.rd.lt
  have hlsb := h.src.lt
  obtain ⟨W0, hW0⟩ : ∃ W0, W0 = (W.alloc (.cells (tbC ⟨0, p, 0, [], g⟩).toArray 40)).alloc (.cells zT 40) := ⟨_, rfl⟩
  have HS0 : Hid (Stp W b sb s p W0) := by rw [hW0]; exact ((Stp.refl h).alloc _).alloc _
  have HE0 : Hid (Env W0 ea) := by rw [hW0]; exact (hE.below (below_new _ _)).below (below_new _ _)
  have HT0 : Hid (Cel W0 W.heap.size 40 (tbC ⟨0, p, 0, [], g⟩).toArray) := by rw [hW0]; exact (Cel.new W _ _).below (below_new _ _) (by simp)
  have HQ0 : Hid (Cel W0 (W.heap.size + 1) 40 zT) := by rw [hW0]; exact Cel.new2 W _ _ _
  have HW0 : Hid ((W.alloc (.cells (tbC ⟨0, p, 0, [], g⟩).toArray 40)).alloc (.cells zT 40) = W0) := hW0.symm
  have HBY : Hid (∀ m, Calls Tryd.prog 43 #[.pointer (some ⟨sb, 0, none⟩), .int .i64 (p : Nat)] (W0.drewN m) fun e w' => e = .returned (.tuple #[.int .u8 (s[p].toNat : Nat), .bool true]) ∧ w' = W0.drewN m) := fun m => by
    have := byte_any sb s p (W0.drewN m) HS0.out.at_.t0
    rwa [text_at s p hp, byteV_some] at this
  have hz0 : W.heap.size + 2 ≤ W0.heap.size := by have := HQ0.out.lt; omega
  have hgl := hE.glob
  have hbn : ¬ b = W.heap.size := by omega
  have hnb : ¬ W.heap.size = b := by omega
  have hbn1 : ¬ b = W.heap.size + 1 := by omega
  have hnb1 : ¬ W.heap.size + 1 = b := by omega
  have c0 := HS0.out.at_.c0
  have c1 := HS0.out.at_.c1
  have hd := drop_cons s p hp
  obtain ⟨R, HR⟩ : ∃ R, Hid (writ p g s[p] (s.data.toList.drop (p + 1)) = R) := ⟨writ p g s[p] (s.data.toList.drop (p + 1)), by unfold Hid; rfl⟩
  rw [HR.out]
  clear h hE hW0
  by_cases c39 : s[p] = 39
  · have q39 : (((s[p]).toNat : Int) == 39) = true := by rw [c39]; rfl
    have HVA : Hid (∀ w, Rd w b sb s p → Env w ea → Calls Tryd.prog 44 #[.pointer (some ⟨b, 0, none⟩), .agg (tbC ⟨0, p, 0, [], g⟩).toArray] w fun e w' => ∃ v ev, e = .returned (.tuple #[v, ev]) ∧ TokV w b sb s ea R v ev w') := fun w h1 h2 => by
      have := dead_any h1 h2 hb64 g hs hp
      rw [← HR.out, writ, if_pos c39]
      exact this
    clear HR c39 hd
    go_enter Tryd.func33, Tryd.ntmps33
    go_upto_region 1 with fail
    rw [HW0.out]
    go_wp2_with fail
    go_quiet (first | (go_at_call 43; exact Calls.quiet_of_same (HBY.out _)))
    obtain ⟨W1, hW1⟩ : ∃ W1, W1 = W0.drewN nq := ⟨_, rfl⟩
    have HS1 : Hid (Stp W b sb s p W1) := by rw [hW1]; exact HS0.out.drewN nq
    have HE1 : Hid (Env W1 ea) := by rw [hW1]; exact HE0.out.drewN nq
    have HT1 : Hid (Cel W1 W.heap.size 40 (tbC ⟨0, p, 0, [], g⟩).toArray) := by rw [hW1]; exact HT0.out
    have HQ1 : Hid (Cel W1 (W.heap.size + 1) 40 zT) := by rw [hW1]; exact HQ0.out
    rw [← hW1]
    clear hW1 c0 c1 HBY
    have u0 : W1.cell? ⟨W.heap.size, 0, none⟩ = some (.int .i64 0) := HT1.out.cell 0
    have u1 : W1.cell? ⟨W.heap.size, 1, none⟩ = some (.int .i64 (p : Nat)) := HT1.out.cell 1
    have u2 : W1.cell? ⟨W.heap.size, 2, none⟩ = some (.int .i64 0) := HT1.out.cell 2
    have u3 : W1.cell? ⟨W.heap.size, 3, none⟩ = some (.string ⟨#[]⟩) := HT1.out.cell 3
    have u4 : W1.cell? ⟨W.heap.size, 4, none⟩ = some (.bool g) := HT1.out.cell 4
    go_wp2_with fail
    refine Calls.mono (HVA.out _ HS1.out.at_ HE1.out) ?_
    rintro e w2 ⟨v, ev, rfl, hv⟩
    obtain ⟨j2, hst2⟩ := hv.stp
    have HQ2 : Hid (Cel w2 (W.heap.size + 1) 40 zT) := HQ1.out.turn hst2.turn (by omega)
    have HV2 : Hid (TokV W b sb s ea R v ev w2) := hv.lift HS1.out
    obtain ⟨⟨tk, tp, tn, ts, tg⟩, rfl⟩ := hv.form
    clear hv hst2 HVA
    have z0 : w2.cell? ⟨W.heap.size + 1, 0, none⟩ = some (.int .i64 0) := HQ2.out.cell 0
    have z1 : w2.cell? ⟨W.heap.size + 1, 1, none⟩ = some (.int .i64 0) := HQ2.out.cell 1
    have z2 : w2.cell? ⟨W.heap.size + 1, 2, none⟩ = some (.int .i64 0) := HQ2.out.cell 2
    have z3 : w2.cell? ⟨W.heap.size + 1, 3, none⟩ = some (.string ⟨#[]⟩) := HQ2.out.cell 3
    have z4 : w2.cell? ⟨W.heap.size + 1, 4, none⟩ = some (.bool false) := HQ2.out.cell 4
    have zf0 := HQ2.out.frozen 0
    have zf1 := HQ2.out.frozen 1
    have zf2 := HQ2.out.frozen 2
    have zf3 := HQ2.out.frozen 3
    have zf4 := HQ2.out.frozen 4
    go_wp2_with fail
    refine bodyPost_ret (results_tok (p := 4) (u := 5) rfl _ _ (W.heap.size + 1) _ rfl (HQ2.out.put5 (.int .i64 (tk : Nat)) (.int .i64 (tp : Nat)) (.int .i64 (tn : Nat)) (str ts) (.bool tg)) rfl) rfl ?_
    exact ⟨_, _, rfl, HV2.out.put HQ2.out hlb hlsb (by omega) _ _ _ _ _⟩
  have q39 : (((s[p]).toNat : Int) == 39) = false := byte_ne s[p] 39 c39
  by_cases c36 : s[p] = 36
  · have q36 : (((s[p]).toNat : Int) == 36) = true := by rw [c36]; rfl
    have HVA : Hid (∀ w, Rd w b sb s p → Env w ea → Calls Tryd.prog 45 #[.pointer (some ⟨b, 0, none⟩), .agg (tbC ⟨0, p, 0, [], g⟩).toArray] w fun e w' => ∃ v ev, e = .returned (.tuple #[v, ev]) ∧ TokV w b sb s ea R v ev w') := fun w h1 h2 => by
      have := dollar_any h1 h2 hb64 g (by omega) hp c36
      rw [← HR.out, writ, if_neg c39, if_pos c36]
      exact this
    clear HR c39 c36 hd
    go_enter Tryd.func33, Tryd.ntmps33
    go_upto_region 1 with fail
    rw [HW0.out]
    go_wp2_with fail
    go_quiet (first | (go_at_call 43; exact Calls.quiet_of_same (HBY.out _)))
    obtain ⟨W1, hW1⟩ : ∃ W1, W1 = W0.drewN nq := ⟨_, rfl⟩
    have HS1 : Hid (Stp W b sb s p W1) := by rw [hW1]; exact HS0.out.drewN nq
    have HE1 : Hid (Env W1 ea) := by rw [hW1]; exact HE0.out.drewN nq
    have HT1 : Hid (Cel W1 W.heap.size 40 (tbC ⟨0, p, 0, [], g⟩).toArray) := by rw [hW1]; exact HT0.out
    have HQ1 : Hid (Cel W1 (W.heap.size + 1) 40 zT) := by rw [hW1]; exact HQ0.out
    rw [← hW1]
    clear hW1 c0 c1 HBY
    have u0 : W1.cell? ⟨W.heap.size, 0, none⟩ = some (.int .i64 0) := HT1.out.cell 0
    have u1 : W1.cell? ⟨W.heap.size, 1, none⟩ = some (.int .i64 (p : Nat)) := HT1.out.cell 1
    have u2 : W1.cell? ⟨W.heap.size, 2, none⟩ = some (.int .i64 0) := HT1.out.cell 2
    have u3 : W1.cell? ⟨W.heap.size, 3, none⟩ = some (.string ⟨#[]⟩) := HT1.out.cell 3
    have u4 : W1.cell? ⟨W.heap.size, 4, none⟩ = some (.bool g) := HT1.out.cell 4
    go_wp2_with fail
    refine Calls.mono (HVA.out _ HS1.out.at_ HE1.out) ?_
    rintro e w2 ⟨v, ev, rfl, hv⟩
    obtain ⟨j2, hst2⟩ := hv.stp
    have HQ2 : Hid (Cel w2 (W.heap.size + 1) 40 zT) := HQ1.out.turn hst2.turn (by omega)
    have HV2 : Hid (TokV W b sb s ea R v ev w2) := hv.lift HS1.out
    obtain ⟨⟨tk, tp, tn, ts, tg⟩, rfl⟩ := hv.form
    clear hv hst2 HVA
    have z0 : w2.cell? ⟨W.heap.size + 1, 0, none⟩ = some (.int .i64 0) := HQ2.out.cell 0
    have z1 : w2.cell? ⟨W.heap.size + 1, 1, none⟩ = some (.int .i64 0) := HQ2.out.cell 1
    have z2 : w2.cell? ⟨W.heap.size + 1, 2, none⟩ = some (.int .i64 0) := HQ2.out.cell 2
    have z3 : w2.cell? ⟨W.heap.size + 1, 3, none⟩ = some (.string ⟨#[]⟩) := HQ2.out.cell 3
    have z4 : w2.cell? ⟨W.heap.size + 1, 4, none⟩ = some (.bool false) := HQ2.out.cell 4
    have zf0 := HQ2.out.frozen 0
    have zf1 := HQ2.out.frozen 1
    have zf2 := HQ2.out.frozen 2
    have zf3 := HQ2.out.frozen 3
    have zf4 := HQ2.out.frozen 4
    go_wp2_with fail
    refine bodyPost_ret (results_tok (p := 4) (u := 5) rfl _ _ (W.heap.size + 1) _ rfl (HQ2.out.put5 (.int .i64 (tk : Nat)) (.int .i64 (tp : Nat)) (.int .i64 (tn : Nat)) (str ts) (.bool tg)) rfl) rfl ?_
    exact ⟨_, _, rfl, HV2.out.put HQ2.out hlb hlsb (by omega) _ _ _ _ _⟩
  have q36 : (((s[p]).toNat : Int) == 36) = false := byte_ne s[p] 36 c36
  by_cases c38 : s[p] = 38
  · have q38 : (((s[p]).toNat : Int) == 38) = true := by rw [c38]; rfl
    replace HR : Hid (R = .error ⟨3, p⟩) := by unfold Hid; rw [← HR.out, writ, if_neg c39, if_neg c36, if_pos (Or.inl c38)]
    clear c39 c36 c38 hd
    go_enter Tryd.func33, Tryd.ntmps33
    go_upto_region 1 with fail
    rw [HW0.out]
    go_wp2_with fail
    go_quiet (first | (go_at_call 43; exact Calls.quiet_of_same (HBY.out _)))
    obtain ⟨W1, hW1⟩ : ∃ W1, W1 = W0.drewN nq := ⟨_, rfl⟩
    have HS1 : Hid (Stp W b sb s p W1) := by rw [hW1]; exact HS0.out.drewN nq
    have HE1 : Hid (Env W1 ea) := by rw [hW1]; exact HE0.out.drewN nq
    have HT1 : Hid (Cel W1 W.heap.size 40 (tbC ⟨0, p, 0, [], g⟩).toArray) := by rw [hW1]; exact HT0.out
    have HQ1 : Hid (Cel W1 (W.heap.size + 1) 40 zT) := by rw [hW1]; exact HQ0.out
    rw [← hW1]
    clear hW1 c0 c1 HBY
    have u0 : W1.cell? ⟨W.heap.size, 0, none⟩ = some (.int .i64 0) := HT1.out.cell 0
    have u1 : W1.cell? ⟨W.heap.size, 1, none⟩ = some (.int .i64 (p : Nat)) := HT1.out.cell 1
    have u2 : W1.cell? ⟨W.heap.size, 2, none⟩ = some (.int .i64 0) := HT1.out.cell 2
    have u3 : W1.cell? ⟨W.heap.size, 3, none⟩ = some (.string ⟨#[]⟩) := HT1.out.cell 3
    have u4 : W1.cell? ⟨W.heap.size, 4, none⟩ = some (.bool g) := HT1.out.cell 4
    have HFA : Hid _ := fails_any ⟨0, p, 0, [], g⟩ (ea 2) W1
    have g0 := HE1.out.cell 2 (by omega) (by omega)
    go_wp2_with fail
    refine Calls.mono HFA.out ?_
    rintro e w3 ⟨q, rfl, hq, hb3⟩
    have HS3 : Hid (Stp W b sb s p w3) := HS1.out.below hb3
    have HQ3 : Hid (Cel w3 (W.heap.size + 1) 40 zT) := HQ1.out.below hb3 HQ1.out.lt
    have HA3 : Hid (AtEr w3 ea (.iface 81 (.pointer (some ⟨q, 0, none⟩))) ⟨3, p⟩) := ⟨q, rfl, hq⟩
    clear hq hb3 HFA u0 u1 u2 u3 u4 g0
    have z0 : w3.cell? ⟨W.heap.size + 1, 0, none⟩ = some (.int .i64 0) := HQ3.out.cell 0
    have z1 : w3.cell? ⟨W.heap.size + 1, 1, none⟩ = some (.int .i64 0) := HQ3.out.cell 1
    have z2 : w3.cell? ⟨W.heap.size + 1, 2, none⟩ = some (.int .i64 0) := HQ3.out.cell 2
    have z3 : w3.cell? ⟨W.heap.size + 1, 3, none⟩ = some (.string ⟨#[]⟩) := HQ3.out.cell 3
    have z4 : w3.cell? ⟨W.heap.size + 1, 4, none⟩ = some (.bool false) := HQ3.out.cell 4
    have zf0 := HQ3.out.frozen 0
    have zf1 := HQ3.out.frozen 1
    have zf2 := HQ3.out.frozen 2
    have zf3 := HQ3.out.frozen 3
    have zf4 := HQ3.out.frozen 4
    go_wp2_with fail
    refine bodyPost_ret (results_tok (p := 4) (u := 5) rfl _ _ (W.heap.size + 1) _ rfl (HQ3.out.put5 (.int .i64 0) (.int .i64 0) (.int .i64 0) (.string ⟨#[]⟩) (.bool false)) rfl) rfl ?_
    rw [HR.out]
    exact ⟨_, _, rfl, ⟨⟨0, 0, 0, [], false⟩, rfl⟩, HA3.out.put HQ3.out _ _ _ _ _, p, HS3.out.put5 hlb hlsb (by omega) _ _ _ _ _⟩
  have q38 : (((s[p]).toNat : Int) == 38) = false := byte_ne s[p] 38 c38
  by_cases c96 : s[p] = 96
  · have q96 : (((s[p]).toNat : Int) == 96) = true := by rw [c96]; rfl
    replace HR : Hid (R = .error ⟨3, p⟩) := by unfold Hid; rw [← HR.out, writ, if_neg c39, if_neg c36, if_pos (Or.inr c96)]
    clear c39 c36 c38 c96 hd
    go_enter Tryd.func33, Tryd.ntmps33
    go_upto_region 1 with fail
    rw [HW0.out]
    go_wp2_with fail
    go_quiet (first | (go_at_call 43; exact Calls.quiet_of_same (HBY.out _)))
    obtain ⟨W1, hW1⟩ : ∃ W1, W1 = W0.drewN nq := ⟨_, rfl⟩
    have HS1 : Hid (Stp W b sb s p W1) := by rw [hW1]; exact HS0.out.drewN nq
    have HE1 : Hid (Env W1 ea) := by rw [hW1]; exact HE0.out.drewN nq
    have HT1 : Hid (Cel W1 W.heap.size 40 (tbC ⟨0, p, 0, [], g⟩).toArray) := by rw [hW1]; exact HT0.out
    have HQ1 : Hid (Cel W1 (W.heap.size + 1) 40 zT) := by rw [hW1]; exact HQ0.out
    rw [← hW1]
    clear hW1 c0 c1 HBY
    have u0 : W1.cell? ⟨W.heap.size, 0, none⟩ = some (.int .i64 0) := HT1.out.cell 0
    have u1 : W1.cell? ⟨W.heap.size, 1, none⟩ = some (.int .i64 (p : Nat)) := HT1.out.cell 1
    have u2 : W1.cell? ⟨W.heap.size, 2, none⟩ = some (.int .i64 0) := HT1.out.cell 2
    have u3 : W1.cell? ⟨W.heap.size, 3, none⟩ = some (.string ⟨#[]⟩) := HT1.out.cell 3
    have u4 : W1.cell? ⟨W.heap.size, 4, none⟩ = some (.bool g) := HT1.out.cell 4
    have HFA : Hid _ := fails_any ⟨0, p, 0, [], g⟩ (ea 2) W1
    have g0 := HE1.out.cell 2 (by omega) (by omega)
    go_wp2_with fail
    refine Calls.mono HFA.out ?_
    rintro e w3 ⟨q, rfl, hq, hb3⟩
    have HS3 : Hid (Stp W b sb s p w3) := HS1.out.below hb3
    have HQ3 : Hid (Cel w3 (W.heap.size + 1) 40 zT) := HQ1.out.below hb3 HQ1.out.lt
    have HA3 : Hid (AtEr w3 ea (.iface 81 (.pointer (some ⟨q, 0, none⟩))) ⟨3, p⟩) := ⟨q, rfl, hq⟩
    clear hq hb3 HFA u0 u1 u2 u3 u4 g0
    have z0 : w3.cell? ⟨W.heap.size + 1, 0, none⟩ = some (.int .i64 0) := HQ3.out.cell 0
    have z1 : w3.cell? ⟨W.heap.size + 1, 1, none⟩ = some (.int .i64 0) := HQ3.out.cell 1
    have z2 : w3.cell? ⟨W.heap.size + 1, 2, none⟩ = some (.int .i64 0) := HQ3.out.cell 2
    have z3 : w3.cell? ⟨W.heap.size + 1, 3, none⟩ = some (.string ⟨#[]⟩) := HQ3.out.cell 3
    have z4 : w3.cell? ⟨W.heap.size + 1, 4, none⟩ = some (.bool false) := HQ3.out.cell 4
    have zf0 := HQ3.out.frozen 0
    have zf1 := HQ3.out.frozen 1
    have zf2 := HQ3.out.frozen 2
    have zf3 := HQ3.out.frozen 3
    have zf4 := HQ3.out.frozen 4
    go_wp2_with fail
    refine bodyPost_ret (results_tok (p := 4) (u := 5) rfl _ _ (W.heap.size + 1) _ rfl (HQ3.out.put5 (.int .i64 0) (.int .i64 0) (.int .i64 0) (.string ⟨#[]⟩) (.bool false)) rfl) rfl ?_
    rw [HR.out]
    exact ⟨_, _, rfl, ⟨⟨0, 0, 0, [], false⟩, rfl⟩, HA3.out.put HQ3.out _ _ _ _ _, p, HS3.out.put5 hlb hlsb (by omega) _ _ _ _ _⟩
  have q96 : (((s[p]).toNat : Int) == 96) = false := byte_ne s[p] 96 c96
  replace HR : Hid (R = .ok (⟨18, p, 0, (s.data.toList.drop p).takeWhile inW, g⟩, (s.data.toList.drop p).dropWhile inW)) := by
    unfold Hid
    rw [← HR.out, writ, if_neg c39, if_neg c36, if_neg (fun h => h.elim c38 c96), ← hd]
  clear c39 c36 c38 c96 hd
  go_enter Tryd.func33, Tryd.ntmps33
  go_upto_region 1 with fail
  rw [HW0.out]
  go_wp2_with fail
  go_quiet (first | (go_at_call 43; exact Calls.quiet_of_same (HBY.out _)))
  obtain ⟨W1, hW1⟩ : ∃ W1, W1 = W0.drewN nq := ⟨_, rfl⟩
  have HS1 : Hid (Stp W b sb s p W1) := by rw [hW1]; exact HS0.out.drewN nq
  have HE1 : Hid (Env W1 ea) := by rw [hW1]; exact HE0.out.drewN nq
  have HT1 : Hid (Cel W1 W.heap.size 40 (tbC ⟨0, p, 0, [], g⟩).toArray) := by rw [hW1]; exact HT0.out
  have HQ1 : Hid (Cel W1 (W.heap.size + 1) 40 zT) := by rw [hW1]; exact HQ0.out
  rw [← hW1]
  clear hW1 c0 c1 HBY
  have u0 : W1.cell? ⟨W.heap.size, 0, none⟩ = some (.int .i64 0) := HT1.out.cell 0
  have u1 : W1.cell? ⟨W.heap.size, 1, none⟩ = some (.int .i64 (p : Nat)) := HT1.out.cell 1
  have u2 : W1.cell? ⟨W.heap.size, 2, none⟩ = some (.int .i64 0) := HT1.out.cell 2
  have u3 : W1.cell? ⟨W.heap.size, 3, none⟩ = some (.string ⟨#[]⟩) := HT1.out.cell 3
  have u4 : W1.cell? ⟨W.heap.size, 4, none⟩ = some (.bool g) := HT1.out.cell 4
  have HWD : Hid _ := word_any HS1.out.at_ g (by omega) (by omega)
  go_wp2_with fail
  refine Calls.mono HWD.out ?_
  rintro e w3 ⟨rfl, j3, hst3, hj3, hdw3⟩
  have HS3 : Hid (Stp W b sb s j3 w3) := HS1.out.trans hst3
  have HQ3 : Hid (Cel w3 (W.heap.size + 1) 40 zT) := HQ1.out.turn hst3.turn (by omega)
  have HD3 : Hid ((s.data.toList.drop p).dropWhile inW = s.data.toList.drop j3) := hdw3
  clear hst3 hdw3 HWD u0 u1 u2 u3 u4
  generalize (s.data.toList.drop p).takeWhile inW = wd at HR ⊢
  have z0 : w3.cell? ⟨W.heap.size + 1, 0, none⟩ = some (.int .i64 0) := HQ3.out.cell 0
  have z1 : w3.cell? ⟨W.heap.size + 1, 1, none⟩ = some (.int .i64 0) := HQ3.out.cell 1
  have z2 : w3.cell? ⟨W.heap.size + 1, 2, none⟩ = some (.int .i64 0) := HQ3.out.cell 2
  have z3 : w3.cell? ⟨W.heap.size + 1, 3, none⟩ = some (.string ⟨#[]⟩) := HQ3.out.cell 3
  have z4 : w3.cell? ⟨W.heap.size + 1, 4, none⟩ = some (.bool false) := HQ3.out.cell 4
  have zf0 := HQ3.out.frozen 0
  have zf1 := HQ3.out.frozen 1
  have zf2 := HQ3.out.frozen 2
  have zf3 := HQ3.out.frozen 3
  have zf4 := HQ3.out.frozen 4
  go_wp2_with fail
  refine bodyPost_ret (results_tok (p := 4) (u := 5) rfl _ _ (W.heap.size + 1) _ rfl (HQ3.out.put5 (.int .i64 18) (.int .i64 (p : Nat)) (.int .i64 0) (str wd) (.bool g)) rfl) rfl ?_
  rw [HR.out]
  exact ⟨_, _, rfl, rfl, rfl, j3, HS3.out.put5 hlb hlsb (by omega) _ _ _ _ _, hj3, HD3.out⟩
end Go.Proofs.YtddekcohfbnmbaaDoor
