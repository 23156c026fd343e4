/- What stands behind a dollar. -/
import Derived.Test.YtddekcohfbnmbaaDoorRd4
namespace Go.Proofs.YtddekcohfbnmbaaDoor
open Go.RowKit
attribute [local go_sem] Oper.semAt_some

theorem has_two (s : ByteArray) (p : Nat) (c : UInt8) (h : p < s.size) (h36 : s[p] = 36) : Lib.hasPrefix (s.data.toList.drop p) [36, c] = (s.data.toList[p + 1]? == some c) := by
  rw [drop_cons s p h, h36]
  show ([36, c] : List UInt8).isPrefixOf (36 :: s.data.toList.drop (p + 1)) = _
  have : ([36, c] : List UInt8).isPrefixOf (36 :: s.data.toList.drop (p + 1)) = ([c] : List UInt8).isPrefixOf (s.data.toList.drop (p + 1)) := by simp [List.isPrefixOf]
  rw [this]
  have h1 := has_one (s.data.toList.drop (p + 1)) c
  rw [drop_head] at h1
  exact h1
set_option maxRecDepth 100000 in
set_option maxHeartbeats 8000000 in
theorem dollar_any {W : World} {b sb p : Nat} {s : ByteArray} {ea : Nat → Addr} (h : Rd W b sb s p) (hE : Env W ea) (hb64 : (ea 64).block ≤ b) (g : Bool) (hs : s.size < 1099511627776) (hp : p < s.size) (h36 : s[p] = 36) :
    Calls Tryd.prog 45 #[.pointer (some ⟨b, 0, none⟩), .agg (tbC ⟨0, p, 0, [], g⟩).toArray] W fun e w' => ∃ v ev, e = .returned (.tuple #[v, ev]) ∧ TokV W b sb s ea (dollar p g (s.data.toList.drop (p + 1))) v ev w' := by
  have hlb := h.rd.lt
  have hlsb := h.src.lt
  obtain ⟨W0, hW0⟩ : ∃ W0, W0 = (W.alloc (.cells (tbC ⟨0, p, 0, [], g⟩).toArray 40)).alloc (.cells zT 40) := ⟨_, rfl⟩
  have HS0 : Hid (Stp W b sb s p W0) := by rw [hW0]; exact ((Stp.refl h).alloc _).alloc _
  have HE0 : Hid (Env W0 ea) := by rw [hW0]; exact (hE.below (below_new _ _)).below (below_new _ _)
  have HT0 : Hid (Cel W0 W.heap.size 40 (tbC ⟨0, p, 0, [], g⟩).toArray) := by rw [hW0]; exact (Cel.new W _ _).below (below_new _ _) (by simp)
  have HQ0 : Hid (Cel W0 (W.heap.size + 1) 40 zT) := by rw [hW0]; exact Cel.new2 W _ _ _
  have HW0 : Hid ((W.alloc (.cells (tbC ⟨0, p, 0, [], g⟩).toArray 40)).alloc (.cells zT 40) = W0) := hW0.symm
  have HVR : Hid (∀ (kd : Nat) (sg : ByteArray), sg.size ≤ 2 → p + sg.size ≤ s.size → ∀ w, Rd w b sb s p → Env w ea → Calls Tryd.prog 57 #[.pointer (some ⟨b, 0, none⟩), .agg (tbC ⟨0, p, 0, [], g⟩).toArray, .int .i64 (kd : Nat), .string sg] w fun e w' => ∃ v ev, e = .returned (.tuple #[v, ev]) ∧ TokV w b sb s ea (varR kd p g (s.data.toList.drop (p + sg.size))) v ev w') := fun kd sg h1 h2 w h3 h4 => variable_any h3 h4 hb64 g p kd sg h1 hs h2
  have HHA : Hid (∀ (c : UInt8) (w : World), Rd w b sb s p → ∀ m, Calls Tryd.prog 42 #[.pointer (some ⟨sb, 0, none⟩), .int .i64 (p : Nat), .string ⟨#[36, c]⟩] (w.drewN m) fun e w' => e = .returned (.bool (s.data.toList[p + 1]? == some c)) ∧ w' = w.drewN m) := fun c w hw m => by
    have := has_any sb s ⟨#[36, c]⟩ p (w.drewN m) hw.t0 (by show 0 < 2; omega)
    rw [show (ByteArray.mk #[36, c]).data.toList = [36, c] from rfl, has_two s p c hp h36] at this
    exact this
  have HBY : Hid (∀ w : World, Rd w b sb s p → ∀ m, Calls Tryd.prog 43 #[.pointer (some ⟨sb, 0, none⟩), .int .i64 ((p : Int) + 1)] (w.drewN m) fun e w' => e = .returned (.tuple (byteV s.data.toList[p + 1]?)) ∧ w' = w.drewN m) := fun w hw m => byte_any sb s (p + 1) (w.drewN m) hw.t0
  have hz0 : W.heap.size + 2 ≤ W0.heap.size := by have := HQ0.out.lt; omega
  have hgl := hE.glob
  have hbn : ¬ b = W.heap.size := by omega
  have hnb : ¬ W.heap.size = b := by omega
  have hbn1 : ¬ b = W.heap.size + 1 := by omega
  have hnb1 : ¬ W.heap.size + 1 = b := by omega
  have hdh : (s.data.toList.drop (p + 1)).head? = s.data.toList[p + 1]? := drop_head s (p + 1)
  have HHD : Hid ((s.data.toList.drop (p + 1)).head? = s.data.toList[p + 1]?) := hdh
  have c0 := HS0.out.at_.c0
  have c1 := HS0.out.at_.c1
  have f1 := HS0.out.at_.f1
  have u0 : W0.cell? ⟨W.heap.size, 0, none⟩ = some (.int .i64 0) := HT0.out.cell 0
  have u1 : W0.cell? ⟨W.heap.size, 1, none⟩ = some (.int .i64 (p : Nat)) := HT0.out.cell 1
  have u2 : W0.cell? ⟨W.heap.size, 2, none⟩ = some (.int .i64 0) := HT0.out.cell 2
  have u3 : W0.cell? ⟨W.heap.size, 3, none⟩ = some (.string ⟨#[]⟩) := HT0.out.cell 3
  have u4 : W0.cell? ⟨W.heap.size, 4, none⟩ = some (.bool g) := HT0.out.cell 4
  have x0 := HT0.out.frozen 0
  have x2 := HT0.out.frozen 2
  have HH35 : Hid _ := HHA.out 35 W0 HS0.out.at_
  clear h hE hW0 hdh h36
  cases h35 : (s.data.toList[p + 1]? == some 35) with
  | true =>
    have e35 : s.data.toList[p + 1]? = some 35 := by simpa using h35
    have hlt : p + 1 < s.size := by simpa using (List.getElem?_eq_some_iff.1 e35).1
    have HR : Hid (dollar p g (s.data.toList.drop (p + 1)) = varR 21 p g (s.data.toList.drop (p + 2))) := by
      unfold Hid dollar
      rw [HHD.out, if_pos e35, List.drop_drop]
    have HVA : Hid (∀ w, Rd w b sb s p → Env w ea → Calls Tryd.prog 57 #[.pointer (some ⟨b, 0, none⟩), .agg (tbC ⟨0, p, 0, [], g⟩).toArray, .int .i64 21, .string ⟨#[36, 35]⟩] w fun e w' => ∃ v ev, e = .returned (.tuple #[v, ev]) ∧ TokV w b sb s ea (varR 21 p g (s.data.toList.drop (p + 2))) v ev w') := HVR.out 21 ⟨#[36, 35]⟩ (Nat.le_refl _) (by show p + 2 ≤ s.size; omega)
    rw [h35] at HH35
    clear h35 e35
    go_enter Tryd.func45, Tryd.ntmps45
    go_upto_region 1 with fail
    rw [HW0.out]
    go_wp2_with fail
    go_quiet (first | (go_at_call 42; exact Calls.quiet_of_same (HH35.out _)))
    clear c0 c1 f1 u0 u1 u2 u3 u4 x0 x2
    obtain ⟨W1, hW1⟩ : ∃ W1, W1 = W0.drewN nq := ⟨_, rfl⟩
    have HS1 : Hid (Stp W b sb s p W1) := by rw [hW1]; exact HS0.out.drewN nq
    have HE1 : Hid (Env W1 ea) := by rw [hW1]; exact HE0.out.drewN nq
    have HT1 : Hid (Cel W1 W.heap.size 40 (tbC ⟨0, p, 0, [], g⟩).toArray) := by rw [hW1]; exact HT0.out
    have HQ1 : Hid (Cel W1 (W.heap.size + 1) 40 zT) := by rw [hW1]; exact HQ0.out
    rw [← hW1]
    clear hW1
    have c0 := HS1.out.at_.c0
    have c1 := HS1.out.at_.c1
    have f1 := HS1.out.at_.f1
    have u0 : W1.cell? ⟨W.heap.size, 0, none⟩ = some (.int .i64 0) := HT1.out.cell 0
    have u1 : W1.cell? ⟨W.heap.size, 1, none⟩ = some (.int .i64 (p : Nat)) := HT1.out.cell 1
    have u2 : W1.cell? ⟨W.heap.size, 2, none⟩ = some (.int .i64 0) := HT1.out.cell 2
    have u3 : W1.cell? ⟨W.heap.size, 3, none⟩ = some (.string ⟨#[]⟩) := HT1.out.cell 3
    have u4 : W1.cell? ⟨W.heap.size, 4, none⟩ = some (.bool g) := HT1.out.cell 4
    have x0 := HT1.out.frozen 0
    have x2 := HT1.out.frozen 2
    go_wp2_with fail
    refine Calls.mono (HVA.out _ HS1.out.at_ HE1.out) ?_
    rintro e w2 ⟨v, ev, rfl, hv⟩
    obtain ⟨j2, hst2⟩ := hv.stp
    have HQ2 : Hid (Cel w2 (W.heap.size + 1) 40 zT) := HQ1.out.turn hst2.turn (by omega)
    have HV2 : Hid (TokV W b sb s ea (varR 21 p g (s.data.toList.drop (p + 2))) v ev w2) := hv.lift HS1.out
    obtain ⟨⟨tk, tp, tn, ts, tg⟩, rfl⟩ := hv.form
    clear hv hst2 HVA
    have z0 : w2.cell? ⟨W.heap.size + 1, 0, none⟩ = some (.int .i64 0) := HQ2.out.cell 0
    have z1 : w2.cell? ⟨W.heap.size + 1, 1, none⟩ = some (.int .i64 0) := HQ2.out.cell 1
    have z2 : w2.cell? ⟨W.heap.size + 1, 2, none⟩ = some (.int .i64 0) := HQ2.out.cell 2
    have z3 : w2.cell? ⟨W.heap.size + 1, 3, none⟩ = some (.string ⟨#[]⟩) := HQ2.out.cell 3
    have z4 : w2.cell? ⟨W.heap.size + 1, 4, none⟩ = some (.bool false) := HQ2.out.cell 4
    have zf0 := HQ2.out.frozen 0
    have zf1 := HQ2.out.frozen 1
    have zf2 := HQ2.out.frozen 2
    have zf3 := HQ2.out.frozen 3
    have zf4 := HQ2.out.frozen 4
    go_wp2_with fail
    refine bodyPost_ret (results_tok (p := 4) (u := 5) rfl _ _ (W.heap.size + 1) _ rfl (HQ2.out.put5 (.int .i64 (tk : Nat)) (.int .i64 (tp : Nat)) (.int .i64 (tn : Nat)) (str ts) (.bool tg)) rfl) rfl ?_
    rw [HR.out]
    exact ⟨_, _, rfl, HV2.out.put HQ2.out hlb hlsb (by omega) _ _ _ _ _⟩
  | false =>
    rw [h35] at HH35
    have n35 : ¬ s.data.toList[p + 1]? = some 35 := by simpa using h35
    clear h35
    cases h34 : (s.data.toList[p + 1]? == some 34) with
    | true =>
      have e34 : s.data.toList[p + 1]? = some 34 := by simpa using h34
      have hlt : p + 1 < s.size := by simpa using (List.getElem?_eq_some_iff.1 e34).1
      have HR : Hid (dollar p g (s.data.toList.drop (p + 1)) = varR 22 p g (s.data.toList.drop (p + 2))) := by
        unfold Hid dollar
        rw [HHD.out, if_neg n35, if_pos e34, List.drop_drop]
      have HVA : Hid (∀ w, Rd w b sb s p → Env w ea → Calls Tryd.prog 57 #[.pointer (some ⟨b, 0, none⟩), .agg (tbC ⟨0, p, 0, [], g⟩).toArray, .int .i64 22, .string ⟨#[36, 34]⟩] w fun e w' => ∃ v ev, e = .returned (.tuple #[v, ev]) ∧ TokV w b sb s ea (varR 22 p g (s.data.toList.drop (p + 2))) v ev w') := HVR.out 22 ⟨#[36, 34]⟩ (Nat.le_refl _) (by show p + 2 ≤ s.size; omega)
      have HH34 : Hid (∀ w, Rd w b sb s p → ∀ m, Calls Tryd.prog 42 #[.pointer (some ⟨sb, 0, none⟩), .int .i64 (p : Nat), .string ⟨#[36, 34]⟩] (w.drewN m) fun e w' => e = .returned (.bool true) ∧ w' = w.drewN m) := fun w hw m => by have := HHA.out 34 w hw m; rwa [h34] at this
      clear h34 e34 n35
      go_enter Tryd.func45, Tryd.ntmps45
      go_upto_region 1 with fail
      rw [HW0.out]
      go_wp2_with fail
      go_quiet (first | (go_at_call 42; exact Calls.quiet_of_same (HH35.out _)))
      clear c0 c1 f1 u0 u1 u2 u3 u4 x0 x2
      obtain ⟨W3, hW3⟩ : ∃ W3, W3 = W0.drewN nq := ⟨_, rfl⟩
      have HS3 : Hid (Stp W b sb s p W3) := by rw [hW3]; exact HS0.out.drewN nq
      have HE3 : Hid (Env W3 ea) := by rw [hW3]; exact HE0.out.drewN nq
      have HT3 : Hid (Cel W3 W.heap.size 40 (tbC ⟨0, p, 0, [], g⟩).toArray) := by rw [hW3]; exact HT0.out
      have HQ3 : Hid (Cel W3 (W.heap.size + 1) 40 zT) := by rw [hW3]; exact HQ0.out
      rw [← hW3]
      clear hW3
      have c0 := HS3.out.at_.c0
      have c1 := HS3.out.at_.c1
      have f1 := HS3.out.at_.f1
      have u0 : W3.cell? ⟨W.heap.size, 0, none⟩ = some (.int .i64 0) := HT3.out.cell 0
      have u1 : W3.cell? ⟨W.heap.size, 1, none⟩ = some (.int .i64 (p : Nat)) := HT3.out.cell 1
      have u2 : W3.cell? ⟨W.heap.size, 2, none⟩ = some (.int .i64 0) := HT3.out.cell 2
      have u3 : W3.cell? ⟨W.heap.size, 3, none⟩ = some (.string ⟨#[]⟩) := HT3.out.cell 3
      have u4 : W3.cell? ⟨W.heap.size, 4, none⟩ = some (.bool g) := HT3.out.cell 4
      have x0 := HT3.out.frozen 0
      have x2 := HT3.out.frozen 2
      have HH34' : Hid _ := HH34.out W3 HS3.out.at_
      go_wp2_with fail
      go_quiet (first | (go_at_call 42; exact Calls.quiet_of_same (HH34'.out _)))
      clear c0 c1 f1 u0 u1 u2 u3 u4 x0 x2
      obtain ⟨W1, hW1⟩ : ∃ W1, W1 = W3.drewN nq := ⟨_, rfl⟩
      have HS1 : Hid (Stp W b sb s p W1) := by rw [hW1]; exact HS3.out.drewN nq
      have HE1 : Hid (Env W1 ea) := by rw [hW1]; exact HE3.out.drewN nq
      have HT1 : Hid (Cel W1 W.heap.size 40 (tbC ⟨0, p, 0, [], g⟩).toArray) := by rw [hW1]; exact HT3.out
      have HQ1 : Hid (Cel W1 (W.heap.size + 1) 40 zT) := by rw [hW1]; exact HQ3.out
      rw [← hW1]
      clear hW1
      have c0 := HS1.out.at_.c0
      have c1 := HS1.out.at_.c1
      have f1 := HS1.out.at_.f1
      have u0 : W1.cell? ⟨W.heap.size, 0, none⟩ = some (.int .i64 0) := HT1.out.cell 0
      have u1 : W1.cell? ⟨W.heap.size, 1, none⟩ = some (.int .i64 (p : Nat)) := HT1.out.cell 1
      have u2 : W1.cell? ⟨W.heap.size, 2, none⟩ = some (.int .i64 0) := HT1.out.cell 2
      have u3 : W1.cell? ⟨W.heap.size, 3, none⟩ = some (.string ⟨#[]⟩) := HT1.out.cell 3
      have u4 : W1.cell? ⟨W.heap.size, 4, none⟩ = some (.bool g) := HT1.out.cell 4
      have x0 := HT1.out.frozen 0
      have x2 := HT1.out.frozen 2
      go_wp2_with fail
      refine Calls.mono (HVA.out _ HS1.out.at_ HE1.out) ?_
      rintro e w2 ⟨v, ev, rfl, hv⟩
      obtain ⟨j2, hst2⟩ := hv.stp
      have HQ2 : Hid (Cel w2 (W.heap.size + 1) 40 zT) := HQ1.out.turn hst2.turn (by omega)
      have HV2 : Hid (TokV W b sb s ea (varR 22 p g (s.data.toList.drop (p + 2))) v ev w2) := hv.lift HS1.out
      obtain ⟨⟨tk, tp, tn, ts, tg⟩, rfl⟩ := hv.form
      clear hv hst2 HVA
      have z0 : w2.cell? ⟨W.heap.size + 1, 0, none⟩ = some (.int .i64 0) := HQ2.out.cell 0
      have z1 : w2.cell? ⟨W.heap.size + 1, 1, none⟩ = some (.int .i64 0) := HQ2.out.cell 1
      have z2 : w2.cell? ⟨W.heap.size + 1, 2, none⟩ = some (.int .i64 0) := HQ2.out.cell 2
      have z3 : w2.cell? ⟨W.heap.size + 1, 3, none⟩ = some (.string ⟨#[]⟩) := HQ2.out.cell 3
      have z4 : w2.cell? ⟨W.heap.size + 1, 4, none⟩ = some (.bool false) := HQ2.out.cell 4
      have zf0 := HQ2.out.frozen 0
      have zf1 := HQ2.out.frozen 1
      have zf2 := HQ2.out.frozen 2
      have zf3 := HQ2.out.frozen 3
      have zf4 := HQ2.out.frozen 4
      go_wp2_with fail
      refine bodyPost_ret (results_tok (p := 4) (u := 5) rfl _ _ (W.heap.size + 1) _ rfl (HQ2.out.put5 (.int .i64 (tk : Nat)) (.int .i64 (tp : Nat)) (.int .i64 (tn : Nat)) (str ts) (.bool tg)) rfl) rfl ?_
      rw [HR.out]
      exact ⟨_, _, rfl, HV2.out.put HQ2.out hlb hlsb (by omega) _ _ _ _ _⟩
    | false =>
      have n34 : ¬ s.data.toList[p + 1]? = some 34 := by simpa using h34
      have HH34 : Hid (∀ w, Rd w b sb s p → ∀ m, Calls Tryd.prog 42 #[.pointer (some ⟨sb, 0, none⟩), .int .i64 (p : Nat), .string ⟨#[36, 34]⟩] (w.drewN m) fun e w' => e = .returned (.bool false) ∧ w' = w.drewN m) := fun w hw m => by have := HHA.out 34 w hw m; rwa [h34] at this
      rw [byteV_head] at HBY
      have HRD : Hid (dollar p g (s.data.toList.drop (p + 1)) = if cnts ((s.data.toList[p + 1]?).getD 0) then .ok (⟨23, p, ((s.data.toList[p + 1]?).getD 0).toNat - 48, [], g⟩, s.data.toList.drop (p + 2)) else varR 20 p g (s.data.toList.drop (p + 1))) := by
        unfold Hid dollar
        rw [HHD.out, if_neg n35, if_neg n34, List.drop_drop]
      have HLT : Hid (cnts ((s.data.toList[p + 1]?).getD 0) = true → p + 1 < s.size) := fun hc => by
        cases ho : s.data.toList[p + 1]? with
        | none => rw [ho] at hc; exact absurd hc (by decide)
        | some c => simpa using (List.getElem?_eq_some_iff.1 ho).1
      clear h34 n35 n34
      generalize (s.data.toList[p + 1]?).getD 0 = cc at HBY HRD HLT
      generalize (s.data.toList[p + 1]?).isSome = mm at HBY
      cases hcn : cnts cc with
      | true =>
        have hlt := HLT.out hcn
        have HR : Hid (dollar p g (s.data.toList.drop (p + 1)) = .ok (⟨23, p, cc.toNat - 48, [], g⟩, s.data.toList.drop (p + 2))) := by unfold Hid; rw [HRD.out, if_pos hcn]
        have hc2 : 49 ≤ cc.toNat ∧ cc.toNat ≤ 57 := by
          unfold cnts at hcn
          simpa using hcn
        have hc49 : ¬ (cc.toNat : Int) < 49 := by omega
        have hc57 : ¬ (57 : Int) < (cc.toNat : Int) := by omega
        have hwr : IntKind.u8.wrap ((cc.toNat : Int) - 48) = ((cc.toNat - 48 : Nat) : Int) := by
          have : ((cc.toNat - 48 : Nat) : Int) = (cc.toNat : Int) - 48 := by omega
          rw [this, IntKind.wrap_u8]
          omega
        clear hcn HRD HLT
        go_enter Tryd.func45, Tryd.ntmps45
        go_upto_region 1 with fail
        rw [HW0.out]
        go_wp2_with fail
        go_quiet (first | (go_at_call 42; exact Calls.quiet_of_same (HH35.out _)))
        clear c0 c1 f1 u0 u1 u2 u3 u4 x0 x2
        obtain ⟨W3, hW3⟩ : ∃ W3, W3 = W0.drewN nq := ⟨_, rfl⟩
        have HS3 : Hid (Stp W b sb s p W3) := by rw [hW3]; exact HS0.out.drewN nq
        have HE3 : Hid (Env W3 ea) := by rw [hW3]; exact HE0.out.drewN nq
        have HT3 : Hid (Cel W3 W.heap.size 40 (tbC ⟨0, p, 0, [], g⟩).toArray) := by rw [hW3]; exact HT0.out
        have HQ3 : Hid (Cel W3 (W.heap.size + 1) 40 zT) := by rw [hW3]; exact HQ0.out
        rw [← hW3]
        clear hW3
        have c0 := HS3.out.at_.c0
        have c1 := HS3.out.at_.c1
        have f1 := HS3.out.at_.f1
        have u0 : W3.cell? ⟨W.heap.size, 0, none⟩ = some (.int .i64 0) := HT3.out.cell 0
        have u1 : W3.cell? ⟨W.heap.size, 1, none⟩ = some (.int .i64 (p : Nat)) := HT3.out.cell 1
        have u2 : W3.cell? ⟨W.heap.size, 2, none⟩ = some (.int .i64 0) := HT3.out.cell 2
        have u3 : W3.cell? ⟨W.heap.size, 3, none⟩ = some (.string ⟨#[]⟩) := HT3.out.cell 3
        have u4 : W3.cell? ⟨W.heap.size, 4, none⟩ = some (.bool g) := HT3.out.cell 4
        have x0 := HT3.out.frozen 0
        have x2 := HT3.out.frozen 2
        have HH34' : Hid _ := HH34.out W3 HS3.out.at_
        go_wp2_with fail
        go_quiet (first | (go_at_call 42; exact Calls.quiet_of_same (HH34'.out _)))
        clear c0 c1 f1 u0 u1 u2 u3 u4 x0 x2
        obtain ⟨W4, hW4⟩ : ∃ W4, W4 = W3.drewN nq := ⟨_, rfl⟩
        have HS4 : Hid (Stp W b sb s p W4) := by rw [hW4]; exact HS3.out.drewN nq
        have HE4 : Hid (Env W4 ea) := by rw [hW4]; exact HE3.out.drewN nq
        have HT4 : Hid (Cel W4 W.heap.size 40 (tbC ⟨0, p, 0, [], g⟩).toArray) := by rw [hW4]; exact HT3.out
        have HQ4 : Hid (Cel W4 (W.heap.size + 1) 40 zT) := by rw [hW4]; exact HQ3.out
        rw [← hW4]
        clear hW4
        have c0 := HS4.out.at_.c0
        have c1 := HS4.out.at_.c1
        have f1 := HS4.out.at_.f1
        have u0 : W4.cell? ⟨W.heap.size, 0, none⟩ = some (.int .i64 0) := HT4.out.cell 0
        have u1 : W4.cell? ⟨W.heap.size, 1, none⟩ = some (.int .i64 (p : Nat)) := HT4.out.cell 1
        have u2 : W4.cell? ⟨W.heap.size, 2, none⟩ = some (.int .i64 0) := HT4.out.cell 2
        have u3 : W4.cell? ⟨W.heap.size, 3, none⟩ = some (.string ⟨#[]⟩) := HT4.out.cell 3
        have u4 : W4.cell? ⟨W.heap.size, 4, none⟩ = some (.bool g) := HT4.out.cell 4
        have x0 := HT4.out.frozen 0
        have x2 := HT4.out.frozen 2
        have HBY' : Hid _ := HBY.out W4 HS4.out.at_
        go_wp2_with fail
        go_quiet (first | (go_at_call 43; exact Calls.quiet_of_same (HBY'.out _)))
        clear c0 c1 f1 u0 u1 u2 u3 u4 x0 x2
        obtain ⟨W1, hW1⟩ : ∃ W1, W1 = W4.drewN nq := ⟨_, rfl⟩
        have HS1 : Hid (Stp W b sb s p W1) := by rw [hW1]; exact HS4.out.drewN nq
        have HE1 : Hid (Env W1 ea) := by rw [hW1]; exact HE4.out.drewN nq
        have HT1 : Hid (Cel W1 W.heap.size 40 (tbC ⟨0, p, 0, [], g⟩).toArray) := by rw [hW1]; exact HT4.out
        have HQ1 : Hid (Cel W1 (W.heap.size + 1) 40 zT) := by rw [hW1]; exact HQ4.out
        rw [← hW1]
        clear hW1
        have c0 := HS1.out.at_.c0
        have c1 := HS1.out.at_.c1
        have f1 := HS1.out.at_.f1
        have u0 : W1.cell? ⟨W.heap.size, 0, none⟩ = some (.int .i64 0) := HT1.out.cell 0
        have u1 : W1.cell? ⟨W.heap.size, 1, none⟩ = some (.int .i64 (p : Nat)) := HT1.out.cell 1
        have u2 : W1.cell? ⟨W.heap.size, 2, none⟩ = some (.int .i64 0) := HT1.out.cell 2
        have u3 : W1.cell? ⟨W.heap.size, 3, none⟩ = some (.string ⟨#[]⟩) := HT1.out.cell 3
        have u4 : W1.cell? ⟨W.heap.size, 4, none⟩ = some (.bool g) := HT1.out.cell 4
        have x0 := HT1.out.frozen 0
        have x2 := HT1.out.frozen 2
        have z0 : W1.cell? ⟨W.heap.size + 1, 0, none⟩ = some (.int .i64 0) := HQ1.out.cell 0
        have z1 : W1.cell? ⟨W.heap.size + 1, 1, none⟩ = some (.int .i64 0) := HQ1.out.cell 1
        have z2 : W1.cell? ⟨W.heap.size + 1, 2, none⟩ = some (.int .i64 0) := HQ1.out.cell 2
        have z3 : W1.cell? ⟨W.heap.size + 1, 3, none⟩ = some (.string ⟨#[]⟩) := HQ1.out.cell 3
        have z4 : W1.cell? ⟨W.heap.size + 1, 4, none⟩ = some (.bool false) := HQ1.out.cell 4
        have zf0 := HQ1.out.frozen 0
        have zf1 := HQ1.out.frozen 1
        have zf2 := HQ1.out.frozen 2
        have zf3 := HQ1.out.frozen 3
        have zf4 := HQ1.out.frozen 4
        go_wp2_with fail
        obtain ⟨X, hX⟩ : ∃ X, X = ((W1.setCell ⟨b, 1, none⟩ (.int .i64 ((p : Int) + 2))).setCell ⟨W.heap.size, 0, none⟩ (.int .i64 23)).setCell ⟨W.heap.size, 2, none⟩ (.int .i64 ((cc.toNat - 48 : Nat) : Int)) := ⟨_, rfl⟩
        have hSX : Stp W b sb s (p + 2) X := by rw [hX]; exact ((set_step HS1.out _ _ (by omega)).other hlb hlsb (Nat.le_refl _) 0 _).other hlb hlsb (Nat.le_refl _) 2 _
        have hQX : Cel X (W.heap.size + 1) 40 zT := by rw [hX]; exact ((HQ1.out.other (by omega) _).other (by omega) _).other (by omega) _
        have HX : Hid (((W1.setCell ⟨b, 1, none⟩ (.int .i64 ((p : Int) + 2))).setCell ⟨W.heap.size, 0, none⟩ (.int .i64 23)).setCell ⟨W.heap.size, 2, none⟩ (.int .i64 ((cc.toNat - 48 : Nat) : Int)) = X) := hX.symm
        rw [HX.out]
        refine bodyPost_ret (results_tok (p := 4) (u := 5) rfl _ _ (W.heap.size + 1) _ rfl (hQX.put5 (.int .i64 23) (.int .i64 (p : Nat)) (.int .i64 ((cc.toNat - 48 : Nat) : Int)) (.string ⟨#[]⟩) (.bool g)) rfl) rfl ?_
        rw [HR.out]
        exact ⟨_, _, rfl, rfl, rfl, p + 2, hSX.put5 hlb hlsb (by omega) _ _ _ _ _, by omega, rfl⟩
      | false =>
        have HR : Hid (dollar p g (s.data.toList.drop (p + 1)) = varR 20 p g (s.data.toList.drop (p + 1))) := by unfold Hid; rw [HRD.out, if_neg (by rw [hcn]; simp)]
        have HVA : Hid (∀ w, Rd w b sb s p → Env w ea → Calls Tryd.prog 57 #[.pointer (some ⟨b, 0, none⟩), .agg (tbC ⟨0, p, 0, [], g⟩).toArray, .int .i64 20, .string ⟨#[36]⟩] w fun e w' => ∃ v ev, e = .returned (.tuple #[v, ev]) ∧ TokV w b sb s ea (varR 20 p g (s.data.toList.drop (p + 1))) v ev w') := HVR.out 20 ⟨#[36]⟩ (by decide) (by show p + 1 ≤ s.size; omega)
        have hcc : cc.toNat < 49 ∨ 57 < cc.toNat := by
          unfold cnts at hcn
          simp at hcn
          omega
        clear hcn HRD HLT
        rcases hcc with hcc | hcc
        · have hc49 : (cc.toNat : Int) < 49 := by omega
          go_enter Tryd.func45, Tryd.ntmps45
          go_upto_region 1 with fail
          rw [HW0.out]
          go_wp2_with fail
          go_quiet (first | (go_at_call 42; exact Calls.quiet_of_same (HH35.out _)))
          clear c0 c1 f1 u0 u1 u2 u3 u4 x0 x2
          obtain ⟨W3, hW3⟩ : ∃ W3, W3 = W0.drewN nq := ⟨_, rfl⟩
          have HS3 : Hid (Stp W b sb s p W3) := by rw [hW3]; exact HS0.out.drewN nq
          have HE3 : Hid (Env W3 ea) := by rw [hW3]; exact HE0.out.drewN nq
          have HT3 : Hid (Cel W3 W.heap.size 40 (tbC ⟨0, p, 0, [], g⟩).toArray) := by rw [hW3]; exact HT0.out
          have HQ3 : Hid (Cel W3 (W.heap.size + 1) 40 zT) := by rw [hW3]; exact HQ0.out
          rw [← hW3]
          clear hW3
          have c0 := HS3.out.at_.c0
          have c1 := HS3.out.at_.c1
          have f1 := HS3.out.at_.f1
          have u0 : W3.cell? ⟨W.heap.size, 0, none⟩ = some (.int .i64 0) := HT3.out.cell 0
          have u1 : W3.cell? ⟨W.heap.size, 1, none⟩ = some (.int .i64 (p : Nat)) := HT3.out.cell 1
          have u2 : W3.cell? ⟨W.heap.size, 2, none⟩ = some (.int .i64 0) := HT3.out.cell 2
          have u3 : W3.cell? ⟨W.heap.size, 3, none⟩ = some (.string ⟨#[]⟩) := HT3.out.cell 3
          have u4 : W3.cell? ⟨W.heap.size, 4, none⟩ = some (.bool g) := HT3.out.cell 4
          have x0 := HT3.out.frozen 0
          have x2 := HT3.out.frozen 2
          have HH34' : Hid _ := HH34.out W3 HS3.out.at_
          go_wp2_with fail
          go_quiet (first | (go_at_call 42; exact Calls.quiet_of_same (HH34'.out _)))
          clear c0 c1 f1 u0 u1 u2 u3 u4 x0 x2
          obtain ⟨W4, hW4⟩ : ∃ W4, W4 = W3.drewN nq := ⟨_, rfl⟩
          have HS4 : Hid (Stp W b sb s p W4) := by rw [hW4]; exact HS3.out.drewN nq
          have HE4 : Hid (Env W4 ea) := by rw [hW4]; exact HE3.out.drewN nq
          have HT4 : Hid (Cel W4 W.heap.size 40 (tbC ⟨0, p, 0, [], g⟩).toArray) := by rw [hW4]; exact HT3.out
          have HQ4 : Hid (Cel W4 (W.heap.size + 1) 40 zT) := by rw [hW4]; exact HQ3.out
          rw [← hW4]
          clear hW4
          have c0 := HS4.out.at_.c0
          have c1 := HS4.out.at_.c1
          have f1 := HS4.out.at_.f1
          have u0 : W4.cell? ⟨W.heap.size, 0, none⟩ = some (.int .i64 0) := HT4.out.cell 0
          have u1 : W4.cell? ⟨W.heap.size, 1, none⟩ = some (.int .i64 (p : Nat)) := HT4.out.cell 1
          have u2 : W4.cell? ⟨W.heap.size, 2, none⟩ = some (.int .i64 0) := HT4.out.cell 2
          have u3 : W4.cell? ⟨W.heap.size, 3, none⟩ = some (.string ⟨#[]⟩) := HT4.out.cell 3
          have u4 : W4.cell? ⟨W.heap.size, 4, none⟩ = some (.bool g) := HT4.out.cell 4
          have x0 := HT4.out.frozen 0
          have x2 := HT4.out.frozen 2
          have HBY' : Hid _ := HBY.out W4 HS4.out.at_
          go_wp2_with fail
          go_quiet (first | (go_at_call 43; exact Calls.quiet_of_same (HBY'.out _)))
          clear c0 c1 f1 u0 u1 u2 u3 u4 x0 x2
          obtain ⟨W1, hW1⟩ : ∃ W1, W1 = W4.drewN nq := ⟨_, rfl⟩
          have HS1 : Hid (Stp W b sb s p W1) := by rw [hW1]; exact HS4.out.drewN nq
          have HE1 : Hid (Env W1 ea) := by rw [hW1]; exact HE4.out.drewN nq
          have HT1 : Hid (Cel W1 W.heap.size 40 (tbC ⟨0, p, 0, [], g⟩).toArray) := by rw [hW1]; exact HT4.out
          have HQ1 : Hid (Cel W1 (W.heap.size + 1) 40 zT) := by rw [hW1]; exact HQ4.out
          rw [← hW1]
          clear hW1
          have c0 := HS1.out.at_.c0
          have c1 := HS1.out.at_.c1
          have f1 := HS1.out.at_.f1
          have u0 : W1.cell? ⟨W.heap.size, 0, none⟩ = some (.int .i64 0) := HT1.out.cell 0
          have u1 : W1.cell? ⟨W.heap.size, 1, none⟩ = some (.int .i64 (p : Nat)) := HT1.out.cell 1
          have u2 : W1.cell? ⟨W.heap.size, 2, none⟩ = some (.int .i64 0) := HT1.out.cell 2
          have u3 : W1.cell? ⟨W.heap.size, 3, none⟩ = some (.string ⟨#[]⟩) := HT1.out.cell 3
          have u4 : W1.cell? ⟨W.heap.size, 4, none⟩ = some (.bool g) := HT1.out.cell 4
          have x0 := HT1.out.frozen 0
          have x2 := HT1.out.frozen 2
          go_wp2_with fail
          refine Calls.mono (HVA.out _ HS1.out.at_ HE1.out) ?_
          rintro e w2 ⟨v, ev, rfl, hv⟩
          obtain ⟨j2, hst2⟩ := hv.stp
          have HQ2 : Hid (Cel w2 (W.heap.size + 1) 40 zT) := HQ1.out.turn hst2.turn (by omega)
          have HV2 : Hid (TokV W b sb s ea (varR 20 p g (s.data.toList.drop (p + 1))) v ev w2) := hv.lift HS1.out
          obtain ⟨⟨tk, tp, tn, ts, tg⟩, rfl⟩ := hv.form
          clear hv hst2 HVA
          have z0 : w2.cell? ⟨W.heap.size + 1, 0, none⟩ = some (.int .i64 0) := HQ2.out.cell 0
          have z1 : w2.cell? ⟨W.heap.size + 1, 1, none⟩ = some (.int .i64 0) := HQ2.out.cell 1
          have z2 : w2.cell? ⟨W.heap.size + 1, 2, none⟩ = some (.int .i64 0) := HQ2.out.cell 2
          have z3 : w2.cell? ⟨W.heap.size + 1, 3, none⟩ = some (.string ⟨#[]⟩) := HQ2.out.cell 3
          have z4 : w2.cell? ⟨W.heap.size + 1, 4, none⟩ = some (.bool false) := HQ2.out.cell 4
          have zf0 := HQ2.out.frozen 0
          have zf1 := HQ2.out.frozen 1
          have zf2 := HQ2.out.frozen 2
          have zf3 := HQ2.out.frozen 3
          have zf4 := HQ2.out.frozen 4
          go_wp2_with fail
          refine bodyPost_ret (results_tok (p := 4) (u := 5) rfl _ _ (W.heap.size + 1) _ rfl (HQ2.out.put5 (.int .i64 (tk : Nat)) (.int .i64 (tp : Nat)) (.int .i64 (tn : Nat)) (str ts) (.bool tg)) rfl) rfl ?_
          rw [HR.out]
          exact ⟨_, _, rfl, HV2.out.put HQ2.out hlb hlsb (by omega) _ _ _ _ _⟩
        · have hc49 : ¬ (cc.toNat : Int) < 49 := by omega
          have hc57 : (57 : Int) < (cc.toNat : Int) := by omega
          go_enter Tryd.func45, Tryd.ntmps45
          go_upto_region 1 with fail
          rw [HW0.out]
          go_wp2_with fail
          go_quiet (first | (go_at_call 42; exact Calls.quiet_of_same (HH35.out _)))
          clear c0 c1 f1 u0 u1 u2 u3 u4 x0 x2
          obtain ⟨W3, hW3⟩ : ∃ W3, W3 = W0.drewN nq := ⟨_, rfl⟩
          have HS3 : Hid (Stp W b sb s p W3) := by rw [hW3]; exact HS0.out.drewN nq
          have HE3 : Hid (Env W3 ea) := by rw [hW3]; exact HE0.out.drewN nq
          have HT3 : Hid (Cel W3 W.heap.size 40 (tbC ⟨0, p, 0, [], g⟩).toArray) := by rw [hW3]; exact HT0.out
          have HQ3 : Hid (Cel W3 (W.heap.size + 1) 40 zT) := by rw [hW3]; exact HQ0.out
          rw [← hW3]
          clear hW3
          have c0 := HS3.out.at_.c0
          have c1 := HS3.out.at_.c1
          have f1 := HS3.out.at_.f1
          have u0 : W3.cell? ⟨W.heap.size, 0, none⟩ = some (.int .i64 0) := HT3.out.cell 0
          have u1 : W3.cell? ⟨W.heap.size, 1, none⟩ = some (.int .i64 (p : Nat)) := HT3.out.cell 1
          have u2 : W3.cell? ⟨W.heap.size, 2, none⟩ = some (.int .i64 0) := HT3.out.cell 2
          have u3 : W3.cell? ⟨W.heap.size, 3, none⟩ = some (.string ⟨#[]⟩) := HT3.out.cell 3
          have u4 : W3.cell? ⟨W.heap.size, 4, none⟩ = some (.bool g) := HT3.out.cell 4
          have x0 := HT3.out.frozen 0
          have x2 := HT3.out.frozen 2
          have HH34' : Hid _ := HH34.out W3 HS3.out.at_
          go_wp2_with fail
          go_quiet (first | (go_at_call 42; exact Calls.quiet_of_same (HH34'.out _)))
          clear c0 c1 f1 u0 u1 u2 u3 u4 x0 x2
          obtain ⟨W4, hW4⟩ : ∃ W4, W4 = W3.drewN nq := ⟨_, rfl⟩
          have HS4 : Hid (Stp W b sb s p W4) := by rw [hW4]; exact HS3.out.drewN nq
          have HE4 : Hid (Env W4 ea) := by rw [hW4]; exact HE3.out.drewN nq
          have HT4 : Hid (Cel W4 W.heap.size 40 (tbC ⟨0, p, 0, [], g⟩).toArray) := by rw [hW4]; exact HT3.out
          have HQ4 : Hid (Cel W4 (W.heap.size + 1) 40 zT) := by rw [hW4]; exact HQ3.out
          rw [← hW4]
          clear hW4
          have c0 := HS4.out.at_.c0
          have c1 := HS4.out.at_.c1
          have f1 := HS4.out.at_.f1
          have u0 : W4.cell? ⟨W.heap.size, 0, none⟩ = some (.int .i64 0) := HT4.out.cell 0
          have u1 : W4.cell? ⟨W.heap.size, 1, none⟩ = some (.int .i64 (p : Nat)) := HT4.out.cell 1
          have u2 : W4.cell? ⟨W.heap.size, 2, none⟩ = some (.int .i64 0) := HT4.out.cell 2
          have u3 : W4.cell? ⟨W.heap.size, 3, none⟩ = some (.string ⟨#[]⟩) := HT4.out.cell 3
          have u4 : W4.cell? ⟨W.heap.size, 4, none⟩ = some (.bool g) := HT4.out.cell 4
          have x0 := HT4.out.frozen 0
          have x2 := HT4.out.frozen 2
          have HBY' : Hid _ := HBY.out W4 HS4.out.at_
          go_wp2_with fail
          go_quiet (first | (go_at_call 43; exact Calls.quiet_of_same (HBY'.out _)))
          clear c0 c1 f1 u0 u1 u2 u3 u4 x0 x2
          obtain ⟨W1, hW1⟩ : ∃ W1, W1 = W4.drewN nq := ⟨_, rfl⟩
          have HS1 : Hid (Stp W b sb s p W1) := by rw [hW1]; exact HS4.out.drewN nq
          have HE1 : Hid (Env W1 ea) := by rw [hW1]; exact HE4.out.drewN nq
          have HT1 : Hid (Cel W1 W.heap.size 40 (tbC ⟨0, p, 0, [], g⟩).toArray) := by rw [hW1]; exact HT4.out
          have HQ1 : Hid (Cel W1 (W.heap.size + 1) 40 zT) := by rw [hW1]; exact HQ4.out
          rw [← hW1]
          clear hW1
          have c0 := HS1.out.at_.c0
          have c1 := HS1.out.at_.c1
          have f1 := HS1.out.at_.f1
          have u0 : W1.cell? ⟨W.heap.size, 0, none⟩ = some (.int .i64 0) := HT1.out.cell 0
          have u1 : W1.cell? ⟨W.heap.size, 1, none⟩ = some (.int .i64 (p : Nat)) := HT1.out.cell 1
          have u2 : W1.cell? ⟨W.heap.size, 2, none⟩ = some (.int .i64 0) := HT1.out.cell 2
          have u3 : W1.cell? ⟨W.heap.size, 3, none⟩ = some (.string ⟨#[]⟩) := HT1.out.cell 3
          have u4 : W1.cell? ⟨W.heap.size, 4, none⟩ = some (.bool g) := HT1.out.cell 4
          have x0 := HT1.out.frozen 0
          have x2 := HT1.out.frozen 2
          go_wp2_with fail
          refine Calls.mono (HVA.out _ HS1.out.at_ HE1.out) ?_
          rintro e w2 ⟨v, ev, rfl, hv⟩
          obtain ⟨j2, hst2⟩ := hv.stp
          have HQ2 : Hid (Cel w2 (W.heap.size + 1) 40 zT) := HQ1.out.turn hst2.turn (by omega)
          have HV2 : Hid (TokV W b sb s ea (varR 20 p g (s.data.toList.drop (p + 1))) v ev w2) := hv.lift HS1.out
          obtain ⟨⟨tk, tp, tn, ts, tg⟩, rfl⟩ := hv.form
          clear hv hst2 HVA
          have z0 : w2.cell? ⟨W.heap.size + 1, 0, none⟩ = some (.int .i64 0) := HQ2.out.cell 0
          have z1 : w2.cell? ⟨W.heap.size + 1, 1, none⟩ = some (.int .i64 0) := HQ2.out.cell 1
          have z2 : w2.cell? ⟨W.heap.size + 1, 2, none⟩ = some (.int .i64 0) := HQ2.out.cell 2
          have z3 : w2.cell? ⟨W.heap.size + 1, 3, none⟩ = some (.string ⟨#[]⟩) := HQ2.out.cell 3
          have z4 : w2.cell? ⟨W.heap.size + 1, 4, none⟩ = some (.bool false) := HQ2.out.cell 4
          have zf0 := HQ2.out.frozen 0
          have zf1 := HQ2.out.frozen 1
          have zf2 := HQ2.out.frozen 2
          have zf3 := HQ2.out.frozen 3
          have zf4 := HQ2.out.frozen 4
          go_wp2_with fail
          refine bodyPost_ret (results_tok (p := 4) (u := 5) rfl _ _ (W.heap.size + 1) _ rfl (HQ2.out.put5 (.int .i64 (tk : Nat)) (.int .i64 (tp : Nat)) (.int .i64 (tn : Nat)) (str ts) (.bool tg)) rfl) rfl ?_
          rw [HR.out]
          exact ⟨_, _, rfl, HV2.out.put HQ2.out hlb hlsb (by omega) _ _ _ _ _⟩
end Go.Proofs.YtddekcohfbnmbaaDoor
