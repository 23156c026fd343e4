/- What a dollar begins. -/
import Derived.Test.YtnlbjgioleoihaaGreatDoorRd6
namespace Go.Proofs.YtnlbjgioleoihaaGreatDoor
open Go.RowKit
attribute [local go_sem] Oper.semAt_some

theorem PartV.stp {W w' : World} {b sb : Nat} {s : ByteArray} {ea : Nat → Addr} {R : Except Er (Pt × List UInt8)} {p : Pt} {ev : Value} (h : PartV W b sb s ea R p ev w') : ∃ j, Stp W b sb s j w' := by
  cases R with
  | ok q =>
    obtain ⟨_, _, j, h3, _, _⟩ := h
    exact ⟨j, h3⟩
  | error x =>
    obtain ⟨_, j, h3⟩ := h
    exact ⟨j, h3⟩
theorem dol_at {s : ByteArray} {k : Nat} (h : dolB (s.data.toList.drop k) = true) : ∃ h2 : k + 1 < s.size, dolC (s[k + 1]'h2) = true := by
  rw [dolB_drop, Bool.and_eq_true] at h
  by_cases h2 : k + 1 < s.size
  · refine ⟨h2, ?_⟩
    have := h.2
    rw [text_at s (k + 1) h2] at this
    exact this
  · have := h.2
    rw [at_none s (k + 1) h2] at this
    cases this
theorem dollar_eq (s : ByteArray) (k : Nat) (h2 : k + 1 < s.size) : dollar s.size (s.data.toList.drop k) = (if s[k + 1] = 40 then cmdR k (s.data.toList.drop (k + 2)) else if s[k + 1] = 123 then brR k (s.data.toList.drop (k + 2)) else if s[k + 1] = 42 then .ok (⟨3, k, 0, false, [42]⟩, s.data.toList.drop (k + 2))
    else if s[k + 1] = 35 then .ok (⟨6, k, 0, false, []⟩, s.data.toList.drop (k + 2)) else if cnts s[k + 1] then .ok (⟨5, k, s[k + 1].toNat - 48, false, []⟩, s.data.toList.drop (k + 2)) else varR k (nrun (s.data.toList.drop (k + 1))) (s.data.toList.drop (k + 1 + (nrun (s.data.toList.drop (k + 1))).length))) := by
  have e1 : s.data.toList.drop (k + 1) = s[k + 1] :: s.data.toList.drop (k + 2) := drop_cons s (k + 1) h2
  have e0 : s.data.toList.drop k = s[k] :: s[k + 1] :: s.data.toList.drop (k + 2) := by rw [drop_cons s k (by omega), e1]
  have el : s.size - ((s.data.toList.drop (k + 2)).length + 2) = k := by rw [len_drop]; omega
  have e2 : s.data.toList.drop (k + 1 + (nrun (s.data.toList.drop (k + 1))).length) = (s.data.toList.drop (k + 1)).drop (nrun (s.data.toList.drop (k + 1))).length := by rw [List.drop_drop]
  rw [e2, e1, e0]
  unfold dollar
  simp only [el]
  rfl
theorem sub_digit (c : UInt8) (h : cnts c = true) : IntKind.u8.wrap ((c.toNat : Int) - 48) = ((c.toNat - 48 : Nat) : Int) := by
  unfold cnts at h
  rw [Bool.and_eq_true, decide_eq_true_eq, decide_eq_true_eq] at h
  rw [IntKind.wrap_u8]
  omega
set_option maxRecDepth 100000 in
set_option maxHeartbeats 2000000 in
theorem dollar_cmd {W : World} {b sb k : Nat} {s : ByteArray} {ea : Nat → Addr} (h : Rd W b sb s k) (hE : Env W ea) (hs : s.size < 1152921504606846976) (hb64 : (ea 64).block ≤ b) (c : UInt8) (hc : s.data.toList[k + 1]? = some c) (h40 : c = 40) :
    Calls Tryz.prog 46 #[.pointer (some ⟨b, 0, none⟩)] W fun e w' => ∃ p ev, e = .returned (.tuple #[.agg (ptC p).toArray, ev]) ∧ PartV W b sb s ea (cmdR k (s.data.toList.drop (k + 2))) p ev w' := by
  have hlt : k + 1 < s.size := by simpa using (List.getElem?_eq_some_iff.1 hc).1
  have hlb := h.rd.lt
  have hlsb := h.src.lt
  have cW := h.c1
  obtain ⟨W0, hW0⟩ : ∃ W0, W0 = (W.alloc (.cells zC 36)).alloc (.cells #[.int .i64 0, .int .i64 (k : Nat), .int .i64 0, .bool false, .string ⟨#[]⟩] 36) := ⟨_, rfl⟩
  have HS0 : Hid (Stp W b sb s k W0) := by rw [hW0]; exact ((Stp.refl h).alloc _).alloc _
  have HE0 : Hid (Env W0 ea) := by rw [hW0]; exact hE.below ((below_new W _).alloc (by simp) _)
  have hz0 : W0.heap.size = W.heap.size + 2 := by rw [hW0]; simp
  have HQ0 : Hid (Cel W0 W.heap.size 36 zC) := by rw [hW0]; exact (Cel.new W _ _).below (below_new _ _) (by simp)
  have HP0 : Hid (Cel W0 (W.heap.size + 1) 36 #[.int .i64 0, .int .i64 (k : Nat), .int .i64 0, .bool false, .string ⟨#[]⟩]) := by rw [hW0]; exact Cel.new2 _ _ _ _
  have HW0 : Hid ((W.alloc (.cells zC 36)).alloc (.cells #[.int .i64 0, .int .i64 (k : Nat), .int .i64 0, .bool false, .string ⟨#[]⟩] 36) = W0) := hW0.symm
  have HB : Hid (∀ m, Calls Tryz.prog 22 #[.pointer (some ⟨sb, 0, none⟩), .int .i64 ((k : Int) + 1)] (W0.drewN m) fun e w' => e = .returned (.tuple #[.int .u8 (c.toNat : Nat), .bool true]) ∧ w' = W0.drewN m) := fun m => by
    have := byte_any sb s (k + 1) (W0.drewN m) HS0.out.at_.t0
    rw [hc] at this
    exact this
  clear h hE hW0 hc
  subst h40
  go_enter Tryz.func46, Tryz.ntmps46
  go_wp2_with fail
  rw [HW0.out]
  have c0 := HS0.out.at_.c0
  have c1 := HS0.out.at_.c1
  go_quiet (first | (go_at_call 22; exact Calls.quiet_of_same (HB.out _)))
  obtain ⟨W1, hW1⟩ : ∃ W1, W1 = W0.drewN nq := ⟨_, rfl⟩
  have HS1 : Hid (Stp W b sb s k W1) := by rw [hW1]; exact HS0.out.drewN nq
  have HP1 : Hid (Cel W1 (W.heap.size + 1) 36 #[.int .i64 0, .int .i64 (k : Nat), .int .i64 0, .bool false, .string ⟨#[]⟩]) := by rw [hW1]; exact HP0.out
  have HQ1 : Hid (Cel W1 W.heap.size 36 zC) := by rw [hW1]; exact HQ0.out
  have HE1 : Hid (Env W1 ea) := by rw [hW1]; exact HE0.out.drewN nq
  have hz1 : W1.heap.size = W.heap.size + 2 := by rw [hW1]; exact hz0
  have d1 := HS1.out.at_.c1
  have e1 := HS1.out.at_.f1
  rw [← hW1]
  clear hW1 c0 c1 HB HS0 HP0 HQ0 HE0 HW0 hz0 cW
  have p0 : W1.cell? ⟨W.heap.size + 1, 0, none⟩ = some (.int .i64 0) := HP1.out.cell 0
  have p1 : W1.cell? ⟨W.heap.size + 1, 1, none⟩ = some (.int .i64 (k : Nat)) := HP1.out.cell 1
  have p2 : W1.cell? ⟨W.heap.size + 1, 2, none⟩ = some (.int .i64 0) := HP1.out.cell 2
  have p3 : W1.cell? ⟨W.heap.size + 1, 3, none⟩ = some (.bool false) := HP1.out.cell 3
  have p4 : W1.cell? ⟨W.heap.size + 1, 4, none⟩ = some (.string ⟨#[]⟩) := HP1.out.cell 4
  have hnb : ¬ W.heap.size + 1 = b := by omega
  have hnb0 : ¬ W.heap.size = b := by omega
  go_wp2_with fail
  obtain ⟨W2, hW2⟩ : ∃ W2, W2 = W1.setCell ⟨b, 1, none⟩ (.int .i64 ((k : Int) + 2)) := ⟨_, rfl⟩
  have HS2 : Hid (Stp W b sb s (k + 2) W2) := by rw [hW2]; exact set_step HS1.out _ _ (by omega)
  have HQ2 : Hid (Cel W2 W.heap.size 36 zC) := by rw [hW2]; exact HQ1.out.other (by omega) _
  have hE2 : Env W2 ea := by rw [hW2]; exact HE1.out.set hb64 _ _
  have HV : Hid _ := command_any (ea := ea) k HS2.out.at_ hE2 hs (by omega) hb64
  rw [← hW2]
  clear hW2 hE2 HS1 HE1 HP1 HQ1 d1 e1 p0 p1 p2 p3 p4
  refine Calls.mono HV.out ?_
  rintro e w3 ⟨p, ev, rfl, hv⟩
  obtain ⟨j3, hst3⟩ := hv.stp
  have HQ3 : Hid (Cel w3 W.heap.size 36 zC) := HQ2.out.turn hst3.turn (by omega)
  have HV3 : Hid (PartV W b sb s ea (cmdR k (s.data.toList.drop (k + 2))) p ev w3) := hv.lift HS2.out
  clear HV hv hst3 HQ2 HS2
  have z0 : w3.cell? ⟨W.heap.size, 0, none⟩ = some (.int .i64 0) := HQ3.out.cell 0
  have z1 : w3.cell? ⟨W.heap.size, 1, none⟩ = some (.int .i64 0) := HQ3.out.cell 1
  have z2 : w3.cell? ⟨W.heap.size, 2, none⟩ = some (.int .i64 0) := HQ3.out.cell 2
  have z3 : w3.cell? ⟨W.heap.size, 3, none⟩ = some (.bool false) := HQ3.out.cell 3
  have z4 : w3.cell? ⟨W.heap.size, 4, none⟩ = some (.string ⟨#[]⟩) := HQ3.out.cell 4
  have zf0 := HQ3.out.frozen 0
  have zf1 := HQ3.out.frozen 1
  have zf2 := HQ3.out.frozen 2
  have zf3 := HQ3.out.frozen 3
  have zf4 := HQ3.out.frozen 4
  obtain ⟨kd, ps, n, q, sx⟩ := p
  go_wp2_with fail
  refine bodyPost_ret (results_part (p := 2) (u := 3) rfl _ _ W.heap.size _ rfl (HQ3.out.put5 _ _ _ _ _) rfl) rfl ?_
  exact ⟨⟨kd, ps, n, q, sx⟩, ev, rfl, HV3.out.put HQ3.out hlb hlsb (Nat.le_refl _) _ _ _ _ _⟩
set_option maxRecDepth 100000 in
set_option maxHeartbeats 2000000 in
theorem dollar_brace {W : World} {b sb k : Nat} {s : ByteArray} {ea : Nat → Addr} (h : Rd W b sb s k) (hE : Env W ea) (hs : s.size < 1152921504606846976) (hb64 : (ea 64).block ≤ b) (c : UInt8) (hc : s.data.toList[k + 1]? = some c) (h123 : c = 123) :
    Calls Tryz.prog 46 #[.pointer (some ⟨b, 0, none⟩)] W fun e w' => ∃ p ev, e = .returned (.tuple #[.agg (ptC p).toArray, ev]) ∧ PartV W b sb s ea (brR k (s.data.toList.drop (k + 2))) p ev w' := by
  have hlt : k + 1 < s.size := by simpa using (List.getElem?_eq_some_iff.1 hc).1
  have hlb := h.rd.lt
  have hlsb := h.src.lt
  have cW := h.c1
  obtain ⟨W0, hW0⟩ : ∃ W0, W0 = (W.alloc (.cells zC 36)).alloc (.cells #[.int .i64 0, .int .i64 (k : Nat), .int .i64 0, .bool false, .string ⟨#[]⟩] 36) := ⟨_, rfl⟩
  have HS0 : Hid (Stp W b sb s k W0) := by rw [hW0]; exact ((Stp.refl h).alloc _).alloc _
  have HE0 : Hid (Env W0 ea) := by rw [hW0]; exact hE.below ((below_new W _).alloc (by simp) _)
  have hz0 : W0.heap.size = W.heap.size + 2 := by rw [hW0]; simp
  have HQ0 : Hid (Cel W0 W.heap.size 36 zC) := by rw [hW0]; exact (Cel.new W _ _).below (below_new _ _) (by simp)
  have HP0 : Hid (Cel W0 (W.heap.size + 1) 36 #[.int .i64 0, .int .i64 (k : Nat), .int .i64 0, .bool false, .string ⟨#[]⟩]) := by rw [hW0]; exact Cel.new2 _ _ _ _
  have HW0 : Hid ((W.alloc (.cells zC 36)).alloc (.cells #[.int .i64 0, .int .i64 (k : Nat), .int .i64 0, .bool false, .string ⟨#[]⟩] 36) = W0) := hW0.symm
  have HB : Hid (∀ m, Calls Tryz.prog 22 #[.pointer (some ⟨sb, 0, none⟩), .int .i64 ((k : Int) + 1)] (W0.drewN m) fun e w' => e = .returned (.tuple #[.int .u8 (c.toNat : Nat), .bool true]) ∧ w' = W0.drewN m) := fun m => by
    have := byte_any sb s (k + 1) (W0.drewN m) HS0.out.at_.t0
    rw [hc] at this
    exact this
  clear h hE hW0 hc
  subst h123
  go_enter Tryz.func46, Tryz.ntmps46
  go_wp2_with fail
  rw [HW0.out]
  have c0 := HS0.out.at_.c0
  have c1 := HS0.out.at_.c1
  go_quiet (first | (go_at_call 22; exact Calls.quiet_of_same (HB.out _)))
  obtain ⟨W1, hW1⟩ : ∃ W1, W1 = W0.drewN nq := ⟨_, rfl⟩
  have HS1 : Hid (Stp W b sb s k W1) := by rw [hW1]; exact HS0.out.drewN nq
  have HP1 : Hid (Cel W1 (W.heap.size + 1) 36 #[.int .i64 0, .int .i64 (k : Nat), .int .i64 0, .bool false, .string ⟨#[]⟩]) := by rw [hW1]; exact HP0.out
  have HQ1 : Hid (Cel W1 W.heap.size 36 zC) := by rw [hW1]; exact HQ0.out
  have HE1 : Hid (Env W1 ea) := by rw [hW1]; exact HE0.out.drewN nq
  have hz1 : W1.heap.size = W.heap.size + 2 := by rw [hW1]; exact hz0
  have d1 := HS1.out.at_.c1
  have e1 := HS1.out.at_.f1
  rw [← hW1]
  clear hW1 c0 c1 HB HS0 HP0 HQ0 HE0 HW0 hz0 cW
  have p0 : W1.cell? ⟨W.heap.size + 1, 0, none⟩ = some (.int .i64 0) := HP1.out.cell 0
  have p1 : W1.cell? ⟨W.heap.size + 1, 1, none⟩ = some (.int .i64 (k : Nat)) := HP1.out.cell 1
  have p2 : W1.cell? ⟨W.heap.size + 1, 2, none⟩ = some (.int .i64 0) := HP1.out.cell 2
  have p3 : W1.cell? ⟨W.heap.size + 1, 3, none⟩ = some (.bool false) := HP1.out.cell 3
  have p4 : W1.cell? ⟨W.heap.size + 1, 4, none⟩ = some (.string ⟨#[]⟩) := HP1.out.cell 4
  have hnb : ¬ W.heap.size + 1 = b := by omega
  have hnb0 : ¬ W.heap.size = b := by omega
  go_wp2_with fail
  obtain ⟨W2, hW2⟩ : ∃ W2, W2 = W1.setCell ⟨b, 1, none⟩ (.int .i64 ((k : Int) + 2)) := ⟨_, rfl⟩
  have HS2 : Hid (Stp W b sb s (k + 2) W2) := by rw [hW2]; exact set_step HS1.out _ _ (by omega)
  have HQ2 : Hid (Cel W2 W.heap.size 36 zC) := by rw [hW2]; exact HQ1.out.other (by omega) _
  have hE2 : Env W2 ea := by rw [hW2]; exact HE1.out.set hb64 _ _
  have HV : Hid _ := braced_any (ea := ea) k HS2.out.at_ hE2 hs (by omega) hb64
  rw [← hW2]
  clear hW2 hE2 HS1 HE1 HP1 HQ1 d1 e1 p0 p1 p2 p3 p4
  refine Calls.mono HV.out ?_
  rintro e w3 ⟨p, ev, rfl, hv⟩
  obtain ⟨j3, hst3⟩ := hv.stp
  have HQ3 : Hid (Cel w3 W.heap.size 36 zC) := HQ2.out.turn hst3.turn (by omega)
  have HV3 : Hid (PartV W b sb s ea (brR k (s.data.toList.drop (k + 2))) p ev w3) := hv.lift HS2.out
  clear HV hv hst3 HQ2 HS2
  have z0 : w3.cell? ⟨W.heap.size, 0, none⟩ = some (.int .i64 0) := HQ3.out.cell 0
  have z1 : w3.cell? ⟨W.heap.size, 1, none⟩ = some (.int .i64 0) := HQ3.out.cell 1
  have z2 : w3.cell? ⟨W.heap.size, 2, none⟩ = some (.int .i64 0) := HQ3.out.cell 2
  have z3 : w3.cell? ⟨W.heap.size, 3, none⟩ = some (.bool false) := HQ3.out.cell 3
  have z4 : w3.cell? ⟨W.heap.size, 4, none⟩ = some (.string ⟨#[]⟩) := HQ3.out.cell 4
  have zf0 := HQ3.out.frozen 0
  have zf1 := HQ3.out.frozen 1
  have zf2 := HQ3.out.frozen 2
  have zf3 := HQ3.out.frozen 3
  have zf4 := HQ3.out.frozen 4
  obtain ⟨kd, ps, n, q, sx⟩ := p
  go_wp2_with fail
  refine bodyPost_ret (results_part (p := 2) (u := 3) rfl _ _ W.heap.size _ rfl (HQ3.out.put5 _ _ _ _ _) rfl) rfl ?_
  exact ⟨⟨kd, ps, n, q, sx⟩, ev, rfl, HV3.out.put HQ3.out hlb hlsb (Nat.le_refl _) _ _ _ _ _⟩
set_option maxRecDepth 100000 in
set_option maxHeartbeats 2000000 in
theorem dollar_star {W : World} {b sb k : Nat} {s : ByteArray} {ea : Nat → Addr} (h : Rd W b sb s k) (hE : Env W ea) (hs : s.size < 1152921504606846976) (_hb64 : (ea 64).block ≤ b) (c : UInt8) (hc : s.data.toList[k + 1]? = some c) (h42 : c = 42) :
    Calls Tryz.prog 46 #[.pointer (some ⟨b, 0, none⟩)] W fun e w' => ∃ p ev, e = .returned (.tuple #[.agg (ptC p).toArray, ev]) ∧ PartV W b sb s ea (.ok (⟨3, k, 0, false, [42]⟩, s.data.toList.drop (k + 2))) p ev w' := by
  have hlt : k + 1 < s.size := by simpa using (List.getElem?_eq_some_iff.1 hc).1
  have hlb := h.rd.lt
  have hlsb := h.src.lt
  have cW := h.c1
  obtain ⟨W0, hW0⟩ : ∃ W0, W0 = (W.alloc (.cells zC 36)).alloc (.cells #[.int .i64 0, .int .i64 (k : Nat), .int .i64 0, .bool false, .string ⟨#[]⟩] 36) := ⟨_, rfl⟩
  have HS0 : Hid (Stp W b sb s k W0) := by rw [hW0]; exact ((Stp.refl h).alloc _).alloc _
  have HE0 : Hid (Env W0 ea) := by rw [hW0]; exact hE.below ((below_new W _).alloc (by simp) _)
  have hz0 : W0.heap.size = W.heap.size + 2 := by rw [hW0]; simp
  have HQ0 : Hid (Cel W0 W.heap.size 36 zC) := by rw [hW0]; exact (Cel.new W _ _).below (below_new _ _) (by simp)
  have HP0 : Hid (Cel W0 (W.heap.size + 1) 36 #[.int .i64 0, .int .i64 (k : Nat), .int .i64 0, .bool false, .string ⟨#[]⟩]) := by rw [hW0]; exact Cel.new2 _ _ _ _
  have HW0 : Hid ((W.alloc (.cells zC 36)).alloc (.cells #[.int .i64 0, .int .i64 (k : Nat), .int .i64 0, .bool false, .string ⟨#[]⟩] 36) = W0) := hW0.symm
  have HB : Hid (∀ m, Calls Tryz.prog 22 #[.pointer (some ⟨sb, 0, none⟩), .int .i64 ((k : Int) + 1)] (W0.drewN m) fun e w' => e = .returned (.tuple #[.int .u8 (c.toNat : Nat), .bool true]) ∧ w' = W0.drewN m) := fun m => by
    have := byte_any sb s (k + 1) (W0.drewN m) HS0.out.at_.t0
    rw [hc] at this
    exact this
  clear h hE hW0 hc
  subst h42
  go_enter Tryz.func46, Tryz.ntmps46
  go_wp2_with fail
  rw [HW0.out]
  have c0 := HS0.out.at_.c0
  have c1 := HS0.out.at_.c1
  go_quiet (first | (go_at_call 22; exact Calls.quiet_of_same (HB.out _)))
  obtain ⟨W1, hW1⟩ : ∃ W1, W1 = W0.drewN nq := ⟨_, rfl⟩
  have HS1 : Hid (Stp W b sb s k W1) := by rw [hW1]; exact HS0.out.drewN nq
  have HP1 : Hid (Cel W1 (W.heap.size + 1) 36 #[.int .i64 0, .int .i64 (k : Nat), .int .i64 0, .bool false, .string ⟨#[]⟩]) := by rw [hW1]; exact HP0.out
  have HQ1 : Hid (Cel W1 W.heap.size 36 zC) := by rw [hW1]; exact HQ0.out
  have HE1 : Hid (Env W1 ea) := by rw [hW1]; exact HE0.out.drewN nq
  have hz1 : W1.heap.size = W.heap.size + 2 := by rw [hW1]; exact hz0
  have d1 := HS1.out.at_.c1
  have e1 := HS1.out.at_.f1
  rw [← hW1]
  clear hW1 c0 c1 HB HS0 HP0 HQ0 HE0 HW0 hz0 cW
  have p0 : W1.cell? ⟨W.heap.size + 1, 0, none⟩ = some (.int .i64 0) := HP1.out.cell 0
  have p1 : W1.cell? ⟨W.heap.size + 1, 1, none⟩ = some (.int .i64 (k : Nat)) := HP1.out.cell 1
  have p2 : W1.cell? ⟨W.heap.size + 1, 2, none⟩ = some (.int .i64 0) := HP1.out.cell 2
  have p3 : W1.cell? ⟨W.heap.size + 1, 3, none⟩ = some (.bool false) := HP1.out.cell 3
  have p4 : W1.cell? ⟨W.heap.size + 1, 4, none⟩ = some (.string ⟨#[]⟩) := HP1.out.cell 4
  have hnb : ¬ W.heap.size + 1 = b := by omega
  have hnb0 : ¬ W.heap.size = b := by omega
  have qf0 := HP1.out.frozen 0
  have qf2 := HP1.out.frozen 2
  have qf4 := HP1.out.frozen 4
  have z0 : W1.cell? ⟨W.heap.size, 0, none⟩ = some (.int .i64 0) := HQ1.out.cell 0
  have z1 : W1.cell? ⟨W.heap.size, 1, none⟩ = some (.int .i64 0) := HQ1.out.cell 1
  have z2 : W1.cell? ⟨W.heap.size, 2, none⟩ = some (.int .i64 0) := HQ1.out.cell 2
  have z3 : W1.cell? ⟨W.heap.size, 3, none⟩ = some (.bool false) := HQ1.out.cell 3
  have z4 : W1.cell? ⟨W.heap.size, 4, none⟩ = some (.string ⟨#[]⟩) := HQ1.out.cell 4
  have zf0 := HQ1.out.frozen 0
  have zf1 := HQ1.out.frozen 1
  have zf2 := HQ1.out.frozen 2
  have zf3 := HQ1.out.frozen 3
  have zf4 := HQ1.out.frozen 4
  have hn01 : ¬ W.heap.size = W.heap.size + 1 := by omega
  have hn10 : ¬ W.heap.size + 1 = W.heap.size := by omega
  go_wp2_with fail
  have HQ2 : Cel (((W1.setCell ⟨b, 1, none⟩ (.int .i64 ((k : Int) + 2))).setCell ⟨W.heap.size + 1, 0, none⟩ (.int .i64 3)).setCell ⟨W.heap.size + 1, 4, none⟩ (.string ⟨#[42]⟩)) W.heap.size 36 zC := (((HQ1.out.other (by omega) _).other (by omega) _).other (by omega) _)
  have HS2 : Stp W b sb s (k + 2) (((W1.setCell ⟨b, 1, none⟩ (.int .i64 ((k : Int) + 2))).setCell ⟨W.heap.size + 1, 0, none⟩ (.int .i64 3)).setCell ⟨W.heap.size + 1, 4, none⟩ (.string ⟨#[42]⟩)) := (((set_step HS1.out _ (k + 2) (by omega)).other hlb hlsb (by omega) 0 _).other hlb hlsb (by omega) 4 _)
  refine bodyPost_ret (results_part (p := 2) (u := 3) rfl _ _ W.heap.size _ rfl (HQ2.put5 _ _ _ _ _) rfl) rfl ?_
  exact ⟨⟨3, k, 0, false, [42]⟩, _, rfl, PartV.put (R := .ok (⟨3, k, 0, false, [42]⟩, s.data.toList.drop (k + 2))) ⟨rfl, rfl, k + 2, HS2, by omega, rfl⟩ HQ2 hlb hlsb (Nat.le_refl _) _ _ _ _ _⟩
set_option maxRecDepth 100000 in
set_option maxHeartbeats 2000000 in
theorem dollar_many {W : World} {b sb k : Nat} {s : ByteArray} {ea : Nat → Addr} (h : Rd W b sb s k) (hE : Env W ea) (hs : s.size < 1152921504606846976) (_hb64 : (ea 64).block ≤ b) (c : UInt8) (hc : s.data.toList[k + 1]? = some c) (h35 : c = 35) :
    Calls Tryz.prog 46 #[.pointer (some ⟨b, 0, none⟩)] W fun e w' => ∃ p ev, e = .returned (.tuple #[.agg (ptC p).toArray, ev]) ∧ PartV W b sb s ea (.ok (⟨6, k, 0, false, []⟩, s.data.toList.drop (k + 2))) p ev w' := by
  have hlt : k + 1 < s.size := by simpa using (List.getElem?_eq_some_iff.1 hc).1
  have hlb := h.rd.lt
  have hlsb := h.src.lt
  have cW := h.c1
  obtain ⟨W0, hW0⟩ : ∃ W0, W0 = (W.alloc (.cells zC 36)).alloc (.cells #[.int .i64 0, .int .i64 (k : Nat), .int .i64 0, .bool false, .string ⟨#[]⟩] 36) := ⟨_, rfl⟩
  have HS0 : Hid (Stp W b sb s k W0) := by rw [hW0]; exact ((Stp.refl h).alloc _).alloc _
  have HE0 : Hid (Env W0 ea) := by rw [hW0]; exact hE.below ((below_new W _).alloc (by simp) _)
  have hz0 : W0.heap.size = W.heap.size + 2 := by rw [hW0]; simp
  have HQ0 : Hid (Cel W0 W.heap.size 36 zC) := by rw [hW0]; exact (Cel.new W _ _).below (below_new _ _) (by simp)
  have HP0 : Hid (Cel W0 (W.heap.size + 1) 36 #[.int .i64 0, .int .i64 (k : Nat), .int .i64 0, .bool false, .string ⟨#[]⟩]) := by rw [hW0]; exact Cel.new2 _ _ _ _
  have HW0 : Hid ((W.alloc (.cells zC 36)).alloc (.cells #[.int .i64 0, .int .i64 (k : Nat), .int .i64 0, .bool false, .string ⟨#[]⟩] 36) = W0) := hW0.symm
  have HB : Hid (∀ m, Calls Tryz.prog 22 #[.pointer (some ⟨sb, 0, none⟩), .int .i64 ((k : Int) + 1)] (W0.drewN m) fun e w' => e = .returned (.tuple #[.int .u8 (c.toNat : Nat), .bool true]) ∧ w' = W0.drewN m) := fun m => by
    have := byte_any sb s (k + 1) (W0.drewN m) HS0.out.at_.t0
    rw [hc] at this
    exact this
  clear h hE hW0 hc
  subst h35
  go_enter Tryz.func46, Tryz.ntmps46
  go_wp2_with fail
  rw [HW0.out]
  have c0 := HS0.out.at_.c0
  have c1 := HS0.out.at_.c1
  go_quiet (first | (go_at_call 22; exact Calls.quiet_of_same (HB.out _)))
  obtain ⟨W1, hW1⟩ : ∃ W1, W1 = W0.drewN nq := ⟨_, rfl⟩
  have HS1 : Hid (Stp W b sb s k W1) := by rw [hW1]; exact HS0.out.drewN nq
  have HP1 : Hid (Cel W1 (W.heap.size + 1) 36 #[.int .i64 0, .int .i64 (k : Nat), .int .i64 0, .bool false, .string ⟨#[]⟩]) := by rw [hW1]; exact HP0.out
  have HQ1 : Hid (Cel W1 W.heap.size 36 zC) := by rw [hW1]; exact HQ0.out
  have HE1 : Hid (Env W1 ea) := by rw [hW1]; exact HE0.out.drewN nq
  have hz1 : W1.heap.size = W.heap.size + 2 := by rw [hW1]; exact hz0
  have d1 := HS1.out.at_.c1
  have e1 := HS1.out.at_.f1
  rw [← hW1]
  clear hW1 c0 c1 HB HS0 HP0 HQ0 HE0 HW0 hz0 cW
  have p0 : W1.cell? ⟨W.heap.size + 1, 0, none⟩ = some (.int .i64 0) := HP1.out.cell 0
  have p1 : W1.cell? ⟨W.heap.size + 1, 1, none⟩ = some (.int .i64 (k : Nat)) := HP1.out.cell 1
  have p2 : W1.cell? ⟨W.heap.size + 1, 2, none⟩ = some (.int .i64 0) := HP1.out.cell 2
  have p3 : W1.cell? ⟨W.heap.size + 1, 3, none⟩ = some (.bool false) := HP1.out.cell 3
  have p4 : W1.cell? ⟨W.heap.size + 1, 4, none⟩ = some (.string ⟨#[]⟩) := HP1.out.cell 4
  have hnb : ¬ W.heap.size + 1 = b := by omega
  have hnb0 : ¬ W.heap.size = b := by omega
  have qf0 := HP1.out.frozen 0
  have qf2 := HP1.out.frozen 2
  have qf4 := HP1.out.frozen 4
  have z0 : W1.cell? ⟨W.heap.size, 0, none⟩ = some (.int .i64 0) := HQ1.out.cell 0
  have z1 : W1.cell? ⟨W.heap.size, 1, none⟩ = some (.int .i64 0) := HQ1.out.cell 1
  have z2 : W1.cell? ⟨W.heap.size, 2, none⟩ = some (.int .i64 0) := HQ1.out.cell 2
  have z3 : W1.cell? ⟨W.heap.size, 3, none⟩ = some (.bool false) := HQ1.out.cell 3
  have z4 : W1.cell? ⟨W.heap.size, 4, none⟩ = some (.string ⟨#[]⟩) := HQ1.out.cell 4
  have zf0 := HQ1.out.frozen 0
  have zf1 := HQ1.out.frozen 1
  have zf2 := HQ1.out.frozen 2
  have zf3 := HQ1.out.frozen 3
  have zf4 := HQ1.out.frozen 4
  have hn01 : ¬ W.heap.size = W.heap.size + 1 := by omega
  have hn10 : ¬ W.heap.size + 1 = W.heap.size := by omega
  go_wp2_with fail
  have HQ2 : Cel ((W1.setCell ⟨b, 1, none⟩ (.int .i64 ((k : Int) + 2))).setCell ⟨W.heap.size + 1, 0, none⟩ (.int .i64 6)) W.heap.size 36 zC := ((HQ1.out.other (by omega) _).other (by omega) _)
  have HS2 : Stp W b sb s (k + 2) ((W1.setCell ⟨b, 1, none⟩ (.int .i64 ((k : Int) + 2))).setCell ⟨W.heap.size + 1, 0, none⟩ (.int .i64 6)) := ((set_step HS1.out _ (k + 2) (by omega)).other hlb hlsb (by omega) 0 _)
  refine bodyPost_ret (results_part (p := 2) (u := 3) rfl _ _ W.heap.size _ rfl (HQ2.put5 _ _ _ _ _) rfl) rfl ?_
  exact ⟨⟨6, k, 0, false, []⟩, _, rfl, PartV.put (R := .ok (⟨6, k, 0, false, []⟩, s.data.toList.drop (k + 2))) ⟨rfl, rfl, k + 2, HS2, by omega, rfl⟩ HQ2 hlb hlsb (Nat.le_refl _) _ _ _ _ _⟩
set_option maxRecDepth 100000 in
set_option maxHeartbeats 2000000 in
theorem dollar_num {W : World} {b sb k : Nat} {s : ByteArray} {ea : Nat → Addr} (h : Rd W b sb s k) (hE : Env W ea) (hs : s.size < 1152921504606846976) (_hb64 : (ea 64).block ≤ b) (c : UInt8) (hc : s.data.toList[k + 1]? = some c) (h40 : c ≠ 40) (h123 : c ≠ 123) (h42 : c ≠ 42) (h35 : c ≠ 35) (hcn : cnts c = true) :
    Calls Tryz.prog 46 #[.pointer (some ⟨b, 0, none⟩)] W fun e w' => ∃ p ev, e = .returned (.tuple #[.agg (ptC p).toArray, ev]) ∧ PartV W b sb s ea (.ok (⟨5, k, c.toNat - 48, false, []⟩, s.data.toList.drop (k + 2))) p ev w' := by
  have hlt : k + 1 < s.size := by simpa using (List.getElem?_eq_some_iff.1 hc).1
  have hlb := h.rd.lt
  have hlsb := h.src.lt
  have cW := h.c1
  obtain ⟨W0, hW0⟩ : ∃ W0, W0 = (W.alloc (.cells zC 36)).alloc (.cells #[.int .i64 0, .int .i64 (k : Nat), .int .i64 0, .bool false, .string ⟨#[]⟩] 36) := ⟨_, rfl⟩
  have HS0 : Hid (Stp W b sb s k W0) := by rw [hW0]; exact ((Stp.refl h).alloc _).alloc _
  have HE0 : Hid (Env W0 ea) := by rw [hW0]; exact hE.below ((below_new W _).alloc (by simp) _)
  have hz0 : W0.heap.size = W.heap.size + 2 := by rw [hW0]; simp
  have HQ0 : Hid (Cel W0 W.heap.size 36 zC) := by rw [hW0]; exact (Cel.new W _ _).below (below_new _ _) (by simp)
  have HP0 : Hid (Cel W0 (W.heap.size + 1) 36 #[.int .i64 0, .int .i64 (k : Nat), .int .i64 0, .bool false, .string ⟨#[]⟩]) := by rw [hW0]; exact Cel.new2 _ _ _ _
  have HW0 : Hid ((W.alloc (.cells zC 36)).alloc (.cells #[.int .i64 0, .int .i64 (k : Nat), .int .i64 0, .bool false, .string ⟨#[]⟩] 36) = W0) := hW0.symm
  have HB : Hid (∀ m, Calls Tryz.prog 22 #[.pointer (some ⟨sb, 0, none⟩), .int .i64 ((k : Int) + 1)] (W0.drewN m) fun e w' => e = .returned (.tuple #[.int .u8 (c.toNat : Nat), .bool true]) ∧ w' = W0.drewN m) := fun m => by
    have := byte_any sb s (k + 1) (W0.drewN m) HS0.out.at_.t0
    rw [hc] at this
    exact this
  clear h hE hW0 hc
  have n40 : ((c.toNat : Int) == 40) = false := byte_ne c 40 h40
  clear h40
  have n123 : ((c.toNat : Int) == 123) = false := byte_ne c 123 h123
  clear h123
  have n42 : ((c.toNat : Int) == 42) = false := byte_ne c 42 h42
  clear h42
  have n35 : ((c.toNat : Int) == 35) = false := byte_ne c 35 h35
  clear h35
  have HK : Hid (∀ w, Calls Tryz.prog 58 #[.int .u8 (c.toNat : Nat)] w fun e w' => e = .returned (.bool true) ∧ w' = w) := fun w => by
    have := counts_any (c.toNat : Nat) w
    rw [cntB_byte, hcn] at this
    exact this
  have hsub := sub_digit c hcn
  obtain ⟨d, hd⟩ : ∃ d, c.toNat - 48 = d := ⟨_, rfl⟩
  have hdl : d < 256 := by have := c.toNat_lt; omega
  rw [hd] at hsub ⊢
  have hw6 : IntKind.i64.wrap (d : Int) = (d : Int) := by rw [IntKind.wrap_i64]; omega
  clear hcn hd
  go_enter Tryz.func46, Tryz.ntmps46
  go_wp2_with fail
  rw [HW0.out]
  have c0 := HS0.out.at_.c0
  have c1 := HS0.out.at_.c1
  go_quiet (first | (go_at_call 22; exact Calls.quiet_of_same (HB.out _)))
  obtain ⟨W1, hW1⟩ : ∃ W1, W1 = W0.drewN nq := ⟨_, rfl⟩
  have HS1 : Hid (Stp W b sb s k W1) := by rw [hW1]; exact HS0.out.drewN nq
  have HP1 : Hid (Cel W1 (W.heap.size + 1) 36 #[.int .i64 0, .int .i64 (k : Nat), .int .i64 0, .bool false, .string ⟨#[]⟩]) := by rw [hW1]; exact HP0.out
  have HQ1 : Hid (Cel W1 W.heap.size 36 zC) := by rw [hW1]; exact HQ0.out
  have HE1 : Hid (Env W1 ea) := by rw [hW1]; exact HE0.out.drewN nq
  have hz1 : W1.heap.size = W.heap.size + 2 := by rw [hW1]; exact hz0
  have d1 := HS1.out.at_.c1
  have e1 := HS1.out.at_.f1
  rw [← hW1]
  clear hW1 c0 c1 HB HS0 HP0 HQ0 HE0 HW0 hz0 cW
  have p0 : W1.cell? ⟨W.heap.size + 1, 0, none⟩ = some (.int .i64 0) := HP1.out.cell 0
  have p1 : W1.cell? ⟨W.heap.size + 1, 1, none⟩ = some (.int .i64 (k : Nat)) := HP1.out.cell 1
  have p2 : W1.cell? ⟨W.heap.size + 1, 2, none⟩ = some (.int .i64 0) := HP1.out.cell 2
  have p3 : W1.cell? ⟨W.heap.size + 1, 3, none⟩ = some (.bool false) := HP1.out.cell 3
  have p4 : W1.cell? ⟨W.heap.size + 1, 4, none⟩ = some (.string ⟨#[]⟩) := HP1.out.cell 4
  have hnb : ¬ W.heap.size + 1 = b := by omega
  have hnb0 : ¬ W.heap.size = b := by omega
  have qf0 := HP1.out.frozen 0
  have qf2 := HP1.out.frozen 2
  have qf4 := HP1.out.frozen 4
  have z0 : W1.cell? ⟨W.heap.size, 0, none⟩ = some (.int .i64 0) := HQ1.out.cell 0
  have z1 : W1.cell? ⟨W.heap.size, 1, none⟩ = some (.int .i64 0) := HQ1.out.cell 1
  have z2 : W1.cell? ⟨W.heap.size, 2, none⟩ = some (.int .i64 0) := HQ1.out.cell 2
  have z3 : W1.cell? ⟨W.heap.size, 3, none⟩ = some (.bool false) := HQ1.out.cell 3
  have z4 : W1.cell? ⟨W.heap.size, 4, none⟩ = some (.string ⟨#[]⟩) := HQ1.out.cell 4
  have zf0 := HQ1.out.frozen 0
  have zf1 := HQ1.out.frozen 1
  have zf2 := HQ1.out.frozen 2
  have zf3 := HQ1.out.frozen 3
  have zf4 := HQ1.out.frozen 4
  have hn01 : ¬ W.heap.size = W.heap.size + 1 := by omega
  have hn10 : ¬ W.heap.size + 1 = W.heap.size := by omega
  go_wp2_with fail
  refine Calls.mono (HK.out _) ?_
  rintro e w2 ⟨rfl, hw⟩
  obtain rfl := hw.symm
  clear hw
  go_wp2_with fail
  have HQ2 : Cel (((W1.setCell ⟨b, 1, none⟩ (.int .i64 ((k : Int) + 2))).setCell ⟨W.heap.size + 1, 0, none⟩ (.int .i64 5)).setCell ⟨W.heap.size + 1, 2, none⟩ (.int .i64 (d : Nat))) W.heap.size 36 zC := (((HQ1.out.other (by omega) _).other (by omega) _).other (by omega) _)
  have HS2 : Stp W b sb s (k + 2) (((W1.setCell ⟨b, 1, none⟩ (.int .i64 ((k : Int) + 2))).setCell ⟨W.heap.size + 1, 0, none⟩ (.int .i64 5)).setCell ⟨W.heap.size + 1, 2, none⟩ (.int .i64 (d : Nat))) := (((set_step HS1.out _ (k + 2) (by omega)).other hlb hlsb (by omega) 0 _).other hlb hlsb (by omega) 2 _)
  refine bodyPost_ret (results_part (p := 2) (u := 3) rfl _ _ W.heap.size _ rfl (HQ2.put5 _ _ _ _ _) rfl) rfl ?_
  exact ⟨⟨5, k, d, false, []⟩, _, rfl, PartV.put (R := .ok (⟨5, k, d, false, []⟩, s.data.toList.drop (k + 2))) ⟨rfl, rfl, k + 2, HS2, by omega, rfl⟩ HQ2 hlb hlsb (Nat.le_refl _) _ _ _ _ _⟩
set_option maxRecDepth 100000 in
set_option maxHeartbeats 2000000 in
theorem dollar_name {W : World} {b sb k : Nat} {s : ByteArray} {ea : Nat → Addr} (h : Rd W b sb s k) (hE : Env W ea) (hs : s.size < 1152921504606846976) (hb64 : (ea 64).block ≤ b) (c : UInt8) (hc : s.data.toList[k + 1]? = some c) (h40 : c ≠ 40) (h123 : c ≠ 123) (h42 : c ≠ 42) (h35 : c ≠ 35) (hcn : cnts c = false) :
    Calls Tryz.prog 46 #[.pointer (some ⟨b, 0, none⟩)] W fun e w' => ∃ p ev, e = .returned (.tuple #[.agg (ptC p).toArray, ev]) ∧ PartV W b sb s ea (varR k (nrun (s.data.toList.drop (k + 1))) (s.data.toList.drop (k + 1 + (nrun (s.data.toList.drop (k + 1))).length))) p ev w' := by
  have hlt : k + 1 < s.size := by simpa using (List.getElem?_eq_some_iff.1 hc).1
  have hlb := h.rd.lt
  have hlsb := h.src.lt
  have cW := h.c1
  obtain ⟨W0, hW0⟩ : ∃ W0, W0 = (W.alloc (.cells zC 36)).alloc (.cells #[.int .i64 0, .int .i64 (k : Nat), .int .i64 0, .bool false, .string ⟨#[]⟩] 36) := ⟨_, rfl⟩
  have HS0 : Hid (Stp W b sb s k W0) := by rw [hW0]; exact ((Stp.refl h).alloc _).alloc _
  have HE0 : Hid (Env W0 ea) := by rw [hW0]; exact hE.below ((below_new W _).alloc (by simp) _)
  have hz0 : W0.heap.size = W.heap.size + 2 := by rw [hW0]; simp
  have HQ0 : Hid (Cel W0 W.heap.size 36 zC) := by rw [hW0]; exact (Cel.new W _ _).below (below_new _ _) (by simp)
  have HP0 : Hid (Cel W0 (W.heap.size + 1) 36 #[.int .i64 0, .int .i64 (k : Nat), .int .i64 0, .bool false, .string ⟨#[]⟩]) := by rw [hW0]; exact Cel.new2 _ _ _ _
  have HW0 : Hid ((W.alloc (.cells zC 36)).alloc (.cells #[.int .i64 0, .int .i64 (k : Nat), .int .i64 0, .bool false, .string ⟨#[]⟩] 36) = W0) := hW0.symm
  have HB : Hid (∀ m, Calls Tryz.prog 22 #[.pointer (some ⟨sb, 0, none⟩), .int .i64 ((k : Int) + 1)] (W0.drewN m) fun e w' => e = .returned (.tuple #[.int .u8 (c.toNat : Nat), .bool true]) ∧ w' = W0.drewN m) := fun m => by
    have := byte_any sb s (k + 1) (W0.drewN m) HS0.out.at_.t0
    rw [hc] at this
    exact this
  clear h hE hW0 hc
  have n40 : ((c.toNat : Int) == 40) = false := byte_ne c 40 h40
  clear h40
  have n123 : ((c.toNat : Int) == 123) = false := byte_ne c 123 h123
  clear h123
  have n42 : ((c.toNat : Int) == 42) = false := byte_ne c 42 h42
  clear h42
  have n35 : ((c.toNat : Int) == 35) = false := byte_ne c 35 h35
  clear h35
  have HK : Hid (∀ w, Calls Tryz.prog 58 #[.int .u8 (c.toNat : Nat)] w fun e w' => e = .returned (.bool false) ∧ w' = w) := fun w => by
    have := counts_any (c.toNat : Nat) w
    rw [cntB_byte, hcn] at this
    exact this
  clear hcn
  go_enter Tryz.func46, Tryz.ntmps46
  go_wp2_with fail
  rw [HW0.out]
  have c0 := HS0.out.at_.c0
  have c1 := HS0.out.at_.c1
  go_quiet (first | (go_at_call 22; exact Calls.quiet_of_same (HB.out _)))
  obtain ⟨W1, hW1⟩ : ∃ W1, W1 = W0.drewN nq := ⟨_, rfl⟩
  have HS1 : Hid (Stp W b sb s k W1) := by rw [hW1]; exact HS0.out.drewN nq
  have HP1 : Hid (Cel W1 (W.heap.size + 1) 36 #[.int .i64 0, .int .i64 (k : Nat), .int .i64 0, .bool false, .string ⟨#[]⟩]) := by rw [hW1]; exact HP0.out
  have HQ1 : Hid (Cel W1 W.heap.size 36 zC) := by rw [hW1]; exact HQ0.out
  have HE1 : Hid (Env W1 ea) := by rw [hW1]; exact HE0.out.drewN nq
  have hz1 : W1.heap.size = W.heap.size + 2 := by rw [hW1]; exact hz0
  have d1 := HS1.out.at_.c1
  have e1 := HS1.out.at_.f1
  rw [← hW1]
  clear hW1 c0 c1 HB HS0 HP0 HQ0 HE0 HW0 hz0 cW
  have p0 : W1.cell? ⟨W.heap.size + 1, 0, none⟩ = some (.int .i64 0) := HP1.out.cell 0
  have p1 : W1.cell? ⟨W.heap.size + 1, 1, none⟩ = some (.int .i64 (k : Nat)) := HP1.out.cell 1
  have p2 : W1.cell? ⟨W.heap.size + 1, 2, none⟩ = some (.int .i64 0) := HP1.out.cell 2
  have p3 : W1.cell? ⟨W.heap.size + 1, 3, none⟩ = some (.bool false) := HP1.out.cell 3
  have p4 : W1.cell? ⟨W.heap.size + 1, 4, none⟩ = some (.string ⟨#[]⟩) := HP1.out.cell 4
  have hnb : ¬ W.heap.size + 1 = b := by omega
  have hnb0 : ¬ W.heap.size = b := by omega
  go_wp2_with fail
  refine Calls.mono (HK.out _) ?_
  rintro e w2 ⟨rfl, hw⟩
  obtain rfl := hw.symm
  clear hw
  go_wp2_with fail
  obtain ⟨W2, hW2⟩ : ∃ W2, W2 = W1.setCell ⟨b, 1, none⟩ (.int .i64 ((k : Int) + 2)) := ⟨_, rfl⟩
  have HS2 : Hid (Stp W b sb s (k + 2) W2) := by rw [hW2]; exact set_step HS1.out _ _ (by omega)
  have HQ2 : Hid (Cel W2 W.heap.size 36 zC) := by rw [hW2]; exact HQ1.out.other (by omega) _
  have hE2 : Env W2 ea := by rw [hW2]; exact HE1.out.set hb64 _ _
  have HV : Hid _ := named_any (ea := ea) k HS2.out.at_ hE2 hs (by omega) hb64
  rw [← hW2]
  clear hW2 hE2 HS1 HE1 HP1 HQ1 d1 e1 p0 p1 p2 p3 p4
  refine Calls.mono HV.out ?_
  rintro e w3 ⟨p, ev, rfl, hv⟩
  obtain ⟨j3, hst3⟩ := hv.stp
  have HQ3 : Hid (Cel w3 W.heap.size 36 zC) := HQ2.out.turn hst3.turn (by omega)
  have HV3 : Hid (PartV W b sb s ea (varR k (nrun (s.data.toList.drop (k + 1))) (s.data.toList.drop (k + 1 + (nrun (s.data.toList.drop (k + 1))).length))) p ev w3) := hv.lift HS2.out
  clear HV hv hst3 HQ2 HS2
  have z0 : w3.cell? ⟨W.heap.size, 0, none⟩ = some (.int .i64 0) := HQ3.out.cell 0
  have z1 : w3.cell? ⟨W.heap.size, 1, none⟩ = some (.int .i64 0) := HQ3.out.cell 1
  have z2 : w3.cell? ⟨W.heap.size, 2, none⟩ = some (.int .i64 0) := HQ3.out.cell 2
  have z3 : w3.cell? ⟨W.heap.size, 3, none⟩ = some (.bool false) := HQ3.out.cell 3
  have z4 : w3.cell? ⟨W.heap.size, 4, none⟩ = some (.string ⟨#[]⟩) := HQ3.out.cell 4
  have zf0 := HQ3.out.frozen 0
  have zf1 := HQ3.out.frozen 1
  have zf2 := HQ3.out.frozen 2
  have zf3 := HQ3.out.frozen 3
  have zf4 := HQ3.out.frozen 4
  obtain ⟨kd, ps, n, q, sx⟩ := p
  go_wp2_with fail
  refine bodyPost_ret (results_part (p := 2) (u := 3) rfl _ _ W.heap.size _ rfl (HQ3.out.put5 _ _ _ _ _) rfl) rfl ?_
  exact ⟨⟨kd, ps, n, q, sx⟩, ev, rfl, HV3.out.put HQ3.out hlb hlsb (Nat.le_refl _) _ _ _ _ _⟩
/-- A dollar's part. -/
theorem dollar_any {W : World} {b sb k : Nat} {s : ByteArray} {ea : Nat → Addr} (h : Rd W b sb s k) (hE : Env W ea) (hs : s.size < 1152921504606846976) (hb64 : (ea 64).block ≤ b) (hd : dolB (s.data.toList.drop k) = true) :
    Calls Tryz.prog 46 #[.pointer (some ⟨b, 0, none⟩)] W fun e w' => ∃ p ev, e = .returned (.tuple #[.agg (ptC p).toArray, ev]) ∧ PartV W b sb s ea (dollar s.size (s.data.toList.drop k)) p ev w' := by
  obtain ⟨h2, _⟩ := dol_at hd
  rw [dollar_eq s k h2]
  have hc := text_at s (k + 1) h2
  generalize s[k + 1] = c at hc
  by_cases h40 : c = 40
  · rw [if_pos h40]; exact dollar_cmd h hE hs hb64 c hc h40
  rw [if_neg h40]
  by_cases h123 : c = 123
  · rw [if_pos h123]; exact dollar_brace h hE hs hb64 c hc h123
  rw [if_neg h123]
  by_cases h42 : c = 42
  · rw [if_pos h42]; exact dollar_star h hE hs hb64 c hc h42
  rw [if_neg h42]
  by_cases h35 : c = 35
  · rw [if_pos h35]; exact dollar_many h hE hs hb64 c hc h35
  rw [if_neg h35]
  cases hcn : cnts c with
  | true => rw [if_pos rfl]; exact dollar_num h hE hs hb64 c hc h40 h123 h42 h35 hcn
  | false => rw [if_neg (by simp)]; exact dollar_name h hE hs hb64 c hc h40 h123 h42 h35 hcn
end Go.Proofs.YtnlbjgioleoihaaGreatDoor
