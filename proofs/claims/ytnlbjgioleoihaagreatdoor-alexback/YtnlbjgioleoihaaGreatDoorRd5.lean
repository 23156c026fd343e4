/- What a dollar begins: a name, a name in braces, a command. -/
import Derived.Test.YtnlbjgioleoihaaGreatDoorRd4
namespace Go.Proofs.YtnlbjgioleoihaaGreatDoor
open Go.RowKit
attribute [local go_sem] Oper.semAt_some

/-- The two boxes that such a function begins with: what it was handed, what it will answer. -/
theorem boxes {W : World} {b sb k : Nat} {s : ByteArray} {ea : Nat → Addr} (h : Rd W b sb s k) (hE : Env W ea) (cs : Array Value) :
    ∃ W0, W0 = (W.alloc (.cells cs 36)).alloc (.cells zC 36) ∧ Stp W b sb s k W0 ∧ Env W0 ea ∧ W0.heap.size = W.heap.size + 2 ∧ Cel W0 W.heap.size 36 cs ∧ Cel W0 (W.heap.size + 1) 36 zC := by
  refine ⟨_, rfl, ((Stp.refl h).alloc _).alloc _, ?_, by simp, ?_, Cel.new2 _ _ _ _⟩
  · exact hE.below ((below_new W _).alloc (by simp) _)
  · exact (Cel.new W _ _).below (below_new _ _) (by simp)
set_option maxHeartbeats 1000000 in
theorem named_any {W : World} {b sb k : Nat} {s : ByteArray} {ea : Nat → Addr} (pos : Nat) (h : Rd W b sb s k) (hE : Env W ea) (hs : s.size < 1152921504606846976) (hp : pos + 1 ≤ s.size) (hb64 : (ea 64).block ≤ b) :
    Calls Tryz.prog 62 #[.pointer (some ⟨b, 0, none⟩), .agg (ptC ⟨0, pos, 0, false, []⟩).toArray] W fun e w' => ∃ p ev, e = .returned (.tuple #[.agg (ptC p).toArray, ev]) ∧ PartV W b sb s ea (varR pos (nrun (s.data.toList.drop (pos + 1))) (s.data.toList.drop (pos + 1 + (nrun (s.data.toList.drop (pos + 1))).length))) p ev w' := by
  have hlb := h.rd.lt
  have hlsb := h.src.lt
  obtain ⟨W0, hW0, hS0, hE0, hz0, hp0, hq0⟩ := boxes h hE (ptC ⟨0, pos, 0, false, []⟩).toArray
  have hlen : pos + 1 + (nrun (s.data.toList.drop (pos + 1))).length ≤ s.size := by
    have h1 := nrun_len (s.data.toList.drop (pos + 1))
    rw [List.length_drop] at h1
    have h2 : s.data.toList.length = s.size := by simp
    omega
  have HN : Hid (∀ m, Calls Tryz.prog 59 #[.pointer (some ⟨sb, 0, none⟩), .int .i64 ((pos : Int) + 1)] (W0.drewN m) fun e w' => e = .returned (.string ⟨(nrun (s.data.toList.drop (pos + 1))).toArray⟩) ∧ w' = W0.drewN m) := fun m => sname_any sb s (pos + 1) (W0.drewN m) hS0.at_.t0 (by omega)
  generalize nrun (s.data.toList.drop (pos + 1)) = nm at HN hlen ⊢
  have c0 := hS0.at_.c0
  have a1 : W0.cell? ⟨W.heap.size, 1, none⟩ = some (.int .i64 (pos : Nat)) := hp0.cell 1
  have HP0 : Hid (Cel W0 W.heap.size 36 (ptC ⟨0, pos, 0, false, []⟩).toArray) := hp0
  have HQ0 : Hid (Cel W0 (W.heap.size + 1) 36 zC) := hq0
  have HS0 : Hid (Stp W b sb s k W0) := hS0
  have HE0 : Hid (Env W0 ea) := hE0
  have HW0 : Hid ((W.alloc (.cells (ptC ⟨0, pos, 0, false, []⟩).toArray 36)).alloc (.cells zC 36) = W0) := hW0.symm
  clear h hE hW0 hS0 hE0 hp0 hq0
  go_enter Tryz.func62, Tryz.ntmps62
  go_wp2_with fail
  rw [HW0.out]
  go_quiet (first | (go_at_call 59; exact Calls.quiet_of_same (HN.out _)))
  obtain ⟨W1, hW1⟩ : ∃ W1, W1 = W0.drewN nq := ⟨_, rfl⟩
  have HS1 : Hid (Stp W b sb s k W1) := by rw [hW1]; exact HS0.out.drewN nq
  have d0 := HS1.out.at_.c1
  have e0 := HS1.out.at_.f1
  have p0 : W1.cell? ⟨W.heap.size, 0, none⟩ = some (.int .i64 0) := by rw [hW1]; exact HP0.out.cell 0
  have p1 : W1.cell? ⟨W.heap.size, 1, none⟩ = some (.int .i64 (pos : Nat)) := by rw [hW1]; exact HP0.out.cell 1
  have p2 : W1.cell? ⟨W.heap.size, 2, none⟩ = some (.int .i64 0) := by rw [hW1]; exact HP0.out.cell 2
  have p3 : W1.cell? ⟨W.heap.size, 3, none⟩ = some (.bool false) := by rw [hW1]; exact HP0.out.cell 3
  have p4 : W1.cell? ⟨W.heap.size, 4, none⟩ = some (.string ⟨#[]⟩) := by rw [hW1]; exact HP0.out.cell 4
  have hnb : ¬ W.heap.size = b := by omega
  have HP1 : Hid (Cel W1 W.heap.size 36 (ptC ⟨0, pos, 0, false, []⟩).toArray) := by rw [hW1]; exact HP0.out
  have HQ1 : Hid (Cel W1 (W.heap.size + 1) 36 zC) := by rw [hW1]; exact HQ0.out
  have HE1 : Hid (Env W1 ea) := by rw [hW1]; exact HE0.out.below ⟨rfl, rfl, rfl, Nat.le_refl _, fun _ _ => rfl⟩
  have hz1 : W1.heap.size = W.heap.size + 2 := by rw [hW1]; exact hz0
  rw [← hW1]
  clear hW1 c0 a1 HS0 HP0 HQ0 HE0 HN
  go_wp2_with fail
  obtain ⟨W2, hW2⟩ : ∃ W2, W2 = W1.setCell ⟨b, 1, none⟩ (.int .i64 ((pos : Int) + 1 + (nm.length : Nat))) := ⟨_, rfl⟩
  have HS2 : Hid (Stp W b sb s (pos + 1 + nm.length) W2) := by rw [hW2]; exact set_step HS1.out _ _ (by omega)
  have hE2 : Env W2 ea := by rw [hW2]; exact HE1.out.set hb64 _ _
  have HQ2 : Hid (Cel W2 (W.heap.size + 1) 36 zC) := by rw [hW2]; exact HQ1.out.other (by omega) _
  have HV : Hid _ := variable_any (ea := ea) pos nm HS2.out.at_ hE2 hlen
  rw [← hW2]
  clear hW2 hE2 HS1 HE1 HP1 HQ1 d0 e0 p0 p1 p2 p3 p4
  refine Calls.mono HV.out ?_
  rintro e w3 ⟨p, ev, rfl, hv, hb3⟩
  have HQ3 : Hid (Cel w3 (W.heap.size + 1) 36 zC) := HQ2.out.below hb3 HQ2.out.lt
  have HV3 : Hid (PartV W b sb s ea (varR pos nm (s.data.toList.drop (pos + 1 + nm.length))) p ev w3) := hv.lift HS2.out
  clear HV hv hb3 HQ2 HS2
  have z0 : w3.cell? ⟨W.heap.size + 1, 0, none⟩ = some (.int .i64 0) := HQ3.out.cell 0
  have z1 : w3.cell? ⟨W.heap.size + 1, 1, none⟩ = some (.int .i64 0) := HQ3.out.cell 1
  have z2 : w3.cell? ⟨W.heap.size + 1, 2, none⟩ = some (.int .i64 0) := HQ3.out.cell 2
  have z3 : w3.cell? ⟨W.heap.size + 1, 3, none⟩ = some (.bool false) := HQ3.out.cell 3
  have z4 : w3.cell? ⟨W.heap.size + 1, 4, none⟩ = some (.string ⟨#[]⟩) := HQ3.out.cell 4
  have zf0 := HQ3.out.frozen 0
  have zf1 := HQ3.out.frozen 1
  have zf2 := HQ3.out.frozen 2
  have zf3 := HQ3.out.frozen 3
  have zf4 := HQ3.out.frozen 4
  obtain ⟨kd, ps, n, q, sx⟩ := p
  go_wp2_with fail
  refine bodyPost_ret (results_part (p := 4) (u := 5) rfl _ _ (W.heap.size + 1) _ rfl (HQ3.out.put5 _ _ _ _ _) rfl) rfl ?_
  exact ⟨⟨kd, ps, n, q, sx⟩, ev, rfl, HV3.out.put HQ3.out hlb hlsb (by omega) _ _ _ _ _⟩
/-- What stands up to a command's bracket. -/
def cmdR (pos : Nat) (t : List UInt8) : Except Er (Pt × List UInt8) := match pass (t.length + 2) 1 t with
  | none => .error ⟨1, pos⟩
  | some u => .ok (⟨4, pos, 0, false, t.take (t.length - u.length - 1)⟩, u)
theorem len_drop (s : ByteArray) (k : Nat) : (s.data.toList.drop k).length = s.size - k := by rw [List.length_drop]; simp
theorem cut_eq (s : ByteArray) (k j : Nat) (hkj : k < j) (hj : j ≤ s.size) : s.extract k (j - 1) = ⟨((s.data.toList.drop k).take ((s.data.toList.drop k).length - (s.data.toList.drop j).length - 1)).toArray⟩ := by
  rw [Lib.extract_eq, len_drop, len_drop, show s.size - k - (s.size - j) - 1 = j - 1 - k by omega]
set_option maxRecDepth 100000 in
set_option maxHeartbeats 2000000 in
theorem command_any {W : World} {b sb k : Nat} {s : ByteArray} {ea : Nat → Addr} (pos : Nat) (h : Rd W b sb s k) (hE : Env W ea) (hs : s.size < 1152921504606846976) (hk : k ≤ s.size) (hb64 : (ea 64).block ≤ b) :
    Calls Tryz.prog 60 #[.pointer (some ⟨b, 0, none⟩), .agg (ptC ⟨0, pos, 0, false, []⟩).toArray] W fun e w' => ∃ p ev, e = .returned (.tuple #[.agg (ptC p).toArray, ev]) ∧ PartV W b sb s ea (cmdR pos (s.data.toList.drop k)) p ev w' := by
  have hlb := h.rd.lt
  have hlsb := h.src.lt
  obtain ⟨W0, hW0, hS0, hE0, hz0, hp0, hq0⟩ := boxes h hE (ptC ⟨0, pos, 0, false, []⟩).toArray
  have HN : Hid _ := (pass_all b sb s hs ((s.data.toList.drop k).length + 2)).1 W0 k hS0.at_ (by omega) (by rw [len_drop]; omega)
  have hnb : ¬ W.heap.size = b := by omega
  have hnb2 : ¬ W.heap.size + 1 = b := by omega
  have cW := h.c1
  have HP0 : Hid (Cel W0 W.heap.size 36 (ptC ⟨0, pos, 0, false, []⟩).toArray) := hp0
  have HQ0 : Hid (Cel W0 (W.heap.size + 1) 36 zC) := hq0
  have HS0 : Hid (Stp W b sb s k W0) := hS0
  have HE0 : Hid (Env W0 ea) := hE0
  have HW0 : Hid ((W.alloc (.cells (ptC ⟨0, pos, 0, false, []⟩).toArray 36)).alloc (.cells zC 36) = W0) := hW0.symm
  clear h hE hW0 hS0 hE0 hp0 hq0
  cases hN : pass ((s.data.toList.drop k).length + 2) 1 (s.data.toList.drop k) with
  | none =>
    have HR : Hid (cmdR pos (s.data.toList.drop k) = .error ⟨1, pos⟩) := by unfold Hid cmdR; rw [hN]
    rw [HR.out]
    rw [hN] at HN
    clear hN HR
    go_enter Tryz.func60, Tryz.ntmps60
    go_wp2_with fail
    rw [HW0.out]
    refine Calls.mono HN.out ?_
    rintro e w1 ⟨rfl, jj, hS1, hj1, hj2, hL⟩
    have HS1 : Hid (Stp W b sb s jj w1) := HS0.out.trans hS1
    have HP1 : Hid (Cel w1 W.heap.size 36 (ptC ⟨0, pos, 0, false, []⟩).toArray) := HP0.out.turn hS1.turn (by omega)
    have HQ1 : Hid (Cel w1 (W.heap.size + 1) 36 zC) := HQ0.out.turn hS1.turn (by omega)
    have hE1 := HE0.out.stp hS1 hb64
    have g0 := hE1.cell 5 (by omega) (by omega)
    have a1 : w1.cell? ⟨W.heap.size, 1, none⟩ = some (.int .i64 (pos : Nat)) := HP1.out.cell 1
    clear hS1 hL HP0 HQ0 HS0 HE0 HN hE1
    go_wp2_with fail
    refine (fails_any pos _ w1).mono ?_
    rintro e w2 ⟨rfl, hq, hb2⟩
    have HQ2 : Hid (Cel w2 (W.heap.size + 1) 36 zC) := HQ1.out.below hb2 HQ1.out.lt
    have HX : Hid (AtEr w2 ea (.iface 79 (.pointer (some ⟨w1.heap.size, 0, none⟩))) ⟨1, pos⟩) := ⟨_, rfl, hq⟩
    have HS2 : Hid (Stp W b sb s jj w2) := HS1.out.below hb2
    clear hq hb2 HQ1 HS1 HP1
    have z0 : w2.cell? ⟨W.heap.size + 1, 0, none⟩ = some (.int .i64 0) := HQ2.out.cell 0
    have z1 : w2.cell? ⟨W.heap.size + 1, 1, none⟩ = some (.int .i64 0) := HQ2.out.cell 1
    have z2 : w2.cell? ⟨W.heap.size + 1, 2, none⟩ = some (.int .i64 0) := HQ2.out.cell 2
    have z3 : w2.cell? ⟨W.heap.size + 1, 3, none⟩ = some (.bool false) := HQ2.out.cell 3
    have z4 : w2.cell? ⟨W.heap.size + 1, 4, none⟩ = some (.string ⟨#[]⟩) := HQ2.out.cell 4
    have zf0 := HQ2.out.frozen 0
    have zf1 := HQ2.out.frozen 1
    have zf2 := HQ2.out.frozen 2
    have zf3 := HQ2.out.frozen 3
    have zf4 := HQ2.out.frozen 4
    go_wp2_with fail
    refine bodyPost_ret (results_part (p := 4) (u := 5) rfl _ _ (W.heap.size + 1) _ rfl (HQ2.out.put5 _ _ _ _ _) rfl) rfl ?_
    exact ⟨ptZ, _, rfl, PartV.put (R := .error ⟨1, pos⟩) ⟨HX.out, jj, HS2.out⟩ HQ2.out hlb hlsb (by omega) _ _ _ _ _⟩
  | some u =>
    have HR : Hid (cmdR pos (s.data.toList.drop k) = .ok (⟨4, pos, 0, false, (s.data.toList.drop k).take ((s.data.toList.drop k).length - u.length - 1)⟩, u)) := by unfold Hid cmdR; rw [hN]
    rw [HR.out]
    rw [hN] at HN
    clear hN HR
    go_enter Tryz.func60, Tryz.ntmps60
    go_wp2_with fail
    rw [HW0.out]
    refine Calls.mono HN.out ?_
    rintro e w1 ⟨rfl, jj, hS1, hj1, hj2, hL⟩
    obtain ⟨rfl, hj3⟩ := hL u rfl
    have HS1 : Hid (Stp W b sb s jj w1) := HS0.out.trans hS1
    have HP1 : Hid (Cel w1 W.heap.size 36 (ptC ⟨0, pos, 0, false, []⟩).toArray) := HP0.out.turn hS1.turn (by omega)
    have HQ1 : Hid (Cel w1 (W.heap.size + 1) 36 zC) := HQ0.out.turn hS1.turn (by omega)
    have HCE : Hid _ := cut_eq s k jj hj1 hj3
    have hjj : ((jj : Int) - 1) = ((jj - 1 : Nat) : Int) := by omega
    have HSL : Hid (∀ w, (w.cell? ⟨b, 0, none⟩ = some (.pointer (some ⟨sb, 0, none⟩)) ∧ w.cell? ⟨b, 1, none⟩ = some (.int .i64 (jj : Nat)) ∧ w.cell? ⟨sb, 0, none⟩ = some (.string s)) → Calls Tryz.prog 54 #[.pointer (some ⟨sb, 0, none⟩), .int .i64 (k : Nat), .int .i64 ((jj : Int) - 1)] w fun e w' => e = .returned (.string (s.extract k (jj - 1))) ∧ w' = w) := fun w hw => by
      rw [hjj]
      exact slice_any sb s k (jj - 1) w hw.2.2 hk (by omega)
    have c0 := HS1.out.at_.c0
    have c1 := HS1.out.at_.c1
    have t0 := HS1.out.at_.t0
    have p0 : w1.cell? ⟨W.heap.size, 0, none⟩ = some (.int .i64 0) := HP1.out.cell 0
    have p1 : w1.cell? ⟨W.heap.size, 1, none⟩ = some (.int .i64 (pos : Nat)) := HP1.out.cell 1
    have p2 : w1.cell? ⟨W.heap.size, 2, none⟩ = some (.int .i64 0) := HP1.out.cell 2
    have p3 : w1.cell? ⟨W.heap.size, 3, none⟩ = some (.bool false) := HP1.out.cell 3
    have p4 : w1.cell? ⟨W.heap.size, 4, none⟩ = some (.string ⟨#[]⟩) := HP1.out.cell 4
    have q0 := HP1.out.frozen 0
    have q4 := HP1.out.frozen 4
    have hwr : IntKind.i64.wrap ((jj : Int) - 1) = (jj : Int) - 1 := by rw [IntKind.wrap_i64]; omega
    have hbn : ¬ b = W.heap.size := by omega
    have hsn : ¬ sb = W.heap.size := by omega
    have hns : ¬ W.heap.size = sb := by omega
    clear hS1 hL HP0 HQ0 HS0 HE0 HN hjj hz0 cW HW0
    go_wp2_with fail
    go_region_held3 (fun w' => w'.cell? ⟨b, 0, none⟩ = some (.pointer (some ⟨sb, 0, none⟩)) ∧ w'.cell? ⟨b, 1, none⟩ = some (.int .i64 (jj : Nat)) ∧ w'.cell? ⟨sb, 0, none⟩ = some (.string s)) (go_keep) (first | (go_at_call 54; refine Calls.mono (HSL.out _ (by assumption)) ?_; rintro e w2 ⟨rfl, rfl⟩))
    obtain ⟨W2, hW2⟩ : ∃ W2, W2 = ((w1.setCell ⟨W.heap.size, 0, none⟩ (.int .i64 4)).setCell ⟨W.heap.size, 4, none⟩ (.string (s.extract k (jj - 1)))).drew := ⟨_, rfl⟩
    have HP2 : Hid (Cel W2 W.heap.size 36 #[.int .i64 4, .int .i64 (pos : Nat), .int .i64 0, .bool false, .string (s.extract k (jj - 1))]) := by
      rw [hW2]
      exact (HP1.out.set (j := 0) (.int .i64 4)).set (j := 4) (.string (s.extract k (jj - 1)))
    have HQ2 : Hid (Cel W2 (W.heap.size + 1) 36 zC) := by
      rw [hW2]
      exact (HQ1.out.other (by omega) _).other (by omega) _
    have HS2 : Hid (Stp W b sb s jj W2) := by
      rw [hW2]
      exact ((HS1.out.other hlb hlsb (Nat.le_refl _) 0 _).other hlb hlsb (Nat.le_refl _) 4 _).drew
    rw [← hW2]
    clear hW2 HP1 HQ1 HS1 c0 c1 t0 p0 p1 p2 p3 p4 q0 q4 HSL
    rw [HCE.out] at HP2 ⊢
    obtain ⟨tx, HTX⟩ : ∃ tx, Hid ((s.data.toList.drop k).take ((s.data.toList.drop k).length - (s.data.toList.drop jj).length - 1) = tx) := ⟨_, rfl⟩
    rw [HTX.out] at HP2 ⊢
    have r0 : W2.cell? ⟨W.heap.size, 0, none⟩ = some (.int .i64 4) := HP2.out.cell 0
    have r1 : W2.cell? ⟨W.heap.size, 1, none⟩ = some (.int .i64 (pos : Nat)) := HP2.out.cell 1
    have r2 : W2.cell? ⟨W.heap.size, 2, none⟩ = some (.int .i64 0) := HP2.out.cell 2
    have r3 : W2.cell? ⟨W.heap.size, 3, none⟩ = some (.bool false) := HP2.out.cell 3
    have r4 : W2.cell? ⟨W.heap.size, 4, none⟩ = some (.string ⟨tx.toArray⟩) := HP2.out.cell 4
    have z0 : W2.cell? ⟨W.heap.size + 1, 0, none⟩ = some (.int .i64 0) := HQ2.out.cell 0
    have z1 : W2.cell? ⟨W.heap.size + 1, 1, none⟩ = some (.int .i64 0) := HQ2.out.cell 1
    have z2 : W2.cell? ⟨W.heap.size + 1, 2, none⟩ = some (.int .i64 0) := HQ2.out.cell 2
    have z3 : W2.cell? ⟨W.heap.size + 1, 3, none⟩ = some (.bool false) := HQ2.out.cell 3
    have z4 : W2.cell? ⟨W.heap.size + 1, 4, none⟩ = some (.string ⟨#[]⟩) := HQ2.out.cell 4
    have zf0 := HQ2.out.frozen 0
    have zf1 := HQ2.out.frozen 1
    have zf2 := HQ2.out.frozen 2
    have zf3 := HQ2.out.frozen 3
    have zf4 := HQ2.out.frozen 4
    go_wp2_with fail
    refine bodyPost_ret (results_part (p := 4) (u := 5) rfl _ _ (W.heap.size + 1) _ rfl (HQ2.out.put5 _ _ _ _ _) rfl) rfl ?_
    rw [HTX.out]
    exact ⟨⟨4, pos, 0, false, tx⟩, _, rfl, PartV.put (R := .ok (⟨4, pos, 0, false, tx⟩, s.data.toList.drop jj)) ⟨rfl, rfl, jj, HS2.out, hj3, rfl⟩ HQ2.out hlb hlsb (by omega) _ _ _ _ _⟩
end Go.Proofs.YtnlbjgioleoihaaGreatDoor
