/- A braced word. -/
import Derived.Test.YtlihkblllakhmaaGreatDoorRd12
namespace Go.Proofs.YtlihkblllakhmaaGreatDoor
open Go.RowKit
attribute [local go_sem] Oper.semAt_some

def bracedR (N k : Nat) (t : List UInt8) : Except Er (Wd × List UInt8) := match passB 0 t with
  | none => .error ⟨4, k⟩
  | some u => closedL N ⟨k, true, [⟨1, k + 1, 0, t.take (t.length - u.length - 1)⟩]⟩ u
/-- What has to end here, by the byte that is there. -/
theorem closedL_at (s : ByteArray) (j : Nat) (w : Wd) (_ : j ≤ s.size) : closedL s.size w (s.data.toList.drop j) = if endQ endS s.data.toList[j]? then .ok (w, s.data.toList.drop j) else .error ⟨3, j⟩ := by
  by_cases h : j < s.size
  · rw [text_at s j h, drop_cons s j h, closedL]
    show (if endS.contains s[j] = true then _ else _) = if endS.contains s[j] = true then _ else _
    rw [len_drop, show s.size - (s.size - (j + 1) + 1) = j by omega]
  · rw [at_none s j h, drop_none s j h]
    rfl
set_option maxRecDepth 100000 in
set_option maxHeartbeats 4000000 in
theorem braced_any {W : World} {b sb k : Nat} {s : ByteArray} {ea : Nat → Addr} (h : Rd W b sb s k) (hE : Env W ea) (hs : s.size ≤ 8192) (hk : k < s.size) (hc : s[k] = 123) (hb64 : (ea 64).block ≤ b) :
    Calls Tryz.prog 50 #[.pointer (some ⟨b, 0, none⟩)] W fun e' w' => ∃ v ev, e' = .returned (.tuple #[.agg v, ev]) ∧ WordV W b sb s ea (bracedR s.size k (s.data.toList.drop (k + 1))) v ev w' := by
  have hlb := h.rd.lt
  have hlsb := h.src.lt
  obtain ⟨W0, hW0⟩ : ∃ W0, W0 = W.alloc (.cells zW 44) := ⟨_, rfl⟩
  have HS0 : Hid (Stp W b sb s k W0) := by rw [hW0]; exact (Stp.refl h).alloc _
  have HQ0 : Hid (Cel W0 W.heap.size 44 zW) := by rw [hW0]; exact Cel.new W _ _
  have HE0 : Hid (Env W0 ea) := by rw [hW0]; exact hE.below (below_new W _)
  have hz0 : W0.heap.size = W.heap.size + 1 := by rw [hW0]; simp
  have HW0 : Hid (W.alloc (.cells zW 44) = W0) := hW0.symm
  have HN : Hid _ := passBraces_any HS0.out.at_ (by omega) hk hc
  have cW : W.cell? ⟨b, 1, none⟩ = some (.int .i64 (k : Nat)) := h.c1
  have hnb : ¬ W.heap.size = b := by omega
  have hbn : ¬ b = W.heap.size := by omega
  have hsn : ¬ sb = W.heap.size := by omega
  have hns : ¬ W.heap.size = sb := by omega
  unfold bracedR
  clear h hE hW0 hc
  cases hN : passB 0 (s.data.toList.drop (k + 1)) with
  | none =>
    rw [hN] at HN
    simp only
    clear hN
    go_enter Tryz.func50, Tryz.ntmps50
    go_wp2_with fail
    rw [HW0.out]
    refine Calls.mono HN.out ?_
    rintro e w1 ⟨rfl, jj, hS1, hj1, hj2, hL⟩
    have HS1 : Hid (Stp W b sb s jj w1) := HS0.out.trans hS1
    have HQ1 : Hid (Cel w1 W.heap.size 44 zW) := HQ0.out.turn hS1.turn (by omega)
    have hE1 := HE0.out.stp hS1 hb64
    have g0 := hE1.cell 1 (by omega)
    clear hS1 hL HQ0 HS0 HE0 HN hE1 cW
    go_wp2_with fail
    refine (fails_any k _ w1).mono ?_
    rintro e w2 ⟨rfl, hq, hb2⟩
    have HQ2 : Hid (Cel w2 W.heap.size 44 zW) := HQ1.out.below hb2 HQ1.out.lt
    have HX : Hid (AtEr w2 ea (.iface 119 (.pointer (some ⟨w1.heap.size, 0, none⟩))) ⟨4, k⟩) := ⟨_, rfl, hq⟩
    have HS2 : Hid (Stp W b sb s jj w2) := HS1.out.below hb2
    clear hq hb2 HQ1 HS1
    have z0 : w2.cell? ⟨W.heap.size, 0, none⟩ = some (.int .i64 0) := HQ2.out.cell 0
    have z1 : w2.cell? ⟨W.heap.size, 1, none⟩ = some (.bool false) := HQ2.out.cell 1
    have z2 : w2.cell? ⟨W.heap.size, 2, none⟩ = some (.slice none 0 0) := HQ2.out.cell 2
    have zf0 := HQ2.out.frozen 0
    have zf1 := HQ2.out.frozen 1
    have zf2 := HQ2.out.frozen 2
    go_wp2_with fail
    refine bodyPost_ret (results_word (p := 2) (u := 3) rfl _ _ W.heap.size _ rfl (HQ2.out.put3 _ _ _) rfl) rfl ?_
    exact ⟨_, _, rfl, rfl, HX.out.putW HQ2.out _ _ _, jj, HS2.out.put3 hlb hlsb (Nat.le_refl _) _ _ _⟩
  | some u =>
    rw [hN] at HN
    simp only
    have hult := passB_lt _ _ _ _ (Nat.le_refl _) hN
    rw [len_drop] at hult
    clear hN
    go_enter Tryz.func50, Tryz.ntmps50
    go_wp2_with fail
    rw [HW0.out]
    refine Calls.mono HN.out ?_
    rintro e w1 ⟨rfl, jj, hS1, hj1, hj2, hL⟩
    obtain ⟨rfl, hj3⟩ := hL u rfl
    rw [len_drop] at hult
    have hj4 : k + 1 < jj := by omega
    have HS1 : Hid (Stp W b sb s jj w1) := HS0.out.trans hS1
    have HQ1 : Hid (Cel w1 W.heap.size 44 zW) := HQ0.out.turn hS1.turn (by omega)
    have HE1 : Hid (Env w1 ea) := HE0.out.stp hS1 hb64
    have hzw : W0.heap.size ≤ w1.heap.size := hS1.turn.size
    have hjj : ((jj : Int) - 1) = ((jj - 1 : Nat) : Int) := by omega
    have HSL : Hid (∀ w, (w.cell? ⟨b, 0, none⟩ = some (.pointer (some ⟨sb, 0, none⟩)) ∧ w.cell? ⟨b, 1, none⟩ = some (.int .i64 (jj : Nat)) ∧ w.cell? ⟨sb, 0, none⟩ = some (.string s)) → Calls Tryz.prog 66 #[.pointer (some ⟨sb, 0, none⟩), .int .i64 ((k : Int) + 1), .int .i64 ((jj : Int) - 1)] w fun e w' => e = .returned (.string (s.extract (k + 1) (jj - 1))) ∧ w' = w) := fun w hw => by
      rw [hjj]
      exact slice_any sb s (k + 1) (jj - 1) w hw.2.2 (by omega) (by omega)
    have c0 := HS1.out.at_.c0
    have c1 := HS1.out.at_.c1
    have t0 := HS1.out.at_.t0
    have hwr : IntKind.i64.wrap ((jj : Int) - 1) = (jj : Int) - 1 := by rw [IntKind.wrap_i64]; omega
    have hwr2 : IntKind.i64.wrap ((k : Int) + 1) = (k : Int) + 1 := by rw [IntKind.wrap_i64]; omega
    have hblt : b < w1.heap.size := by omega
    have hslt : sb < w1.heap.size := by omega
    clear hS1 hL HQ0 HS0 HE0 HN hjj cW HW0
    go_wp2_with fail
    go_region_held3 (fun w' => w'.cell? ⟨b, 0, none⟩ = some (.pointer (some ⟨sb, 0, none⟩)) ∧ w'.cell? ⟨b, 1, none⟩ = some (.int .i64 (jj : Nat)) ∧ w'.cell? ⟨sb, 0, none⟩ = some (.string s)) (go_keep) (first | (go_at_call 66; refine Calls.mono (HSL.out _ (by assumption)) ?_; rintro e w2 ⟨rfl, rfl⟩))
    all_goals
      have HCE : Hid _ := cut_eq s (k + 1) jj hj4 hj3
      rw [HCE.out]
      obtain ⟨tx, HTX⟩ : ∃ tx, Hid ((s.data.toList.drop (k + 1)).take ((s.data.toList.drop (k + 1)).length - (s.data.toList.drop jj).length - 1) = tx) := ⟨_, rfl⟩
      rw [HTX.out]
      obtain ⟨W2, hW2⟩ : ∃ W2, W2 = (w1.alloc (.cells #[.int .i64 1, .int .i64 ((k : Int) + 1), .int .i64 0, str tx] 59)).drew := ⟨_, rfl⟩
      have HS2 : Hid (Stp W b sb s jj W2) := by rw [hW2]; exact (HS1.out.alloc _).drew
      have HQ2 : Hid (Cel W2 W.heap.size 44 zW) := by rw [hW2]; exact Cel.drew (HQ1.out.below (below_new _ _) HQ1.out.lt)
      have HP2 : Hid (Cel W2 w1.heap.size 59 #[.int .i64 1, .int .i64 ((k : Int) + 1), .int .i64 0, str tx]) := by rw [hW2]; exact Cel.drew (Cel.new w1 _ _)
      have hzW2 : W.heap.size + 1 ≤ W2.heap.size := by rw [hW2]; simp [World.drew]; omega
      have HE2 : Hid (Env W2 ea) := by rw [hW2]; exact HE1.out.below ((below_new w1 _).trans ⟨rfl, rfl, rfl, Nat.le_refl _, fun _ _ => rfl⟩)
      rw [← hW2]
      clear hW2 HS1 HQ1 HE1 HSL c0 c1 t0 HCE hwr hwr2
      have p0 : W2.cell? ⟨w1.heap.size, 0, none⟩ = some (.int .i64 1) := HP2.out.cell 0
      have p1 : W2.cell? ⟨w1.heap.size, 1, none⟩ = some (.int .i64 ((k : Int) + 1)) := HP2.out.cell 1
      have p2 : W2.cell? ⟨w1.heap.size, 2, none⟩ = some (.int .i64 0) := HP2.out.cell 2
      have p3 : W2.cell? ⟨w1.heap.size, 3, none⟩ = some (str tx) := HP2.out.cell 3
      obtain ⟨W3, hW3⟩ : ∃ W3, W3 = W2.alloc (.cells (ptC ⟨1, k + 1, 0, tx⟩).toArray 59) := ⟨_, rfl⟩
      have HW3 : Hid (W2.alloc (.cells #[.int .i64 1, .int .i64 ((k : Int) + 1), .int .i64 0, str tx] 59) = W3) := hW3.symm
      have HS3 : Hid (Stp W b sb s jj W3) := by rw [hW3]; exact HS2.out.alloc _
      have HQ3 : Hid (Cel W3 W.heap.size 44 zW) := by rw [hW3]; exact HQ2.out.below (below_new _ _) HQ2.out.lt
      have HO3 : Hid (PtOwn W3 (W.heap.size + 1) (.slice (some ⟨W2.heap.size, 0, none⟩) 1 1) [⟨1, k + 1, 0, tx⟩]) := by rw [hW3]; exact PtOwn.one W2 _ _ hzW2
      have HE3 : Hid (Env W3 ea) := by rw [hW3]; exact HE2.out.below (below_new _ _)
      clear hW3 HS2 HQ2 HE2 HP2
      cases hq : endQ endS s.data.toList[jj]? with
      | true =>
        have HQQ : Hid (endQ endS s.data.toList[jj]? = true) := hq
        have HC : Hid _ := closed_yes HS3.out.at_ hq k true (some ⟨W2.heap.size, 0, none⟩) 1 1
        clear hq HE3
        go_wp2_with fail
        rw [HW3.out]
        refine Calls.mono HC.out ?_
        rintro e' w4 ⟨rfl, hst⟩
        have HS4 : Hid (Stp W b sb s jj w4) := HS3.out.trans hst
        have HQ4 : Hid (Cel w4 W.heap.size 44 zW) := HQ3.out.turn hst.turn (by omega)
        have HO4 : Hid (PtOwn w4 (W.heap.size + 1) (.slice (some ⟨W2.heap.size, 0, none⟩) 1 1) [⟨1, k + 1, 0, tx⟩]) := HO3.out.turn hst.turn (fun i e => by omega)
        clear hst HS3 HQ3 HO3 HC HW3 p0 p1 p2 p3
        have z0 : w4.cell? ⟨W.heap.size, 0, none⟩ = some (.int .i64 0) := HQ4.out.cell 0
        have z1 : w4.cell? ⟨W.heap.size, 1, none⟩ = some (.bool false) := HQ4.out.cell 1
        have z2 : w4.cell? ⟨W.heap.size, 2, none⟩ = some (.slice none 0 0) := HQ4.out.cell 2
        have zf0 := HQ4.out.frozen 0
        have zf1 := HQ4.out.frozen 1
        have zf2 := HQ4.out.frozen 2
        go_wp2_with fail
        refine bodyPost_ret (results_word (p := 2) (u := 3) rfl _ _ W.heap.size _ rfl (HQ4.out.put3 _ _ _) rfl) rfl ?_
        refine ⟨_, _, rfl, ?_⟩
        rw [closedL_at s jj _ hj3, HQQ.out, if_pos rfl, HTX.out]
        exact ⟨rfl, ⟨_, rfl, (HO4.out.turn (Turn.putW _ _ _ _ _) (fun i e => by omega)).lower (by omega)⟩, jj, HS4.out.put3 hlb hlsb (Nat.le_refl _) _ _ _, hj3, rfl⟩
      | false =>
        have HQQ : Hid (endQ endS s.data.toList[jj]? = false) := hq
        have HC : Hid _ := closed_no HS3.out.at_ HE3.out hb64 hq k true (some ⟨W2.heap.size, 0, none⟩) 1 1
        clear hq HE3
        go_wp2_with fail
        rw [HW3.out]
        refine Calls.mono HC.out ?_
        rintro e' w4 ⟨q, rfl, hx, hst⟩
        have HS4 : Hid (Stp W b sb s jj w4) := HS3.out.trans hst
        have HQ4 : Hid (Cel w4 W.heap.size 44 zW) := HQ3.out.turn hst.turn (by omega)
        have HX4 : Hid (AtEr w4 ea (.iface 119 (.pointer (some ⟨q, 0, none⟩))) ⟨3, jj⟩) := hx
        clear hst hx HS3 HQ3 HO3 HC HW3 p0 p1 p2 p3
        have z0 : w4.cell? ⟨W.heap.size, 0, none⟩ = some (.int .i64 0) := HQ4.out.cell 0
        have z1 : w4.cell? ⟨W.heap.size, 1, none⟩ = some (.bool false) := HQ4.out.cell 1
        have z2 : w4.cell? ⟨W.heap.size, 2, none⟩ = some (.slice none 0 0) := HQ4.out.cell 2
        have zf0 := HQ4.out.frozen 0
        have zf1 := HQ4.out.frozen 1
        have zf2 := HQ4.out.frozen 2
        go_wp2_with fail
        refine bodyPost_ret (results_word (p := 2) (u := 3) rfl _ _ W.heap.size _ rfl (HQ4.out.put3 _ _ _) rfl) rfl ?_
        refine ⟨_, _, rfl, ?_⟩
        rw [closedL_at s jj _ hj3, HQQ.out, if_neg (by simp)]
        exact ⟨rfl, HX4.out.putW HQ4.out _ _ _, jj, HS4.out.put3 hlb hlsb (Nat.le_refl _) _ _ _⟩
end Go.Proofs.YtlihkblllakhmaaGreatDoor
