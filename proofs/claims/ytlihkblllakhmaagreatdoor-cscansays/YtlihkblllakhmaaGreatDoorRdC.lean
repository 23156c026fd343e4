/- A quoted word. -/
import Derived.Test.YtlihkblllakhmaaGreatDoorRdB
/-! A braced word. -/
namespace Go.Proofs.YtlihkblllakhmaaGreatDoor
open Go.RowKit
attribute [local go_sem] Oper.semAt_some

def bracedR (N k : Nat) (t : List UInt8) : Except Er (Wd × List UInt8) := match passB 0 t with
  | none => .error ⟨4, k⟩
  | some u => closedL N ⟨k, true, [⟨1, k + 1, 0, t.take (t.length - u.length - 1)⟩]⟩ u
/-- What has to end here, by the byte that is there. -/
theorem closedL_at (s : ByteArray) (j : Nat) (w : Wd) (_ : j ≤ s.size) : closedL s.size w (s.data.toList.drop j) = if endQ endS s.data.toList[j]? then .ok (w, s.data.toList.drop j) else .error ⟨3, j⟩ := by
  by_cases h : j < s.size
  · rw [text_at s j h, drop_cons s j h, closedL]
    show (if endS.contains s[j] = true then _ else _) = if endS.contains s[j] = true then _ else _
    rw [len_drop, show s.size - (s.size - (j + 1) + 1) = j by omega]
  · rw [at_none s j h, drop_none s j h]
    rfl
set_option maxRecDepth 100000 in
set_option maxHeartbeats 4000000 in
theorem braced_any {W : World} {b sb k : Nat} {s : ByteArray} {ea : Nat → Addr} (h : Rd W b sb s k) (hE : Env W ea) (hs : s.size ≤ 8192) (hk : k < s.size) (hc : s[k] = 123) (hb64 : (ea 64).block ≤ b) :
    Calls Tryz.prog 50 #[.pointer (some ⟨b, 0, none⟩)] W fun e' w' => ∃ v ev, e' = .returned (.tuple #[.agg v, ev]) ∧ WordV W b sb s ea (bracedR s.size k (s.data.toList.drop (k + 1))) v ev w' := by
  have hlb := h.rd.lt
  have hlsb := h.src.lt
  obtain ⟨W0, hW0⟩ : ∃ W0, W0 = W.alloc (.cells zW 44) := ⟨_, rfl⟩
  have HS0 : Hid (Stp W b sb s k W0) := by rw [hW0]; exact (Stp.refl h).alloc _
  have HQ0 : Hid (Cel W0 W.heap.size 44 zW) := by rw [hW0]; exact Cel.new W _ _
  have HE0 : Hid (Env W0 ea) := by rw [hW0]; exact hE.below (below_new W _)
  have hz0 : W0.heap.size = W.heap.size + 1 := by rw [hW0]; simp
  have HW0 : Hid (W.alloc (.cells zW 44) = W0) := hW0.symm
  have HN : Hid _ := passBraces_any HS0.out.at_ (by omega) hk hc
  have cW : W.cell? ⟨b, 1, none⟩ = some (.int .i64 (k : Nat)) := h.c1
  have hnb : ¬ W.heap.size = b := by omega
  have hbn : ¬ b = W.heap.size := by omega
  have hsn : ¬ sb = W.heap.size := by omega
  have hns : ¬ W.heap.size = sb := by omega
  unfold bracedR
  clear h hE hW0 hc
  cases hN : passB 0 (s.data.toList.drop (k + 1)) with
  | none =>
    rw [hN] at HN
    simp only
    clear hN
    go_enter Tryz.func50, Tryz.ntmps50
    go_wp2_with fail
    rw [HW0.out]
    refine Calls.mono HN.out ?_
    rintro e w1 ⟨rfl, jj, hS1, hj1, hj2, hL⟩
    have HS1 : Hid (Stp W b sb s jj w1) := HS0.out.trans hS1
    have HQ1 : Hid (Cel w1 W.heap.size 44 zW) := HQ0.out.turn hS1.turn (by omega)
    have hE1 := HE0.out.stp hS1 hb64
    have g0 := hE1.cell 1 (by omega)
    clear hS1 hL HQ0 HS0 HE0 HN hE1 cW
    go_wp2_with fail
    refine (fails_any k _ w1).mono ?_
    rintro e w2 ⟨rfl, hq, hb2⟩
    have HQ2 : Hid (Cel w2 W.heap.size 44 zW) := HQ1.out.below hb2 HQ1.out.lt
    have HX : Hid (AtEr w2 ea (.iface 119 (.pointer (some ⟨w1.heap.size, 0, none⟩))) ⟨4, k⟩) := ⟨_, rfl, hq⟩
    have HS2 : Hid (Stp W b sb s jj w2) := HS1.out.below hb2
    clear hq hb2 HQ1 HS1
    have z0 : w2.cell? ⟨W.heap.size, 0, none⟩ = some (.int .i64 0) := HQ2.out.cell 0
    have z1 : w2.cell? ⟨W.heap.size, 1, none⟩ = some (.bool false) := HQ2.out.cell 1
    have z2 : w2.cell? ⟨W.heap.size, 2, none⟩ = some (.slice none 0 0) := HQ2.out.cell 2
    have zf0 := HQ2.out.frozen 0
    have zf1 := HQ2.out.frozen 1
    have zf2 := HQ2.out.frozen 2
    go_wp2_with fail
    refine bodyPost_ret (results_word (p := 2) (u := 3) rfl _ _ W.heap.size _ rfl (HQ2.out.put3 _ _ _) rfl) rfl ?_
    exact ⟨_, _, rfl, rfl, HX.out.putW HQ2.out _ _ _, jj, HS2.out.put3 hlb hlsb (Nat.le_refl _) _ _ _⟩
  | some u =>
    rw [hN] at HN
    simp only
    have hult := passB_lt _ _ _ _ (Nat.le_refl _) hN
    rw [len_drop] at hult
    clear hN
    go_enter Tryz.func50, Tryz.ntmps50
    go_wp2_with fail
    rw [HW0.out]
    refine Calls.mono HN.out ?_
    rintro e w1 ⟨rfl, jj, hS1, hj1, hj2, hL⟩
    obtain ⟨rfl, hj3⟩ := hL u rfl
    rw [len_drop] at hult
    have hj4 : k + 1 < jj := by omega
    have HS1 : Hid (Stp W b sb s jj w1) := HS0.out.trans hS1
    have HQ1 : Hid (Cel w1 W.heap.size 44 zW) := HQ0.out.turn hS1.turn (by omega)
    have HE1 : Hid (Env w1 ea) := HE0.out.stp hS1 hb64
    have hzw : W0.heap.size ≤ w1.heap.size := hS1.turn.size
    have hjj : ((jj : Int) - 1) = ((jj - 1 : Nat) : Int) := by omega
    have HSL : Hid (∀ w, (w.cell? ⟨b, 0, none⟩ = some (.pointer (some ⟨sb, 0, none⟩)) ∧ w.cell? ⟨b, 1, none⟩ = some (.int .i64 (jj : Nat)) ∧ w.cell? ⟨sb, 0, none⟩ = some (.string s)) → Calls Tryz.prog 66 #[.pointer (some ⟨sb, 0, none⟩), .int .i64 ((k : Int) + 1), .int .i64 ((jj : Int) - 1)] w fun e w' => e = .returned (.string (s.extract (k + 1) (jj - 1))) ∧ w' = w) := fun w hw => by
      rw [hjj]
      exact slice_any sb s (k + 1) (jj - 1) w hw.2.2 (by omega) (by omega)
    have c0 := HS1.out.at_.c0
    have c1 := HS1.out.at_.c1
    have t0 := HS1.out.at_.t0
    have hwr : IntKind.i64.wrap ((jj : Int) - 1) = (jj : Int) - 1 := by rw [IntKind.wrap_i64]; omega
    have hwr2 : IntKind.i64.wrap ((k : Int) + 1) = (k : Int) + 1 := by rw [IntKind.wrap_i64]; omega
    have hblt : b < w1.heap.size := by omega
    have hslt : sb < w1.heap.size := by omega
    clear hS1 hL HQ0 HS0 HE0 HN hjj cW HW0
    go_wp2_with fail
    go_region_held3 (fun w' => w'.cell? ⟨b, 0, none⟩ = some (.pointer (some ⟨sb, 0, none⟩)) ∧ w'.cell? ⟨b, 1, none⟩ = some (.int .i64 (jj : Nat)) ∧ w'.cell? ⟨sb, 0, none⟩ = some (.string s)) (go_keep) (first | (go_at_call 66; refine Calls.mono (HSL.out _ (by assumption)) ?_; rintro e w2 ⟨rfl, rfl⟩))
    all_goals
      have HCE : Hid _ := cut_eq s (k + 1) jj hj4 hj3
      rw [HCE.out]
      obtain ⟨tx, HTX⟩ : ∃ tx, Hid ((s.data.toList.drop (k + 1)).take ((s.data.toList.drop (k + 1)).length - (s.data.toList.drop jj).length - 1) = tx) := ⟨_, rfl⟩
      rw [HTX.out]
      obtain ⟨W2, hW2⟩ : ∃ W2, W2 = (w1.alloc (.cells #[.int .i64 1, .int .i64 ((k : Int) + 1), .int .i64 0, str tx] 59)).drew := ⟨_, rfl⟩
      have HS2 : Hid (Stp W b sb s jj W2) := by rw [hW2]; exact (HS1.out.alloc _).drew
      have HQ2 : Hid (Cel W2 W.heap.size 44 zW) := by rw [hW2]; exact Cel.drew (HQ1.out.below (below_new _ _) HQ1.out.lt)
      have HP2 : Hid (Cel W2 w1.heap.size 59 #[.int .i64 1, .int .i64 ((k : Int) + 1), .int .i64 0, str tx]) := by rw [hW2]; exact Cel.drew (Cel.new w1 _ _)
      have hzW2 : W.heap.size + 1 ≤ W2.heap.size := by rw [hW2]; simp [World.drew]; omega
      have HE2 : Hid (Env W2 ea) := by rw [hW2]; exact HE1.out.below ((below_new w1 _).trans ⟨rfl, rfl, rfl, Nat.le_refl _, fun _ _ => rfl⟩)
      rw [← hW2]
      clear hW2 HS1 HQ1 HE1 HSL c0 c1 t0 HCE hwr hwr2
      have p0 : W2.cell? ⟨w1.heap.size, 0, none⟩ = some (.int .i64 1) := HP2.out.cell 0
      have p1 : W2.cell? ⟨w1.heap.size, 1, none⟩ = some (.int .i64 ((k : Int) + 1)) := HP2.out.cell 1
      have p2 : W2.cell? ⟨w1.heap.size, 2, none⟩ = some (.int .i64 0) := HP2.out.cell 2
      have p3 : W2.cell? ⟨w1.heap.size, 3, none⟩ = some (str tx) := HP2.out.cell 3
      obtain ⟨W3, hW3⟩ : ∃ W3, W3 = W2.alloc (.cells (ptC ⟨1, k + 1, 0, tx⟩).toArray 59) := ⟨_, rfl⟩
      have HW3 : Hid (W2.alloc (.cells #[.int .i64 1, .int .i64 ((k : Int) + 1), .int .i64 0, str tx] 59) = W3) := hW3.symm
      have HS3 : Hid (Stp W b sb s jj W3) := by rw [hW3]; exact HS2.out.alloc _
      have HQ3 : Hid (Cel W3 W.heap.size 44 zW) := by rw [hW3]; exact HQ2.out.below (below_new _ _) HQ2.out.lt
      have HO3 : Hid (PtOwn W3 (W.heap.size + 1) (.slice (some ⟨W2.heap.size, 0, none⟩) 1 1) [⟨1, k + 1, 0, tx⟩]) := by rw [hW3]; exact PtOwn.one W2 _ _ hzW2
      have HE3 : Hid (Env W3 ea) := by rw [hW3]; exact HE2.out.below (below_new _ _)
      clear hW3 HS2 HQ2 HE2 HP2
      cases hq : endQ endS s.data.toList[jj]? with
      | true =>
        have HQQ : Hid (endQ endS s.data.toList[jj]? = true) := hq
        have HC : Hid _ := closed_yes HS3.out.at_ hq k true (some ⟨W2.heap.size, 0, none⟩) 1 1
        clear hq HE3
        go_wp2_with fail
        rw [HW3.out]
        refine Calls.mono HC.out ?_
        rintro e' w4 ⟨rfl, hst⟩
        have HS4 : Hid (Stp W b sb s jj w4) := HS3.out.trans hst
        have HQ4 : Hid (Cel w4 W.heap.size 44 zW) := HQ3.out.turn hst.turn (by omega)
        have HO4 : Hid (PtOwn w4 (W.heap.size + 1) (.slice (some ⟨W2.heap.size, 0, none⟩) 1 1) [⟨1, k + 1, 0, tx⟩]) := HO3.out.turn hst.turn (fun i e => by omega)
        clear hst HS3 HQ3 HO3 HC HW3 p0 p1 p2 p3
        have z0 : w4.cell? ⟨W.heap.size, 0, none⟩ = some (.int .i64 0) := HQ4.out.cell 0
        have z1 : w4.cell? ⟨W.heap.size, 1, none⟩ = some (.bool false) := HQ4.out.cell 1
        have z2 : w4.cell? ⟨W.heap.size, 2, none⟩ = some (.slice none 0 0) := HQ4.out.cell 2
        have zf0 := HQ4.out.frozen 0
        have zf1 := HQ4.out.frozen 1
        have zf2 := HQ4.out.frozen 2
        go_wp2_with fail
        refine bodyPost_ret (results_word (p := 2) (u := 3) rfl _ _ W.heap.size _ rfl (HQ4.out.put3 _ _ _) rfl) rfl ?_
        refine ⟨_, _, rfl, ?_⟩
        rw [closedL_at s jj _ hj3, HQQ.out, if_pos rfl, HTX.out]
        exact ⟨rfl, ⟨_, rfl, (HO4.out.turn (Turn.putW _ _ _ _ _) (fun i e => by omega)).lower (by omega)⟩, jj, HS4.out.put3 hlb hlsb (Nat.le_refl _) _ _ _, hj3, rfl⟩
      | false =>
        have HQQ : Hid (endQ endS s.data.toList[jj]? = false) := hq
        have HC : Hid _ := closed_no HS3.out.at_ HE3.out hb64 hq k true (some ⟨W2.heap.size, 0, none⟩) 1 1
        clear hq HE3
        go_wp2_with fail
        rw [HW3.out]
        refine Calls.mono HC.out ?_
        rintro e' w4 ⟨q, rfl, hx, hst⟩
        have HS4 : Hid (Stp W b sb s jj w4) := HS3.out.trans hst
        have HQ4 : Hid (Cel w4 W.heap.size 44 zW) := HQ3.out.turn hst.turn (by omega)
        have HX4 : Hid (AtEr w4 ea (.iface 119 (.pointer (some ⟨q, 0, none⟩))) ⟨3, jj⟩) := hx
        clear hst hx HS3 HQ3 HO3 HC HW3 p0 p1 p2 p3
        have z0 : w4.cell? ⟨W.heap.size, 0, none⟩ = some (.int .i64 0) := HQ4.out.cell 0
        have z1 : w4.cell? ⟨W.heap.size, 1, none⟩ = some (.bool false) := HQ4.out.cell 1
        have z2 : w4.cell? ⟨W.heap.size, 2, none⟩ = some (.slice none 0 0) := HQ4.out.cell 2
        have zf0 := HQ4.out.frozen 0
        have zf1 := HQ4.out.frozen 1
        have zf2 := HQ4.out.frozen 2
        go_wp2_with fail
        refine bodyPost_ret (results_word (p := 2) (u := 3) rfl _ _ W.heap.size _ rfl (HQ4.out.put3 _ _ _) rfl) rfl ?_
        refine ⟨_, _, rfl, ?_⟩
        rw [closedL_at s jj _ hj3, HQQ.out, if_neg (by simp)]
        exact ⟨rfl, HX4.out.putW HQ4.out _ _ _, jj, HS4.out.put3 hlb hlsb (Nat.le_refl _) _ _ _⟩
end Go.Proofs.YtlihkblllakhmaaGreatDoor
namespace Go.Proofs.YtlihkblllakhmaaGreatDoor
open Go.RowKit
attribute [local go_sem] Oper.semAt_some

def quotedR (N k f : Nat) (t : List UInt8) : Except Er (Wd × List UInt8) := match partsL N [34] f t with
  | .error x => .error x
  | .ok (_, []) => .error ⟨2, k⟩
  | .ok (ps, _ :: u) => closedL N ⟨k, false, if ps.isEmpty then [⟨1, k, 0, []⟩] else ps⟩ u
set_option maxRecDepth 100000 in
set_option maxHeartbeats 4000000 in
theorem quoted_any {W : World} {b sb k f : Nat} {s : ByteArray} {ea : Nat → Addr} (h : Rd W b sb s k) (hE : Env W ea) (hs : s.size ≤ 8192) (hk : k < s.size) (hf : s.size - (k + 1) ≤ f) (hb64 : (ea 64).block ≤ b) :
    Calls Tryz.prog 51 #[.pointer (some ⟨b, 0, none⟩)] W fun e' w' => ∃ v ev, e' = .returned (.tuple #[.agg v, ev]) ∧ WordV W b sb s ea (quotedR s.size k f (s.data.toList.drop (k + 1))) v ev w' := by
  have hlb := h.rd.lt
  have hlsb := h.src.lt
  obtain ⟨V, hV⟩ : ∃ V, V = W.setCell ⟨b, 1, none⟩ (.int .i64 (k + 1 : Nat)) := ⟨_, rfl⟩
  have HSV : Hid (Stp W b sb s (k + 1) V) := by rw [hV]; exact (Stp.refl h).set (k + 1)
  have hzV : V.heap.size = W.heap.size := by rw [hV]; simp
  have hnb : ¬ W.heap.size = b := by omega
  have hbn : ¬ b = W.heap.size := by omega
  obtain ⟨W1, hW1⟩ : ∃ W1, W1 = V.alloc (.cells zW 44) := ⟨_, rfl⟩
  have HS1 : Hid (Stp W b sb s (k + 1) W1) := by rw [hW1]; exact HSV.out.alloc _
  have HQ1 : Hid (Cel W1 W.heap.size 44 zW) := by rw [hW1, ← hzV]; exact Cel.new V _ _
  have HE1 : Hid (Env W1 ea) := hE.stp HS1.out hb64
  have hz1 : W1.heap.size = W.heap.size + 1 := by rw [hW1, ← hzV]; simp
  have HW1 : Hid ((W.setCell ⟨b, 1, none⟩ (.int .i64 ((k : Int) + 1))).alloc (.cells zW 44) = W1) := by rw [hW1, hV]; rfl
  have cW : W.cell? ⟨b, 1, none⟩ = some (.int .i64 (k : Nat)) := h.c1
  have fW : W.frozen? ⟨b, 1, none⟩ = false := h.f1
  have HPA : Hid (Calls Tryz.prog 68 #[.pointer (some ⟨b, 0, none⟩), .string ⟨#[34]⟩] W1 fun e' w' => ∃ v ev, e' = .returned (.tuple #[v, ev]) ∧ PartsV W1 b sb s ea (partsL s.size [34] f (s.data.toList.drop (k + 1))) v ev w') := parts_any [34] HS1.out.at_ HE1.out hs (by omega) hf hb64
  unfold quotedR
  clear h hE hV hW1 HSV
  generalize partsL s.size [34] f (s.data.toList.drop (k + 1)) = R at HPA ⊢
  cases R with
  | error x =>
    simp only
    go_enter Tryz.func51, Tryz.ntmps51
    go_wp2_with fail
    rw [HW1.out]
    refine Calls.mono HPA.out ?_
    rintro e' w2 ⟨v, ev, rfl, hv⟩
    obtain ⟨rfl, ⟨q, rfl, hq⟩, j, hst⟩ := hv
    have HS2 : Hid (Stp W b sb s j w2) := HS1.out.trans hst
    have HQ2 : Hid (Cel w2 W.heap.size 44 zW) := HQ1.out.turn hst.turn (by omega)
    have HX2 : Hid (AtEr w2 ea (.iface 119 (.pointer (some ⟨q, 0, none⟩))) x) := ⟨q, rfl, hq⟩
    clear hq hst HS1 HQ1 HE1 HPA HW1 cW fW
    have z0 : w2.cell? ⟨W.heap.size, 0, none⟩ = some (.int .i64 0) := HQ2.out.cell 0
    have z1 : w2.cell? ⟨W.heap.size, 1, none⟩ = some (.bool false) := HQ2.out.cell 1
    have z2 : w2.cell? ⟨W.heap.size, 2, none⟩ = some (.slice none 0 0) := HQ2.out.cell 2
    have zf0 := HQ2.out.frozen 0
    have zf1 := HQ2.out.frozen 1
    have zf2 := HQ2.out.frozen 2
    go_wp2_with fail
    refine bodyPost_ret (results_word (p := 2) (u := 3) rfl _ _ W.heap.size _ rfl (HQ2.out.put3 _ _ _) rfl) rfl ?_
    exact ⟨_, _, rfl, rfl, HX2.out.putW HQ2.out _ _ _, j, HS2.out.put3 hlb hlsb (Nat.le_refl _) _ _ _⟩
  | ok r =>
    obtain ⟨ps, u⟩ := r
    cases u with
    | nil =>
      simp only
      go_enter Tryz.func51, Tryz.ntmps51
      go_wp2_with fail
      rw [HW1.out]
      refine Calls.mono HPA.out ?_
      rintro e' w2 ⟨v, ev, rfl, hv⟩
      obtain ⟨rfl, ho, j, hst, hj1, hj2⟩ := hv
      obtain ⟨pa, pc, rfl⟩ := ho.form
      have hje : s.size ≤ j := by
        rcases Nat.lt_or_ge j s.size with hlt | hge
        · rw [drop_cons s j hlt] at hj2
          exact absurd hj2 (by simp)
        · exact hge
      have HEN : Hid (Calls Tryz.prog 20 #[.pointer (some ⟨b, 0, none⟩)] w2 fun e w' => e = .returned (.bool true) ∧ ∃ m, w' = w2.drewN m) := by
        have := ended_any hst.at_
        rw [decide_eq_true hje] at this
        exact this
      have HS2 : Hid (Stp W b sb s j w2) := HS1.out.trans hst
      have HQ2 : Hid (Cel w2 W.heap.size 44 zW) := HQ1.out.turn hst.turn (by omega)
      have HE2 : Hid (Env w2 ea) := HE1.out.stp hst hb64
      clear ho hst hj2 HS1 HQ1 HE1 HPA HW1 cW fW
      go_wp2_with fail
      refine Calls.mono HEN.out ?_
      rintro e w3 ⟨rfl, m, hw3⟩
      have HS3 : Hid (Stp W b sb s j w3) := by rw [hw3]; exact HS2.out.drewN m
      have HQ3 : Hid (Cel w3 W.heap.size 44 zW) := by rw [hw3]; exact HQ2.out
      have HE3 : Hid (Env w3 ea) := by rw [hw3]; exact HE2.out.drewN m
      clear hw3 HS2 HQ2 HE2 HEN
      have g0 := HE3.out.cell 2 (by omega)
      go_wp2_with fail
      refine (fails_any k _ w3).mono ?_
      rintro e w4 ⟨rfl, hq, hb2⟩
      have HQ4 : Hid (Cel w4 W.heap.size 44 zW) := HQ3.out.below hb2 HQ3.out.lt
      have HX : Hid (AtEr w4 ea (.iface 119 (.pointer (some ⟨w3.heap.size, 0, none⟩))) ⟨2, k⟩) := ⟨_, rfl, hq⟩
      have HS4 : Hid (Stp W b sb s j w4) := HS3.out.below hb2
      clear hq hb2 HQ3 HS3 HE3 g0
      have z0 : w4.cell? ⟨W.heap.size, 0, none⟩ = some (.int .i64 0) := HQ4.out.cell 0
      have z1 : w4.cell? ⟨W.heap.size, 1, none⟩ = some (.bool false) := HQ4.out.cell 1
      have z2 : w4.cell? ⟨W.heap.size, 2, none⟩ = some (.slice none 0 0) := HQ4.out.cell 2
      have zf0 := HQ4.out.frozen 0
      have zf1 := HQ4.out.frozen 1
      have zf2 := HQ4.out.frozen 2
      go_wp2_with fail
      refine bodyPost_ret (results_word (p := 2) (u := 3) rfl _ _ W.heap.size _ rfl (HQ4.out.put3 _ _ _) rfl) rfl ?_
      exact ⟨_, _, rfl, rfl, HX.out.putW HQ4.out _ _ _, j, HS4.out.put3 hlb hlsb (Nat.le_refl _) _ _ _⟩
    | cons c u =>
      simp only
      go_enter Tryz.func51, Tryz.ntmps51
      go_wp2_with fail
      rw [HW1.out]
      refine Calls.mono HPA.out ?_
      rintro e' w2 ⟨v, ev, rfl, hv⟩
      obtain ⟨rfl, ho, j, hst, hj1, hj2⟩ := hv
      obtain ⟨pa, pc, rfl⟩ := ho.form
      have hje : j < s.size := by
        rcases Nat.lt_or_ge j s.size with hlt | hge
        · exact hlt
        · rw [drop_none s j (by omega)] at hj2
          exact absurd hj2 (by simp)
      have hju : u = s.data.toList.drop (j + 1) := by
        rw [drop_cons s j hje] at hj2
        exact (List.cons.inj hj2).2
      have HEN : Hid (Calls Tryz.prog 20 #[.pointer (some ⟨b, 0, none⟩)] w2 fun e w' => e = .returned (.bool false) ∧ ∃ m, w' = w2.drewN m) := by
        have := ended_any hst.at_
        rw [decide_eq_false (by omega)] at this
        exact this
      have HS2 : Hid (Stp W b sb s j w2) := HS1.out.trans hst
      have HQ2 : Hid (Cel w2 W.heap.size 44 zW) := HQ1.out.turn hst.turn (by omega)
      have HE2 : Hid (Env w2 ea) := HE1.out.stp hst hb64
      have HO2 : Hid (PtOwn w2 W1.heap.size (.slice pa ps.length pc) ps) := ho
      have hz2 : W1.heap.size ≤ w2.heap.size := hst.turn.size
      clear ho hst hj2 HS1 HQ1 HE1 HPA HW1 cW fW
      go_wp2_with fail
      refine Calls.mono HEN.out ?_
      rintro e w3 ⟨rfl, m, hw3⟩
      have HS3 : Hid (Stp W b sb s j w3) := by rw [hw3]; exact HS2.out.drewN m
      have HQ3 : Hid (Cel w3 W.heap.size 44 zW) := by rw [hw3]; exact HQ2.out
      have HE3 : Hid (Env w3 ea) := by rw [hw3]; exact HE2.out.drewN m
      have HO3 : Hid (PtOwn w3 W1.heap.size (.slice pa ps.length pc) ps) := by rw [hw3]; exact HO2.out.below ⟨rfl, rfl, rfl, Nat.le_refl _, fun _ _ => rfl⟩
      have hz3 : W1.heap.size ≤ w3.heap.size := by rw [hw3]; exact hz2
      clear hw3 HS2 HQ2 HE2 HO2 HEN
      have c3 := HS3.out.at_.c1
      have f3 := HS3.out.at_.f1
      obtain ⟨W4, hW4⟩ : ∃ W4, W4 = w3.setCell ⟨b, 1, none⟩ (.int .i64 (j + 1 : Nat)) := ⟨_, rfl⟩
      have HW4 : Hid (w3.setCell ⟨b, 1, none⟩ (.int .i64 ((j : Int) + 1)) = W4) := by rw [hW4]; rfl
      have HS4 : Hid (Stp W b sb s (j + 1) W4) := by rw [hW4]; exact HS3.out.set (j + 1)
      have HQ4 : Hid (Cel W4 W.heap.size 44 zW) := by rw [hW4]; exact HQ3.out.other hnb _
      have HT4 : Hid (Turn (fun i => i = b) w3 W4) := by
        rw [hW4]
        exact Turn.setCell (S := fun i => i = b) (p := ⟨b, 1, none⟩) (Turn.refl _ w3) (fun _ => rfl) _
      have HE4 : Hid (Env W4 ea) := HE3.out.turn HT4.out (fun i e => by omega)
      have HO4 : Hid (PtOwn W4 W1.heap.size (.slice pa ps.length pc) ps) := HO3.out.turn HT4.out (fun i e => by omega)
      have hz34 : W4.heap.size = w3.heap.size := by rw [hW4]; simp
      have hz4 : W1.heap.size ≤ W4.heap.size := by rw [hz34]; exact hz3
      clear hW4 HS3 HQ3 HE3 HO3 HT4
      cases ps with
      | nil =>
        obtain ⟨n, hn⟩ : ∃ n, n = ([] : List Pt).length := ⟨_, rfl⟩
        have hn1 : decide ((n : Int) = 0) = true := by simp [hn]
        have hn2 : (n : Int) = 0 := by simp [hn]
        rw [← hn]
        clear hn
        obtain ⟨W5, hW5⟩ : ∃ W5, W5 = W4.alloc (.cells (ptC ⟨1, k, 0, []⟩).toArray 59) := ⟨_, rfl⟩
        have HW5 : Hid (W4.alloc (.cells #[.int .i64 1, .int .i64 (k : Nat), .int .i64 0, .string ⟨#[]⟩] 59) = W5) := hW5.symm
        have H5S : Hid (Stp W b sb s (j + 1) W5) := by rw [hW5]; exact HS4.out.alloc _
        have H5Q : Hid (Cel W5 W.heap.size 44 zW) := by rw [hW5]; exact HQ4.out.below (below_new _ _) HQ4.out.lt
        have H5O : Hid (PtOwn W5 (W.heap.size + 1) (.slice (some ⟨w3.heap.size, 0, none⟩) 1 1) [⟨1, k, 0, []⟩]) := by rw [hW5, ← hz34]; exact PtOwn.one W4 _ _ (by omega)
        have H5E : Hid (Env W5 ea) := by rw [hW5]; exact HE4.out.below (below_new _ _)
        have hz5 : W.heap.size + 1 ≤ w3.heap.size := by omega
        clear hW5 HS4 HQ4 HE4 HO4 hz34
        cases hq : endQ endS s.data.toList[j + 1]? with
        | true =>
          have HQQ : Hid (endQ endS s.data.toList[j + 1]? = true) := hq
          have HC : Hid _ := closed_yes H5S.out.at_ hq k false (some ⟨w3.heap.size, 0, none⟩) 1 1
          clear hq H5E
          go_wp2_with fail
          rw [HW4.out, HW5.out]
          refine Calls.mono HC.out ?_
          rintro e' w6 ⟨rfl, hst⟩
          have HS6 : Hid (Stp W b sb s (j + 1) w6) := H5S.out.trans hst
          have HQ6 : Hid (Cel w6 W.heap.size 44 zW) := H5Q.out.turn hst.turn (by omega)
          have HO6 : Hid (PtOwn w6 (W.heap.size + 1) (.slice (some ⟨w3.heap.size, 0, none⟩) 1 1) [⟨1, k, 0, []⟩]) := H5O.out.turn hst.turn (fun i e => by omega)
          clear hst H5S H5Q H5O HC HW4 HW5
          have z0 : w6.cell? ⟨W.heap.size, 0, none⟩ = some (.int .i64 0) := HQ6.out.cell 0
          have z1 : w6.cell? ⟨W.heap.size, 1, none⟩ = some (.bool false) := HQ6.out.cell 1
          have z2 : w6.cell? ⟨W.heap.size, 2, none⟩ = some (.slice none 0 0) := HQ6.out.cell 2
          have zf0 := HQ6.out.frozen 0
          have zf1 := HQ6.out.frozen 1
          have zf2 := HQ6.out.frozen 2
          go_wp2_with fail
          refine bodyPost_ret (results_word (p := 2) (u := 3) rfl _ _ W.heap.size _ rfl (HQ6.out.put3 _ _ _) rfl) rfl ?_
          refine ⟨_, _, rfl, ?_⟩
          rw [closedL_at s (j + 1) _ (by omega), HQQ.out, if_pos rfl]
          exact ⟨rfl, ⟨_, rfl, (HO6.out.turn (Turn.putW _ _ _ _ _) (fun i e => by omega)).lower (by omega)⟩, j + 1, HS6.out.put3 hlb hlsb (Nat.le_refl _) _ _ _, by omega, rfl⟩
        | false =>
          have HQQ : Hid (endQ endS s.data.toList[j + 1]? = false) := hq
          have HC : Hid _ := closed_no H5S.out.at_ H5E.out hb64 hq k false (some ⟨w3.heap.size, 0, none⟩) 1 1
          clear hq H5E
          go_wp2_with fail
          rw [HW4.out, HW5.out]
          refine Calls.mono HC.out ?_
          rintro e' w6 ⟨q, rfl, hx, hst⟩
          have HX6 : Hid (AtEr w6 ea (.iface 119 (.pointer (some ⟨q, 0, none⟩))) ⟨3, j + 1⟩) := hx
          have HS6 : Hid (Stp W b sb s (j + 1) w6) := H5S.out.trans hst
          have HQ6 : Hid (Cel w6 W.heap.size 44 zW) := H5Q.out.turn hst.turn (by omega)
          clear hst hx H5S H5Q H5O HC HW4 HW5
          have z0 : w6.cell? ⟨W.heap.size, 0, none⟩ = some (.int .i64 0) := HQ6.out.cell 0
          have z1 : w6.cell? ⟨W.heap.size, 1, none⟩ = some (.bool false) := HQ6.out.cell 1
          have z2 : w6.cell? ⟨W.heap.size, 2, none⟩ = some (.slice none 0 0) := HQ6.out.cell 2
          have zf0 := HQ6.out.frozen 0
          have zf1 := HQ6.out.frozen 1
          have zf2 := HQ6.out.frozen 2
          go_wp2_with fail
          refine bodyPost_ret (results_word (p := 2) (u := 3) rfl _ _ W.heap.size _ rfl (HQ6.out.put3 _ _ _) rfl) rfl ?_
          refine ⟨_, _, rfl, ?_⟩
          rw [closedL_at s (j + 1) _ (by omega), HQQ.out, if_neg (by simp)]
          exact ⟨rfl, HX6.out.putW HQ6.out _ _ _, j + 1, HS6.out.put3 hlb hlsb (Nat.le_refl _) _ _ _⟩
      | cons p ps =>
        obtain ⟨n, hn⟩ : ∃ n, n = (p :: ps).length := ⟨_, rfl⟩
        have hn0 : ¬ n = 0 := by rw [hn]; simp
        have hn1 : decide ((n : Int) = 0) = false := by simp [hn0]
        have hn2 : ¬ ((n : Int) = 0) := by omega
        have H4S : Hid (Stp W b sb s (j + 1) W4) := HS4
        have H4Q : Hid (Cel W4 W.heap.size 44 zW) := HQ4
        have H4O : Hid (PtOwn W4 (W.heap.size + 1) (.slice pa n pc) (p :: ps)) := by
          rw [hn, ← hz1]
          exact HO4.out
        have H4E : Hid (Env W4 ea) := HE4
        rw [← hn]
        clear hn HS4 HQ4 HE4 HO4
        cases hq : endQ endS s.data.toList[j + 1]? with
        | true =>
          have HQQ : Hid (endQ endS s.data.toList[j + 1]? = true) := hq
          have HC : Hid _ := closed_yes H4S.out.at_ hq k false pa n pc
          clear hq H4E
          go_wp2_with fail
          rw [HW4.out]
          refine Calls.mono HC.out ?_
          rintro e' w6 ⟨rfl, hst⟩
          have HS6 : Hid (Stp W b sb s (j + 1) w6) := H4S.out.trans hst
          have HQ6 : Hid (Cel w6 W.heap.size 44 zW) := H4Q.out.turn hst.turn (by omega)
          have HO6 : Hid (PtOwn w6 (W.heap.size + 1) (.slice pa n pc) (p :: ps)) := H4O.out.turn hst.turn (fun i e => by omega)
          clear hst H4S H4Q H4O HC HW4
          have z0 : w6.cell? ⟨W.heap.size, 0, none⟩ = some (.int .i64 0) := HQ6.out.cell 0
          have z1 : w6.cell? ⟨W.heap.size, 1, none⟩ = some (.bool false) := HQ6.out.cell 1
          have z2 : w6.cell? ⟨W.heap.size, 2, none⟩ = some (.slice none 0 0) := HQ6.out.cell 2
          have zf0 := HQ6.out.frozen 0
          have zf1 := HQ6.out.frozen 1
          have zf2 := HQ6.out.frozen 2
          go_wp2_with fail
          refine bodyPost_ret (results_word (p := 2) (u := 3) rfl _ _ W.heap.size _ rfl (HQ6.out.put3 _ _ _) rfl) rfl ?_
          refine ⟨_, _, rfl, ?_⟩
          rw [closedL_at s (j + 1) _ (by omega), HQQ.out, if_pos rfl]
          exact ⟨rfl, ⟨_, rfl, (HO6.out.turn (Turn.putW _ _ _ _ _) (fun i e => by omega)).lower (by omega)⟩, j + 1, HS6.out.put3 hlb hlsb (Nat.le_refl _) _ _ _, by omega, rfl⟩
        | false =>
          have HQQ : Hid (endQ endS s.data.toList[j + 1]? = false) := hq
          have HC : Hid _ := closed_no H4S.out.at_ H4E.out hb64 hq k false pa n pc
          clear hq H4E
          go_wp2_with fail
          rw [HW4.out]
          refine Calls.mono HC.out ?_
          rintro e' w6 ⟨q, rfl, hx, hst⟩
          have HX6 : Hid (AtEr w6 ea (.iface 119 (.pointer (some ⟨q, 0, none⟩))) ⟨3, j + 1⟩) := hx
          have HS6 : Hid (Stp W b sb s (j + 1) w6) := H4S.out.trans hst
          have HQ6 : Hid (Cel w6 W.heap.size 44 zW) := H4Q.out.turn hst.turn (by omega)
          clear hst hx H4S H4Q H4O HC HW4
          have z0 : w6.cell? ⟨W.heap.size, 0, none⟩ = some (.int .i64 0) := HQ6.out.cell 0
          have z1 : w6.cell? ⟨W.heap.size, 1, none⟩ = some (.bool false) := HQ6.out.cell 1
          have z2 : w6.cell? ⟨W.heap.size, 2, none⟩ = some (.slice none 0 0) := HQ6.out.cell 2
          have zf0 := HQ6.out.frozen 0
          have zf1 := HQ6.out.frozen 1
          have zf2 := HQ6.out.frozen 2
          go_wp2_with fail
          refine bodyPost_ret (results_word (p := 2) (u := 3) rfl _ _ W.heap.size _ rfl (HQ6.out.put3 _ _ _) rfl) rfl ?_
          refine ⟨_, _, rfl, ?_⟩
          rw [closedL_at s (j + 1) _ (by omega), HQQ.out, if_neg (by simp)]
          exact ⟨rfl, HX6.out.putW HQ6.out _ _ _, j + 1, HS6.out.put3 hlb hlsb (Nat.le_refl _) _ _ _⟩
end Go.Proofs.YtlihkblllakhmaaGreatDoor
