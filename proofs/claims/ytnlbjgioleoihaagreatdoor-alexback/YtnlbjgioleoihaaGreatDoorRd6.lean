/- A name in braces. -/
import Derived.Test.YtnlbjgioleoihaaGreatDoorRd5
namespace Go.Proofs.YtnlbjgioleoihaaGreatDoor
open Go.RowKit
attribute [local go_sem] Oper.semAt_some

def brR (pos : Nat) (t : List UInt8) : Except Er (Pt × List UInt8) := if (t.takeWhile isNB).length < t.length then varR pos (t.takeWhile isNB) (t.drop ((t.takeWhile isNB).length + 1)) else .error ⟨0, pos⟩
/-- So far no brace closes. -/
def NoBr (s : ByteArray) (a k : Nat) : Prop := (s.data.toList.drop a).takeWhile isNB = (s.data.toList.drop a).take (k - a) ++ (s.data.toList.drop k).takeWhile isNB
theorem seg_snoc (s : ByteArray) (a k : Nat) (hak : a ≤ k) (h : k < s.size) : (s.data.toList.drop a).take (k + 1 - a) = (s.data.toList.drop a).take (k - a) ++ [s[k]] := by
  rw [show k + 1 - a = (k - a) + 1 by omega, List.take_add_one, List.getElem?_drop, show a + (k - a) = k by omega, text_at s k h]
  rfl
theorem NoBr.more {s : ByteArray} {a k : Nat} (hak : a ≤ k) (h : k < s.size) (hc : s[k] ≠ 125) (he : NoBr s a k) : NoBr s a (k + 1) := by
  unfold NoBr at *
  have h1 : isNB s[k] = true := by simpa [isNB] using hc
  rw [he, seg_snoc s a k hak h, drop_cons s k h, List.takeWhile_cons, h1]
  simp
theorem NoBr.stop {s : ByteArray} {a k : Nat} (hak : a ≤ k) (h : k < s.size) (hc : s[k] = 125) (he : NoBr s a k) (pos : Nat) : brR pos (s.data.toList.drop a) = varR pos (s.extract a k).data.toList (s.data.toList.drop (k + 1)) := by
  unfold NoBr at he
  have h0 : (s.data.toList.drop k).takeWhile isNB = [] := by rw [drop_cons s k h, List.takeWhile_cons, hc]; rfl
  rw [h0, List.append_nil] at he
  have hl : ((s.data.toList.drop a).take (k - a)).length = k - a := by rw [List.length_take, len_drop]; omega
  unfold brR
  rw [he, hl, if_pos (by rw [len_drop]; omega), List.drop_drop, show a + (k - a + 1) = k + 1 by omega, Lib.extract_eq]
theorem NoBr.end {s : ByteArray} {a k : Nat} (ha : a ≤ s.size) (hak : a ≤ k) (h : s.size ≤ k) (he : NoBr s a k) (pos : Nat) : brR pos (s.data.toList.drop a) = .error ⟨0, pos⟩ := by
  unfold NoBr at he
  rw [drop_none s k (by omega)] at he
  simp only [List.takeWhile_nil, List.append_nil] at he
  unfold brR
  rw [if_neg]
  rw [he, List.length_take, len_drop]
  omega
set_option maxRecDepth 100000 in
set_option maxHeartbeats 4000000 in
theorem braced_any {W : World} {b sb k : Nat} {s : ByteArray} {ea : Nat → Addr} (pos : Nat) (h : Rd W b sb s k) (hE : Env W ea) (hs : s.size < 1152921504606846976) (hk : k ≤ s.size) (hb64 : (ea 64).block ≤ b) :
    Calls Tryz.prog 61 #[.pointer (some ⟨b, 0, none⟩), .agg (ptC ⟨0, pos, 0, false, []⟩).toArray] W fun e w' => ∃ p ev, e = .returned (.tuple #[.agg (ptC p).toArray, ev]) ∧ PartV W b sb s ea (brR pos (s.data.toList.drop k)) p ev w' := by
  have hlb := h.rd.lt
  have hlsb := h.src.lt
  obtain ⟨W0, hW0, hS0, hE0, hz0, hp0, hq0⟩ := boxes h hE (ptC ⟨0, pos, 0, false, []⟩).toArray
  have cW := h.c1
  have HP0 : Hid (Cel W0 W.heap.size 36 (ptC ⟨0, pos, 0, false, []⟩).toArray) := hp0
  have HQ0 : Hid (Cel W0 (W.heap.size + 1) 36 zC) := hq0
  have HS0 : Hid (Stp W b sb s k W0) := hS0
  have HE0 : Hid (Env W0 ea) := hE0
  have HW0 : Hid ((W.alloc (.cells (ptC ⟨0, pos, 0, false, []⟩).toArray 36)).alloc (.cells zC 36) = W0) := hW0.symm
  obtain ⟨R, HR⟩ : ∃ R, Hid (brR pos (s.data.toList.drop k) = R) := ⟨_, rfl⟩
  rw [HR.out]
  clear h hE hW0 hS0 hE0 hp0 hq0
  go_enter Tryz.func61, Tryz.ntmps61
  go_wp2_with fail
  rw [HW0.out]
  clear HW0 cW
  go_loopw [5] (fun v5 wr => ∃ p : Nat, v5 = .nilIface ∧ k ≤ p ∧ p ≤ s.size ∧ Hid (NoBr s k p) ∧ Hid (Stp W b sb s p wr) ∧ Hid (Cel wr W.heap.size 36 (ptC ⟨0, pos, 0, false, []⟩).toArray) ∧ Hid (Cel wr (W.heap.size + 1) 36 zC) ∧ Hid (Env wr ea)) (fun _ wr => s.size + 2 - posOf wr b)
  case atStart => exact ⟨k, rfl, Nat.le_refl _, hk, by simp [Hid, NoBr], HS0.out, HP0.out, HQ0.out, HE0.out⟩
  case round =>
    obtain ⟨p, rfl, hkp, hp, HNB, HS, HP, HQ, HE⟩ := hrel
    clear HS0 HP0 HQ0 HE0
    have HPO : Hid (posOf wr b = p) := HS.out.at_.pos
    have c0 := HS.out.at_.c0
    have c1 := HS.out.at_.c1
    have HH : Hid (∀ m, Calls Tryz.prog 29 #[.pointer (some ⟨sb, 0, none⟩), .int .i64 (p : Nat), .string ⟨#[125]⟩] (wr.drewN m) fun e w' => e = .returned (.bool (s.data.toList[p]? == some 125)) ∧ w' = wr.drewN m) := fun m => hasb_any sb s 125 p (wr.drewN m) HS.out.at_.t0
    cases hbr : (s.data.toList[p]? == some 125) with
    | true =>
      rw [hbr] at HH
      have hp2 : s.data.toList[p]? = some 125 := by simpa using hbr
      have hlt : p < s.size := by simpa using (List.getElem?_eq_some_iff.1 hp2).1
      have hsp : s[p] = 125 := by rw [text_at s p hlt] at hp2; exact Option.some.inj hp2
      have HRR : Hid (R = varR pos (s.extract k p).data.toList (s.data.toList.drop (p + 1))) := by unfold Hid; rw [← HR.out]; exact HNB.out.stop hkp hlt hsp pos
      clear hbr hp2 hsp HNB
      go_wp2_with fail
      go_quiet (first | (go_at_call 29; exact Calls.quiet_of_same (HH.out _)))
      obtain ⟨W1, hW1⟩ : ∃ W1, W1 = wr.drewN nq := ⟨_, rfl⟩
      have HS1 : Hid (Stp W b sb s p W1) := by rw [hW1]; exact HS.out.drewN nq
      have HP1 : Hid (Cel W1 W.heap.size 36 (ptC ⟨0, pos, 0, false, []⟩).toArray) := by rw [hW1]; exact HP.out
      have HQ1 : Hid (Cel W1 (W.heap.size + 1) 36 zC) := by rw [hW1]; exact HQ.out
      have HE1 : Hid (Env W1 ea) := by rw [hW1]; exact HE.out.drewN nq
      have d1 := HS1.out.at_.c1
      have e1 := HS1.out.at_.f1
      rw [← hW1]
      clear hW1 c0 c1 HH HS HP HQ HE HPO
      go_wp2_with fail
      obtain ⟨W2, hW2⟩ : ∃ W2, W2 = W1.setCell ⟨b, 1, none⟩ (.int .i64 ((p : Int) + 1)) := ⟨_, rfl⟩
      have HS2 : Hid (Stp W b sb s (p + 1) W2) := by rw [hW2]; exact set_step HS1.out _ _ (by omega)
      have HP2 : Hid (Cel W2 W.heap.size 36 (ptC ⟨0, pos, 0, false, []⟩).toArray) := by rw [hW2]; exact HP1.out.other (by omega) _
      have HQ2 : Hid (Cel W2 (W.heap.size + 1) 36 zC) := by rw [hW2]; exact HQ1.out.other (by omega) _
      have HE2 : Hid (Env W2 ea) := by rw [hW2]; exact HE1.out.set hb64 _ _
      rw [← hW2]
      clear hW2 HS1 HP1 HQ1 HE1 d1 e1
      have HV : Hid (Calls Tryz.prog 72 #[.agg #[.int .i64 0, .int .i64 (pos : Nat), .int .i64 0, .bool false, .string ⟨#[]⟩], .string (s.extract k p)] W2.drew fun e w' => ∃ kd ps n q sx ev, e = .returned (.tuple #[.agg #[.int .i64 (kd : Nat), .int .i64 (ps : Nat), .int .i64 (n : Nat), .bool q, str sx], ev]) ∧ Cel w' (W.heap.size + 1) 36 zC ∧ PartV W b sb s ea R ⟨kd, ps, n, q, sx⟩ ev w' ∧ (w'.cell? ⟨b, 0, none⟩ = some (.pointer (some ⟨sb, 0, none⟩)) ∧ w'.cell? ⟨b, 1, none⟩ = some (.int .i64 ((p : Int) + 1)) ∧ w'.cell? ⟨W.heap.size, 0, none⟩ = some (.int .i64 0) ∧ w'.cell? ⟨W.heap.size, 1, none⟩ = some (.int .i64 (pos : Nat)) ∧ w'.cell? ⟨W.heap.size, 2, none⟩ = some (.int .i64 0) ∧ w'.cell? ⟨W.heap.size, 3, none⟩ = some (.bool false) ∧ w'.cell? ⟨W.heap.size, 4, none⟩ = some (.string ⟨#[]⟩))) := by
        have := variable_any (ea := ea) pos (s.extract k p).data.toList (HS2.out.drew).at_ (HE2.out.drewN 1) (by omega)
        refine Calls.mono this ?_
        rintro e w' ⟨⟨kd, ps, n, q, sx⟩, ev, rfl, hv, hb⟩
        have hst := HS2.out.drew
        have hst2 := hst.below hb
        have hpp := (show Cel W2.drew W.heap.size 36 (ptC ⟨0, pos, 0, false, []⟩).toArray from HP2.out).below hb (Cel.lt HP2.out)
        refine ⟨kd, ps, n, q, sx, ev, rfl, (show Cel W2.drew (W.heap.size + 1) 36 zC from HQ2.out).below hb (Cel.lt HQ2.out), ?_, hst2.at_.c0, hst2.at_.c1, hpp.cell 0, hpp.cell 1, hpp.cell 2, hpp.cell 3, hpp.cell 4⟩
        rw [HRR.out]
        exact hv.lift hst
      have HSL : Hid (Calls Tryz.prog 54 #[.pointer (some ⟨sb, 0, none⟩), .int .i64 (k : Nat), .int .i64 (p : Nat)] W2.drew fun e w' => e = .returned (.string (s.extract k p)) ∧ w' = W2.drew) := slice_any sb s k p W2.drew (HS2.out.drew).at_.t0 hk hp
      have d0 := HS2.out.at_.c0
      have d1 : W2.cell? ⟨b, 1, none⟩ = some (.int .i64 ((p : Int) + 1)) := HS2.out.at_.c1
      have p0 : W2.cell? ⟨W.heap.size, 0, none⟩ = some (.int .i64 0) := HP2.out.cell 0
      have p1 : W2.cell? ⟨W.heap.size, 1, none⟩ = some (.int .i64 (pos : Nat)) := HP2.out.cell 1
      have p2 : W2.cell? ⟨W.heap.size, 2, none⟩ = some (.int .i64 0) := HP2.out.cell 2
      have p3 : W2.cell? ⟨W.heap.size, 3, none⟩ = some (.bool false) := HP2.out.cell 3
      have p4 : W2.cell? ⟨W.heap.size, 4, none⟩ = some (.string ⟨#[]⟩) := HP2.out.cell 4
      have hbn : ¬ b = W.heap.size + 1 := by omega
      have hnb : ¬ W.heap.size + 1 = b := by omega
      have hwr3 : IntKind.i64.wrap (p : Int) = (p : Int) := by rw [IntKind.wrap_i64]; omega
      clear HR HRR HS2 HP2 HQ2 HE2
      go_wp2_with fail
      go_region_held3 (fun w' => w'.cell? ⟨b, 0, none⟩ = some (.pointer (some ⟨sb, 0, none⟩)) ∧ w'.cell? ⟨b, 1, none⟩ = some (.int .i64 ((p : Int) + 1)) ∧ w'.cell? ⟨W.heap.size, 0, none⟩ = some (.int .i64 0) ∧ w'.cell? ⟨W.heap.size, 1, none⟩ = some (.int .i64 (pos : Nat)) ∧ w'.cell? ⟨W.heap.size, 2, none⟩ = some (.int .i64 0) ∧ w'.cell? ⟨W.heap.size, 3, none⟩ = some (.bool false) ∧ w'.cell? ⟨W.heap.size, 4, none⟩ = some (.string ⟨#[]⟩)) (go_keep) (first | (go_at_call 54; refine Calls.mono HSL.out ?_; rintro e w3 ⟨rfl, rfl⟩) | (go_at_call 72; refine Calls.mono HV.out ?_; rintro e w3 ⟨kd, ps, n, q, sx, ev, rfl, hq3, hv3, m0, m1, m2, m3, m4, m5, m6⟩; have z0 : w3.cell? ⟨W.heap.size + 1, 0, none⟩ = some (.int .i64 0) := Cel.cell hq3 0; have z1 : w3.cell? ⟨W.heap.size + 1, 1, none⟩ = some (.int .i64 0) := Cel.cell hq3 1; have z2 : w3.cell? ⟨W.heap.size + 1, 2, none⟩ = some (.int .i64 0) := Cel.cell hq3 2; have z3 : w3.cell? ⟨W.heap.size + 1, 3, none⟩ = some (.bool false) := Cel.cell hq3 3; have z4 : w3.cell? ⟨W.heap.size + 1, 4, none⟩ = some (.string ⟨#[]⟩) := Cel.cell hq3 4; have y0 := Cel.frozen hq3 0; have y1 := Cel.frozen hq3 1; have y2 := Cel.frozen hq3 2; have y3 := Cel.frozen hq3 3; have y4 := Cel.frozen hq3 4; have HQ3 : Hid (Cel w3 (W.heap.size + 1) 36 zC) := hq3; have HV3 : Hid (PartV W b sb s ea R ⟨kd, ps, n, q, sx⟩ ev w3) := hv3; clear hq3 hv3))
      go_wp2_with fail
      refine bodyPost_ret (results_part (p := 4) (u := 5) rfl _ _ (W.heap.size + 1) _ rfl (HQ3.out.put5 _ _ _ _ _) rfl) rfl ?_
      exact ⟨⟨kd, ps, n, q, sx⟩, ev, rfl, HV3.out.put HQ3.out hlb hlsb (by omega) _ _ _ _ _⟩
    | false =>
      rw [hbr] at HH
      have HEN : Hid (∀ m, Calls Tryz.prog 30 #[.pointer (some ⟨b, 0, none⟩)] (wr.drewN m) fun e w' => e = .returned (.bool (decide (s.size ≤ p))) ∧ ∃ n, w' = (wr.drewN m).drewN n) := fun m => ended_any (HS.out.drewN m).at_
      by_cases hle : s.size ≤ p
      · have HRR : Hid (R = .error ⟨0, pos⟩) := by unfold Hid; rw [← HR.out]; exact HNB.out.end hk hkp hle pos
        rw [decide_eq_true hle] at HEN
        clear hbr HNB hle
        go_wp2_with fail
        go_quiet (first | (go_at_call 29; exact Calls.quiet_of_same (HH.out _)))
        go_wp2_with fail
        refine Calls.mono (HEN.out _) ?_
        rintro e w1 ⟨rfl, n1, hw1⟩
        rw [World.drewN_drewN] at hw1
        have HS1 : Hid (Stp W b sb s p w1) := by rw [hw1]; exact HS.out.drewN _
        have HP1 : Hid (Cel w1 W.heap.size 36 (ptC ⟨0, pos, 0, false, []⟩).toArray) := by rw [hw1]; exact HP.out
        have HQ1 : Hid (Cel w1 (W.heap.size + 1) 36 zC) := by rw [hw1]; exact HQ.out
        have g0 := (show Env w1 ea by rw [hw1]; exact HE.out.drewN _).cell 7 (by omega) (by omega)
        have a1 : w1.cell? ⟨W.heap.size, 1, none⟩ = some (.int .i64 (pos : Nat)) := HP1.out.cell 1
        clear hw1 c0 c1 HH HS HP HQ HE HPO HEN
        go_wp2_with fail
        refine (fails_any pos _ w1).mono ?_
        rintro e w2 ⟨rfl, hq, hb2⟩
        have HQ2 : Hid (Cel w2 (W.heap.size + 1) 36 zC) := HQ1.out.below hb2 HQ1.out.lt
        have HX : Hid (AtEr w2 ea (.iface 79 (.pointer (some ⟨w1.heap.size, 0, none⟩))) ⟨0, pos⟩) := ⟨_, rfl, hq⟩
        have HS2 : Hid (Stp W b sb s p w2) := HS1.out.below hb2
        clear hq hb2 HQ1 HS1 HP1
        have z0 : w2.cell? ⟨W.heap.size + 1, 0, none⟩ = some (.int .i64 0) := HQ2.out.cell 0
        have z1 : w2.cell? ⟨W.heap.size + 1, 1, none⟩ = some (.int .i64 0) := HQ2.out.cell 1
        have z2 : w2.cell? ⟨W.heap.size + 1, 2, none⟩ = some (.int .i64 0) := HQ2.out.cell 2
        have z3 : w2.cell? ⟨W.heap.size + 1, 3, none⟩ = some (.bool false) := HQ2.out.cell 3
        have z4 : w2.cell? ⟨W.heap.size + 1, 4, none⟩ = some (.string ⟨#[]⟩) := HQ2.out.cell 4
        have zf0 := HQ2.out.frozen 0
        have zf1 := HQ2.out.frozen 1
        have zf2 := HQ2.out.frozen 2
        have zf3 := HQ2.out.frozen 3
        have zf4 := HQ2.out.frozen 4
        go_wp2_with fail
        refine bodyPost_ret (results_part (p := 4) (u := 5) rfl _ _ (W.heap.size + 1) _ rfl (HQ2.out.put5 _ _ _ _ _) rfl) rfl ?_
        rw [HRR.out]
        exact ⟨ptZ, _, rfl, PartV.put (R := .error ⟨0, pos⟩) ⟨HX.out, p, HS2.out⟩ HQ2.out hlb hlsb (by omega) _ _ _ _ _⟩
      · have hlt : p < s.size := by omega
        have hne : s[p] ≠ 125 := by
          intro e
          rw [text_at s p hlt, e] at hbr
          simp at hbr
        have HNB2 : Hid (NoBr s k (p + 1)) := HNB.out.more hkp hlt hne
        rw [decide_eq_false hle] at HEN
        clear hbr HNB hle hne
        go_wp2_with fail
        go_quiet (first | (go_at_call 29; exact Calls.quiet_of_same (HH.out _)))
        go_wp2_with fail
        refine Calls.mono (HEN.out _) ?_
        rintro e w1 ⟨rfl, n1, hw1⟩
        rw [World.drewN_drewN] at hw1
        have HS1 : Hid (Stp W b sb s p w1) := by rw [hw1]; exact HS.out.drewN _
        have HP1 : Hid (Cel w1 W.heap.size 36 (ptC ⟨0, pos, 0, false, []⟩).toArray) := by rw [hw1]; exact HP.out
        have HQ1 : Hid (Cel w1 (W.heap.size + 1) 36 zC) := by rw [hw1]; exact HQ.out
        have HE1 : Hid (Env w1 ea) := by rw [hw1]; exact HE.out.drewN _
        have d1 := HS1.out.at_.c1
        have e1 := HS1.out.at_.f1
        clear hw1 c0 c1 HH HS HP HQ HE HEN
        go_wp2_with fail
        have HS2 := set_step HS1.out ((p : Int) + 1) (p + 1) (by omega)
        refine ⟨⟨p + 1, rfl, by omega, by omega, HNB2.out, HS2, HP1.out.other (by omega) _, HQ1.out.other (by omega) _, HE1.out.set hb64 _ _⟩, ?_⟩
        rw [HS2.at_.pos, HPO.out]
        omega
end Go.Proofs.YtnlbjgioleoihaaGreatDoor
