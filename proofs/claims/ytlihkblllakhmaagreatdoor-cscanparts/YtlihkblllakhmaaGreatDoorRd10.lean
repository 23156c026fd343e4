/- A part. -/
import Derived.Test.YtlihkblllakhmaaGreatDoorRd9
namespace Go.Proofs.YtlihkblllakhmaaGreatDoor
open Go.RowKit
attribute [local go_sem] Oper.semAt_some

theorem PartV.stp {W w' : World} {b sb : Nat} {s : ByteArray} {ea : Nat → Addr} {R : Except Er (Pt × List UInt8)} {p : Pt} {ev : Value} (h : PartV W b sb s ea R p ev w') : ∃ j, Stp W b sb s j w' := by
  cases R with
  | ok q =>
    obtain ⟨_, _, j, h3, _⟩ := h
    exact ⟨j, h3⟩
  | error x =>
    obtain ⟨_, j, h3⟩ := h
    exact ⟨j, h3⟩
/-- The error of a part, if it has one, is an interface's value. -/
theorem PartV.ev {W w' : World} {b sb : Nat} {s : ByteArray} {ea : Nat → Addr} {R : Except Er (Pt × List UInt8)} {p : Pt} {ev : Value} (h : PartV W b sb s ea R p ev w') : (∃ q, R = .ok q ∧ ev = .nilIface) ∨ ∃ x q, R = .error x ∧ ev = .iface 119 (.pointer (some ⟨q, 0, none⟩)) := by
  cases R with
  | ok q => exact .inl ⟨q, rfl, h.2.1⟩
  | error x =>
    obtain ⟨⟨q, h1, _⟩, _⟩ := h
    exact .inr ⟨x, q, rfl, h1⟩
set_option maxRecDepth 100000 in
set_option maxHeartbeats 4000000 in
theorem part_any {W : World} {b sb k : Nat} {s : ByteArray} {ea : Nat → Addr} (e : List UInt8) (h : Rd W b sb s k) (hE : Env W ea) (hs : s.size < 1099511627776) (hk : k < s.size) (hb64 : (ea 64).block ≤ b) :
    Calls Tryz.prog 82 #[.pointer (some ⟨b, 0, none⟩), .string ⟨e.toArray⟩] W fun e' w' => ∃ p ev, e' = .returned (.tuple #[.agg (ptC p).toArray, ev]) ∧ PartV W b sb s ea (partL s.size e (s.data.toList.drop k)) p ev w' := by
  have hlb := h.rd.lt
  have hlsb := h.src.lt
  obtain ⟨W0, hW0⟩ : ∃ W0, W0 = W.alloc (.cells zC 59) := ⟨_, rfl⟩
  have HS0 : Hid (Stp W b sb s k W0) := by rw [hW0]; exact (Stp.refl h).alloc _
  have HQ0 : Hid (Cel W0 W.heap.size 59 zC) := by rw [hW0]; exact Cel.new W _ _
  have HE0 : Hid (Env W0 ea) := by rw [hW0]; exact hE.below (below_new W _)
  have HW0 : Hid (W.alloc (.cells zC 59) = W0) := hW0.symm
  have c0 := HS0.out.at_.c0
  have c1 := HS0.out.at_.c1
  have HH : Hid (∀ m, Calls Tryz.prog 47 #[.pointer (some ⟨sb, 0, none⟩), .int .i64 (k : Nat), .string ⟨#[91]⟩] (W0.drewN m) fun e w' => e = .returned (.bool (s.data.toList[k]? == some 91)) ∧ w' = W0.drewN m) := fun m => hasb_any sb s 91 k (W0.drewN m) HS0.out.at_.t0
  have hnb : ¬ W.heap.size = b := by omega
  clear h hE hW0
  by_cases h91 : s[k] = 91
  · have HBR : Hid (∀ w, Stp W b sb s k w → Env w ea → Calls Tryz.prog 89 #[.pointer (some ⟨b, 0, none⟩)] w fun e' w' => ∃ p ev, e' = .returned (.tuple #[.agg (ptC p).toArray, ev]) ∧ PartV w b sb s ea (partL s.size e (s.data.toList.drop k)) p ev w') := fun w hw he => bracket_any e hw.at_ he hs hk h91 hb64
    rw [text_at s k hk, h91, beq_self_eq_true] at HH
    generalize partL s.size e (s.data.toList.drop k) = R at HBR ⊢
    clear h91
    go_enter Tryz.func82, Tryz.ntmps82
    go_wp2_with fail
    rw [HW0.out]
    go_quiet (first | (go_at_call 47; exact Calls.quiet_of_same (HH.out _)))
    obtain ⟨W1, hW1⟩ : ∃ W1, W1 = W0.drewN nq := ⟨_, rfl⟩
    have HS1 : Hid (Stp W b sb s k W1) := by rw [hW1]; exact HS0.out.drewN nq
    have HQ1 : Hid (Cel W1 W.heap.size 59 zC) := by rw [hW1]; exact HQ0.out
    have HE1 : Hid (Env W1 ea) := by rw [hW1]; exact HE0.out.drewN nq
    rw [← hW1]
    clear hW1 c0 c1 HH HS0 HQ0 HE0
    go_wp2_with fail
    refine Calls.mono (HBR.out _ HS1.out HE1.out) ?_
    rintro e' w2 ⟨p, ev, rfl, hv⟩
    obtain ⟨j, hst⟩ := hv.stp
    have HQ2 : Hid (Cel w2 W.heap.size 59 zC) := HQ1.out.turn hst.turn (by omega)
    have HV2 : Hid (PartV W b sb s ea R p ev w2) := hv.lift HS1.out
    have hev := hv.ev
    clear hv hst HS1 HQ1 HE1 HBR
    have z0 : w2.cell? ⟨W.heap.size, 0, none⟩ = some (.int .i64 0) := HQ2.out.cell 0
    have z1 : w2.cell? ⟨W.heap.size, 1, none⟩ = some (.int .i64 0) := HQ2.out.cell 1
    have z2 : w2.cell? ⟨W.heap.size, 2, none⟩ = some (.int .i64 0) := HQ2.out.cell 2
    have z3 : w2.cell? ⟨W.heap.size, 3, none⟩ = some (.string ⟨#[]⟩) := HQ2.out.cell 3
    have zf0 := HQ2.out.frozen 0
    have zf1 := HQ2.out.frozen 1
    have zf2 := HQ2.out.frozen 2
    have zf3 := HQ2.out.frozen 3
    obtain ⟨pk, pp, pn, ps⟩ := p
    rcases hev with ⟨q, _, rfl⟩ | ⟨x, q, _, rfl⟩
    all_goals
      go_wp2_with fail
      refine bodyPost_ret (results_part (p := 4) (u := 5) rfl _ _ W.heap.size _ rfl (HQ2.out.put4 _ _ _ _) rfl) rfl ?_
      exact ⟨⟨pk, pp, pn, ps⟩, _, rfl, HV2.out.put HQ2.out hlb hlsb (Nat.le_refl _) _ _ _ _⟩
  · rw [text_at s k hk, show (some s[k] == some (91 : UInt8)) = false by simpa using h91] at HH
    have HDO : Hid (∀ w, Stp W b sb s k w → Calls Tryz.prog 90 #[.pointer (some ⟨b, 0, none⟩)] w fun e w' => e = .returned (.bool (dolB (s.data.toList.drop k))) ∧ Dr w w') := fun w hw => dollarHere_any hw.at_ hs (by omega)
    have HP : Hid (partL s.size e (s.data.toList.drop k) = if dolB (s.data.toList.drop k) then dollar s.size (s.data.toList.drop k) else .ok (⟨1, k, 0, (plainL e (s.size - k) (s.data.toList.drop k)).1⟩, (plainL e (s.size - k) (s.data.toList.drop k)).2)) := by
      unfold Hid partL
      rw [if_neg, len_drop, show s.size - (s.size - k) = k by omega]
      rw [drop_cons s k hk, List.head?_cons]
      simpa using h91
    rw [HP.out]
    clear h91 HP
    cases hd : dolB (s.data.toList.drop k) with
    | true =>
      rw [hd] at HDO
      rw [if_pos rfl]
      have HDL : Hid (∀ w, Stp W b sb s k w → Env w ea → Calls Tryz.prog 91 #[.pointer (some ⟨b, 0, none⟩)] w fun e' w' => ∃ p ev, e' = .returned (.tuple #[.agg (ptC p).toArray, ev]) ∧ PartV w b sb s ea (dollar s.size (s.data.toList.drop k)) p ev w') := fun w hw he => dollar_any hw.at_ he hs hd hb64
      generalize dollar s.size (s.data.toList.drop k) = R at HDL ⊢
      clear hd
      go_enter Tryz.func82, Tryz.ntmps82
      go_wp2_with fail
      rw [HW0.out]
      go_quiet (first | (go_at_call 47; exact Calls.quiet_of_same (HH.out _)))
      obtain ⟨W1, hW1⟩ : ∃ W1, W1 = W0.drewN nq := ⟨_, rfl⟩
      have HS1 : Hid (Stp W b sb s k W1) := by rw [hW1]; exact HS0.out.drewN nq
      have HQ1 : Hid (Cel W1 W.heap.size 59 zC) := by rw [hW1]; exact HQ0.out
      have HE1 : Hid (Env W1 ea) := by rw [hW1]; exact HE0.out.drewN nq
      rw [← hW1]
      clear hW1 c0 c1 HH HS0 HQ0 HE0
      go_wp2_with fail
      refine Calls.mono (HDO.out _ HS1.out) ?_
      rintro e' w3 ⟨rfl, m3, hw3⟩
      have HS3 : Hid (Stp W b sb s k w3) := by rw [hw3]; exact HS1.out.drewN m3
      have HQ3 : Hid (Cel w3 W.heap.size 59 zC) := by rw [hw3]; exact HQ1.out
      have HE3 : Hid (Env w3 ea) := by rw [hw3]; exact HE1.out.drewN m3
      clear hw3 HS1 HQ1 HE1 HDO
      go_wp2_with fail
      refine Calls.mono (HDL.out _ HS3.out HE3.out) ?_
      rintro e' w2 ⟨p, ev, rfl, hv⟩
      obtain ⟨j, hst⟩ := hv.stp
      have HQ2 : Hid (Cel w2 W.heap.size 59 zC) := HQ3.out.turn hst.turn (by omega)
      have HV2 : Hid (PartV W b sb s ea R p ev w2) := hv.lift HS3.out
      have hev := hv.ev
      clear hv hst HS3 HQ3 HE3 HDL
      have z0 : w2.cell? ⟨W.heap.size, 0, none⟩ = some (.int .i64 0) := HQ2.out.cell 0
      have z1 : w2.cell? ⟨W.heap.size, 1, none⟩ = some (.int .i64 0) := HQ2.out.cell 1
      have z2 : w2.cell? ⟨W.heap.size, 2, none⟩ = some (.int .i64 0) := HQ2.out.cell 2
      have z3 : w2.cell? ⟨W.heap.size, 3, none⟩ = some (.string ⟨#[]⟩) := HQ2.out.cell 3
      have zf0 := HQ2.out.frozen 0
      have zf1 := HQ2.out.frozen 1
      have zf2 := HQ2.out.frozen 2
      have zf3 := HQ2.out.frozen 3
      obtain ⟨pk, pp, pn, ps⟩ := p
      rcases hev with ⟨q, _, rfl⟩ | ⟨x, q, _, rfl⟩
      all_goals
        go_wp2_with fail
        refine bodyPost_ret (results_part (p := 4) (u := 5) rfl _ _ W.heap.size _ rfl (HQ2.out.put4 _ _ _ _) rfl) rfl ?_
        exact ⟨⟨pk, pp, pn, ps⟩, _, rfl, HV2.out.put HQ2.out hlb hlsb (Nat.le_refl _) _ _ _ _⟩
    | false =>
      rw [hd] at HDO
      rw [if_neg (by simp)]
      have HPL : Hid (∀ w, Stp W b sb s k w → Calls Tryz.prog 92 #[.pointer (some ⟨b, 0, none⟩), .string ⟨e.toArray⟩] w fun e' w' => e' = .returned (.agg (ptC ⟨1, k, 0, (plainL e (s.size - k) (s.data.toList.drop k)).1⟩).toArray) ∧ ∃ j, Stp w b sb s j w' ∧ k ≤ j ∧ j ≤ s.size ∧ (plainL e (s.size - k) (s.data.toList.drop k)).2 = s.data.toList.drop j) := fun w hw => plain_any e hw.at_ hs (by omega) (Nat.le_refl _)
      generalize plainL e (s.size - k) (s.data.toList.drop k) = R at HPL ⊢
      clear hd
      go_enter Tryz.func82, Tryz.ntmps82
      go_wp2_with fail
      rw [HW0.out]
      go_quiet (first | (go_at_call 47; exact Calls.quiet_of_same (HH.out _)))
      obtain ⟨W1, hW1⟩ : ∃ W1, W1 = W0.drewN nq := ⟨_, rfl⟩
      have HS1 : Hid (Stp W b sb s k W1) := by rw [hW1]; exact HS0.out.drewN nq
      have HQ1 : Hid (Cel W1 W.heap.size 59 zC) := by rw [hW1]; exact HQ0.out
      rw [← hW1]
      clear hW1 c0 c1 HH HS0 HQ0 HE0
      go_wp2_with fail
      refine Calls.mono (HDO.out _ HS1.out) ?_
      rintro e' w3 ⟨rfl, m3, hw3⟩
      have HS3 : Hid (Stp W b sb s k w3) := by rw [hw3]; exact HS1.out.drewN m3
      have HQ3 : Hid (Cel w3 W.heap.size 59 zC) := by rw [hw3]; exact HQ1.out
      clear hw3 HS1 HQ1 HDO
      go_wp2_with fail
      refine Calls.mono (HPL.out _ HS3.out) ?_
      rintro e' w2 ⟨rfl, j, hst, hj1, hj2, hj3⟩
      have HQ2 : Hid (Cel w2 W.heap.size 59 zC) := HQ3.out.turn hst.turn (by omega)
      have HS2 : Hid (Stp W b sb s j w2) := HS3.out.trans hst
      have HJ : Hid (R.2 = s.data.toList.drop j) := hj3
      clear hst hj3 HS3 HQ3 HPL
      have z0 : w2.cell? ⟨W.heap.size, 0, none⟩ = some (.int .i64 0) := HQ2.out.cell 0
      have z1 : w2.cell? ⟨W.heap.size, 1, none⟩ = some (.int .i64 0) := HQ2.out.cell 1
      have z2 : w2.cell? ⟨W.heap.size, 2, none⟩ = some (.int .i64 0) := HQ2.out.cell 2
      have z3 : w2.cell? ⟨W.heap.size, 3, none⟩ = some (.string ⟨#[]⟩) := HQ2.out.cell 3
      have zf0 := HQ2.out.frozen 0
      have zf1 := HQ2.out.frozen 1
      have zf2 := HQ2.out.frozen 2
      have zf3 := HQ2.out.frozen 3
      go_wp2_with fail
      refine bodyPost_ret (results_part (p := 4) (u := 5) rfl _ _ W.heap.size _ rfl (HQ2.out.put4 _ _ _ _) rfl) rfl ?_
      exact ⟨⟨1, k, 0, R.1⟩, _, rfl, PartV.put (R := .ok (⟨1, k, 0, R.1⟩, R.2)) ⟨rfl, rfl, j, HS2.out, hj2, HJ.out⟩ HQ2.out hlb hlsb (Nat.le_refl _) _ _ _ _⟩
end Go.Proofs.YtlihkblllakhmaaGreatDoor
