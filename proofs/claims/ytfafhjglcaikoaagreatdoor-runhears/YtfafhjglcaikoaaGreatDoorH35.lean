/- A run, whole. -/
import Derived.Test.YtfafhjglcaikoaaGreatDoorH34
import Derived.Test.YtfafhjglcaikoaaGreatDoorH11
namespace Go.Proofs.YtfafhjglcaikoaaGreatDoor
open Go.RowKit
attribute [local go_sem] Oper.semAt_some

variable {W W' : World} {K : Nat → Prop} {rb cb sb kb : Nat} {s : Sh} {ea : Nat → Addr}
theorem Res.turnB {B : Nat} {v : Value} {st : Int} {x : Xr} {S : Nat → Prop} (h : Res ea B W v st x s) (hT : Turn S W W') (hS : ∀ i, S i → i < B) : Res ea B W' v st x s := by
  obtain ⟨tv, vv, fv, X, Y, h1, h2, h3, h4, h5, h6⟩ := h
  exact ⟨tv, vv, fv, X, Y, h1, h2.turnB hT hS, h3, h4.turnB hT hS, h5, owns_turn h6 hT (fun b hb hs => by have := (h6.lt b hb).1; have := hS b hs; omega)⟩
theorem Res.low {B B' : Nat} {v : Value} {st : Int} {x : Xr} (h : Res ea B W v st x s) (hB : B' ≤ B) : Res ea B' W v st x s := by
  obtain ⟨tv, vv, fv, X, Y, h1, h2, h3, h4, h5, h6⟩ := h
  exact ⟨tv, vv, fv, X, Y, h1, h2.low hB, h3, h4.low hB, h5, owns_lower h6 hB⟩
theorem Res.below {B : Nat} {v : Value} {st : Int} {x : Xr} (h : Res ea B W v st x s) (hb : Below W.heap.size W W') : Res ea B W' v st x s := by
  obtain ⟨tv, vv, fv, X, Y, h1, h2, h3, h4, h5, h6⟩ := h
  exact ⟨tv, vv, fv, X, Y, h1, h2.below hb, h3, h4.below hb, h5, row_below h6 hb⟩
abbrev zero54 : Array Value := #[.int .i64 0, .nilIface, .slice none 0 0, .slice none 0 0, .slice none 0 0, .int .i64 0]
set_option maxRecDepth 100000 in
set_option maxHeartbeats 8000000 in
theorem run_any (v fv : Value) (X : List Nd) (Fl : Fls) (st dp n : Nat) (inp : Txt) (r : Cr) (hE : ErX W ea) (h17 : 17 ≤ W.heap.size) (hn : NdAt W v X) (hl : X.length < 4294967296) (hok : ∀ x ∈ X, NdOk x) (hchk : checkL X = .fine) (hf : FlAt W fv Fl) (hFl : Fl.length < 4294967296) (hN : ∀ p ∈ Fl, p.1.length < 4294967296) (hm : mayR Fl [] = none) (h1 : st ≤ 1500) (h2 : dp ≤ 25) (h3 : inp.length ≤ 2000)
    (hev : (ev n).1 X (start Fl st dp inp) = some r) (hkr : Okr r.1) :
    Calls Tryz.prog 26 #[v, wV fv (.slice none 0 0), oV st dp inp] W fun e w' => ∃ u, e = .returned (.tuple #[u, .nilIface]) ∧ Res ea W.heap.size w' u (finR r.1 r.2.1 r.2.2).1 (finR r.1 r.2.1 r.2.2).2 r.1 ∧ Below W.heap.size W w' := by
  obtain ⟨st9, x9, hf9⟩ : ∃ st9 x9, finR r.1 r.2.1 r.2.2 = (st9, x9) := ⟨_, _, rfl⟩
  rw [hf9]
  have HF9 : Hid (finR r.1 r.2.1 r.2.2 = (st9, x9)) := hf9
  clear hf9
  obtain ⟨W3, hW3⟩ : ∃ W3, ((W.alloc (.cells #[fv, .slice none 0 0] 27)).alloc (.cells #[.nilFunc, .int .i64 (st : Nat), .int .i64 (dp : Nat), .slice none 0 0, .slice none 0 0, str inp] 44)).alloc (.cells zero54 54) = W3 := ⟨_, rfl⟩
  obtain ⟨q0, q1, q2, -, -, -, hb3⟩ := boxes3 (K := fun _ => False) W #[fv, .slice none 0 0] #[.nilFunc, .int .i64 (st : Nat), .int .i64 (dp : Nat), .slice none 0 0, .slice none 0 0, str inp] zero54 27 44 54 (fun _ h => h.elim)
  rw [hW3] at q0 q1 q2 hb3
  have HCK : Hid (Calls Tryz.prog 38 #[v] W3 fun e w4 => e = .returned .nilIface ∧ Below W3.heap.size W3 w4) := by
    refine Calls.mono (check_any v X W3 ea (hE.er.below hb3 (Nat.le_refl _)) (hn.below hb3 (Nat.le_refl _)) hl hok) ?_
    rintro e w4 ⟨u, p1, p2, p3⟩
    rw [hchk] at p2
    exact ⟨by rw [p1, show u = .nilIface from p2], p3⟩
  have HBG : Hid (∀ w4, Below W3.heap.size W3 w4 → Calls Tryz.prog 39 #[wV fv (.slice none 0 0), oV st dp inp] w4 fun e w' => ∃ rb sb kb K, e = .returned (.tuple #[rP rb, .nilIface]) ∧ Hid (Rn w' K rb 0 sb kb (start Fl st dp inp)) ∧ Hid (∀ i, K i → w4.heap.size ≤ i) ∧ Hid (Below W3.heap.size W3 w') ∧ Hid (w4.heap.size ≤ w'.heap.size)) := fun w4 hb4 => by
    have hb := hb3.trans (hb4.mono hb3.size)
    refine Calls.mono (begin_any (ea := ea) fv Fl st dp inp (hE.er.below hb (Nat.le_refl _)) (Nat.le_trans h17 hb.size) (hf.below hb (Nat.le_refl _)) hFl hN hm h1 h2 h3) ?_
    rintro e w' ⟨rb, sb, kb, K, p1, p2, p3, p4⟩
    exact ⟨rb, sb, kb, K, p1, p2, p3, hb4.trans (p4.mono hb4.size), p4.size⟩
  have HCL : Hid (∀ w5, Below W3.heap.size W3 w5 → Calls Tryz.prog 35 #[v] w5 fun e w6 => ∃ v', e = .returned v' ∧ NdOwn w6 w5.heap.size v' X ∧ Below w5.heap.size w5 w6) := fun w5 hb5 => by
    have hb := hb3.trans (hb5.mono hb3.size)
    exact cloneN_any v X w5 (hn.below hb (Nat.le_refl _)) hl
  have HEV : Hid (CmdC ea (ev n).1) := (ev_any ea n).1
  have HX : Hid ((ev n).1 X (start Fl st dp inp) = some r) := hev
  have HE : Hid (∀ w, Below W3.heap.size W3 w → ErX w ea) := fun w hb => hE.below (Nat.le_refl _) (hb3.trans (hb.mono hb3.size))
  have HQ2 : Hid (∀ w, Below W3.heap.size W3 w → Cel w (W.heap.size + 1 + 1) 54 zero54) := fun w hb => q2.below hb q2.lt
  have HQ : Hid (∀ w, Below W3.heap.size W3 w → Cel w W.heap.size 27 #[fv, .slice none 0 0] ∧ Cel w (W.heap.size + 1) 44 #[.nilFunc, .int .i64 (st : Nat), .int .i64 (dp : Nat), .slice none 0 0, .slice none 0 0, str inp]) := fun w hb => ⟨q0.below hb q0.lt, q1.below hb q1.lt⟩
  have HB3 : Hid (Below W.heap.size W W3) := hb3
  have HSZ : Hid (W3.heap.size = W.heap.size + 3) := by unfold Hid; rw [← hW3]; simp
  have HKR : Hid (Okr r.1) := hkr
  obtain ⟨va, vc, rfl⟩ := hn.form
  obtain ⟨fa, fc, rfl⟩ := hf.form
  clear hE h17 hn hl hok hchk hf hFl hN hm h1 h2 h3 hev hkr q0 q1 q2 hb3
  go_enter Tryz.func26, Tryz.ntmps26
  go_wp2_with fail
  refine Calls.mono HCK.out ?_
  rintro e w4 ⟨rfl, hb4⟩
  have r0 := (HQ.out _ hb4).1.cell 0
  have r1 := (HQ.out _ hb4).1.cell 1
  have t0 := (HQ.out _ hb4).2.cell 0
  have t1 := (HQ.out _ hb4).2.cell 1
  have t2 := (HQ.out _ hb4).2.cell 2
  have t3 := (HQ.out _ hb4).2.cell 3
  have t4 := (HQ.out _ hb4).2.cell 4
  have t5 := (HQ.out _ hb4).2.cell 5
  have HBG2 : Hid _ := HBG.out w4 hb4
  have HB4 : Hid (Below W3.heap.size W3 w4) := hb4
  clear hb4 HBG HCK hW3
  go_wp2_with fail
  refine Calls.mono HBG2.out ?_
  rintro e w5 ⟨rb, sb, kb, K, rfl, HR5, HK5, HB5, HZ5⟩
  have HCL2 : Hid _ := HCL.out w5 HB5.out
  clear HBG2 HCL r0 r1 t0 t1 t2 t3 t4 t5
  go_wp2_with fail
  refine Calls.mono HCL2.out ?_
  rintro e w6 ⟨v', rfl, hnd, hb6⟩
  have hb36 : Below W3.heap.size W3 w6 := Below.trans HB5.out (hb6.mono HB5.out.size)
  have hK3 : ∀ i, K i → W3.heap.size ≤ i := fun i hi => Nat.le_trans HB4.out.size (HK5.out i hi)
  have HCM : Hid (Calls Tryz.prog 40 #[rP rb, v'] w6 fun e w7 => e = .returned (.tuple #[.int .i64 r.2.1, xrV ea r.2.2]) ∧ Hid (∃ K7 cb7, Rn w7 K7 rb cb7 sb kb r.1) ∧ Hid (Below W3.heap.size W3 w7)) := by
    refine Calls.mono (HEV.out w6 K rb 0 sb kb (start Fl st dp inp) v' X r (HE.out _ hb36).er (Rn.below HR5.out hb6) hnd.at (off_own (Rn.lt HR5.out) hnd) HX.out) ?_
    rintro e w7 ⟨p1, K7, cb7, p2, p3, _⟩
    exact ⟨p1, ⟨K7, cb7, p2⟩, hb36.trans (Stp.below p3 hK3 hb36.size).1⟩
  obtain ⟨xa, xc, rfl⟩ := hnd.at.form
  clear hnd hb6 hb36 hK3 HCL2 HR5 HK5 HB5 HZ5 HEV HX
  go_wp2_with fail
  refine Calls.mono HCM.out ?_
  rintro e w7 ⟨rfl, HR7, HB7⟩
  have HRS : Hid (Calls Tryz.prog 41 #[rP rb, .int .i64 r.2.1, xrV ea r.2.2] w7 fun e w8 => ∃ ta tn tc va vn vc fa fn fc, e = .returned (.agg #[.int .i64 st9, xrV ea x9, .slice ta tn tc, .slice va vn vc, .slice fa fn fc, .int .i64 (r.1.st : Nat)]) ∧ Hid (Res ea w7.heap.size w8 (.agg #[.int .i64 st9, xrV ea x9, .slice ta tn tc, .slice va vn vc, .slice fa fn fc, .int .i64 (r.1.st : Nat)]) st9 x9 r.1) ∧ Hid (Below W3.heap.size W3 w8)) := by
    obtain ⟨K7, cb7, hr7⟩ := HR7.out
    refine Calls.mono (result_any r.2.1 r.2.2 (HE.out _ HB7.out) hr7 HKR.out) ?_
    rintro e w8 ⟨u, p1, p2, p3⟩
    rw [HF9.out] at p2
    obtain ⟨tv, vv, fv, Xe, Y, hu, g2, g3, g4, g5, g6⟩ := p2
    obtain ⟨ta, tc, rfl⟩ := owns_slice g2.1
    obtain ⟨va, vc, rfl⟩ := owns_slice g4.1
    obtain ⟨fa, fc, rfl⟩ := owns_slice g6
    subst hu
    exact ⟨ta, _, tc, va, _, vc, fa, _, fc, p1, ⟨_, _, _, Xe, Y, rfl, g2, g3, g4, g5, g6⟩, Below.trans HB7.out (p3.mono HB7.out.size)⟩
  have HZ7 : Hid (W3.heap.size ≤ w7.heap.size) := HB7.out.size
  clear HCM HR7 HB7 HE HKR
  have hx9 : x9 = .ok ∧ xrV ea x9 = .nilIface ∨ ∃ a, xrV ea x9 = errV a := by
    rcases xr_cases ea x9 with h | ⟨_, h⟩
    · exact .inl h
    · exact .inr h
  obtain ⟨xv9, hxv9⟩ : ∃ xv9, xrV ea x9 = xv9 := ⟨_, rfl⟩
  rw [hxv9] at HRS hx9
  have hx9' : xv9 = .nilIface ∨ ∃ a, xv9 = errV a := hx9.elim (fun h => .inl h.2) .inr
  clear hx9 hxv9
  go_wp2_with fail
  refine Calls.mono HRS.out ?_
  rintro e w8 ⟨ta, tn, tc, va', vn, vc', fa', fn, fc', rfl, HR8, HB8⟩
  have q0 := (HQ2.out _ HB8.out).cell 0
  have q1 := (HQ2.out _ HB8.out).cell 1
  have q2 := (HQ2.out _ HB8.out).cell 2
  have q3 := (HQ2.out _ HB8.out).cell 3
  have q4 := (HQ2.out _ HB8.out).cell 4
  have q5 := (HQ2.out _ HB8.out).cell 5
  have z0 := (HQ2.out _ HB8.out).frozen 0
  have z1 := (HQ2.out _ HB8.out).frozen 1
  have z2 := (HQ2.out _ HB8.out).frozen 2
  have z3 := (HQ2.out _ HB8.out).frozen 3
  have z4 := (HQ2.out _ HB8.out).frozen 4
  have z5 := (HQ2.out _ HB8.out).frozen 5
  obtain ⟨wf, hwf⟩ : ∃ wf, wfW w8 (W.heap.size + 1 + 1) (.int .i64 st9) xv9 (.slice ta tn tc) (.slice va' vn vc') (.slice fa' fn fc') (.int .i64 (r.1.st : Nat)) = wf := ⟨_, rfl⟩
  have hcf : Cel wf (W.heap.size + 1 + 1) 54 #[.int .i64 st9, xv9, .slice ta tn tc, .slice va' vn vc', .slice fa' fn fc', .int .i64 (r.1.st : Nat)] := by
    rw [← hwf]
    exact ((((((HQ2.out _ HB8.out).set (j := 0) _).set (j := 1) _).set (j := 2) _).set (j := 3) _).set (j := 4) _).set (j := 5) _
  have hT : Turn (fun i => i = W.heap.size + 1 + 1) w8 wf := by
    rw [← hwf]
    exact ((((((Turn.refl (fun i => i = W.heap.size + 1 + 1) w8).setCell (p := ⟨W.heap.size + 1 + 1, 0, none⟩) (fun _ => rfl) _).setCell (p := ⟨W.heap.size + 1 + 1, 1, none⟩) (fun _ => rfl) _).setCell (p := ⟨W.heap.size + 1 + 1, 2, none⟩) (fun _ => rfl) _).setCell (p := ⟨W.heap.size + 1 + 1, 3, none⟩) (fun _ => rfl) _).setCell (p := ⟨W.heap.size + 1 + 1, 4, none⟩) (fun _ => rfl) _).setCell (p := ⟨W.heap.size + 1 + 1, 5, none⟩) (fun _ => rfl) _
  have hsz := HSZ.out
  have hz7 := HZ7.out
  have HRF : Hid _ := (Res.low (Res.turnB HR8.out hT (fun i e => by omega)) (by omega) : Res ea W.heap.size wf _ st9 x9 r.1)
  have HBF : Hid (Below W.heap.size W wf) := (Below.trans HB3.out (HB8.out.mono HB3.out.size)).trans (hT.below (fun i e => by omega) (by have := HB8.out.size; omega))
  unfold wfW at hwf
  have k0 := hcf.cell 0
  have k1 := hcf.cell 1
  have k2 := hcf.cell 2
  have k3 := hcf.cell 3
  have k4 := hcf.cell 4
  have k5 := hcf.cell 5
  clear hcf hT hsz hz7 HR8 HB8 HRS HQ2 HQ
  rcases hx9' with rfl | ⟨a9, rfl⟩
  · go_wp2_with fail
    refine bodyPost_ret (v := .tuple #[.agg #[.int .i64 st9, .nilIface, .slice ta tn tc, .slice va' vn vc', .slice fa' fn fc', .int .i64 (r.1.st : Nat)], .nilIface]) ?_ rfl ⟨_, rfl, HRF.out, HBF.out⟩
    simp [results, Tryz.results26, go_sem, k0, k1, k2, k3, k4, k5]
  · go_wp2_with fail
    refine bodyPost_ret (v := .tuple #[.agg #[.int .i64 st9, errV a9, .slice ta tn tc, .slice va' vn vc', .slice fa' fn fc', .int .i64 (r.1.st : Nat)], .nilIface]) ?_ rfl ⟨_, rfl, HRF.out, HBF.out⟩
    simp [results, Tryz.results26, go_sem, k0, k1, k2, k3, k4, k5]
end Go.Proofs.YtfafhjglcaikoaaGreatDoor
