/- A command, kind by kind. -/
import Derived.Test.YtfafhjglcaikoaaGreatDoorH30
namespace Go.Proofs.YtfafhjglcaikoaaGreatDoor
open Go.RowKit
attribute [local go_sem] Oper.semAt_some

variable {W W' : World} {K : Nat → Prop} {rb cb sb kb : Nat} {s : Sh} {ea : Nat → Addr} {f : List Nd → Sh → Option Cr} {g : List Nd → Sh → Option Wr}
theorem cell_stp {b j : Nat} {K' : Nat → Prop} (hs : Stp W K W' K') (hk : ¬ K b) (hlt : b < W.heap.size) : W'.cell? ⟨b, j, none⟩ = W.cell? ⟨b, j, none⟩ := World.cell?_of_block (w := W) (a := ⟨b, j, none⟩) (hs.1.block b hlt hk)
/-- What stands behind a command's first words. -/
structure Kid (ea : Nat → Addr) (W0 : World) (W : World) (K : Nat → Prop) (rb cb sb kb : Nat) (s : Sh) (v kv : Value) (X : List Nd) (ks : List (List Nd)) : Prop where
  kd : ∃ B, Kds W B v kv ks
  rn : Rn W K rb cb sb kb s
  er : Ers W ea
  nd : NdAt W v X
  ov : Off W K v
  ok : Off W K kv
  st : Stp W0 K W K
theorem Kid.drew {W0 : World} {v kv : Value} {X : List Nd} {ks : List (List Nd)} (h : Kid ea W0 W K rb cb sb kb s v kv X ks) : Kid ea W0 W.drew K rb cb sb kb s v kv X ks := by
  have hb := (Below.refl W.heap.size W).drew
  have hs : Stp W K W.drew K := Stp.ofBelow hb
  obtain ⟨B, hk⟩ := h.kd
  exact ⟨⟨B, hk.below hb⟩, h.rn.below hb, h.er.stp h.rn hs, h.nd.below hb (Nat.le_refl _), h.ov.below hb, h.ok.below hb, h.st.trans hs⟩
theorem kids_kid (v : Value) (X : List Nd) (ks : List (List Nd)) {W0 : World} (hE : Ers W ea) (h : Rn W K rb cb sb kb s) (hn : NdAt W v X) (hov : Off W K v) (hs : Stp W0 K W K) (hk : kidsP X = some ks) :
    Calls Tryz.prog 66 #[v] W.drew fun e w' => ∃ kv, e = .returned kv ∧ Kid ea W0 w' K rb cb sb kb s v kv X ks := by
  have hb := (Below.refl W.heap.size W).drew
  have hsd : Stp W K W.drew K := Stp.ofBelow hb
  refine Calls.mono (kids_rn (W := W.drew) v X ks (hE.stp h hsd) (h.below hb) (hn.below hb (Nat.le_refl _)) (hov.below hb) hk) ?_
  rintro e w' ⟨kv, q1, q2, q3, q4, q5, q6, q7, q8⟩
  exact ⟨kv, q1, ⟨⟨_, q2⟩, q3, q4, q5, q6, q7, (hs.trans hsd).trans q8⟩⟩
/-- Its first child, and its second. -/
theorem Kid.first {W0 : World} {v kv : Value} {X q0 : List Nd} {qs : List (List Nd)} (h : Kid ea W0 W K rb cb sb kb s v kv X (q0 :: qs)) : ∃ gk cap pv, kv = .slice (some ⟨gk, 0, none⟩) (q0 :: qs).length cap ∧ gk < W.heap.size ∧ ¬ K gk ∧ W.cell? ⟨gk, 0, none⟩ = some pv ∧ NdAt W pv q0 ∧ Off W K pv := by
  obtain ⟨B, hk⟩ := h.kd
  obtain ⟨gk, cap, pv, h1, h2, h3, h4, h5⟩ := hk.at (j := 0) (k := q0) rfl
  exact ⟨gk, cap, pv, h1, h2, (h.ok gk (by rw [h1]; rfl)).2, h3, h4, h.ov.pick h5⟩
theorem Kid.two {W0 : World} {v kv : Value} {X q0 q1 : List Nd} {qs : List (List Nd)} (h : Kid ea W0 W K rb cb sb kb s v kv X (q0 :: q1 :: qs)) : ∃ gk cap pv pw, kv = .slice (some ⟨gk, 0, none⟩) (q0 :: q1 :: qs).length cap ∧ gk < W.heap.size ∧ ¬ K gk ∧ W.cell? ⟨gk, 0, none⟩ = some pv ∧ W.cell? ⟨gk, 1, none⟩ = some pw ∧ NdAt W pv q0 ∧ Off W K pv ∧ NdAt W pw q1 ∧ Off W K pw := by
  obtain ⟨B, hk⟩ := h.kd
  obtain ⟨gk, cap, pv, h1, h2, h3, h4, h5⟩ := hk.at (j := 0) (k := q0) rfl
  obtain ⟨gk', cap', pw, h1', h2', h3', h4', h5'⟩ := hk.at (j := 1) (k := q1) rfl
  rw [h1] at h1'
  cases h1'
  exact ⟨gk, cap, pv, pw, h1, h2, (h.ok gk (by rw [h1]; rfl)).2, h3, h3', h4, h.ov.pick h5, h4', h.ov.pick h5'⟩
set_option maxRecDepth 100000 in
set_option maxHeartbeats 8000000 in
theorem cmd21_any (hC : CmdC ea f) (hG : WordC ea g) (v : Value) (x : Nd) (rest : List Nd) (ks : List (List Nd)) (r : Cr) (hE : Ers W ea) (h : Rn W K rb cb sb kb s) (hn : NdAt W v (x :: rest)) (hov : Off W K v) (hkind : x.kind = 21) (hok : okB s = true) (_hxs : x.s.length < 100000) (hks : kidsP (x :: rest) = some ks)
    (hr : ((stepP s).2 ≠ .ok → r = ((stepP s).1, 0, (stepP s).2)) ∧ ((stepP s).2 = .ok → callS f g ks (stepP s).1 = some r)) :
    Calls Tryz.prog 40 #[rP rb, v] W (Done ea W K rb cb sb kb r) := by
  obtain ⟨gb, ob, cap, rfl, hgl, c0, -⟩ := hn.at (j := 0) (x := x) rfl
  rw [Nat.zero_mul, Nat.add_zero] at c0
  rw [hkind] at c0
  have HB : Hid _ := begins_any 21 W
  rw [show stepsB 21 = true by rfl] at HB
  have hkl := kidsP_len hks
  have hpos : 0 < (x :: rest).length := by simp
  have HN : Hid (∀ w1 K1, Stp W K w1 K1 → w1.cell? ⟨gb, ob, none⟩ = some (.int .i64 21) ∧ w1.cell? ⟨gb, ob + 1, none⟩ = some (.int .i64 x.n) ∧ w1.cell? ⟨gb, ob + 4, none⟩ = some (str x.s)) := fun w1 K1 q => by
    obtain ⟨g', o', c', hv', _, k0, k1, _, _, k4⟩ := (hov.nd hn q).at (j := 0) (x := x) rfl
    cases hv'
    rw [Nat.zero_mul, Nat.add_zero] at k0 k1 k4
    rw [hkind] at k0
    exact ⟨k0, k1, k4⟩
  have HST : Hid (Calls Tryz.prog 65 #[rP rb] W fun e w' => e = .returned (xrV ea (stepP s).2) ∧ Rn w' K rb cb sb kb (stepP s).1 ∧ Stp W K w' K) := step_any h hE (okk hok).st
  have hFH : (stepP s).1.F = s.F ∧ (stepP s).1.H = s.H := by unfold stepP; split <;> exact ⟨rfl, rfl⟩
  have HKD : Hid (∀ w1, Rn w1 K rb cb sb kb (stepP s).1 → Stp W K w1 K → Calls Tryz.prog 66 #[.slice (some ⟨gb, ob, none⟩) (x :: rest).length cap] w1.drew fun e w' => ∃ kv, e = .returned kv ∧ w'.cell? ⟨gb, ob + 4, none⟩ = some (str x.s) ∧ Kid ea W w' K rb cb sb kb (stepP s).1 (.slice (some ⟨gb, ob, none⟩) (x :: rest).length cap) kv (x :: rest) ks) := fun w1 q1 q2 => by
    refine Calls.mono (kids_kid _ _ ks (hE.stp h q2) q1 (hov.nd hn q2) (hov.stp q2) q2 hks) ?_
    rintro e w' ⟨kv, p1, p2⟩
    exact ⟨kv, p1, (HN.out _ _ p2.st).2.2, p2⟩
  have HBD : Hid (∀ w2 kv, (stepP s).2 = .ok → Kid ea W w2 K rb cb sb kb (stepP s).1 (.slice (some ⟨gb, ob, none⟩) (x :: rest).length cap) kv (x :: rest) ks → Calls Tryz.prog 67 #[rP rb, kv] w2 (Done ea W K rb cb sb kb r)) := fun w2 kv hpre q => by
    obtain ⟨B, hkd⟩ := q.kd
    exact Calls.mono (callR_any hC hG _ kv B ks r q.er q.rn hkd q.ov q.ok (by omega) (hr.2 hpre)) (fun e w' p => p.pre q.st)
  have HSN : Hid _ := hr.1
  generalize stepP s = q0 at *
  obtain ⟨s0, x0⟩ := q0
  generalize (x :: rest).length = nx at *
  clear h hE hn hov hr hks hkind  hFH
  go_enter Tryz.func40, Tryz.ntmps40
  go_wp2_with fail
  refine Calls.mono HB.out ?_
  rintro e wz ⟨rfl, hwz⟩
  obtain rfl := hwz.symm
  go_wp2_with fail
  refine Calls.mono HST.out ?_
  rintro e w1 ⟨rfl, hr1, hs1⟩
  rcases xr_cases ea x0 with ⟨hx1, hx2⟩ | ⟨hx1, a, hx2⟩
  case inr =>
    have HRB : Hid (Rb W K rb cb sb kb s0 x0 w1) := Rb.of hr1 hs1
    obtain rfl := HSN.out hx1
    clear hr1 hs1 HST HKD HN HSN
    simp only [hx2]
    go_wp2_with fail
    go_ret2
    refine ⟨?_, HRB.out⟩
    show _ = Ending.returned (.tuple #[.int .i64 0, xrV ea x0])
    rw [hx2]
    rfl
  have HKW : Hid _ := HKD.out w1 hr1 hs1
  have c4 := (HN.out _ _ hs1).2.2
  clear hr1 hs1 HST HKD HSN
  simp only [hx2]
  go_wp2_with fail
  go_region_held3 (fun w' => w'.cell? ⟨gb, ob + 4, none⟩ = some (str x.s)) (go_keep) (first | (go_at_call 66; refine Calls.mono HKW.out ?_; rintro e w2 ⟨kv, rfl, g4, hkid⟩; obtain ⟨ka, kc, hkv⟩ := (hkid.kd).elim (fun B q => q.form)))
  have g0 := (HN.out _ _ hkid.st).1
  have g1 := (HN.out _ _ hkid.st).2.1
  have HID : Hid _ := hkid
  have HB2 : Hid _ := HBD.out w2 kv hx1 hkid
  subst hkv
  clear hkid HKW HBD
  go_wp2_with fail
  refine Calls.mono HB2.out ?_
  rintro e w3 ⟨rfl, hrb⟩
  have HRB : Hid _ := hrb
  clear hrb
  go_wp2_with fail
  go_ret2
  exact ⟨rfl, HRB.out⟩
set_option maxRecDepth 100000 in
set_option maxHeartbeats 8000000 in
theorem cmd23_any (hC : CmdC ea f) (v : Value) (x : Nd) (rest : List Nd) (ks : List (List Nd)) (r : Cr) (hE : Ers W ea) (h : Rn W K rb cb sb kb s) (hn : NdAt W v (x :: rest)) (hov : Off W K v) (hkind : x.kind = 23) (_hok : okB s = true) (_hxs : x.s.length < 100000) (hks : kidsP (x :: rest) = some ks)
    (hr : seqS f ks s 0 = some r) :
    Calls Tryz.prog 40 #[rP rb, v] W (Done ea W K rb cb sb kb r) := by
  obtain ⟨gb, ob, cap, rfl, hgl, c0, -⟩ := hn.at (j := 0) (x := x) rfl
  rw [Nat.zero_mul, Nat.add_zero] at c0
  rw [hkind] at c0
  have HB : Hid _ := begins_any 23 W
  rw [show stepsB 23 = false by rfl] at HB
  have hkl := kidsP_len hks
  have hpos : 0 < (x :: rest).length := by simp
  have HN : Hid (∀ w1 K1, Stp W K w1 K1 → w1.cell? ⟨gb, ob, none⟩ = some (.int .i64 23) ∧ w1.cell? ⟨gb, ob + 1, none⟩ = some (.int .i64 x.n) ∧ w1.cell? ⟨gb, ob + 4, none⟩ = some (str x.s)) := fun w1 K1 q => by
    obtain ⟨g', o', c', hv', _, k0, k1, _, _, k4⟩ := (hov.nd hn q).at (j := 0) (x := x) rfl
    cases hv'
    rw [Nat.zero_mul, Nat.add_zero] at k0 k1 k4
    rw [hkind] at k0
    exact ⟨k0, k1, k4⟩
  have HKD : Hid (∀ w1, Rn w1 K rb cb sb kb s → Stp W K w1 K → Calls Tryz.prog 66 #[.slice (some ⟨gb, ob, none⟩) (x :: rest).length cap] w1.drew fun e w' => ∃ kv, e = .returned kv ∧ w'.cell? ⟨gb, ob + 4, none⟩ = some (str x.s) ∧ Kid ea W w' K rb cb sb kb s (.slice (some ⟨gb, ob, none⟩) (x :: rest).length cap) kv (x :: rest) ks) := fun w1 q1 q2 => by
    refine Calls.mono (kids_kid _ _ ks (hE.stp h q2) q1 (hov.nd hn q2) (hov.stp q2) q2 hks) ?_
    rintro e w' ⟨kv, p1, p2⟩
    exact ⟨kv, p1, (HN.out _ _ p2.st).2.2, p2⟩
  have HBD : Hid (∀ w2 kv, Kid ea W w2 K rb cb sb kb s (.slice (some ⟨gb, ob, none⟩) (x :: rest).length cap) kv (x :: rest) ks → Calls Tryz.prog 69 #[rP rb, kv] w2 (Done ea W K rb cb sb kb r)) := fun w2 kv q => by
    obtain ⟨B, hkd⟩ := q.kd
    exact Calls.mono (seqR_any hC _ kv B ks r q.er q.rn hkd q.ov q.ok (by omega) hr) (fun e w' p => p.pre q.st)
  have HR0 : Hid (Rn W K rb cb sb kb s) := h
  generalize (x :: rest).length = nx at *
  clear h hE hn hov hr hks hkind 
  go_enter Tryz.func40, Tryz.ntmps40
  go_wp2_with fail
  refine Calls.mono HB.out ?_
  rintro e wz ⟨rfl, hwz⟩
  obtain rfl := hwz.symm
  go_wp2_with fail
  have HKW : Hid _ := HKD.out _ HR0.out (Stp.refl _ K)
  have c4 := (HN.out _ _ (Stp.refl _ K)).2.2
  clear HKD
  go_region_held3 (fun w' => w'.cell? ⟨gb, ob + 4, none⟩ = some (str x.s)) (go_keep) (first | (go_at_call 66; refine Calls.mono HKW.out ?_; rintro e w2 ⟨kv, rfl, g4, hkid⟩; obtain ⟨ka, kc, hkv⟩ := (hkid.kd).elim (fun B q => q.form)))
  have g0 := (HN.out _ _ hkid.st).1
  have g1 := (HN.out _ _ hkid.st).2.1
  have HID : Hid _ := hkid
  have HB2 : Hid _ := HBD.out w2 kv hkid
  subst hkv
  clear hkid HKW HBD
  go_wp2_with fail
  refine Calls.mono HB2.out ?_
  rintro e w3 ⟨rfl, hrb⟩
  have HRB : Hid _ := hrb
  clear hrb
  go_wp2_with fail
  go_ret2
  exact ⟨rfl, HRB.out⟩
set_option maxRecDepth 100000 in
set_option maxHeartbeats 8000000 in
theorem cmd32_any (hC : CmdC ea f) (v : Value) (x : Nd) (rest : List Nd) (ks : List (List Nd)) (r : Cr) (hE : Ers W ea) (h : Rn W K rb cb sb kb s) (hn : NdAt W v (x :: rest)) (hov : Off W K v) (hkind : x.kind = 32) (hok : okB s = true) (_hxs : x.s.length < 100000) (hks : kidsP (x :: rest) = some ks)
    (hr : ((stepP s).2 ≠ .ok → r = ((stepP s).1, 0, (stepP s).2)) ∧ ((stepP s).2 = .ok → pipeS f ks (stepP s).1 = some r)) :
    Calls Tryz.prog 40 #[rP rb, v] W (Done ea W K rb cb sb kb r) := by
  obtain ⟨gb, ob, cap, rfl, hgl, c0, -⟩ := hn.at (j := 0) (x := x) rfl
  rw [Nat.zero_mul, Nat.add_zero] at c0
  rw [hkind] at c0
  have HB : Hid _ := begins_any 32 W
  rw [show stepsB 32 = true by rfl] at HB
  have hkl := kidsP_len hks
  have hpos : 0 < (x :: rest).length := by simp
  have HN : Hid (∀ w1 K1, Stp W K w1 K1 → w1.cell? ⟨gb, ob, none⟩ = some (.int .i64 32) ∧ w1.cell? ⟨gb, ob + 1, none⟩ = some (.int .i64 x.n) ∧ w1.cell? ⟨gb, ob + 4, none⟩ = some (str x.s)) := fun w1 K1 q => by
    obtain ⟨g', o', c', hv', _, k0, k1, _, _, k4⟩ := (hov.nd hn q).at (j := 0) (x := x) rfl
    cases hv'
    rw [Nat.zero_mul, Nat.add_zero] at k0 k1 k4
    rw [hkind] at k0
    exact ⟨k0, k1, k4⟩
  have HST : Hid (Calls Tryz.prog 65 #[rP rb] W fun e w' => e = .returned (xrV ea (stepP s).2) ∧ Rn w' K rb cb sb kb (stepP s).1 ∧ Stp W K w' K) := step_any h hE (okk hok).st
  have hFH : (stepP s).1.F = s.F ∧ (stepP s).1.H = s.H := by unfold stepP; split <;> exact ⟨rfl, rfl⟩
  have HKD : Hid (∀ w1, Rn w1 K rb cb sb kb (stepP s).1 → Stp W K w1 K → Calls Tryz.prog 66 #[.slice (some ⟨gb, ob, none⟩) (x :: rest).length cap] w1.drew fun e w' => ∃ kv, e = .returned kv ∧ w'.cell? ⟨gb, ob + 4, none⟩ = some (str x.s) ∧ Kid ea W w' K rb cb sb kb (stepP s).1 (.slice (some ⟨gb, ob, none⟩) (x :: rest).length cap) kv (x :: rest) ks) := fun w1 q1 q2 => by
    refine Calls.mono (kids_kid _ _ ks (hE.stp h q2) q1 (hov.nd hn q2) (hov.stp q2) q2 hks) ?_
    rintro e w' ⟨kv, p1, p2⟩
    exact ⟨kv, p1, (HN.out _ _ p2.st).2.2, p2⟩
  have HBD : Hid (∀ w2 kv, (stepP s).2 = .ok → Kid ea W w2 K rb cb sb kb (stepP s).1 (.slice (some ⟨gb, ob, none⟩) (x :: rest).length cap) kv (x :: rest) ks → Calls Tryz.prog 75 #[rP rb, kv] w2 (Done ea W K rb cb sb kb r)) := fun w2 kv hpre q => by
    obtain ⟨B, hkd⟩ := q.kd
    exact Calls.mono (pipeR_any hC _ kv B ks r q.er q.rn hkd q.ov q.ok (by omega) (hr.2 hpre)) (fun e w' p => p.pre q.st)
  have HSN : Hid _ := hr.1
  generalize stepP s = q0 at *
  obtain ⟨s0, x0⟩ := q0
  generalize (x :: rest).length = nx at *
  clear h hE hn hov hr hks hkind  hFH
  go_enter Tryz.func40, Tryz.ntmps40
  go_wp2_with fail
  refine Calls.mono HB.out ?_
  rintro e wz ⟨rfl, hwz⟩
  obtain rfl := hwz.symm
  go_wp2_with fail
  refine Calls.mono HST.out ?_
  rintro e w1 ⟨rfl, hr1, hs1⟩
  rcases xr_cases ea x0 with ⟨hx1, hx2⟩ | ⟨hx1, a, hx2⟩
  case inr =>
    have HRB : Hid (Rb W K rb cb sb kb s0 x0 w1) := Rb.of hr1 hs1
    obtain rfl := HSN.out hx1
    clear hr1 hs1 HST HKD HN HSN
    simp only [hx2]
    go_wp2_with fail
    go_ret2
    refine ⟨?_, HRB.out⟩
    show _ = Ending.returned (.tuple #[.int .i64 0, xrV ea x0])
    rw [hx2]
    rfl
  have HKW : Hid _ := HKD.out w1 hr1 hs1
  have c4 := (HN.out _ _ hs1).2.2
  clear hr1 hs1 HST HKD HSN
  simp only [hx2]
  go_wp2_with fail
  go_region_held3 (fun w' => w'.cell? ⟨gb, ob + 4, none⟩ = some (str x.s)) (go_keep) (first | (go_at_call 66; refine Calls.mono HKW.out ?_; rintro e w2 ⟨kv, rfl, g4, hkid⟩; obtain ⟨ka, kc, hkv⟩ := (hkid.kd).elim (fun B q => q.form)))
  have g0 := (HN.out _ _ hkid.st).1
  have g1 := (HN.out _ _ hkid.st).2.1
  have HID : Hid _ := hkid
  have HB2 : Hid _ := HBD.out w2 kv hx1 hkid
  subst hkv
  clear hkid HKW HBD
  go_wp2_with fail
  refine Calls.mono HB2.out ?_
  rintro e w3 ⟨rfl, hrb⟩
  have HRB : Hid _ := hrb
  clear hrb
  go_wp2_with fail
  go_ret2
  exact ⟨rfl, HRB.out⟩
set_option maxRecDepth 100000 in
set_option maxHeartbeats 8000000 in
theorem cmd22_any (hG : WordC ea g) (v : Value) (x : Nd) (rest : List Nd) (ks : List (List Nd)) (r : Cr) (hE : Ers W ea) (h : Rn W K rb cb sb kb s) (hn : NdAt W v (x :: rest)) (hov : Off W K v) (hkind : x.kind = 22) (hok : okB s = true) (hxs : x.s.length < 100000) (hks : kidsP (x :: rest) = some ks)
    (hr : ((stepP s).2 ≠ .ok → r = ((stepP s).1, 0, (stepP s).2)) ∧ ((stepP s).2 = .ok → ∃ q0 qs, ks = q0 :: qs ∧ setS9 g x.s q0 (stepP s).1 = some r)) :
    Calls Tryz.prog 40 #[rP rb, v] W (Done ea W K rb cb sb kb r) := by
  obtain ⟨gb, ob, cap, rfl, hgl, c0, -⟩ := hn.at (j := 0) (x := x) rfl
  rw [Nat.zero_mul, Nat.add_zero] at c0
  rw [hkind] at c0
  have HB : Hid _ := begins_any 22 W
  rw [show stepsB 22 = true by rfl] at HB
  have hkl := kidsP_len hks
  have hpos : 0 < (x :: rest).length := by simp
  have HN : Hid (∀ w1 K1, Stp W K w1 K1 → w1.cell? ⟨gb, ob, none⟩ = some (.int .i64 22) ∧ w1.cell? ⟨gb, ob + 1, none⟩ = some (.int .i64 x.n) ∧ w1.cell? ⟨gb, ob + 4, none⟩ = some (str x.s)) := fun w1 K1 q => by
    obtain ⟨g', o', c', hv', _, k0, k1, _, _, k4⟩ := (hov.nd hn q).at (j := 0) (x := x) rfl
    cases hv'
    rw [Nat.zero_mul, Nat.add_zero] at k0 k1 k4
    rw [hkind] at k0
    exact ⟨k0, k1, k4⟩
  have HST : Hid (Calls Tryz.prog 65 #[rP rb] W fun e w' => e = .returned (xrV ea (stepP s).2) ∧ Rn w' K rb cb sb kb (stepP s).1 ∧ Stp W K w' K) := step_any h hE (okk hok).st
  have hFH : (stepP s).1.F = s.F ∧ (stepP s).1.H = s.H := by unfold stepP; split <;> exact ⟨rfl, rfl⟩
  have HKD : Hid (∀ w1, Rn w1 K rb cb sb kb (stepP s).1 → Stp W K w1 K → Calls Tryz.prog 66 #[.slice (some ⟨gb, ob, none⟩) (x :: rest).length cap] w1.drew fun e w' => ∃ kv, e = .returned kv ∧ w'.cell? ⟨gb, ob + 4, none⟩ = some (str x.s) ∧ Kid ea W w' K rb cb sb kb (stepP s).1 (.slice (some ⟨gb, ob, none⟩) (x :: rest).length cap) kv (x :: rest) ks) := fun w1 q1 q2 => by
    refine Calls.mono (kids_kid _ _ ks (hE.stp h q2) q1 (hov.nd hn q2) (hov.stp q2) q2 hks) ?_
    rintro e w' ⟨kv, p1, p2⟩
    exact ⟨kv, p1, (HN.out _ _ p2.st).2.2, p2⟩
  have HBD : Hid (∀ w2 kv, (stepP s).2 = .ok → Kid ea W w2 K rb cb sb kb (stepP s).1 (.slice (some ⟨gb, ob, none⟩) (x :: rest).length cap) kv (x :: rest) ks → ∃ gk cap' pv a1 n1 c1, kv = .slice (some ⟨gk, 0, none⟩) ks.length cap' ∧ 0 < ks.length ∧ pv = .slice a1 n1 c1 ∧ w2.cell? ⟨gk, 0, none⟩ = some pv ∧ Calls Tryz.prog 68 #[rP rb, str x.s, pv] w2 (Done ea W K rb cb sb kb r)) := fun w2 kv hpre q => by
    obtain ⟨q0, qs, hks2, hgo⟩ := hr.2 hpre
    subst hks2
    obtain ⟨gk, cap', pv, p1, p2, p3, p4, p5, p6⟩ := q.first
    obtain ⟨pl, pc, p7⟩ := p5.form
    exact ⟨gk, cap', pv, pl, _, pc, p1, by simp, p7, p4, Calls.mono (setR_any hG x.s hxs pv q0 r q.er q.rn p5 p6 hgo) (fun e w' p => p.pre q.st)⟩
  have HSN : Hid _ := hr.1
  generalize stepP s = q0 at *
  obtain ⟨s0, x0⟩ := q0
  generalize (x :: rest).length = nx at *
  clear h hE hn hov hr hks hkind  hFH
  go_enter Tryz.func40, Tryz.ntmps40
  go_wp2_with fail
  refine Calls.mono HB.out ?_
  rintro e wz ⟨rfl, hwz⟩
  obtain rfl := hwz.symm
  go_wp2_with fail
  refine Calls.mono HST.out ?_
  rintro e w1 ⟨rfl, hr1, hs1⟩
  rcases xr_cases ea x0 with ⟨hx1, hx2⟩ | ⟨hx1, a, hx2⟩
  case inr =>
    have HRB : Hid (Rb W K rb cb sb kb s0 x0 w1) := Rb.of hr1 hs1
    obtain rfl := HSN.out hx1
    clear hr1 hs1 HST HKD HN HSN
    simp only [hx2]
    go_wp2_with fail
    go_ret2
    refine ⟨?_, HRB.out⟩
    show _ = Ending.returned (.tuple #[.int .i64 0, xrV ea x0])
    rw [hx2]
    rfl
  have HKW : Hid _ := HKD.out w1 hr1 hs1
  have c4 := (HN.out _ _ hs1).2.2
  clear hr1 hs1 HST HKD HSN
  simp only [hx2]
  go_wp2_with fail
  go_region_held3 (fun w' => w'.cell? ⟨gb, ob + 4, none⟩ = some (str x.s)) (go_keep) (first | (go_at_call 66; refine Calls.mono HKW.out ?_; rintro e w2 ⟨kv, rfl, g4, hkid⟩; obtain ⟨ka, kc, hkv⟩ := (hkid.kd).elim (fun B q => q.form)))
  have g0 := (HN.out _ _ hkid.st).1
  have g1 := (HN.out _ _ hkid.st).2.1
  have HID : Hid _ := hkid
  obtain ⟨gk, cap', pv, a1, n1, c1, hkv2, hl0, hpv, hcell, hcall⟩ := HBD.out w2 kv hx1 hkid
  have HB2 : Hid _ := hcall
  rw [hkv2] at hkv
  cases hkv
  subst hkv2
  subst hpv
  clear hkid HKW HBD hcall HID
  generalize ks.length = nk at *
  go_wp2_with fail
  refine Calls.mono HB2.out ?_
  rintro e w3 ⟨rfl, hrb⟩
  have HRB : Hid _ := hrb
  clear hrb
  go_wp2_with fail
  go_ret2
  exact ⟨rfl, HRB.out⟩
set_option maxRecDepth 100000 in
set_option maxHeartbeats 8000000 in
theorem cmd28_any (hC : CmdC ea f) (n : Nat) (v : Value) (x : Nd) (rest : List Nd) (ks : List (List Nd)) (r : Cr) (hE : Ers W ea) (h : Rn W K rb cb sb kb s) (hn : NdAt W v (x :: rest)) (hov : Off W K v) (hkind : x.kind = 28) (_hok : okB s = true) (_hxs : x.s.length < 100000) (hks : kidsP (x :: rest) = some ks)
    (hr : ∃ q0 q1 qs, ks = q0 :: q1 :: qs ∧ whileS f q0 q1 n s 0 = some r) :
    Calls Tryz.prog 40 #[rP rb, v] W (Done ea W K rb cb sb kb r) := by
  obtain ⟨gb, ob, cap, rfl, hgl, c0, -⟩ := hn.at (j := 0) (x := x) rfl
  rw [Nat.zero_mul, Nat.add_zero] at c0
  rw [hkind] at c0
  have HB : Hid _ := begins_any 28 W
  rw [show stepsB 28 = false by rfl] at HB
  have hkl := kidsP_len hks
  have hpos : 0 < (x :: rest).length := by simp
  have HN : Hid (∀ w1 K1, Stp W K w1 K1 → w1.cell? ⟨gb, ob, none⟩ = some (.int .i64 28) ∧ w1.cell? ⟨gb, ob + 1, none⟩ = some (.int .i64 x.n) ∧ w1.cell? ⟨gb, ob + 4, none⟩ = some (str x.s)) := fun w1 K1 q => by
    obtain ⟨g', o', c', hv', _, k0, k1, _, _, k4⟩ := (hov.nd hn q).at (j := 0) (x := x) rfl
    cases hv'
    rw [Nat.zero_mul, Nat.add_zero] at k0 k1 k4
    rw [hkind] at k0
    exact ⟨k0, k1, k4⟩
  have HKD : Hid (∀ w1, Rn w1 K rb cb sb kb s → Stp W K w1 K → Calls Tryz.prog 66 #[.slice (some ⟨gb, ob, none⟩) (x :: rest).length cap] w1.drew fun e w' => ∃ kv, e = .returned kv ∧ w'.cell? ⟨gb, ob + 4, none⟩ = some (str x.s) ∧ Kid ea W w' K rb cb sb kb s (.slice (some ⟨gb, ob, none⟩) (x :: rest).length cap) kv (x :: rest) ks) := fun w1 q1 q2 => by
    refine Calls.mono (kids_kid _ _ ks (hE.stp h q2) q1 (hov.nd hn q2) (hov.stp q2) q2 hks) ?_
    rintro e w' ⟨kv, p1, p2⟩
    exact ⟨kv, p1, (HN.out _ _ p2.st).2.2, p2⟩
  have HBD : Hid (∀ w2 kv, Kid ea W w2 K rb cb sb kb s (.slice (some ⟨gb, ob, none⟩) (x :: rest).length cap) kv (x :: rest) ks → ∃ gk cap' a1 n1 c1 a2 n2 c2, kv = .slice (some ⟨gk, 0, none⟩) ks.length cap' ∧ 1 < ks.length ∧ w2.cell? ⟨gk, 0, none⟩ = some (.slice a1 n1 c1) ∧ w2.cell? ⟨gk, 1, none⟩ = some (.slice a2 n2 c2) ∧
      Calls Tryz.prog 71 #[rP rb, .slice a1 n1 c1, .slice a2 n2 c2] w2.drew (fun e w' => e = .returned (.tuple #[.int .i64 r.2.1, xrV ea r.2.2]) ∧ (w'.cell? ⟨gk, 0, none⟩ = some (.slice a1 n1 c1) ∧ w'.cell? ⟨gk, 1, none⟩ = some (.slice a2 n2 c2)) ∧ Rb W K rb cb sb kb r.1 r.2.2 w')) := fun w2 kv q' => by
    obtain ⟨q0, q1, qs, hks2, hgo⟩ := hr
    subst hks2
    have q := q'.drew
    obtain ⟨gk, cap', pv, pw, p1, p2, p3, p4, p4', p5, p6, p5', p6'⟩ := q.two
    obtain ⟨a1, c1, p7⟩ := p5.form
    obtain ⟨a2, c2, p7'⟩ := p5'.form
    subst p7 p7'
    refine ⟨gk, cap', a1, _, c1, a2, _, c2, p1, by simp, p4, p4', Calls.mono (whileR_any hC _ _ q0 q1 n r q.er q.rn p5 p6 p5' p6' hgo) ?_⟩
    rintro e w' ⟨z1, z2⟩
    obtain ⟨K', cb', z3, z4, z5⟩ := z2
    exact ⟨z1, ⟨(cell_stp z4 p3 p2).trans p4, (cell_stp z4 p3 p2).trans p4'⟩, K', cb', z3, q.st.trans z4, z5⟩
  have HR0 : Hid (Rn W K rb cb sb kb s) := h
  generalize (x :: rest).length = nx at *
  clear h hE hn hov hr hks hkind 
  go_enter Tryz.func40, Tryz.ntmps40
  go_wp2_with fail
  refine Calls.mono HB.out ?_
  rintro e wz ⟨rfl, hwz⟩
  obtain rfl := hwz.symm
  go_wp2_with fail
  have HKW : Hid _ := HKD.out _ HR0.out (Stp.refl _ K)
  have c4 := (HN.out _ _ (Stp.refl _ K)).2.2
  clear HKD
  go_region_held3 (fun w' => w'.cell? ⟨gb, ob + 4, none⟩ = some (str x.s)) (go_keep) (first | (go_at_call 66; refine Calls.mono HKW.out ?_; rintro e w2 ⟨kv, rfl, g4, hkid⟩; obtain ⟨ka, kc, hkv⟩ := (hkid.kd).elim (fun B q => q.form)))
  have g0 := (HN.out _ _ hkid.st).1
  have g1 := (HN.out _ _ hkid.st).2.1
  have HID : Hid _ := hkid
  obtain ⟨gk, cap', a1, n1, c1, a2, n2, c2, hkv2, hl0, hcell, hcell', hcall⟩ := HBD.out w2 kv hkid
  have HB2 : Hid _ := hcall
  rw [hkv2] at hkv
  cases hkv
  subst hkv2
  clear hkid HKW HBD hcall HID
  generalize ks.length = nk at *
  have hl00 : 0 < nk := by omega
  have hl1i : (1 : Int) < (nk : Nat) := by omega
  go_wp2_with fail
  go_region_held3 (fun w' => w'.cell? ⟨gk, 0, none⟩ = some (.slice a1 n1 c1) ∧ w'.cell? ⟨gk, 1, none⟩ = some (.slice a2 n2 c2)) (go_keep) (first | (go_at_call 71; refine Calls.mono HB2.out ?_; rintro e w3 ⟨rfl, ⟨m1, m2⟩, hrb⟩))
  have HRB : Hid _ := hrb
  clear hrb
  go_wp2_with fail
  go_ret2
  exact ⟨rfl, HRB.out⟩
set_option maxRecDepth 100000 in
set_option maxHeartbeats 8000000 in
theorem cmd29_any (hC : CmdC ea f) (hG : WordC ea g) (v : Value) (x : Nd) (rest : List Nd) (ks : List (List Nd)) (r : Cr) (hE : Ers W ea) (h : Rn W K rb cb sb kb s) (hn : NdAt W v (x :: rest)) (hov : Off W K v) (hkind : x.kind = 29) (_hok : okB s = true) (hxs : x.s.length < 100000) (hks : kidsP (x :: rest) = some ks)
    (hr : ∃ q0 q1 qs, ks = q0 :: q1 :: qs ∧ forS f g x.s q0 q1 s = some r) :
    Calls Tryz.prog 40 #[rP rb, v] W (Done ea W K rb cb sb kb r) := by
  obtain ⟨gb, ob, cap, rfl, hgl, c0, -⟩ := hn.at (j := 0) (x := x) rfl
  rw [Nat.zero_mul, Nat.add_zero] at c0
  rw [hkind] at c0
  have HB : Hid _ := begins_any 29 W
  rw [show stepsB 29 = false by rfl] at HB
  have hkl := kidsP_len hks
  have hpos : 0 < (x :: rest).length := by simp
  have HN : Hid (∀ w1 K1, Stp W K w1 K1 → w1.cell? ⟨gb, ob, none⟩ = some (.int .i64 29) ∧ w1.cell? ⟨gb, ob + 1, none⟩ = some (.int .i64 x.n) ∧ w1.cell? ⟨gb, ob + 4, none⟩ = some (str x.s)) := fun w1 K1 q => by
    obtain ⟨g', o', c', hv', _, k0, k1, _, _, k4⟩ := (hov.nd hn q).at (j := 0) (x := x) rfl
    cases hv'
    rw [Nat.zero_mul, Nat.add_zero] at k0 k1 k4
    rw [hkind] at k0
    exact ⟨k0, k1, k4⟩
  have HKD : Hid (∀ w1, Rn w1 K rb cb sb kb s → Stp W K w1 K → Calls Tryz.prog 66 #[.slice (some ⟨gb, ob, none⟩) (x :: rest).length cap] w1.drew fun e w' => ∃ kv, e = .returned kv ∧ w'.cell? ⟨gb, ob + 4, none⟩ = some (str x.s) ∧ Kid ea W w' K rb cb sb kb s (.slice (some ⟨gb, ob, none⟩) (x :: rest).length cap) kv (x :: rest) ks) := fun w1 q1 q2 => by
    refine Calls.mono (kids_kid _ _ ks (hE.stp h q2) q1 (hov.nd hn q2) (hov.stp q2) q2 hks) ?_
    rintro e w' ⟨kv, p1, p2⟩
    exact ⟨kv, p1, (HN.out _ _ p2.st).2.2, p2⟩
  have HBD : Hid (∀ w2 kv, Kid ea W w2 K rb cb sb kb s (.slice (some ⟨gb, ob, none⟩) (x :: rest).length cap) kv (x :: rest) ks → ∃ gk cap' a1 n1 c1 a2 n2 c2, kv = .slice (some ⟨gk, 0, none⟩) ks.length cap' ∧ 1 < ks.length ∧ w2.cell? ⟨gk, 0, none⟩ = some (.slice a1 n1 c1) ∧ w2.cell? ⟨gk, 1, none⟩ = some (.slice a2 n2 c2) ∧
      Calls Tryz.prog 72 #[rP rb, str x.s, .slice a1 n1 c1, .slice a2 n2 c2] w2.drew (fun e w' => e = .returned (.tuple #[.int .i64 r.2.1, xrV ea r.2.2]) ∧ (w'.cell? ⟨gk, 0, none⟩ = some (.slice a1 n1 c1) ∧ w'.cell? ⟨gk, 1, none⟩ = some (.slice a2 n2 c2)) ∧ Rb W K rb cb sb kb r.1 r.2.2 w')) := fun w2 kv q' => by
    obtain ⟨q0, q1, qs, hks2, hgo⟩ := hr
    subst hks2
    have q := q'.drew
    obtain ⟨gk, cap', pv, pw, p1, p2, p3, p4, p4', p5, p6, p5', p6'⟩ := q.two
    obtain ⟨a1, c1, p7⟩ := p5.form
    obtain ⟨a2, c2, p7'⟩ := p5'.form
    subst p7 p7'
    refine ⟨gk, cap', a1, _, c1, a2, _, c2, p1, by simp, p4, p4', Calls.mono (eachR_any hC hG x.s hxs _ _ q0 q1 r q.er q.rn p5 p6 p5' p6' hgo) ?_⟩
    rintro e w' ⟨z1, z2⟩
    obtain ⟨K', cb', z3, z4, z5⟩ := z2
    exact ⟨z1, ⟨(cell_stp z4 p3 p2).trans p4, (cell_stp z4 p3 p2).trans p4'⟩, K', cb', z3, q.st.trans z4, z5⟩
  have HR0 : Hid (Rn W K rb cb sb kb s) := h
  generalize (x :: rest).length = nx at *
  clear h hE hn hov hr hks hkind 
  go_enter Tryz.func40, Tryz.ntmps40
  go_wp2_with fail
  refine Calls.mono HB.out ?_
  rintro e wz ⟨rfl, hwz⟩
  obtain rfl := hwz.symm
  go_wp2_with fail
  have HKW : Hid _ := HKD.out _ HR0.out (Stp.refl _ K)
  have c4 := (HN.out _ _ (Stp.refl _ K)).2.2
  clear HKD
  go_region_held3 (fun w' => w'.cell? ⟨gb, ob + 4, none⟩ = some (str x.s)) (go_keep) (first | (go_at_call 66; refine Calls.mono HKW.out ?_; rintro e w2 ⟨kv, rfl, g4, hkid⟩; obtain ⟨ka, kc, hkv⟩ := (hkid.kd).elim (fun B q => q.form)))
  have g0 := (HN.out _ _ hkid.st).1
  have g1 := (HN.out _ _ hkid.st).2.1
  have HID : Hid _ := hkid
  obtain ⟨gk, cap', a1, n1, c1, a2, n2, c2, hkv2, hl0, hcell, hcell', hcall⟩ := HBD.out w2 kv hkid
  have HB2 : Hid _ := hcall
  rw [hkv2] at hkv
  cases hkv
  subst hkv2
  clear hkid HKW HBD hcall HID
  generalize ks.length = nk at *
  have hl00 : 0 < nk := by omega
  have hl1i : (1 : Int) < (nk : Nat) := by omega
  go_wp2_with fail
  go_region_held3 (fun w' => w'.cell? ⟨gk, 0, none⟩ = some (.slice a1 n1 c1) ∧ w'.cell? ⟨gk, 1, none⟩ = some (.slice a2 n2 c2)) (go_keep) (first | (go_at_call 72; refine Calls.mono HB2.out ?_; rintro e w3 ⟨rfl, ⟨m1, m2⟩, hrb⟩))
  have HRB : Hid _ := hrb
  clear hrb
  go_wp2_with fail
  go_ret2
  exact ⟨rfl, HRB.out⟩
set_option maxRecDepth 100000 in
set_option maxHeartbeats 8000000 in
theorem cmd34_any (hC : CmdC ea f) (hG : WordC ea g) (v : Value) (x : Nd) (rest : List Nd) (ks : List (List Nd)) (r : Cr) (hE : Ers W ea) (h : Rn W K rb cb sb kb s) (hn : NdAt W v (x :: rest)) (hov : Off W K v) (hkind : x.kind = 34) (hok : okB s = true) (_hxs : x.s.length < 100000) (hks : kidsP (x :: rest) = some ks)
    (hr : ((stepP s).2 ≠ .ok → r = ((stepP s).1, 0, (stepP s).2)) ∧ ((stepP s).2 = .ok → ∃ q0 q1 qs, ks = q0 :: q1 :: qs ∧ hereS f g q0 q1 (stepP s).1 = some r)) :
    Calls Tryz.prog 40 #[rP rb, v] W (Done ea W K rb cb sb kb r) := by
  obtain ⟨gb, ob, cap, rfl, hgl, c0, -⟩ := hn.at (j := 0) (x := x) rfl
  rw [Nat.zero_mul, Nat.add_zero] at c0
  rw [hkind] at c0
  have HB : Hid _ := begins_any 34 W
  rw [show stepsB 34 = true by rfl] at HB
  have hkl := kidsP_len hks
  have hpos : 0 < (x :: rest).length := by simp
  have HN : Hid (∀ w1 K1, Stp W K w1 K1 → w1.cell? ⟨gb, ob, none⟩ = some (.int .i64 34) ∧ w1.cell? ⟨gb, ob + 1, none⟩ = some (.int .i64 x.n) ∧ w1.cell? ⟨gb, ob + 4, none⟩ = some (str x.s)) := fun w1 K1 q => by
    obtain ⟨g', o', c', hv', _, k0, k1, _, _, k4⟩ := (hov.nd hn q).at (j := 0) (x := x) rfl
    cases hv'
    rw [Nat.zero_mul, Nat.add_zero] at k0 k1 k4
    rw [hkind] at k0
    exact ⟨k0, k1, k4⟩
  have HST : Hid (Calls Tryz.prog 65 #[rP rb] W fun e w' => e = .returned (xrV ea (stepP s).2) ∧ Rn w' K rb cb sb kb (stepP s).1 ∧ Stp W K w' K) := step_any h hE (okk hok).st
  have hFH : (stepP s).1.F = s.F ∧ (stepP s).1.H = s.H := by unfold stepP; split <;> exact ⟨rfl, rfl⟩
  have HKD : Hid (∀ w1, Rn w1 K rb cb sb kb (stepP s).1 → Stp W K w1 K → Calls Tryz.prog 66 #[.slice (some ⟨gb, ob, none⟩) (x :: rest).length cap] w1.drew fun e w' => ∃ kv, e = .returned kv ∧ w'.cell? ⟨gb, ob + 4, none⟩ = some (str x.s) ∧ Kid ea W w' K rb cb sb kb (stepP s).1 (.slice (some ⟨gb, ob, none⟩) (x :: rest).length cap) kv (x :: rest) ks) := fun w1 q1 q2 => by
    refine Calls.mono (kids_kid _ _ ks (hE.stp h q2) q1 (hov.nd hn q2) (hov.stp q2) q2 hks) ?_
    rintro e w' ⟨kv, p1, p2⟩
    exact ⟨kv, p1, (HN.out _ _ p2.st).2.2, p2⟩
  have HBD : Hid (∀ w2 kv, (stepP s).2 = .ok → Kid ea W w2 K rb cb sb kb (stepP s).1 (.slice (some ⟨gb, ob, none⟩) (x :: rest).length cap) kv (x :: rest) ks → ∃ gk cap' a1 n1 c1 a2 n2 c2, kv = .slice (some ⟨gk, 0, none⟩) ks.length cap' ∧ 1 < ks.length ∧ w2.cell? ⟨gk, 0, none⟩ = some (.slice a1 n1 c1) ∧ w2.cell? ⟨gk, 1, none⟩ = some (.slice a2 n2 c2) ∧
      Calls Tryz.prog 77 #[rP rb, .slice a1 n1 c1, .slice a2 n2 c2] w2.drew (fun e w' => e = .returned (.tuple #[.int .i64 r.2.1, xrV ea r.2.2]) ∧ (w'.cell? ⟨gk, 0, none⟩ = some (.slice a1 n1 c1) ∧ w'.cell? ⟨gk, 1, none⟩ = some (.slice a2 n2 c2)) ∧ Rb W K rb cb sb kb r.1 r.2.2 w')) := fun w2 kv hpre q' => by
    obtain ⟨q0, q1, qs, hks2, hgo⟩ := hr.2 hpre
    subst hks2
    have q := q'.drew
    obtain ⟨gk, cap', pv, pw, p1, p2, p3, p4, p4', p5, p6, p5', p6'⟩ := q.two
    obtain ⟨a1, c1, p7⟩ := p5.form
    obtain ⟨a2, c2, p7'⟩ := p5'.form
    subst p7 p7'
    refine ⟨gk, cap', a1, _, c1, a2, _, c2, p1, by simp, p4, p4', Calls.mono (hereR_any hC hG _ _ q0 q1 r q.er q.rn p5 p6 p5' p6' hgo) ?_⟩
    rintro e w' ⟨z1, z2⟩
    obtain ⟨K', cb', z3, z4, z5⟩ := z2
    exact ⟨z1, ⟨(cell_stp z4 p3 p2).trans p4, (cell_stp z4 p3 p2).trans p4'⟩, K', cb', z3, q.st.trans z4, z5⟩
  have HSN : Hid _ := hr.1
  generalize stepP s = q0 at *
  obtain ⟨s0, x0⟩ := q0
  generalize (x :: rest).length = nx at *
  clear h hE hn hov hr hks hkind  hFH
  go_enter Tryz.func40, Tryz.ntmps40
  go_wp2_with fail
  refine Calls.mono HB.out ?_
  rintro e wz ⟨rfl, hwz⟩
  obtain rfl := hwz.symm
  go_wp2_with fail
  refine Calls.mono HST.out ?_
  rintro e w1 ⟨rfl, hr1, hs1⟩
  rcases xr_cases ea x0 with ⟨hx1, hx2⟩ | ⟨hx1, a, hx2⟩
  case inr =>
    have HRB : Hid (Rb W K rb cb sb kb s0 x0 w1) := Rb.of hr1 hs1
    obtain rfl := HSN.out hx1
    clear hr1 hs1 HST HKD HN HSN
    simp only [hx2]
    go_wp2_with fail
    go_ret2
    refine ⟨?_, HRB.out⟩
    show _ = Ending.returned (.tuple #[.int .i64 0, xrV ea x0])
    rw [hx2]
    rfl
  have HKW : Hid _ := HKD.out w1 hr1 hs1
  have c4 := (HN.out _ _ hs1).2.2
  clear hr1 hs1 HST HKD HSN
  simp only [hx2]
  go_wp2_with fail
  go_region_held3 (fun w' => w'.cell? ⟨gb, ob + 4, none⟩ = some (str x.s)) (go_keep) (first | (go_at_call 66; refine Calls.mono HKW.out ?_; rintro e w2 ⟨kv, rfl, g4, hkid⟩; obtain ⟨ka, kc, hkv⟩ := (hkid.kd).elim (fun B q => q.form)))
  have g0 := (HN.out _ _ hkid.st).1
  have g1 := (HN.out _ _ hkid.st).2.1
  have HID : Hid _ := hkid
  obtain ⟨gk, cap', a1, n1, c1, a2, n2, c2, hkv2, hl0, hcell, hcell', hcall⟩ := HBD.out w2 kv hx1 hkid
  have HB2 : Hid _ := hcall
  rw [hkv2] at hkv
  cases hkv
  subst hkv2
  clear hkid HKW HBD hcall HID
  generalize ks.length = nk at *
  have hl00 : 0 < nk := by omega
  have hl1i : (1 : Int) < (nk : Nat) := by omega
  go_wp2_with fail
  go_region_held3 (fun w' => w'.cell? ⟨gk, 0, none⟩ = some (.slice a1 n1 c1) ∧ w'.cell? ⟨gk, 1, none⟩ = some (.slice a2 n2 c2)) (go_keep) (first | (go_at_call 77; refine Calls.mono HB2.out ?_; rintro e w3 ⟨rfl, ⟨m1, m2⟩, hrb⟩))
  have HRB : Hid _ := hrb
  clear hrb
  go_wp2_with fail
  go_ret2
  exact ⟨rfl, HRB.out⟩
set_option maxRecDepth 100000 in
set_option maxHeartbeats 8000000 in
theorem cmd33_any (hC : CmdC ea f) (hG : WordC ea g) (v : Value) (x : Nd) (rest : List Nd) (ks : List (List Nd)) (r : Cr) (hE : Ers W ea) (h : Rn W K rb cb sb kb s) (hn : NdAt W v (x :: rest)) (hov : Off W K v) (hkind : x.kind = 33) (hok : okB s = true) (_hxs : x.s.length < 100000) (hks : kidsP (x :: rest) = some ks)
    (hr : ((stepP s).2 ≠ .ok → r = ((stepP s).1, 0, (stepP s).2)) ∧ ((stepP s).2 = .ok → ∃ q0 q1 qs, ks = q0 :: q1 :: qs ∧ redirS f g x.n q0 q1 (stepP s).1 = some r)) :
    Calls Tryz.prog 40 #[rP rb, v] W (Done ea W K rb cb sb kb r) := by
  obtain ⟨gb, ob, cap, rfl, hgl, c0, -⟩ := hn.at (j := 0) (x := x) rfl
  rw [Nat.zero_mul, Nat.add_zero] at c0
  rw [hkind] at c0
  have HB : Hid _ := begins_any 33 W
  rw [show stepsB 33 = true by rfl] at HB
  have hkl := kidsP_len hks
  have hpos : 0 < (x :: rest).length := by simp
  have HN : Hid (∀ w1 K1, Stp W K w1 K1 → w1.cell? ⟨gb, ob, none⟩ = some (.int .i64 33) ∧ w1.cell? ⟨gb, ob + 1, none⟩ = some (.int .i64 x.n) ∧ w1.cell? ⟨gb, ob + 4, none⟩ = some (str x.s)) := fun w1 K1 q => by
    obtain ⟨g', o', c', hv', _, k0, k1, _, _, k4⟩ := (hov.nd hn q).at (j := 0) (x := x) rfl
    cases hv'
    rw [Nat.zero_mul, Nat.add_zero] at k0 k1 k4
    rw [hkind] at k0
    exact ⟨k0, k1, k4⟩
  have HST : Hid (Calls Tryz.prog 65 #[rP rb] W fun e w' => e = .returned (xrV ea (stepP s).2) ∧ Rn w' K rb cb sb kb (stepP s).1 ∧ Stp W K w' K) := step_any h hE (okk hok).st
  have hFH : (stepP s).1.F = s.F ∧ (stepP s).1.H = s.H := by unfold stepP; split <;> exact ⟨rfl, rfl⟩
  have HKD : Hid (∀ w1, Rn w1 K rb cb sb kb (stepP s).1 → Stp W K w1 K → Calls Tryz.prog 66 #[.slice (some ⟨gb, ob, none⟩) (x :: rest).length cap] w1.drew fun e w' => ∃ kv, e = .returned kv ∧ w'.cell? ⟨gb, ob + 4, none⟩ = some (str x.s) ∧ Kid ea W w' K rb cb sb kb (stepP s).1 (.slice (some ⟨gb, ob, none⟩) (x :: rest).length cap) kv (x :: rest) ks) := fun w1 q1 q2 => by
    refine Calls.mono (kids_kid _ _ ks (hE.stp h q2) q1 (hov.nd hn q2) (hov.stp q2) q2 hks) ?_
    rintro e w' ⟨kv, p1, p2⟩
    exact ⟨kv, p1, (HN.out _ _ p2.st).2.2, p2⟩
  have HBD : Hid (∀ w2 kv, (stepP s).2 = .ok → Kid ea W w2 K rb cb sb kb (stepP s).1 (.slice (some ⟨gb, ob, none⟩) (x :: rest).length cap) kv (x :: rest) ks → ∃ gk cap' a1 n1 c1 a2 n2 c2, kv = .slice (some ⟨gk, 0, none⟩) ks.length cap' ∧ 1 < ks.length ∧ w2.cell? ⟨gk, 0, none⟩ = some (.slice a1 n1 c1) ∧ w2.cell? ⟨gk, 1, none⟩ = some (.slice a2 n2 c2) ∧
      Calls Tryz.prog 76 #[rP rb, .int .i64 x.n, .slice a1 n1 c1, .slice a2 n2 c2] w2.drew (fun e w' => e = .returned (.tuple #[.int .i64 r.2.1, xrV ea r.2.2]) ∧ (w'.cell? ⟨gk, 0, none⟩ = some (.slice a1 n1 c1) ∧ w'.cell? ⟨gk, 1, none⟩ = some (.slice a2 n2 c2) ∧ w'.cell? ⟨gb, ob + 1, none⟩ = some (.int .i64 x.n)) ∧ Rb W K rb cb sb kb r.1 r.2.2 w')) := fun w2 kv hpre q' => by
    obtain ⟨q0, q1, qs, hks2, hgo⟩ := hr.2 hpre
    subst hks2
    have q := q'.drew
    obtain ⟨gk, cap', pv, pw, p1, p2, p3, p4, p4', p5, p6, p5', p6'⟩ := q.two
    obtain ⟨a1, c1, p7⟩ := p5.form
    obtain ⟨a2, c2, p7'⟩ := p5'.form
    subst p7 p7'
    refine ⟨gk, cap', a1, _, c1, a2, _, c2, p1, by simp, p4, p4', Calls.mono (redirR_any hC hG x.n _ _ q0 q1 r q.er q.rn p5 p6 p5' p6' hgo) ?_⟩
    rintro e w' ⟨z1, z2⟩
    obtain ⟨K', cb', z3, z4, z5⟩ := z2
    exact ⟨z1, ⟨(cell_stp z4 p3 p2).trans p4, (cell_stp z4 p3 p2).trans p4', (HN.out _ _ (q.st.trans z4)).2.1⟩, K', cb', z3, q.st.trans z4, z5⟩
  have HSN : Hid _ := hr.1
  generalize stepP s = q0 at *
  obtain ⟨s0, x0⟩ := q0
  generalize (x :: rest).length = nx at *
  clear h hE hn hov hr hks hkind  hFH
  go_enter Tryz.func40, Tryz.ntmps40
  go_wp2_with fail
  refine Calls.mono HB.out ?_
  rintro e wz ⟨rfl, hwz⟩
  obtain rfl := hwz.symm
  go_wp2_with fail
  refine Calls.mono HST.out ?_
  rintro e w1 ⟨rfl, hr1, hs1⟩
  rcases xr_cases ea x0 with ⟨hx1, hx2⟩ | ⟨hx1, a, hx2⟩
  case inr =>
    have HRB : Hid (Rb W K rb cb sb kb s0 x0 w1) := Rb.of hr1 hs1
    obtain rfl := HSN.out hx1
    clear hr1 hs1 HST HKD HN HSN
    simp only [hx2]
    go_wp2_with fail
    go_ret2
    refine ⟨?_, HRB.out⟩
    show _ = Ending.returned (.tuple #[.int .i64 0, xrV ea x0])
    rw [hx2]
    rfl
  have HKW : Hid _ := HKD.out w1 hr1 hs1
  have c4 := (HN.out _ _ hs1).2.2
  clear hr1 hs1 HST HKD HSN
  simp only [hx2]
  go_wp2_with fail
  go_region_held3 (fun w' => w'.cell? ⟨gb, ob + 4, none⟩ = some (str x.s)) (go_keep) (first | (go_at_call 66; refine Calls.mono HKW.out ?_; rintro e w2 ⟨kv, rfl, g4, hkid⟩; obtain ⟨ka, kc, hkv⟩ := (hkid.kd).elim (fun B q => q.form)))
  have g0 := (HN.out _ _ hkid.st).1
  have g1 := (HN.out _ _ hkid.st).2.1
  have HID : Hid _ := hkid
  obtain ⟨gk, cap', a1, n1, c1, a2, n2, c2, hkv2, hl0, hcell, hcell', hcall⟩ := HBD.out w2 kv hx1 hkid
  have HB2 : Hid _ := hcall
  rw [hkv2] at hkv
  cases hkv
  subst hkv2
  clear hkid HKW HBD hcall HID
  generalize ks.length = nk at *
  have hl00 : 0 < nk := by omega
  have hl1i : (1 : Int) < (nk : Nat) := by omega
  go_wp2_with fail
  go_region_held3 (fun w' => w'.cell? ⟨gk, 0, none⟩ = some (.slice a1 n1 c1) ∧ w'.cell? ⟨gk, 1, none⟩ = some (.slice a2 n2 c2) ∧ w'.cell? ⟨gb, ob + 1, none⟩ = some (.int .i64 x.n)) (go_keep) (first | (go_at_call 76; refine Calls.mono HB2.out ?_; rintro e w3 ⟨rfl, ⟨m1, m2, m3⟩, hrb⟩))
  have HRB : Hid _ := hrb
  clear hrb
  go_wp2_with fail
  go_ret2
  exact ⟨rfl, HRB.out⟩
end Go.Proofs.YtfafhjglcaikoaaGreatDoor
