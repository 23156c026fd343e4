/- Commands. -/
import Derived.Test.YtfafhjglcaikoaaGreatDoorH31
namespace Go.Proofs.YtfafhjglcaikoaaGreatDoor
open Go.RowKit
attribute [local go_sem] Oper.semAt_some

variable {W W' : World} {K : Nat → Prop} {rb cb sb kb : Nat} {s : Sh} {ea : Nat → Addr} {f : List Nd → Sh → Option Cr} {g : List Nd → Sh → Option Wr}
theorem kidsF_item : ∀ (n : Nat) (l : List Nd) (ks : List (List Nd)), kidsF n l = some ks → ∀ k ∈ ks, k.length ≤ l.length
  | 0, [], ks, h => by simp [kidsF] at h; subst h; simp
  | 0, _ :: _, ks, h => by simp [kidsF] at h
  | n + 1, [], ks, h => by simp [kidsF] at h; subst h; simp
  | n + 1, x :: r, ks, h => by
    unfold kidsF at h
    split at h
    · obtain ⟨t, ht, rfl⟩ := Option.map_eq_some_iff.1 h
      intro k hk
      rcases List.mem_cons.1 hk with rfl | hk
      · rw [List.length_take]
        omega
      · have := kidsF_item n _ t ht k hk
        rw [List.length_drop] at this
        omega
    · cases h
theorem kidsP_item {X : List Nd} {ks : List (List Nd)} (h : kidsP X = some ks) : ∀ k ∈ ks, k.length ≤ 100000 := by
  cases X with
  | nil => simp [kidsP] at h
  | cons x r =>
    have hk' : kidsP (x :: r) = if 0 ≤ x.k ∧ x.k ≤ 100000 ∧ r.length ≤ 100000 then kidsF r.length r else none := rfl
    rw [hk'] at h
    split at h
    · rename_i hc
      intro k hk
      have := kidsF_item _ _ _ h k hk
      omega
    · cases h
set_option maxRecDepth 100000 in
set_option maxHeartbeats 8000000 in
theorem cmd31_any (v : Value) (x : Nd) (rest : List Nd) (ks : List (List Nd)) (r : Cr) (hE : Ers W ea) (h : Rn W K rb cb sb kb s) (hn : NdAt W v (x :: rest)) (hov : Off W K v) (hkind : x.kind = 31) (hok : okB s = true) (_hxs : x.s.length < 100000) (hks : kidsP (x :: rest) = some ks)
    (hr : ((stepP s).2 ≠ .ok → r = ((stepP s).1, 0, (stepP s).2)) ∧ ((stepP s).2 = .ok → ∃ q0 qs, ks = q0 :: qs ∧ r = ({ (stepP s).1 with H := putM (stepP s).1.H x.s q0 }, 0, .ok))) :
    Calls Tryz.prog 40 #[rP rb, v] W (Done ea W K rb cb sb kb r) := by
  obtain ⟨gb, ob, cap, rfl, hgl, c0, -⟩ := hn.at (j := 0) (x := x) rfl
  rw [Nat.zero_mul, Nat.add_zero] at c0
  rw [hkind] at c0
  have HB : Hid _ := begins_any 31 W
  rw [show stepsB 31 = true by rfl] at HB
  have hkl := kidsP_len hks
  have hpos : 0 < (x :: rest).length := by simp
  have HN : Hid (∀ w1 K1, Stp W K w1 K1 → w1.cell? ⟨gb, ob, none⟩ = some (.int .i64 31) ∧ w1.cell? ⟨gb, ob + 1, none⟩ = some (.int .i64 x.n) ∧ w1.cell? ⟨gb, ob + 4, none⟩ = some (str x.s)) := fun w1 K1 q => by
    obtain ⟨g', o', c', hv', _, k0, k1, _, _, k4⟩ := (hov.nd hn q).at (j := 0) (x := x) rfl
    cases hv'
    rw [Nat.zero_mul, Nat.add_zero] at k0 k1 k4
    rw [hkind] at k0
    exact ⟨k0, k1, k4⟩
  have HST : Hid (Calls Tryz.prog 65 #[rP rb] W fun e w' => e = .returned (xrV ea (stepP s).2) ∧ Rn w' K rb cb sb kb (stepP s).1 ∧ Stp W K w' K) := step_any h hE (okk hok).st
  have hFH : (stepP s).1.F = s.F ∧ (stepP s).1.H = s.H := by unfold stepP; split <;> exact ⟨rfl, rfl⟩
  have HKD : Hid (∀ w1, Rn w1 K rb cb sb kb (stepP s).1 → Stp W K w1 K → Calls Tryz.prog 66 #[.slice (some ⟨gb, ob, none⟩) (x :: rest).length cap] w1.drew fun e w' => ∃ kv, e = .returned kv ∧ w'.cell? ⟨gb, ob + 4, none⟩ = some (str x.s) ∧ Kid ea W w' K rb cb sb kb (stepP s).1 (.slice (some ⟨gb, ob, none⟩) (x :: rest).length cap) kv (x :: rest) ks) := fun w1 q1 q2 => by
    refine Calls.mono (kids_kid _ _ ks (hE.stp h q2) q1 (hov.nd hn q2) (hov.stp q2) q2 hks) ?_
    rintro e w' ⟨kv, p1, p2⟩
    exact ⟨kv, p1, (HN.out _ _ p2.st).2.2, p2⟩
  have HBD : Hid (∀ w2 kv, (stepP s).2 = .ok → Kid ea W w2 K rb cb sb kb (stepP s).1 (.slice (some ⟨gb, ob, none⟩) (x :: rest).length cap) kv (x :: rest) ks → ∃ gk cap' a1 n1 c1, kv = .slice (some ⟨gk, 0, none⟩) ks.length cap' ∧ 0 < ks.length ∧ w2.cell? ⟨gk, 0, none⟩ = some (.slice a1 n1 c1) ∧ w2.cell? ⟨rb, 0, none⟩ = some (sP sb) ∧
      Calls Tryz.prog 74 #[fP sb, str x.s, .slice a1 n1 c1] w2.drew (fun e w' => e = .returned (.tuple #[]) ∧ (w'.cell? ⟨gk, 0, none⟩ = some (.slice a1 n1 c1) ∧ w'.cell? ⟨rb, 0, none⟩ = some (sP sb)) ∧ r.2 = (0, .ok) ∧ Rb W K rb cb sb kb r.1 .ok w')) := fun w2 kv hpre q' => by
    obtain ⟨q0, qs, hks2, hgo⟩ := hr.2 hpre
    subst hks2
    have hql := kidsP_item hks q0 (by simp)
    have q := q'.drew
    obtain ⟨gk, cap', pv, p1, p2, p3, p4, p5, p6⟩ := q.first
    obtain ⟨a1, c1, p7⟩ := p5.form
    subst p7
    subst hgo
    refine ⟨gk, cap', a1, _, c1, p1, by simp, p4, q.rn.rc.cell 0, Calls.mono (putF_rn x.s q0 _ q.rn (by rw [hFH.2]; have := (okk hok).H; omega) (by have := maxLen_big; omega) p5 (by omega)) ?_⟩
    rintro e w' ⟨z1, K', z3, z4⟩
    exact ⟨z1, ⟨(cell_stp z4 p3 p2).trans p4, z3.rc.cell 0⟩, rfl, Rb.of z3 (q.st.trans z4)⟩
  have HSN : Hid _ := hr.1
  generalize stepP s = q0 at *
  obtain ⟨s0, x0⟩ := q0
  generalize (x :: rest).length = nx at *
  clear h hE hn hov hr hks hkind  hFH
  go_enter Tryz.func40, Tryz.ntmps40
  go_wp2_with fail
  refine Calls.mono HB.out ?_
  rintro e wz ⟨rfl, hwz⟩
  obtain rfl := hwz.symm
  go_wp2_with fail
  refine Calls.mono HST.out ?_
  rintro e w1 ⟨rfl, hr1, hs1⟩
  rcases xr_cases ea x0 with ⟨hx1, hx2⟩ | ⟨hx1, a, hx2⟩
  case inr =>
    have HRB : Hid (Rb W K rb cb sb kb s0 x0 w1) := Rb.of hr1 hs1
    obtain rfl := HSN.out hx1
    clear hr1 hs1 HST HKD HN HSN
    simp only [hx2]
    go_wp2_with fail
    go_ret2
    refine ⟨?_, HRB.out⟩
    show _ = Ending.returned (.tuple #[.int .i64 0, xrV ea x0])
    rw [hx2]
    rfl
  have HKW : Hid _ := HKD.out w1 hr1 hs1
  have c4 := (HN.out _ _ hs1).2.2
  clear hr1 hs1 HST HKD HSN
  simp only [hx2]
  go_wp2_with fail
  go_region_held3 (fun w' => w'.cell? ⟨gb, ob + 4, none⟩ = some (str x.s)) (go_keep) (first | (go_at_call 66; refine Calls.mono HKW.out ?_; rintro e w2 ⟨kv, rfl, g4, hkid⟩; obtain ⟨ka, kc, hkv⟩ := (hkid.kd).elim (fun B q => q.form)))
  have g0 := (HN.out _ _ hkid.st).1
  have g1 := (HN.out _ _ hkid.st).2.1
  have HID : Hid _ := hkid
  obtain ⟨gk, cap', a1, n1, c1, hkv2, hl0, hcell, hcell', hcall⟩ := HBD.out w2 kv hx1 hkid
  have HB2 : Hid _ := hcall
  rw [hkv2] at hkv
  cases hkv
  subst hkv2
  clear hkid HKW HBD hcall HID
  generalize ks.length = nk at *
  go_wp2_with fail
  go_region_held3 (fun w' => w'.cell? ⟨gk, 0, none⟩ = some (.slice a1 n1 c1) ∧ w'.cell? ⟨rb, 0, none⟩ = some (sP sb)) (go_keep) (first | (go_at_call 74; refine Calls.mono HB2.out ?_; rintro e w3 ⟨rfl, ⟨m1, m2⟩, hr2, hrb⟩))
  have HRB : Hid (Rb W K rb cb sb kb r.1 .ok w3) := hrb
  have HR2 : Hid _ := hr2
  clear hrb hr2
  go_wp2_with fail
  go_ret2
  obtain ⟨r1, r2, r3⟩ := r
  cases HR2.out
  exact ⟨rfl, HRB.out⟩
set_option maxRecDepth 100000 in
set_option maxHeartbeats 8000000 in
theorem cmd20_any (v : Value) (x : Nd) (rest : List Nd) (ks : List (List Nd)) (r : Cr) (hE : Ers W ea) (h : Rn W K rb cb sb kb s) (hn : NdAt W v (x :: rest)) (hov : Off W K v) (hkind : x.kind = 20) (_hok : okB s = true) (_hxs : x.s.length < 100000) (hks : kidsP (x :: rest) = some ks)
    (hr : r = (s, 0, .ok)) :
    Calls Tryz.prog 40 #[rP rb, v] W (Done ea W K rb cb sb kb r) := by
  obtain ⟨gb, ob, cap, rfl, hgl, c0, -⟩ := hn.at (j := 0) (x := x) rfl
  rw [Nat.zero_mul, Nat.add_zero] at c0
  rw [hkind] at c0
  have HB : Hid _ := begins_any 20 W
  rw [show stepsB 20 = false by rfl] at HB
  have hkl := kidsP_len hks
  have hpos : 0 < (x :: rest).length := by simp
  have HN : Hid (∀ w1 K1, Stp W K w1 K1 → w1.cell? ⟨gb, ob, none⟩ = some (.int .i64 20) ∧ w1.cell? ⟨gb, ob + 1, none⟩ = some (.int .i64 x.n) ∧ w1.cell? ⟨gb, ob + 4, none⟩ = some (str x.s)) := fun w1 K1 q => by
    obtain ⟨g', o', c', hv', _, k0, k1, _, _, k4⟩ := (hov.nd hn q).at (j := 0) (x := x) rfl
    cases hv'
    rw [Nat.zero_mul, Nat.add_zero] at k0 k1 k4
    rw [hkind] at k0
    exact ⟨k0, k1, k4⟩
  have HKD : Hid (∀ w1, Rn w1 K rb cb sb kb s → Stp W K w1 K → Calls Tryz.prog 66 #[.slice (some ⟨gb, ob, none⟩) (x :: rest).length cap] w1.drew fun e w' => ∃ kv, e = .returned kv ∧ w'.cell? ⟨gb, ob + 4, none⟩ = some (str x.s) ∧ Kid ea W w' K rb cb sb kb s (.slice (some ⟨gb, ob, none⟩) (x :: rest).length cap) kv (x :: rest) ks) := fun w1 q1 q2 => by
    refine Calls.mono (kids_kid _ _ ks (hE.stp h q2) q1 (hov.nd hn q2) (hov.stp q2) q2 hks) ?_
    rintro e w' ⟨kv, p1, p2⟩
    exact ⟨kv, p1, (HN.out _ _ p2.st).2.2, p2⟩
  have HRE : Hid (r = (s, 0, .ok)) := hr
  have HR0 : Hid (Rn W K rb cb sb kb s) := h
  generalize (x :: rest).length = nx at *
  clear h hE hn hov hr hks hkind 
  go_enter Tryz.func40, Tryz.ntmps40
  go_wp2_with fail
  refine Calls.mono HB.out ?_
  rintro e wz ⟨rfl, hwz⟩
  obtain rfl := hwz.symm
  go_wp2_with fail
  have HKW : Hid _ := HKD.out _ HR0.out (Stp.refl _ K)
  have c4 := (HN.out _ _ (Stp.refl _ K)).2.2
  clear HKD
  go_region_held3 (fun w' => w'.cell? ⟨gb, ob + 4, none⟩ = some (str x.s)) (go_keep) (first | (go_at_call 66; refine Calls.mono HKW.out ?_; rintro e w2 ⟨kv, rfl, g4, hkid⟩; obtain ⟨ka, kc, hkv⟩ := (hkid.kd).elim (fun B q => q.form)))
  have g0 := (HN.out _ _ hkid.st).1
  have g1 := (HN.out _ _ hkid.st).2.1
  have HID : Hid _ := hkid
  clear hkv
  have HRB : Hid (Rb W K rb cb sb kb s .ok w2) := Rb.of hkid.rn hkid.st
  obtain ⟨ka', kc', hkv⟩ := (hkid.kd).elim (fun B q => q.form)
  subst hkv
  clear hkid HKW HID
  go_wp2_with fail
  go_ret2
  obtain rfl := HRE.out
  exact ⟨rfl, HRB.out⟩
set_option maxRecDepth 100000 in
set_option maxHeartbeats 8000000 in
theorem cmdErr_any (v : Value) (x : Nd) (rest : List Nd) (r : Cr) (hE : Ers W ea) (h : Rn W K rb cb sb kb s) (hn : NdAt W v (x :: rest)) (hsb : stepsB x.kind = true) (hok : okB s = true) (hx : (stepP s).2 ≠ .ok) (hr : r = ((stepP s).1, 0, (stepP s).2)) :
    Calls Tryz.prog 40 #[rP rb, v] W (Done ea W K rb cb sb kb r) := by
  obtain ⟨gb, ob, cap, rfl, hgl, c0, -⟩ := hn.at (j := 0) (x := x) rfl
  rw [Nat.zero_mul, Nat.add_zero] at c0
  have HB : Hid _ := begins_any x.kind W
  rw [hsb] at HB
  have hpos : 0 < (x :: rest).length := by simp
  have HST : Hid (Calls Tryz.prog 65 #[rP rb] W fun e w' => e = .returned (xrV ea (stepP s).2) ∧ Rn w' K rb cb sb kb (stepP s).1 ∧ Stp W K w' K) := step_any h hE (okk hok).st
  generalize stepP s = q0 at *
  obtain ⟨s0, x0⟩ := q0
  generalize (x :: rest).length = nx at *
  clear h hE hn hok hsb
  subst hr
  go_enter Tryz.func40, Tryz.ntmps40
  go_wp2_with fail
  refine Calls.mono HB.out ?_
  rintro e wz ⟨rfl, hwz⟩
  obtain rfl := hwz.symm
  go_wp2_with fail
  refine Calls.mono HST.out ?_
  rintro e w1 ⟨rfl, hr1, hs1⟩
  rcases xr_cases ea x0 with ⟨hx1, hx2⟩ | ⟨hx1, a, hx2⟩
  · exact absurd hx1 hx
  · have HRB : Hid (Rb W K rb cb sb kb s0 x0 w1) := Rb.of hr1 hs1
    clear hr1 hs1 HST
    simp only [hx2]
    go_wp2_with fail
    go_ret2
    refine ⟨?_, HRB.out⟩
    show _ = Ending.returned (.tuple #[.int .i64 0, xrV ea x0])
    rw [hx2]
    rfl
theorem cmdS_some {n : Nat} {x : Nd} {rest : List Nd} {r : Cr} (h : cmdS f g n (x :: rest) s = some r) : okB s = true ∧ x.s.length < 100000 ∧ ∃ ks, kidsP (x :: rest) = some ks ∧ (stepsB x.kind = false → bodyS f g n x ks s = some r) ∧
    (stepsB x.kind = true → ((stepP s).2 ≠ .ok → r = ((stepP s).1, 0, (stepP s).2)) ∧ ((stepP s).2 = .ok → bodyS f g n x ks (stepP s).1 = some r)) := by
  unfold cmdS at h
  simp only at h
  cases hc : (okB s && decide (x.s.length < 100000)) with
  | false => simp [hc] at h
  | true =>
    rw [hc, if_pos rfl] at h
    rw [Bool.and_eq_true, decide_eq_true_eq] at hc
    refine ⟨hc.1, hc.2, ?_⟩
    cases hk : kidsP (x :: rest) with
    | none => simp [hk] at h
    | some ks =>
      simp only [hk] at h
      refine ⟨ks, rfl, fun hs => by rw [hs] at h; simpa using h, fun hs => ?_⟩
      rw [hs, if_pos rfl] at h
      cases hp : stepP s with
      | mk s0 y =>
        rw [hp] at h
        refine ⟨fun hy => ?_, fun hy => ?_⟩
        · cases y <;> first | exact absurd rfl hy | simpa using h.symm
        · simp only at hy
          subst hy
          simpa using h
theorem cmdR_any (hC : CmdC ea f) (hG : WordC ea g) (n : Nat) : CmdC ea (cmdS f g n) := by
  intro W K rb cb sb kb s v X r hE h hn hov hr
  cases X with
  | nil => simp [cmdS] at hr
  | cons x rest =>
    obtain ⟨hok, hxs, ks, hks, hns, hst⟩ := cmdS_some hr
    by_cases k21 : x.kind = 21
    · have := hst (by rw [k21]; rfl)
      simp only [bodyS, k21, if_true] at this
      exact cmd21_any hC hG v x rest ks r hE h hn hov k21 hok hxs hks this
    by_cases k23 : x.kind = 23
    · have := hns (by rw [k23]; rfl)
      simp only [bodyS, k23, Int.reduceEq, if_true, if_false] at this
      exact cmd23_any hC v x rest ks r hE h hn hov k23 hok hxs hks this
    by_cases k32 : x.kind = 32
    · have := hst (by rw [k32]; rfl)
      simp only [bodyS, k32, Int.reduceEq, if_true, if_false] at this
      exact cmd32_any hC v x rest ks r hE h hn hov k32 hok hxs hks this
    by_cases k20 : x.kind = 20
    · have := hns (by rw [k20]; rfl)
      simp only [bodyS, k20, Int.reduceEq, if_true, if_false, Option.some.injEq] at this
      exact cmd20_any v x rest ks r hE h hn hov k20 hok hxs hks this.symm
    have hb : ∀ s0, bodyS f g n x ks s0 = some r → (∃ k0, ks = [k0] ∧ (x.kind = 22 ∧ setS9 g x.s k0 s0 = some r ∨ x.kind = 31 ∧ r = ({ s0 with H := putM s0.H x.s k0 }, 0, .ok))) ∨ (∃ k0 k1 qs, ks = k0 :: k1 :: qs ∧ (x.kind = 28 ∧ whileS f k0 k1 n s0 0 = some r ∨ x.kind = 29 ∧ forS f g x.s k0 k1 s0 = some r ∨ x.kind = 33 ∧ redirS f g x.n k0 k1 s0 = some r ∨ x.kind = 34 ∧ hereS f g k0 k1 s0 = some r)) := by
      intro s0 hb
      unfold bodyS at hb
      rw [if_neg k21, if_neg k23, if_neg k32, if_neg k20] at hb
      split at hb
      · cases hb
      · rename_i k0
        refine .inl ⟨k0, rfl, ?_⟩
        split at hb
        · rename_i h22
          exact .inl ⟨h22, hb⟩
        · split at hb
          · rename_i h31
            exact .inr ⟨h31, by simpa using hb.symm⟩
          · cases hb
      · rename_i k0 k1 qs
        refine .inr ⟨k0, k1, qs, rfl, ?_⟩
        split at hb
        · rename_i h1
          exact .inl ⟨h1, hb⟩
        · split at hb
          · rename_i h1
            exact .inr (.inl ⟨h1, hb⟩)
          · split at hb
            · rename_i h1
              exact .inr (.inr (.inl ⟨h1, hb⟩))
            · split at hb
              · rename_i h1
                exact .inr (.inr (.inr ⟨h1, hb⟩))
              · cases hb
    by_cases k22 : x.kind = 22
    · obtain ⟨h1, h2⟩ := hst (by rw [k22]; rfl)
      refine cmd22_any hG v x rest ks r hE h hn hov k22 hok hxs hks ⟨h1, fun hx => ?_⟩
      rcases hb _ (h2 hx) with ⟨k0, hk, ⟨_, h3⟩ | ⟨h3, _⟩⟩ | ⟨k0, k1, qs, hk, ⟨h3, _⟩ | ⟨h3, _⟩ | ⟨h3, _⟩ | ⟨h3, _⟩⟩
      · exact ⟨k0, [], hk, h3⟩
      all_goals omega
    by_cases k31 : x.kind = 31
    · obtain ⟨h1, h2⟩ := hst (by rw [k31]; rfl)
      refine cmd31_any v x rest ks r hE h hn hov k31 hok hxs hks ⟨h1, fun hx => ?_⟩
      rcases hb _ (h2 hx) with ⟨k0, hk, ⟨h3, _⟩ | ⟨_, h3⟩⟩ | ⟨k0, k1, qs, hk, ⟨h3, _⟩ | ⟨h3, _⟩ | ⟨h3, _⟩ | ⟨h3, _⟩⟩
      · omega
      · exact ⟨k0, [], hk, h3⟩
      all_goals omega
    by_cases k28 : x.kind = 28
    · have h2 := hns (by rw [k28]; rfl)
      refine cmd28_any hC n v x rest ks r hE h hn hov k28 hok hxs hks ?_
      rcases hb _ h2 with ⟨k0, hk, ⟨h3, _⟩ | ⟨h3, _⟩⟩ | ⟨k0, k1, qs, hk, ⟨_, h3⟩ | ⟨h3, _⟩ | ⟨h3, _⟩ | ⟨h3, _⟩⟩
      · omega
      · omega
      · exact ⟨k0, k1, qs, hk, h3⟩
      all_goals omega
    by_cases k29 : x.kind = 29
    · have h2 := hns (by rw [k29]; rfl)
      refine cmd29_any hC hG v x rest ks r hE h hn hov k29 hok hxs hks ?_
      rcases hb _ h2 with ⟨k0, hk, ⟨h3, _⟩ | ⟨h3, _⟩⟩ | ⟨k0, k1, qs, hk, ⟨h3, _⟩ | ⟨_, h3⟩ | ⟨h3, _⟩ | ⟨h3, _⟩⟩
      · omega
      · omega
      · omega
      · exact ⟨k0, k1, qs, hk, h3⟩
      all_goals omega
    by_cases k33 : x.kind = 33
    · obtain ⟨h1, h2⟩ := hst (by rw [k33]; rfl)
      refine cmd33_any hC hG v x rest ks r hE h hn hov k33 hok hxs hks ⟨h1, fun hx => ?_⟩
      rcases hb _ (h2 hx) with ⟨k0, hk, ⟨h3, _⟩ | ⟨h3, _⟩⟩ | ⟨k0, k1, qs, hk, ⟨h3, _⟩ | ⟨h3, _⟩ | ⟨_, h3⟩ | ⟨h3, _⟩⟩
      · omega
      · omega
      · omega
      · omega
      · exact ⟨k0, k1, qs, hk, h3⟩
      all_goals omega
    by_cases k34 : x.kind = 34
    · obtain ⟨h1, h2⟩ := hst (by rw [k34]; rfl)
      refine cmd34_any hC hG v x rest ks r hE h hn hov k34 hok hxs hks ⟨h1, fun hx => ?_⟩
      rcases hb _ (h2 hx) with ⟨k0, hk, ⟨h3, _⟩ | ⟨h3, _⟩⟩ | ⟨k0, k1, qs, hk, ⟨h3, _⟩ | ⟨h3, _⟩ | ⟨h3, _⟩ | ⟨_, h3⟩⟩
      · omega
      · omega
      · omega
      · omega
      · omega
      · exact ⟨k0, k1, qs, hk, h3⟩
    -- another kind: not followed
    have hno : ∀ s0, bodyS f g n x ks s0 ≠ some r := fun s0 hbs => by
      rcases hb _ hbs with ⟨k0, hk, ⟨h3, _⟩ | ⟨h3, _⟩⟩ | ⟨k0, k1, qs, hk, ⟨h3, _⟩ | ⟨h3, _⟩ | ⟨h3, _⟩ | ⟨h3, _⟩⟩ <;> omega
    by_cases hsb : stepsB x.kind = true
    · obtain ⟨h1, h2⟩ := hst hsb
      by_cases hx : (stepP s).2 = .ok
      · exact absurd (h2 hx) (hno _)
      · exact cmdErr_any v x rest r hE h hn hsb hok hx (h1 hx)
    · exact absurd (hns (by simpa using hsb)) (hno _)
/-- The interpreter is what the program does. -/
theorem ev_any (ea : Nat → Addr) : ∀ n, CmdC ea (ev n).1 ∧ WordC ea (ev n).2
  | 0 => ⟨fun W K rb cb sb kb s v X r _ _ _ _ h => by simp [ev] at h, fun W K rb cb sb kb s v X r _ _ _ _ h => by simp [ev] at h⟩
  | n + 1 => ⟨cmdR_any (ev_any ea n).1 (ev_any ea n).2 n, wordR_any (ev_any ea n).1 (ev_any ea n).2⟩
end Go.Proofs.YtfafhjglcaikoaaGreatDoor
