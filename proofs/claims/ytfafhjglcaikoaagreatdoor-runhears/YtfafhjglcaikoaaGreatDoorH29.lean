/- Pipes. -/
import Derived.Test.YtfafhjglcaikoaaGreatDoorH28
namespace Go.Proofs.YtfafhjglcaikoaaGreatDoor
open Go.RowKit
attribute [local go_sem] Oper.semAt_some

variable {W W' : World} {K : Nat → Prop} {rb cb sb kb : Nat} {s : Sh} {ea : Nat → Addr} {f : List Nd → Sh → Option Cr} {g : List Nd → Sh → Option Wr}
theorem mark_rn (k n : Int) (h : Rn W K rb cb sb kb s) (hE : s.E.length < 4294967296) :
    Calls Tryz.prog 117 #[kP kb, .int .i64 k, .int .i64 n] W fun e w' => e = .returned (.tuple #[]) ∧ ∃ K', Rn w' K' rb cb sb kb (markP k n s) ∧ Stp W K w' K' := by
  refine h.onKern (P := fun e => e = .returned (.tuple #[])) (D' := s.D) (E' := marked k n) fun KK mb ev rv Y X k1 k2 k3 => ?_
  have hlE : X.length = s.E.length := by rw [← k3, List.length_map]
  refine (mark_any k n k1 (by omega)).mono ?_
  rintro e w' ⟨rfl, ev', X', K', b1, b2, b3⟩
  exact ⟨rfl, ev', X', K', b1, b2, b3⟩
theorem thruS_cons {x : List Nd} {rest : List (List Nd)} {t : Txt} {q : Sh × Txt × Xr} (h : thruS f (x :: rest) s t = some q) : ∃ s1 u y, catchS f x { s with hd := t } = some (s1, u, y) ∧ (y ≠ .ok → q = (s1, [], y)) ∧ (y = .ok → thruS f rest s1 u = some q) := by
  unfold thruS at h
  cases hk : catchS f x { s with hd := t } with
  | none => simp [hk] at h
  | some p =>
    obtain ⟨s1, u, y⟩ := p
    refine ⟨s1, u, y, rfl, fun hx => ?_, fun hx => ?_⟩
    · cases y <;> first | exact absurd rfl hx | simpa [hk] using h.symm
    · subst hx
      simpa [hk] using h
theorem thruAll_some {k0 : List Nd} {rs : List (List Nd)} {r : Cr} (h : thruAll f (k0 :: rs) s = some r) : ∃ s1 t y, catchS f k0 s = some (s1, t, y) ∧ (y ≠ .ok → r = (s1, 0, y)) ∧
    (y = .ok → ∃ q z, thruS f rs.dropLast s1 t = some q ∧ (q.2.2 ≠ .ok → r = (q.1, 0, q.2.2)) ∧ (q.2.2 = .ok → rs.getLast? = some z ∧ hearS f q.2.1 z { q.1 with hd := s1.hd } = some r)) := by
  unfold thruAll at h
  simp only at h
  cases hk : catchS f k0 s with
  | none => simp [hk] at h
  | some p =>
    obtain ⟨s1, t, y⟩ := p
    refine ⟨s1, t, y, rfl, fun hx => ?_, fun hx => ?_⟩
    · cases y <;> first | exact absurd rfl hx | simpa [hk] using h.symm
    · subst hx
      simp only [hk] at h
      cases ht : thruS f rs.dropLast s1 t with
      | none => simp [ht] at h
      | some q =>
        obtain ⟨s2, u, x⟩ := q
        simp only [ht] at h
        cases hl : rs.getLast? with
        | none =>
          refine ⟨(s2, u, x), [], rfl, fun hx => ?_, fun hx => ?_⟩
          · cases x <;> first | exact absurd rfl hx | simpa using h.symm
          · simp only at hx
            subst hx
            simp [hl] at h
        | some z =>
          refine ⟨(s2, u, x), z, rfl, fun hx => ?_, fun hx => ⟨rfl, ?_⟩⟩
          · cases x <;> first | exact absurd rfl hx | simpa using h.symm
          · simp only at hx
            subst hx
            simpa [hl] using h
theorem drop_mid {rs : List (List Nd)} {k : Nat} (hk : k + 1 < rs.length) : ∃ x, rs[k]? = some x ∧ (rs.drop k).dropLast = x :: (rs.drop (k + 1)).dropLast := by
  refine ⟨rs[k], List.getElem?_eq_getElem (by omega), ?_⟩
  rw [List.drop_eq_getElem_cons (by omega), List.dropLast_cons_of_ne_nil]
  intro he
  have := congrArg List.length he
  simp at this
  omega
theorem drop_end {rs : List (List Nd)} {k : Nat} (hk : rs.length ≤ k + 1) : (rs.drop k).dropLast = [] := by
  apply List.eq_nil_of_length_eq_zero
  rw [List.length_dropLast, List.length_drop]
  omega
/-- How things stand in a pipe. -/
def PipeI (ea : Nat → Addr) (f : List Nd → Sh → Option Cr) (W : World) (K : Nat → Prop) (rb cb sb kb : Nat) (rs : List (List Nd)) (q : Sh × Txt × Xr) (v7 v8 : Value) (k : Nat) (wr : World) : Prop :=
  (∃ (sk : Sh) (t : Txt) (Kk : Nat → Prop), v7 = str t ∧ v8 = .nilIface ∧ k + 1 ≤ rs.length ∧ thruS f (rs.drop k).dropLast sk t = some q ∧ Rn wr Kk rb cb sb kb sk ∧ Stp W K wr Kk) ∨
  (∃ (a : Addr) (t : Txt), v7 = str t ∧ v8 = errV a ∧ xrV ea q.2.2 = errV a ∧ q.2.2 ≠ .ok ∧ Rb W K rb cb sb kb q.1 q.2.2 wr)
set_option maxRecDepth 100000 in
set_option maxHeartbeats 8000000 in
theorem through_any (hC : CmdC ea f) (v kv : Value) (B : Nat) (ks : List (List Nd)) (r : Cr) (hE : Ers W ea) (h : Rn W K rb cb sb kb s) (hK : Kds W B v kv ks) (hov : Off W K v) (hok : Off W K kv) (hks : ks.length < 4294967296) (hr : thruAll f ks s = some r) :
    Calls Tryz.prog 118 #[rP rb, kv] W (Done ea W K rb cb sb kb r) := by
  obtain ⟨k0, rs, rfl⟩ : ∃ k0 rs, ks = k0 :: rs := by
    cases ks with
    | nil => simp [thruAll] at hr
    | cons k0 rs => exact ⟨k0, rs, rfl⟩
  obtain ⟨s1, t1, y, hc0, hno, hyes⟩ := thruAll_some hr
  have HE : Hid (∀ w1 K1, Stp W K w1 K1 → Ers w1 ea) := fun w1 K1 q => hE.stp h q
  have HK : Hid (∀ w1 K1, Stp W K w1 K1 → Kds w1 B v kv (k0 :: rs) ∧ Off w1 K1 v) := fun w1 K1 q => ⟨hK.turn q.1 (fun b hb => (hov b hb).2) (fun b hb => (hok b hb).2), hov.stp q⟩
  have HCT : Hid (∀ w1 K1 sk pv X q, Stp W K w1 K1 → Rn w1 K1 rb cb sb kb sk → NdAt w1 pv X → Off w1 K1 pv → catchS f X sk = some q → Calls Tryz.prog 170 #[rP rb, pv] w1 (DoneT ea w1 K1 rb cb sb kb q)) := fun w1 K1 sk pv X q q1 q2 q3 q4 q5 => catching_any hC pv X q (hE.stp h q1) q2 q3 q4 q5
  have HHR : Hid (∀ w1 K1 sk pv X hd q, Stp W K w1 K1 → Rn w1 K1 rb cb sb kb sk → NdAt w1 pv X → Off w1 K1 pv → hearS f hd X sk = some q → Calls Tryz.prog 120 #[rP rb, str hd, pv] w1 (Done ea w1 K1 rb cb sb kb q)) := fun w1 K1 sk pv X hd q q1 q2 q3 q4 q5 => hearing_any hC hd pv X q (hE.stp h q1) q2 q3 q4 q5
  have HNO : Hid _ := hno
  have HYES : Hid _ := hyes
  obtain ⟨g0, c0, p0, hv0, hg0, hp0, hn0, ho0⟩ := hK.at (j := 0) (k := k0) rfl
  subst hv0
  have HC0 : Hid _ := HCT.out W K s p0 k0 _ (Stp.refl W K) h hn0 (hov.pick ho0) hc0
  obtain ⟨pa, pc, rfl⟩ := hn0.form
  have hnk : (k0 :: rs).length = rs.length + 1 := rfl
  rw [hnk] at HK hks ⊢
  clear h hE hK hov hok hr hC hno hyes hc0 hn0 ho0 hnk
  go_enter Tryz.func118, Tryz.ntmps118
  go_wp2_with fail
  refine Calls.mono HC0.out ?_
  rintro e w1 ⟨rfl, hrb⟩
  obtain ⟨q, hpi, hfn⟩ : ∃ q, PipeI ea f W K rb cb sb kb rs q (str t1) (xrV ea y) 0 w1 ∧ ((q.2.2 ≠ .ok → r = (q.1, 0, q.2.2)) ∧ (q.2.2 = .ok → ∃ z, rs.getLast? = some z ∧ hearS f q.2.1 z { q.1 with hd := s1.hd } = some r)) := by
    rcases xr_cases ea y with ⟨hy1, hy2⟩ | ⟨hy1, a, hy2⟩
    · obtain ⟨q, z, h1, h2, h3⟩ := HYES.out hy1
      obtain ⟨K1, cb1, hr1, hs1, hcb1⟩ := hrb
      obtain rfl := hcb1 hy1
      have hne : 1 ≤ rs.length := by
        cases rs with
        | nil =>
          obtain rfl : (s1, t1, .ok) = q := by simpa [thruS] using h1
          have := (h3 rfl).1
          simp at this
        | cons _ _ => simp
      refine ⟨q, .inl ⟨s1, t1, K1, rfl, hy2, by omega, h1, hr1, hs1⟩, h2, fun hq => ⟨z, h3 hq⟩⟩
    · exact ⟨(s1, [], y), .inr ⟨a, t1, rfl, hy2, hy2, hy1, hrb⟩, fun _ => HNO.out hy1, fun hq => absurd hq hy1⟩
  have c7 : w1.cell? ⟨rb, 7, none⟩ = some (str s1.hd) := by
    obtain ⟨K1, cb1, hr1, _⟩ := hrb
    exact hr1.rc.cell 7
  have HPI : Hid (PipeI ea f W K rb cb sb kb rs q (str t1) (xrV ea y) 0 w1) := hpi
  have HFN : Hid _ := hfn
  obtain ⟨v8, hv8⟩ : ∃ v8, xrV ea y = v8 := ⟨_, rfl⟩
  rw [hv8] at HPI ⊢
  obtain ⟨left, hleft⟩ : ∃ left, s1.hd = left := ⟨_, rfl⟩
  rw [hleft] at c7 HFN
  have H8 : Hid (v8 = .nilIface ∨ ∃ a, v8 = errV a) := by
    rcases HPI.out with ⟨_, _, _, _, h1, _⟩ | ⟨a, _, _, h1, _⟩
    · exact .inl h1
    · exact .inr ⟨a, h1⟩
  clear hrb hpi hfn HC0 HNO HYES hv8 hleft
  have hcont : v8 = .nilIface ∨ ∃ a, v8 = errV a := H8.out
  rcases hcont with h8 | ⟨a8, h8⟩
  all_goals
    subst h8
    clear H8
    go_wp2_with fail
    go_loopw [7, 8, 10] (fun v7 v8 v10 wr => ∃ k : Nat, v10 = .int .i64 ((k : Int) + 1) ∧ k ≤ rs.length ∧ Hid (PipeI ea f W K rb cb sb kb rs q v7 v8 k wr)) (fun _ _ v10 _ => rs.length + 1 - (intOf v10).toNat)
    case atStart => exact ⟨0, by simp, by omega, HPI⟩
    case round =>
      obtain ⟨k, rfl, hk, HI⟩ := hrel
      rcases HI.out with ⟨sk, t, Kk, rfl, rfl, hkn, hth, hrk, hsk⟩ | ⟨a, t, rfl, rfl, hxa, hqx, hrb⟩
      · obtain ⟨hkd, hvo⟩ := HK.out _ _ hsk
        have d7 : wr.cell? ⟨rb, 7, none⟩ = some (str sk.hd) := hrk.rc.cell 7
        have e7 := hrk.rc.frozen 7
        by_cases hlt : k + 1 < rs.length
        · obtain ⟨x, hx, hdl⟩ := drop_mid hlt
          rw [hdl] at hth
          obtain ⟨s2, u2, y2, hc2, hno2, hyes2⟩ := thruS_cons hth
          obtain ⟨h5, h6⟩ := hrk.set 7 (str t) { sk with hd := t } (by simp [rnC]) rfl rfl rfl rfl rfl rfl
          have hsx := hsk.trans h6
          obtain ⟨hkd2, hvo2⟩ := HK.out _ _ hsx
          obtain ⟨gb, cp, pv, hv, hgl, hcell, hnd, hpo⟩ := hkd2.at (j := k + 1) (k := x) (by simpa using hx)
          rw [List.length_cons] at hv
          cases hv
          have HW : Hid _ := HCT.out _ _ _ pv x _ hsx h5 hnd (hvo2.pick hpo) hc2
          have HSX : Hid (Stp W K (wr.setCell ⟨rb, 7, none⟩ (str t)) Kk) := hsx
          obtain ⟨pa2, pc2, rfl⟩ := hnd.form
          have HNO2 : Hid _ := hno2
          have HYES2 : Hid _ := hyes2
          clear hkd hvo hkd2 hvo2 hdl hth hrk hsk h5 h6 hsx hnd hpo hc2 hno2 hyes2 hx HI
          go_wp2_with fail
          refine Calls.mono HW.out ?_
          rintro e w2 ⟨rfl, hrb2⟩
          have HP2 : Hid (PipeI ea f W K rb cb sb kb rs q (str u2) (xrV ea y2) (k + 1) w2) := by
            rcases xr_cases ea y2 with ⟨hy1, hy2⟩ | ⟨hy1, a, hy2⟩
            · obtain ⟨K1, cb1, hr1, hs1, hcb1⟩ := hrb2
              obtain rfl := hcb1 hy1
              exact .inl ⟨s2, u2, K1, rfl, hy2, by omega, HYES2.out hy1, hr1, Stp.trans HSX.out hs1⟩
            · obtain rfl := HNO2.out hy1
              exact .inr ⟨a, u2, rfl, hy2, hy2, hy1, Rb.pre HSX.out hrb2⟩
          generalize xrV ea y2 = v82 at *
          clear hrb2 HW HNO2 HYES2
          have hcont2 : v82 = .nilIface ∨ ∃ a, v82 = errV a := by
            rcases HP2.out with ⟨_, _, _, _, h1, _⟩ | ⟨a, _, _, h1, _⟩
            · exact .inl h1
            · exact .inr ⟨a, h1⟩
          rcases hcont2 with rfl | ⟨a2, rfl⟩
          all_goals
            go_wp2_with fail
            exact ⟨⟨k + 1, by simp, by omega, HP2⟩, by simp [intOf]; omega⟩
        · rw [drop_end (by omega)] at hth
          obtain rfl : (sk, t, .ok) = q := by simpa [thruS] using hth
          obtain ⟨z, hz, hhe⟩ := HFN.out.2 rfl
          obtain ⟨h5, h6⟩ := hrk.set 7 (str left) { sk with hd := left } (by simp [rnC]) rfl rfl rfl rfl rfl rfl
          have hsx := hsk.trans h6
          obtain ⟨hkd2, hvo2⟩ := HK.out _ _ hsx
          have hzl : (k0 :: rs)[rs.length]? = some z := by
            have hne : rs ≠ [] := by
              intro e
              rw [e] at hkn
              simp at hkn
            rw [List.getLast?_eq_getElem?] at hz
            have : rs.length = (rs.length - 1) + 1 := by omega
            rw [this, List.getElem?_cons_succ]
            exact hz
          obtain ⟨gb, cp, pv, hv, hgl, hcell, hnd, hpo⟩ := hkd2.at (j := rs.length) (k := z) hzl
          rw [List.length_cons] at hv
          cases hv
          have HW : Hid _ := HHR.out _ _ _ pv z t _ hsx h5 hnd (hvo2.pick hpo) hhe
          have HSX : Hid (Stp W K (wr.setCell ⟨rb, 7, none⟩ (str left)) Kk) := hsx
          obtain ⟨pa2, pc2, rfl⟩ := hnd.form
          clear hkd hvo hkd2 hvo2 hth hrk hsk h5 h6 hsx hnd hpo hhe hz hzl HI
          go_wp2_with fail
          refine Calls.mono HW.out ?_
          rintro e w2 ⟨rfl, hrb2⟩
          have HB2 : Hid _ := Rb.pre HSX.out hrb2
          clear hrb2 HW
          go_wp2_with fail
          go_ret2
          exact ⟨rfl, HB2.out⟩
      · obtain rfl := HFN.out.1 hqx
        have HB2 : Hid _ := hrb
        have HXA : Hid _ := hxa
        clear hrb hxa HI
        by_cases hlt : k + 1 < rs.length
        all_goals
          go_wp2_with fail
          go_ret2
          refine ⟨?_, HB2.out⟩
          show _ = Ending.returned (.tuple #[.int .i64 0, xrV ea q.2.2])
          rw [HXA.out]
          rfl
end Go.Proofs.YtfafhjglcaikoaaGreatDoor
