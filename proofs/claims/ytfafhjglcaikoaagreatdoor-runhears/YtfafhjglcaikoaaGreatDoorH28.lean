/- While, For. -/
import Derived.Test.YtfafhjglcaikoaaGreatDoorH27
namespace Go.Proofs.YtfafhjglcaikoaaGreatDoor
open Go.RowKit
attribute [local go_sem] Oper.semAt_some

variable {W W' : World} {K : Nat → Prop} {rb cb sb kb : Nat} {s : Sh} {ea : Nat → Addr} {f : List Nd → Sh → Option Cr} {g : List Nd → Sh → Option Wr}
theorem least_at {P : Nat → Prop} : ∀ n, P n → ∃ m, P m ∧ m ≤ n ∧ ∀ k, k < m → ¬ P k := by
  intro n
  induction n using Nat.strongRecOn with
  | _ n ih =>
    intro hn
    by_cases h : ∃ k, k < n ∧ P k
    · obtain ⟨k, hk, hp⟩ := h
      obtain ⟨m, h1, h2, h3⟩ := ih k hk hp
      exact ⟨m, h1, by omega, h3⟩
    · exact ⟨n, hn, Nat.le_refl _, fun k hk hp => h ⟨k, hk, hp⟩⟩
/-- The least number of which something holds, as a measure. -/
theorem least_fun (P : Value → World → Nat → Prop) : ∃ μ : Value → World → Nat, ∀ v w n, P v w n → P v w (μ v w) ∧ μ v w ≤ n := by
  have h : ∀ v w, ∃ m, ∀ n, P v w n → P v w m ∧ m ≤ n := by
    intro v w
    by_cases hp : ∃ n, P v w n
    · obtain ⟨n, hn⟩ := hp
      obtain ⟨m, h1, _, h3⟩ := least_at n hn
      exact ⟨m, fun k hk => ⟨h1, Nat.le_of_not_lt fun hlt => h3 k hlt hk⟩⟩
    · exact ⟨0, fun n hn => absurd ⟨n, hn⟩ hp⟩
  exact ⟨fun v w => Classical.choose (h v w), fun v w n hn => Classical.choose_spec (h v w) n hn⟩
theorem whileS_succ {a b : List Nd} {n : Nat} {last : Int} {r : Cr} (h : whileS f a b (n + 1) s last = some r) : okB s = true ∧ ((stepP s).2 ≠ .ok → r = ((stepP s).1, 0, (stepP s).2)) ∧ ((stepP s).2 = .ok → ∃ s1 st y, f a (stepP s).1 = some (s1, st, y) ∧ (y ≠ .ok → r = (s1, 0, y)) ∧
    (y = .ok → (st ≠ 0 → r = (s1, last, .ok)) ∧ (st = 0 → ∃ s2 st2 z, f b s1 = some (s2, st2, z) ∧ (z ≠ .ok → r = (s2, 0, z)) ∧ (z = .ok → whileS f a b n s2 st2 = some r)))) := by
  unfold whileS at h
  cases hok : okB s with
  | false => simp [hok] at h
  | true =>
    rw [hok, if_pos rfl] at h
    cases hp : stepP s with
    | mk s0 x =>
      rw [hp] at h
      refine ⟨rfl, fun hx => ?_, fun hx => ?_⟩
      · cases x <;> first | exact absurd rfl hx | simpa using h.symm
      · simp only at hx
        subst hx
        simp only at h ⊢
        cases hk : f a s0 with
        | none => simp [hk] at h
        | some q =>
          obtain ⟨s1, st, y⟩ := q
          refine ⟨s1, st, y, rfl, fun hy => ?_, fun hy => ?_⟩
          · cases y <;> first | exact absurd rfl hy | simpa [hk] using h.symm
          · subst hy
            simp only [hk] at h
            refine ⟨fun hs => by rw [if_neg hs] at h; simpa using h.symm, fun hs => ?_⟩
            rw [if_pos hs] at h
            cases hk2 : f b s1 with
            | none => simp [hk2] at h
            | some q2 =>
              obtain ⟨s2, st2, z⟩ := q2
              refine ⟨s2, st2, z, rfl, fun hz => ?_, fun hz => ?_⟩
              · cases z <;> first | exact absurd rfl hz | simpa [hk2] using h.symm
              · subst hz
                simpa [hk2] using h
set_option maxRecDepth 100000 in
set_option maxHeartbeats 8000000 in
theorem whileR_any (hC : CmdC ea f) (va vb : Value) (A B : List Nd) (n : Nat) (r : Cr) (hE : Ers W ea) (h : Rn W K rb cb sb kb s) (hna : NdAt W va A) (hoa : Off W K va) (hnb : NdAt W vb B) (hob : Off W K vb) (hr : whileS f A B n s 0 = some r) :
    Calls Tryz.prog 71 #[rP rb, va, vb] W (Done ea W K rb cb sb kb r) := by
  have HE : Hid (∀ w1 K1, Stp W K w1 K1 → Ers w1 ea) := fun w1 K1 q => hE.stp h q
  have HA : Hid (∀ w1 K1 s1 q, Stp W K w1 K1 → Rn w1 K1 rb cb sb kb s1 → f A s1 = some q → Calls Tryz.prog 40 #[rP rb, va] w1 (Done ea w1 K1 rb cb sb kb q)) := fun w1 K1 s1 q q1 q2 q3 => hC _ _ _ _ _ _ _ va A _ (hE.stp h q1) q2 (hoa.nd hna q1) (hoa.stp q1) q3
  have HB : Hid (∀ w1 K1 s1 q, Stp W K w1 K1 → Rn w1 K1 rb cb sb kb s1 → f B s1 = some q → Calls Tryz.prog 40 #[rP rb, vb] w1 (Done ea w1 K1 rb cb sb kb q)) := fun w1 K1 s1 q q1 q2 q3 => hC _ _ _ _ _ _ _ vb B _ (hE.stp h q1) q2 (hob.nd hnb q1) (hob.stp q1) q3
  obtain ⟨P, hP⟩ : ∃ P : Value → World → Nat → Prop, P = fun v8 wr m => ∃ (sk : Sh) (last : Int) (Kk : Nat → Prop), v8 = .int .i64 last ∧ whileS f A B m sk last = some r ∧ Rn wr Kk rb cb sb kb sk ∧ Stp W K wr Kk := ⟨_, rfl⟩
  have HP : Hid (∀ v8 wr m, P v8 wr m ↔ ∃ (sk : Sh) (last : Int) (Kk : Nat → Prop), v8 = .int .i64 last ∧ whileS f A B m sk last = some r ∧ Rn wr Kk rb cb sb kb sk ∧ Stp W K wr Kk) := fun v8 wr m => by rw [hP]
  obtain ⟨μ, hμ⟩ := least_fun P
  have HM : Hid (∀ v w n, P v w n → P v w (μ v w) ∧ μ v w ≤ n) := hμ
  have H0 : Hid (P (.int .i64 0) W n) := (HP.out _ _ _).2 ⟨s, 0, K, rfl, hr, h, Stp.refl W K⟩
  obtain ⟨aa, ca, rfl⟩ := hna.form
  obtain ⟨ab, cbb, rfl⟩ := hnb.form
  clear h hE hna hoa hnb hob hr hC hP hμ
  go_enter Tryz.func71, Tryz.ntmps71
  go_wp2_with fail
  go_loopw [8] (fun v8 wr => ∃ m, Hid (P v8 wr m)) (fun v8 wr => μ v8 wr)
  case atStart => exact ⟨n, H0⟩
  case round =>
    obtain ⟨m0, hm0⟩ := hrel
    obtain ⟨m, hm⟩ : ∃ m, μ u8 wr = m := ⟨_, rfl⟩
    have hpm := (HM.out _ _ _ hm0.out).1
    rw [hm] at hpm
    have HMM : Hid (μ u8 wr = m) := hm
    obtain ⟨sk, last, Kk, rfl, hw, hrk, hsk⟩ := (HP.out _ _ _).1 hpm
    obtain ⟨m', rfl⟩ : ∃ m', m = m' + 1 := by
      cases m with
      | zero => simp [whileS] at hw
      | succ m' => exact ⟨m', rfl⟩
    obtain ⟨hok, hno, hyes⟩ := whileS_succ hw
    have HST : Hid _ := step_any hrk (HE.out _ _ hsk) (okk hok).st
    have HSK : Hid (Stp W K wr Kk) := hsk
    have HNO : Hid _ := hno
    have HYES : Hid _ := hyes
    generalize stepP sk = q0 at *
    obtain ⟨s0, x0⟩ := q0
    clear hm0 hpm hw hrk hsk hok hno hyes hm
    go_wp2_with fail
    refine Calls.mono HST.out ?_
    rintro e w0 ⟨rfl, hr0, hs0⟩
    have HR0 : Hid (Rn w0 Kk rb cb sb kb s0) := hr0
    have HS0 : Hid (Stp W K w0 Kk) := Stp.trans HSK.out hs0
    clear hr0 hs0
    rcases xr_cases ea x0 with ⟨hx1, hx2⟩ | ⟨hx1, a, hx2⟩
    case inr =>
      obtain rfl := HNO.out hx1
      clear HST HSK HNO HYES
      simp only [hx2]
      go_wp2_with fail
      go_ret2
      refine ⟨?_, Rb.of HR0.out HS0.out⟩
      show _ = Ending.returned (.tuple #[.int .i64 0, xrV ea x0])
      rw [hx2]
      rfl
    obtain ⟨s1, st, y, hfa, hno1, hyes1⟩ := HYES.out hx1
    have HCA : Hid _ := HA.out _ _ _ _ HS0.out HR0.out hfa
    have HNO1 : Hid _ := hno1
    have HYES1 : Hid _ := hyes1
    clear HST HSK HNO HYES hfa hno1 hyes1
    simp only [hx2]
    go_wp2_with fail
    refine Calls.mono HCA.out ?_
    rintro e w1 ⟨rfl, hrb⟩
    rcases xr_cases ea y with ⟨hy1, hy2⟩ | ⟨hy1, a, hy2⟩
    case inr =>
      have HRB : Hid _ := Rb.pre HS0.out hrb
      obtain rfl := HNO1.out hy1
      clear hrb HNO1 HYES1 HCA
      simp only [hy2]
      go_wp2_with fail
      go_ret2
      refine ⟨?_, HRB.out⟩
      show _ = Ending.returned (.tuple #[.int .i64 0, xrV ea y])
      rw [hy2]
      rfl
    obtain ⟨K1, cb1, hr1, hs1, hcb1⟩ := hrb
    obtain rfl := hcb1 hy1
    have HR1 : Hid (Rn w1 K1 rb cb1 sb kb s1) := hr1
    have HS1 : Hid (Stp W K w1 K1) := Stp.trans HS0.out hs1
    clear hr1 hs1 hcb1 HCA HNO1
    simp only [hy2]
    by_cases hst : st = 0
    · subst hst
      obtain ⟨s2, st2, z, hfb, hno2, hyes2⟩ := (HYES1.out hy1).2 rfl
      have HCB : Hid _ := HB.out _ _ _ _ HS1.out HR1.out hfb
      have HNO2 : Hid _ := hno2
      have HYES2 : Hid _ := hyes2
      clear HYES1 hfb hno2 hyes2
      go_wp2_with fail
      refine Calls.mono HCB.out ?_
      rintro e w2 ⟨rfl, hrb⟩
      rcases xr_cases ea z with ⟨hz1, hz2⟩ | ⟨hz1, a, hz2⟩
      case inr =>
        have HRB : Hid _ := Rb.pre HS1.out hrb
        obtain rfl := HNO2.out hz1
        clear hrb HNO2 HYES2 HCB
        simp only [hz2]
        go_wp2_with fail
        go_ret2
        refine ⟨?_, HRB.out⟩
        show _ = Ending.returned (.tuple #[.int .i64 0, xrV ea z])
        rw [hz2]
        rfl
      obtain ⟨K2, cb2, hr2, hs2, hcb2⟩ := hrb
      obtain rfl := hcb2 hz1
      have HP2 : Hid (P (.int .i64 st2) w2 m') := (HP.out _ _ _).2 ⟨s2, st2, K2, rfl, HYES2.out hz1, hr2, Stp.trans HS1.out hs2⟩
      clear hr2 hs2 hcb2 HCB HNO2 HYES2
      simp only [hz2]
      go_wp2_with fail
      refine ⟨⟨m', HP2⟩, ?_⟩
      rw [HMM.out]
      exact Nat.lt_succ_of_le (HM.out _ _ _ HP2.out).2
    · obtain rfl := (HYES1.out hy1).1 hst
      have hst' : (st == 0) = false := by simpa using hst
      clear HYES1
      go_wp2_with fail
      go_ret2
      exact ⟨rfl, Rb.of HR1.out HS1.out⟩
theorem eachS_cons {nm : Txt} {b : List Nd} {x : Txt} {rest : List Txt} {last : Int} {r : Cr} (h : eachS f nm b (x :: rest) s last = some r) : okB s = true ∧ ((stepP s).2 ≠ .ok → r = ((stepP s).1, 0, (stepP s).2)) ∧
    ((stepP s).2 = .ok → ∃ s1 st y, f b { (stepP s).1 with F := putM (stepP s).1.F nm [x] } = some (s1, st, y) ∧ (y ≠ .ok → r = (s1, 0, y)) ∧ (y = .ok → eachS f nm b rest s1 st = some r)) := by
  unfold eachS at h
  cases hok : okB s with
  | false => simp [hok] at h
  | true =>
    rw [hok, if_pos rfl] at h
    cases hp : stepP s with
    | mk s0 y0 =>
      rw [hp] at h
      refine ⟨rfl, fun hx => ?_, fun hx => ?_⟩
      · cases y0 <;> first | exact absurd rfl hx | simpa using h.symm
      · simp only at hx
        subst hx
        simp only at h ⊢
        cases hk : f b { s0 with F := putM s0.F nm [x] } with
        | none => simp [hk] at h
        | some q =>
          obtain ⟨s1, st, y⟩ := q
          refine ⟨s1, st, y, rfl, fun hy => ?_, fun hy => ?_⟩
          · cases y <;> first | exact absurd rfl hy | simpa [hk] using h.symm
          · subst hy
            simpa [hk] using h
theorem forS_some {nm : Txt} {w b : List Nd} {r : Cr} (h : forS f g nm w b s = some r) : ∃ s1 l y, g w s = some (s1, l, y) ∧ (y ≠ .ok → r = (s1, 0, y)) ∧ (y = .ok → fitsB l = true ∧ eachS f nm b l s1 0 = some r) := by
  unfold forS at h
  cases hk : g w s with
  | none => simp [hk] at h
  | some q =>
    obtain ⟨s1, l, y⟩ := q
    refine ⟨s1, l, y, rfl, fun hx => ?_, fun hx => ?_⟩
    · cases y <;> first | exact absurd rfl hx | simpa [hk] using h.symm
    · subst hx
      simp only [hk] at h
      split at h
      · rename_i hc
        exact ⟨hc, h⟩
      · cases h
theorem stepP_F (s : Sh) : (stepP s).1.F = s.F := by
  unfold stepP
  split <;> rfl
theorem tx_one (W : World) (t : Txt) : Tx (W.alloc (.cells #[str t] 9)) (.slice (some ⟨W.heap.size, 0, none⟩) 1 1) [t] := tx_own (own_one W 0 (Nat.zero_le _) t)
set_option maxRecDepth 100000 in
set_option maxHeartbeats 8000000 in
theorem eachR_any (hC : CmdC ea f) (hG : WordC ea g) (nm : Txt) (hnm : nm.length < 100000) (va vb : Value) (A B : List Nd) (r : Cr) (hE : Ers W ea) (h : Rn W K rb cb sb kb s) (hna : NdAt W va A) (hoa : Off W K va) (hnb : NdAt W vb B) (hob : Off W K vb) (hr : forS f g nm A B s = some r) :
    Calls Tryz.prog 72 #[rP rb, str nm, va, vb] W (Done ea W K rb cb sb kb r) := by
  obtain ⟨s1, l, y, hg, hno, hyes⟩ := forS_some hr
  have HE : Hid (∀ w1 K1, Stp W K w1 K1 → Ers w1 ea) := fun w1 K1 q => hE.stp h q
  have HW : Hid (Calls Tryz.prog 114 #[rP rb, va] W (DoneW ea W K rb cb sb kb (s1, l, y))) := hG _ _ _ _ _ _ _ va A _ hE h hna hoa hg
  have HB : Hid (∀ w1 K1 s1 q, Stp W K w1 K1 → Rn w1 K1 rb cb sb kb s1 → f B s1 = some q → Calls Tryz.prog 40 #[rP rb, vb] w1 (Done ea w1 K1 rb cb sb kb q)) := fun w1 K1 s1 q q1 q2 q3 => hC _ _ _ _ _ _ _ vb B _ (hE.stp h q1) q2 (hob.nd hnb q1) (hob.stp q1) q3
  have HNO : Hid _ := hno
  have HYES : Hid _ := hyes
  obtain ⟨aa, ca, rfl⟩ := hna.form
  obtain ⟨ab, cbb, rfl⟩ := hnb.form
  clear h hE hna hoa hnb hob hr hC hG hg hno hyes
  go_enter Tryz.func72, Tryz.ntmps72
  go_wp2_with fail
  refine Calls.mono HW.out ?_
  rintro e w1 ⟨u, rfl, hu, K1, cb1, hr1, hs1, hcb1, huo⟩
  rcases xr_cases ea y with ⟨hy1, hy2⟩ | ⟨hy1, a, hy2⟩
  case inr =>
    have HRB : Hid (Rb W K rb cb sb kb s1 y w1) := ⟨K1, cb1, hr1, hs1, hcb1⟩
    obtain rfl := HNO.out hy1
    obtain ⟨ua, uc, rfl⟩ := (tx_own hu).form
    clear hu hr1 hs1 hcb1 huo HW HNO HYES
    simp only [hy2]
    go_wp2_with fail
    go_ret2
    refine ⟨?_, HRB.out⟩
    show _ = Ending.returned (.tuple #[.int .i64 0, xrV ea y])
    rw [hy2]
    rfl
  obtain rfl := hcb1 hy1
  obtain ⟨hfl, hes⟩ := HYES.out hy1
  have HES : Hid (eachS f nm B l s1 0 = some r) := hes
  have HR1 : Hid (Rn w1 K1 rb cb1 sb kb s1) := hr1
  have HS1 : Hid (Stp W K w1 K1) := hs1
  have HTX : Hid (∀ wr Kk, Stp w1 K1 wr Kk → Tx wr u l) := fun wr Kk q => huo.tx (tx_own hu) q
  have hll : l.length ≤ 100 := ((fitsB_iff l).1 hfl).1
  obtain ⟨ua, uc, rfl⟩ := (tx_own hu).form
  clear hu hr1 hs1 hcb1 huo HW HNO HYES hfl hes
  simp only [hy2]
  go_wp2_with fail
  go_loopw [12, 27] (fun v12 v27 wr => ∃ (k : Nat) (sk : Sh) (last : Int) (Kk : Nat → Prop), v27 = .int .i64 k ∧ k ≤ l.length ∧ v12 = .int .i64 last ∧ Hid (eachS f nm B (l.drop k) sk last = some r) ∧ Hid (Rn wr Kk rb cb1 sb kb sk) ∧ Hid (Stp w1 K1 wr Kk)) (fun _ v27 _ => l.length - (intOf v27).toNat)
  case atStart => exact ⟨0, s1, 0, K1, rfl, by omega, rfl, by rw [List.drop_zero]; exact HES, HR1, Stp.refl w1 K1⟩
  case round =>
    obtain ⟨k, sk, last, Kk, rfl, hk, rfl, HC, HR, HS⟩ := hrel
    by_cases hkl : k < l.length
    · obtain ⟨x, hx⟩ : ∃ x, l[k]? = some x := ⟨_, List.getElem?_eq_getElem hkl⟩
      have hdr : l.drop k = x :: l.drop (k + 1) := by
        obtain ⟨h1, h2⟩ := List.getElem?_eq_some_iff.1 hx
        rw [List.drop_eq_getElem_cons h1, h2]
      have hc := HC.out
      rw [hdr] at hc
      obtain ⟨hok, hno, hyes⟩ := eachS_cons hc
      obtain ⟨g9, o9, cap9, hv9, _, _, hcl⟩ := (HTX.out _ _ HS.out).inRow (fun e => by rw [e] at hkl; simp at hkl)
      cases hv9
      have c9 := hcl k x hx
      have hst := step_any HR.out (HE.out _ _ (Stp.trans HS1.out HS.out)) (okk hok).st
      have HF : Hid ((stepP sk).1.F.length < 4294967296) := by
        unfold Hid
        rw [stepP_F]
        have := (okk hok).F
        omega
      generalize stepP sk = q0 at *
      obtain ⟨s0, x0⟩ := q0
      have HST : Hid _ := hst
      have HNO : Hid _ := hno
      have HYES : Hid _ := hyes
      clear hc hdr hx hcl hno hyes hok hst
      go_wp2_with fail
      refine Calls.mono HST.out ?_
      rintro e w2 ⟨rfl, hr2, hs2⟩
      rcases xr_cases ea x0 with ⟨hx1, hx2⟩ | ⟨hx1, a, hx2⟩
      case inr =>
        have HRB : Hid (Rb W K rb cb1 sb kb s0 x0 w2) := Rb.of hr2 ((Stp.trans HS1.out HS.out).trans hs2)
        obtain rfl := HNO.out hx1
        clear hr2 hs2 HST HNO HYES
        simp only [hx2]
        go_wp2_with fail
        go_ret2
        refine ⟨?_, HRB.out⟩
        show _ = Ending.returned (.tuple #[.int .i64 0, xrV ea x0])
        rw [hx2]
        rfl
      obtain ⟨s3, st, z, hfb, hno1, hyes1⟩ := HYES.out hx1
      have e0 : w2.cell? ⟨rb, 0, none⟩ = some (sP sb) := hr2.rc.cell 0
      have hb3 := below_new w2 (.cells #[str x] 9)
      have HP : Hid (Calls Tryz.prog 106 #[sP sb, str nm, .slice (some ⟨w2.heap.size, 0, none⟩) 1 1] (w2.alloc (.cells #[str x] 9)) fun e w' => e = .returned (.tuple #[]) ∧ ∃ K', Rn w' K' rb cb1 sb kb { s0 with F := putM s0.F nm [x] } ∧ Stp w1 K1 w' K') := by
        have hs3 := (Stp.trans HS.out hs2).trans (Stp.ofBelow (K := Kk) hb3)
        refine Calls.mono (putV_rn nm [x] _ (hr2.below hb3) HF.out (by have := maxLen_big; omega) (tx_one w2 x) (by unfold big; simp)) ?_
        rintro e w' ⟨q1, K', q2, q3⟩
        exact ⟨q1, K', q2, hs3.trans q3⟩
      have HFB : Hid _ := hfb
      have HNO1 : Hid _ := hno1
      have HYES1 : Hid _ := hyes1
      clear hr2 hs2 HST HNO HYES hfb hno1 hyes1 hb3 HF
      simp only [hx2]
      go_wp2_with fail
      refine Calls.mono HP.out ?_
      rintro e w3 ⟨rfl, K3, hr3, hs3⟩
      have HS3 : Hid (Stp w1 K1 w3 K3) := hs3
      have HCB : Hid _ := HB.out _ _ _ _ (Stp.trans HS1.out hs3) hr3 HFB.out
      clear hr3 hs3 HP
      go_wp2_with fail
      refine Calls.mono HCB.out ?_
      rintro e w4 ⟨rfl, hrb⟩
      rcases xr_cases ea z with ⟨hz1, hz2⟩ | ⟨hz1, a, hz2⟩
      case inr =>
        have HRB : Hid _ := Rb.pre (Stp.trans HS1.out HS3.out) hrb
        obtain rfl := HNO1.out hz1
        clear hrb HNO1 HYES1 HCB
        simp only [hz2]
        go_wp2_with fail
        go_ret2
        refine ⟨?_, HRB.out⟩
        show _ = Ending.returned (.tuple #[.int .i64 0, xrV ea z])
        rw [hz2]
        rfl
      obtain ⟨K4, cb4, hr4, hs4, hcb4⟩ := hrb
      obtain rfl := hcb4 hz1
      have HR4 : Hid (Rn w4 K4 rb cb4 sb kb s3) := hr4
      have HS4 : Hid (Stp w1 K1 w4 K4) := Stp.trans HS3.out hs4
      have HC4 : Hid _ := HYES1.out hz1
      clear hr4 hs4 hcb4 HCB HNO1 HYES1
      simp only [hz2]
      go_wp2_with fail
      exact ⟨⟨k + 1, s3, st, K4, by simp, by omega, rfl, HC4, HR4, HS4⟩, by simp [intOf]; omega⟩
    · have hkz : k = l.length := by omega
      subst hkz
      have hc := HC.out
      rw [List.drop_length] at hc
      obtain rfl : (sk, last, .ok) = r := by simpa [eachS] using hc
      clear hc HC
      go_wp2_with fail
      go_ret2
      exact ⟨rfl, Rb.of HR.out (Stp.trans HS1.out HS.out)⟩
end Go.Proofs.YtfafhjglcaikoaaGreatDoor
