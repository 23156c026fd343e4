/- Set, Seq, While, For. -/
import Derived.Test.YtfafhjglcaikoaaGreatDoorH26
/-! Calls: what is called. -/
namespace Go.Proofs.YtfafhjglcaikoaaGreatDoor
open Go.RowKit
attribute [local go_sem] Oper.semAt_some

variable {W W' : World} {K : Nat → Prop} {rb cb sb kb : Nat} {s : Sh} {ea : Nat → Addr} {f : List Nd → Sh → Option Cr} {g : List Nd → Sh → Option Wr}
theorem callB_fun {nm : Txt} {l : List Txt} {r : Cr} (h : callB f nm l s = some r) : okB s = true ∧ (hasM s.H nm = true → framedS f (getM s.H nm []) l s = some r) ∧
    (hasM s.H nm = false → ∃ q, doP nm s.hd l = some q ∧ (∀ o, q = some o → r = followP s o) ∧ (q = none → r = execP s nm l)) := by
  unfold callB at h
  cases hk : okB s with
  | false => simp [hk] at h
  | true =>
    rw [hk, if_pos rfl] at h
    refine ⟨rfl, fun hh => by rw [hh, if_pos rfl] at h; exact h, fun hh => ?_⟩
    rw [hh] at h
    simp only [Bool.false_eq_true, if_false] at h
    cases hd : doP nm s.hd l with
    | none => simp [hd] at h
    | some q =>
      refine ⟨q, rfl, fun o ho => ?_, fun ho => ?_⟩
      · subst ho
        simpa [hd] using h.symm
      · subst ho
        simpa [hd] using h.symm
set_option maxRecDepth 100000 in
set_option maxHeartbeats 8000000 in
theorem callR_any (hC : CmdC ea f) (hG : WordC ea g) (v kv : Value) (B : Nat) (ks : List (List Nd)) (r : Cr) (hE : Ers W ea) (h : Rn W K rb cb sb kb s) (hK : Kds W B v kv ks) (hov : Off W K v) (hok : Off W K kv) (hks : ks.length < 4294967296) (hr : callS f g ks s = some r) :
    Calls Tryz.prog 67 #[rP rb, kv] W (Done ea W K rb cb sb kb r) := by
  obtain ⟨s1, l, x, hct, hno, hnil, hcons⟩ := callS_some hr
  have hfl : fitsB l = true := catS_fits (r := (s1, l, x)) fits_nil hct
  have HCT : Hid (Calls Tryz.prog 108 #[rP rb, .int .i64 100, kv] W (DoneW ea W K rb cb sb kb (s1, l, x))) := catR_any hG 100 v kv B ks _ hE h hK hov hok hks hct
  have HE : Hid (∀ w1 K1, Stp W K w1 K1 → Ers w1 ea) := fun w1 K1 q => hE.stp h q
  have HNO : Hid _ := hno
  have HNIL : Hid _ := hnil
  have HCONS : Hid _ := hcons
  have HC : Hid _ := hC
  obtain ⟨ad, cap, rfl⟩ := hK.form
  clear h hE hK hov hok hr hct hno hnil hcons hC hG
  go_enter Tryz.func67, Tryz.ntmps67
  go_wp2_with fail
  refine Calls.mono HCT.out ?_
  rintro e w1 ⟨u, rfl, hu, K1, cb1, hr1, hs1, hcb1, huo⟩
  rcases xr_cases ea x with ⟨hx1, hx2⟩ | ⟨hx1, a, hx2⟩
  case inr =>
    have HB : Hid (Rb W K rb cb sb kb s1 x w1) := ⟨K1, cb1, hr1, hs1, hcb1⟩
    obtain rfl := HNO.out hx1
    obtain ⟨ua, uc, rfl⟩ := (tx_own hu).form
    clear hu hr1 hs1 hcb1 huo HCT HNO HNIL HCONS HC HE
    simp only [hx2]
    go_wp2_with fail
    go_ret2
    refine ⟨?_, HB.out⟩
    show _ = Ending.returned (.tuple #[.int .i64 0, xrV ea x])
    rw [hx2]
    rfl
  obtain rfl := hcb1 hx1
  simp only [hx2]
  cases l with
  | nil =>
    obtain rfl := HNIL.out hx1 rfl
    have HB : Hid (Rb W K rb cb1 sb kb s1 .ok w1) := Rb.of hr1 hs1
    obtain ⟨ua, uc, hue⟩ := (tx_own hu).form
    simp only [List.length_nil] at hue
    subst hue
    clear hu hr1 hs1 hcb1 huo HCT HNO HNIL HCONS HC HE
    go_wp2_with fail
    go_ret2
    exact ⟨rfl, HB.out⟩
  | cons nm l' =>
    have hcb' := HCONS.out hx1 nm l' rfl
    obtain ⟨hok1, hfun, hnof⟩ := callB_fun hcb'
    obtain ⟨hfl', hnm⟩ := fits_tail hfl
    obtain ⟨g9, o9, cap9, rfl, hcap, hgl, hcl⟩ := (tx_own hu).inRow (by simp)
    have c9 := hcl 0 nm rfl
    rw [Nat.add_zero] at c9
    have e0 : w1.cell? ⟨rb, 0, none⟩ = some (sP sb) := hr1.rc.cell 0
    have HFN : Hid (∀ n, Calls Tryz.prog 109 #[fP sb, str nm] (w1.drewN n) fun e w' => ∃ v', e = .returned (.tuple #[v', .bool (hasM s1.H nm)]) ∧ NdOwn w' w1.heap.size v' (getM s1.H nm []) ∧ Below w1.heap.size w1 w') := fun n => by
      refine Calls.mono (fun_rn nm (hr1.drewN n) (by have := maxLen_big; omega)) ?_
      rintro e w' ⟨v', q1, q2, q3⟩
      exact ⟨v', q1, q2, (below_drewN w1 n).trans q3⟩
    have HFR : Hid (∀ tv, Tx w1 tv l' → Off w1 K1 tv → hasM s1.H nm = true → ∀ w2 v', NdOwn w2 w1.heap.size v' (getM s1.H nm []) → Below w1.heap.size w1 w2 → Calls Tryz.prog 110 #[rP rb, v', tv] w2 (Done ea W K rb cb1 sb kb r)) := fun tv hti hto hh w2 v' q1 q2 => by
      have hs2 := hs1.trans (Stp.ofBelow (K := K1) q2)
      refine Calls.mono (framed_any HC.out v' _ l' (getM s1.H nm []) r (HE.out _ _ hs2) (hr1.below q2) (okk hok1) (hti.below q2 (Nat.le_refl _)) (hto.below q2) q1.at (off_own hr1.lt q1) hfl' (hfun hh)) ?_
      exact fun e w' q => q.pre hs2
    have HDO : Hid (∀ tv, Tx w1 tv l' → Off w1 K1 tv → hasM s1.H nm = false → ∃ q : Option Oc, (∀ w2, Below w1.heap.size w1 w2 → (w2.cell? ⟨rb, 7, none⟩ = some (str s1.hd) ∧ Calls Tryz.prog 111 #[str nm, str s1.hd, tv] w2 (fun e w' => e = .returned (.tuple #[ocV (q.getD noOc), .bool q.isSome]) ∧ Below w1.heap.size w1 w'))) ∧
        (q.isSome = true → ∀ w2, Below w1.heap.size w1 w2 → Calls Tryz.prog 112 #[rP rb, ocV (q.getD noOc)] w2 (Done ea W K rb cb1 sb kb r)) ∧
        (q.isSome = false → ∀ w2, Below w1.heap.size w1 w2 → Calls Tryz.prog 113 #[rP rb, str nm, tv] w2 (Done ea W K rb cb1 sb kb r))) := fun tv hti hto hh => by
      obtain ⟨q, hq, hq1, hq2⟩ := hnof hh
      have hhd := (okk hok1).hd
      refine ⟨q, fun w2 q2 => ⟨(hr1.below q2).rc.cell 7, ?_⟩, fun hq3 w2 q2 => ?_, fun hq3 w2 q2 => ?_⟩
      · refine Calls.mono (do_any nm s1.hd l' _ q (hti.below q2 (Nat.le_refl _)) hfl' hhd hq) ?_
        rintro e w' ⟨p1, p2⟩
        exact ⟨p1, q2.trans (p2.mono q2.size)⟩
      · obtain ⟨o, rfl⟩ := Option.isSome_iff_exists.1 hq3
        obtain ⟨p1, p2, p3⟩ := doP_small nm s1.hd l' o hfl' hhd hq
        have hs2 := hs1.trans (Stp.ofBelow (K := K1) q2)
        rw [hq1 o rfl]
        exact Calls.mono (follow_any o (HE.out _ _ hs2) (hr1.below q2) (okk hok1) p1 p2 p3) (fun e w' q => q.pre hs2)
      · have hs2 := hs1.trans (Stp.ofBelow (K := K1) q2)
        have hqn : q = none := by
          cases q with
          | none => rfl
          | some o => simp at hq3
        rw [hq2 hqn]
        exact Calls.mono (execS_any nm l' _ (HE.out _ _ hs2) (hr1.below q2) (okk hok1) (hti.below q2 (Nat.le_refl _)) (hto.below q2) (by have := ((fitsB_iff l').1 hfl').1; omega)) (fun e w' q => q.pre hs2)
    have hlen : (nm :: l').length = l'.length + 1 := rfl
    have hl100 : l'.length ≤ 100 := ((fitsB_iff l').1 hfl').1
    have hcap' : l'.length + 1 ≤ cap9 := hcap
    have HTT : Hid (∀ n c, l'.length ≤ c → Off w1 K1 (.slice (some ⟨g9, n, none⟩) l'.length c)) := fun n c _ => huo.pick (fun b hb => hb)
    have htl := (tx_own hu).tail
    rw [hlen]
    generalize hasM s1.H nm = hb at *
    have HES : Hid (∀ n, (w1.drewN n).cell? ⟨rb, 0, none⟩ = some (sP sb)) := fun n => e0
    by_cases hc1 : cap9 = 1
    · subst hc1
      obtain rfl : l' = [] := List.eq_nil_of_length_eq_zero (by omega)
      have HT1 : Hid (Tx w1 (.slice (some ⟨g9, o9, none⟩) 0 0) []) := .inr ⟨⟨g9, o9, none⟩, 0, rfl, Nat.le_refl _, fun hne => absurd rfl hne⟩
      have HT2 : Hid (Off w1 K1 (.slice (some ⟨g9, o9, none⟩) 0 0)) := HTT.out o9 0 (Nat.le_refl _)
      have HFR2 : Hid _ := HFR.out _ HT1.out HT2.out
      have HDO2 : Hid _ := HDO.out _ HT1.out HT2.out
      clear hu hr1 hs1 hcb1 huo HCT HNO HNIL HCONS HC HE hcb' hfun hnof hfl' hfl hcl hok1 hlen hcap htl HTT HFR HDO HT1 HT2
      go_wp2_with fail
      go_quiet (fail)
      have e1 := HES.out
      go_wp2_with fail
      refine Calls.mono (HFN.out _) ?_
      rintro e w2 ⟨v', rfl, hnd, hb2⟩
      cases hb with
      | true =>
        have HF2 : Hid _ := HFR2.out rfl w2 v' hnd hb2
        obtain ⟨va, vc, rfl⟩ := hnd.at.form
        clear hnd hb2 HFR2 HDO2 HFN
        go_wp2_with fail
        refine Calls.mono HF2.out ?_
        rintro e w3 ⟨rfl, hd⟩
        have HD : Hid _ := hd
        clear hd
        go_wp2_with fail
        go_ret2
        exact ⟨rfl, HD.out⟩
      | false =>
        obtain ⟨q, hq1, hq2, hq3⟩ := HDO2.out rfl
        obtain ⟨d7, hdo⟩ := hq1 w2 hb2
        obtain ⟨va, vc, rfl⟩ := hnd.at.form
        have HDO3 : Hid _ := hdo
        have HQ2 : Hid _ := hq2
        have HQ3 : Hid _ := hq3
        clear hnd hb2 HFR2 HDO2 HFN hdo hq1 hq2 hq3
        go_wp2_with fail
        refine Calls.mono HDO3.out ?_
        rintro e w3 ⟨rfl, hb3⟩
        generalize q.getD noOc = oc at *
        obtain ⟨ou, re, stt, nmo, vl, fi⟩ := oc
        have hb4 : Below w1.heap.size w1 (w3.alloc (.cells #[str ou, str re, .int .i64 stt, str nmo, str vl, .bool fi] 188)) := hb3.alloc hb3.size _
        generalize q.isSome = qs at *
        cases qs with
        | true =>
          have HF2 : Hid _ := HQ2.out rfl _ hb4
          clear hb3 hb4 HQ2 HQ3 HDO3
          go_wp2_with fail
          refine Calls.mono HF2.out ?_
          rintro e w5 ⟨rfl, hd⟩
          have HD : Hid _ := hd
          clear hd
          go_wp2_with fail
          go_ret2
          exact ⟨rfl, HD.out⟩
        | false =>
          have HF2 : Hid _ := HQ3.out rfl _ hb4
          clear hb3 hb4 HQ2 HQ3 HDO3
          go_wp2_with fail
          refine Calls.mono HF2.out ?_
          rintro e w5 ⟨rfl, hd⟩
          have HD : Hid _ := hd
          clear hd
          go_wp2_with fail
          go_ret2
          exact ⟨rfl, HD.out⟩
    · obtain ⟨c, rfl⟩ : ∃ c, cap9 = c + 2 := ⟨cap9 - 2, by omega⟩
      have HT1 : Hid (Tx w1 (.slice (some ⟨g9, o9 + 1, none⟩) l'.length (c + 1)) l') := htl
      have HT2 : Hid (Off w1 K1 (.slice (some ⟨g9, o9 + 1, none⟩) l'.length (c + 1))) := HTT.out (o9 + 1) (c + 1) (by omega)
      have HFR2 : Hid _ := HFR.out _ HT1.out HT2.out
      have HDO2 : Hid _ := HDO.out _ HT1.out HT2.out
      clear hu hr1 hs1 hcb1 huo HCT HNO HNIL HCONS HC HE hcb' hfun hnof hfl' hfl hcl hok1 hlen hcap htl HTT HFR HDO HT1 HT2 hc1
      go_wp2_with fail
      go_quiet (fail)
      have e1 := HES.out
      go_wp2_with fail
      refine Calls.mono (HFN.out _) ?_
      rintro e w2 ⟨v', rfl, hnd, hb2⟩
      cases hb with
      | true =>
        have HF2 : Hid _ := HFR2.out rfl w2 v' hnd hb2
        obtain ⟨va, vc, rfl⟩ := hnd.at.form
        clear hnd hb2 HFR2 HDO2 HFN
        go_wp2_with fail
        refine Calls.mono HF2.out ?_
        rintro e w3 ⟨rfl, hd⟩
        have HD : Hid _ := hd
        clear hd
        go_wp2_with fail
        go_ret2
        exact ⟨rfl, HD.out⟩
      | false =>
        obtain ⟨q, hq1, hq2, hq3⟩ := HDO2.out rfl
        obtain ⟨d7, hdo⟩ := hq1 w2 hb2
        obtain ⟨va, vc, rfl⟩ := hnd.at.form
        have HDO3 : Hid _ := hdo
        have HQ2 : Hid _ := hq2
        have HQ3 : Hid _ := hq3
        clear hnd hb2 HFR2 HDO2 HFN hdo hq1 hq2 hq3
        go_wp2_with fail
        refine Calls.mono HDO3.out ?_
        rintro e w3 ⟨rfl, hb3⟩
        generalize q.getD noOc = oc at *
        obtain ⟨ou, re, stt, nmo, vl, fi⟩ := oc
        have hb4 : Below w1.heap.size w1 (w3.alloc (.cells #[str ou, str re, .int .i64 stt, str nmo, str vl, .bool fi] 188)) := hb3.alloc hb3.size _
        generalize q.isSome = qs at *
        cases qs with
        | true =>
          have HF2 : Hid _ := HQ2.out rfl _ hb4
          clear hb3 hb4 HQ2 HQ3 HDO3
          go_wp2_with fail
          refine Calls.mono HF2.out ?_
          rintro e w5 ⟨rfl, hd⟩
          have HD : Hid _ := hd
          clear hd
          go_wp2_with fail
          go_ret2
          exact ⟨rfl, HD.out⟩
        | false =>
          have HF2 : Hid _ := HQ3.out rfl _ hb4
          clear hb3 hb4 HQ2 HQ3 HDO3
          go_wp2_with fail
          refine Calls.mono HF2.out ?_
          rintro e w5 ⟨rfl, hd⟩
          have HD : Hid _ := hd
          clear hd
          go_wp2_with fail
          go_ret2
          exact ⟨rfl, HD.out⟩
end Go.Proofs.YtfafhjglcaikoaaGreatDoor
namespace Go.Proofs.YtfafhjglcaikoaaGreatDoor
open Go.RowKit
attribute [local go_sem] Oper.semAt_some

variable {W W' : World} {K : Nat → Prop} {rb cb sb kb : Nat} {s : Sh} {ea : Nat → Addr} {f : List Nd → Sh → Option Cr} {g : List Nd → Sh → Option Wr}
theorem setS9_some {nm : Txt} {x : List Nd} {r : Cr} (h : setS9 g nm x s = some r) : ∃ s1 l y, g x s = some (s1, l, y) ∧ (y ≠ .ok → r = (s1, 0, y)) ∧ (y = .ok → fitsB l = true ∧ okB s1 = true ∧ r = ({ s1 with F := putM s1.F nm l }, 0, .ok)) := by
  unfold setS9 at h
  cases hk : g x s with
  | none => simp [hk] at h
  | some q =>
    obtain ⟨s1, l, y⟩ := q
    refine ⟨s1, l, y, rfl, fun hx => ?_, fun hx => ?_⟩
    · cases y <;> first | exact absurd rfl hx | simpa [hk] using h.symm
    · subst hx
      simp only [hk] at h
      split at h
      · rename_i hc
        rw [Bool.and_eq_true] at hc
        exact ⟨hc.1, hc.2, by simpa using h.symm⟩
      · cases h
set_option maxRecDepth 100000 in
set_option maxHeartbeats 8000000 in
theorem setR_any (hG : WordC ea g) (nm : Txt) (hnm : nm.length < 100000) (v : Value) (X : List Nd) (r : Cr) (hE : Ers W ea) (h : Rn W K rb cb sb kb s) (hn : NdAt W v X) (hov : Off W K v) (hr : setS9 g nm X s = some r) :
    Calls Tryz.prog 68 #[rP rb, str nm, v] W (Done ea W K rb cb sb kb r) := by
  obtain ⟨s1, l, y, hg, hno, hyes⟩ := setS9_some hr
  have HW : Hid (Calls Tryz.prog 114 #[rP rb, v] W (DoneW ea W K rb cb sb kb (s1, l, y))) := hG _ _ _ _ _ _ _ v X _ hE h hn hov hg
  have HNO : Hid _ := hno
  have HYES : Hid _ := hyes
  obtain ⟨ad, cap, rfl⟩ := hn.form
  clear h hE hn hov hr hG hg hno hyes
  go_enter Tryz.func68, Tryz.ntmps68
  go_wp2_with fail
  refine Calls.mono HW.out ?_
  rintro e w1 ⟨u, rfl, hu, K1, cb1, hr1, hs1, hcb1, huo⟩
  rcases xr_cases ea y with ⟨hy1, hy2⟩ | ⟨hy1, a, hy2⟩
  case inr =>
    have HB : Hid (Rb W K rb cb sb kb s1 y w1) := ⟨K1, cb1, hr1, hs1, hcb1⟩
    obtain rfl := HNO.out hy1
    obtain ⟨ua, uc, rfl⟩ := (tx_own hu).form
    clear hu hr1 hs1 hcb1 huo HW HNO HYES
    simp only [hy2]
    go_wp2_with fail
    go_ret2
    refine ⟨?_, HB.out⟩
    show _ = Ending.returned (.tuple #[.int .i64 0, xrV ea y])
    rw [hy2]
    rfl
  obtain rfl := hcb1 hy1
  obtain ⟨hfl, hok1, rfl⟩ := HYES.out hy1
  have HP : Hid _ := putV_rn nm l u hr1 (by have := (okk hok1).F; show s1.F.length < _; omega) (by have := maxLen_big; omega) (tx_own hu) (fits_big hfl)
  have e0 : w1.cell? ⟨rb, 0, none⟩ = some (sP sb) := hr1.rc.cell 0
  have HS1 : Hid (Stp W K w1 K1) := hs1
  obtain ⟨ua, uc, rfl⟩ := (tx_own hu).form
  clear hu hr1 hs1 hcb1 huo HW HNO HYES hfl hok1
  simp only [hy2]
  go_wp2_with fail
  refine Calls.mono HP.out ?_
  rintro e w2 ⟨rfl, K2, hr2, hs2⟩
  have HR2 : Hid _ := hr2
  have HS2 : Hid _ := Stp.trans HS1.out hs2
  clear hr2 hs2
  go_wp2_with fail
  go_ret2
  exact ⟨rfl, Rb.of HR2.out HS2.out⟩
theorem seqS_cons {x : List Nd} {rest : List (List Nd)} {last : Int} {r : Cr} (h : seqS f (x :: rest) s last = some r) : ∃ s1 st y, f x s = some (s1, st, y) ∧ (y ≠ .ok → r = (s1, 0, y)) ∧ (y = .ok → seqS f rest s1 st = some r) := by
  unfold seqS at h
  cases hk : f x s with
  | none => simp [hk] at h
  | some q =>
    obtain ⟨s1, st, y⟩ := q
    refine ⟨s1, st, y, rfl, fun hx => ?_, fun hx => ?_⟩
    · cases y <;> first | exact absurd rfl hx | simpa [hk] using h.symm
    · subst hx
      simpa [hk] using h
set_option maxRecDepth 100000 in
set_option maxHeartbeats 8000000 in
theorem seqR_any (hC : CmdC ea f) (v kv : Value) (B : Nat) (ks : List (List Nd)) (r : Cr) (hE : Ers W ea) (h : Rn W K rb cb sb kb s) (hK : Kds W B v kv ks) (hov : Off W K v) (hok : Off W K kv) (hks : ks.length < 4294967296) (hr : seqS f ks s 0 = some r) :
    Calls Tryz.prog 69 #[rP rb, kv] W (Done ea W K rb cb sb kb r) := by
  have HE : Hid (∀ w1 K1, Stp W K w1 K1 → Ers w1 ea) := fun w1 K1 q => hE.stp h q
  have HK : Hid (∀ w1 K1, Stp W K w1 K1 → Kds w1 B v kv ks ∧ Off w1 K1 v) := fun w1 K1 q => ⟨hK.turn q.1 (fun b hb => (hov b hb).2) (fun b hb => (hok b hb).2), hov.stp q⟩
  have HR0 : Hid (Rn W K rb cb sb kb s) := h
  have HCS : Hid (seqS f ks s 0 = some r) := hr
  have HG : Hid (CmdC ea f) := hC
  obtain ⟨ad, cap, rfl⟩ := hK.form
  clear h hE hK hov hok hr hC
  go_enter Tryz.func69, Tryz.ntmps69
  go_wp2_with fail
  go_loopw [6, 13] (fun v6 v13 wr => ∃ (k : Nat) (sk : Sh) (last : Int) (Kk : Nat → Prop), v13 = .int .i64 k ∧ k ≤ ks.length ∧ v6 = .int .i64 last ∧ Hid (seqS f (ks.drop k) sk last = some r) ∧ Hid (Rn wr Kk rb cb sb kb sk) ∧ Hid (Stp W K wr Kk)) (fun _ v13 _ => ks.length - (intOf v13).toNat)
  case atStart => exact ⟨0, s, 0, K, rfl, by omega, rfl, by rw [List.drop_zero]; exact HCS, HR0, Stp.refl W K⟩
  case round =>
    obtain ⟨k, sk, last, Kk, rfl, hk, rfl, HC, HR, HS⟩ := hrel
    by_cases hkl : k < ks.length
    · obtain ⟨x, hx⟩ : ∃ x, ks[k]? = some x := ⟨_, List.getElem?_eq_getElem hkl⟩
      have hdr : ks.drop k = x :: ks.drop (k + 1) := by
        obtain ⟨h1, h2⟩ := List.getElem?_eq_some_iff.1 hx
        rw [List.drop_eq_getElem_cons h1, h2]
      have hc := HC.out
      rw [hdr] at hc
      obtain ⟨s1, st, y, hg, hno, hyes⟩ := seqS_cons hc
      obtain ⟨hkd, hvo⟩ := HK.out _ _ HS.out
      obtain ⟨gb, cp, pv, hv, hgl, hcell, hnd, hpo⟩ := hkd.at hx
      cases hv
      have HW : Hid (Calls Tryz.prog 40 #[rP rb, pv] wr (Done ea wr Kk rb cb sb kb (s1, st, y))) := HG.out wr Kk rb cb sb kb sk pv x (s1, st, y) (HE.out _ _ HS.out) HR.out hnd (hvo.pick hpo) hg
      obtain ⟨pa, pc, rfl⟩ := hnd.form
      have HNO : Hid _ := hno
      have HYES : Hid _ := hyes
      clear hnd hkd hvo hpo hg hc hdr hx hno hyes
      go_wp2_with fail
      refine Calls.mono HW.out ?_
      rintro e w1 ⟨rfl, hrb⟩
      rcases xr_cases ea y with ⟨hy1, hy2⟩ | ⟨hy1, a, hy2⟩
      case inr =>
        have HB : Hid _ := Rb.pre HS.out hrb
        obtain rfl := HNO.out hy1
        clear hrb HW HNO HYES HC HR HS
        simp only [hy2]
        go_wp2_with fail
        go_ret2
        refine ⟨?_, HB.out⟩
        show _ = Ending.returned (.tuple #[.int .i64 0, xrV ea y])
        rw [hy2]
        rfl
      obtain ⟨K1, cb1, hr1, hs1, hcb1⟩ := hrb
      obtain rfl := hcb1 hy1
      have HC2 : Hid _ := HYES.out hy1
      have HR2 : Hid (Rn w1 K1 rb cb1 sb kb s1) := hr1
      have HS2 : Hid (Stp W K w1 K1) := Stp.trans HS.out hs1
      clear hr1 hs1 hcb1 HW HNO HYES HC HR HS
      simp only [hy2]
      go_wp2_with fail
      exact ⟨⟨k + 1, s1, st, K1, by simp, by omega, rfl, HC2, HR2, HS2⟩, by simp [intOf]; omega⟩
    · have hkz : k = ks.length := by omega
      subst hkz
      have hc := HC.out
      rw [List.drop_length] at hc
      obtain rfl : (sk, last, .ok) = r := by simpa [seqS] using hc
      clear hc HC HCS
      go_wp2_with fail
      go_ret2
      exact ⟨rfl, Rb.of HR.out HS.out⟩
end Go.Proofs.YtfafhjglcaikoaaGreatDoor
