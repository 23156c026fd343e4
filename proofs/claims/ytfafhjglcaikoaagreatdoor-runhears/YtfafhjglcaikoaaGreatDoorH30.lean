/- Redirections, texts that are heard. -/
import Derived.Test.YtfafhjglcaikoaaGreatDoorH29
/-! Pipes, redirections, texts that are heard. -/
namespace Go.Proofs.YtfafhjglcaikoaaGreatDoor
open Go.RowKit
attribute [local go_sem] Oper.semAt_some

variable {W W' : World} {K : Nat → Prop} {rb cb sb kb : Nat} {s : Sh} {ea : Nat → Addr} {f : List Nd → Sh → Option Cr} {g : List Nd → Sh → Option Wr}
theorem pipeS_some {ks : List (List Nd)} {r : Cr} (h : pipeS f ks s = some r) : okB s = true ∧ ∃ s1 st y, thruAll f ks (markP 4 (ks.length : Nat) s) = some (s1, st, y) ∧ (y ≠ .ok → r = (s1, 0, y)) ∧ (y = .ok → okB s1 = true ∧ r = (markP 6 (ks.length : Nat) s1, st, .ok)) := by
  unfold pipeS at h
  cases hok : okB s with
  | false => simp [hok] at h
  | true =>
    rw [hok, if_pos rfl] at h
    refine ⟨rfl, ?_⟩
    cases hk : thruAll f ks (markP 4 (ks.length : Nat) s) with
    | none => simp [hk] at h
    | some q =>
      obtain ⟨s1, st, y⟩ := q
      refine ⟨s1, st, y, rfl, fun hy => ?_, fun hy => ?_⟩
      · cases y <;> first | exact absurd rfl hy | simpa [hk] using h.symm
      · subst hy
        simp only [hk] at h
        split at h
        · rename_i hc
          exact ⟨hc, by simpa using h.symm⟩
        · cases h
set_option maxRecDepth 100000 in
set_option maxHeartbeats 8000000 in
theorem pipeR_any (hC : CmdC ea f) (v kv : Value) (B : Nat) (ks : List (List Nd)) (r : Cr) (hE : Ers W ea) (h : Rn W K rb cb sb kb s) (hK : Kds W B v kv ks) (hov : Off W K v) (hokv : Off W K kv) (hks : ks.length < 4294967296) (hr : pipeS f ks s = some r) :
    Calls Tryz.prog 75 #[rP rb, kv] W (Done ea W K rb cb sb kb r) := by
  obtain ⟨hok, s1, st, y, hth, hno, hyes⟩ := pipeS_some hr
  have HM : Hid _ := mark_rn 4 (ks.length : Nat) h (by have := (okk hok).E; omega)
  have c1 : W.cell? ⟨rb, 1, none⟩ = some (kP kb) := h.rc.cell 1
  have HT : Hid (∀ w1 K1, Stp W K w1 K1 → Rn w1 K1 rb cb sb kb (markP 4 (ks.length : Nat) s) → Calls Tryz.prog 118 #[rP rb, kv] w1 (Done ea w1 K1 rb cb sb kb (s1, st, y))) := fun w1 K1 q1 q2 => through_any hC v kv B ks _ (hE.stp h q1) q2 (hK.turn q1.1 (fun b hb => (hov b hb).2) (fun b hb => (hokv b hb).2)) (hov.stp q1) (hokv.stp q1) hks hth
  have HNO : Hid _ := hno
  have HYES : Hid _ := hyes
  obtain ⟨ad, cap, rfl⟩ := hK.form
  clear h hE hK hov hokv hr hC hno hyes hok hth
  go_enter Tryz.func75, Tryz.ntmps75
  go_wp2_with fail
  refine Calls.mono HM.out ?_
  rintro e w1 ⟨rfl, K1, hr1, hs1⟩
  have HT1 : Hid _ := HT.out _ _ hs1 hr1
  have HS1 : Hid (Stp W K w1 K1) := hs1
  clear hr1 hs1 HM HT
  go_wp2_with fail
  refine Calls.mono HT1.out ?_
  rintro e w2 ⟨rfl, hrb⟩
  rcases xr_cases ea y with ⟨hy1, hy2⟩ | ⟨hy1, a, hy2⟩
  case inr =>
    have HB : Hid _ := Rb.pre HS1.out hrb
    obtain rfl := HNO.out hy1
    clear hrb HNO HYES HT1
    simp only [hy2]
    go_wp2_with fail
    go_ret2
    refine ⟨?_, HB.out⟩
    show _ = Ending.returned (.tuple #[.int .i64 0, xrV ea y])
    rw [hy2]
    rfl
  obtain ⟨K2, cb2, hr2, hs2, hcb2⟩ := hrb
  obtain rfl := hcb2 hy1
  obtain ⟨hok1, rfl⟩ := HYES.out hy1
  have d1 : w2.cell? ⟨rb, 1, none⟩ = some (kP kb) := hr2.rc.cell 1
  have HM2 : Hid _ := mark_rn 6 (ks.length : Nat) hr2 (by have := (okk hok1).E; show s1.E.length < _; omega)
  have HS2 : Hid (Stp W K w2 K2) := Stp.trans HS1.out hs2
  clear hr2 hs2 hcb2 HNO HYES HT1 hok1
  simp only [hy2]
  go_wp2_with fail
  refine Calls.mono HM2.out ?_
  rintro e w3 ⟨rfl, K3, hr3, hs3⟩
  have HR3 : Hid _ := hr3
  have HS3 : Hid _ := Stp.trans HS2.out hs3
  clear hr3 hs3
  go_wp2_with fail
  go_ret2
  exact ⟨rfl, Rb.of HR3.out HS3.out⟩
theorem open_rn (fl : Txt) (m : Int) (h : Rn W K rb cb sb kb s) (hEl : s.E.length < 4294967296) (hDl : s.D.length < 4294967296) (hfl : fl.length < 4294967296) :
    Calls Tryz.prog 171 #[kP kb, str fl, .int .i64 m] W fun e w' => e = .returned (.tuple #[str (openD s.D fl m), .bool (openB s.D fl m)]) ∧ ∃ K', Rn w' K' rb cb sb kb { s with D := openF s.D fl m, E := s.E ++ openE s.D fl m } ∧ Stp W K w' K' := by
  refine h.onKern (P := fun e => e = .returned (.tuple #[str (openD s.D fl m), .bool (openB s.D fl m)])) (D' := openF s.D fl m) (E' := openE s.D fl m) fun KK mb ev rv Y X k1 k2 k3 => ?_
  have hlE : X.length = s.E.length := by rw [← k3, List.length_map]
  exact open_any fl m k1 (by omega) hDl hfl
theorem sayingN_some {fl : Txt} {X : List Nd} {r : Cr} (h : (sayingS f none fl X s).map Prod.fst = some r) : ∃ s1 st y, f X { s with ct := none, fl := fl } = some (s1, st, y) ∧ (y = .ok → r = ({ s1 with ct := s.ct, fl := s.fl }, st, .ok)) ∧ (y ≠ .ok → r = (s1, 0, y)) := by
  unfold sayingS at h
  cases hk : f X { s with ct := none, fl := fl } with
  | none => simp [hk] at h
  | some q =>
    obtain ⟨s1, st, y⟩ := q
    refine ⟨s1, st, y, rfl, fun hy => ?_, fun hy => ?_⟩
    · subst hy
      simpa [hk] using h.symm
    · cases y <;> first | exact absurd rfl hy | simpa [hk] using h.symm
theorem sayingN_any (hC : CmdC ea f) (fl : Txt) (v : Value) (X : List Nd) (r : Cr) (hE : Ers W ea) (h : Rn W K rb cb sb kb s) (hn : NdAt W v X) (ho : Off W K v) (hr : (sayingS f none fl X s).map Prod.fst = some r) :
    Calls Tryz.prog 172 #[rP rb, .agg #[.pointer none, str fl], v] W (Done ea W K rb cb sb kb r) := by
  obtain ⟨s1, st, y, hf, hok, hno⟩ := sayingN_some hr
  refine Calls.mono (saying_any hC none fl 0 v X s1 st y hE h hn ho (fun t ht => by cases ht) (fun q => absurd rfl q) hf) ?_
  have key : ∀ w' K', Stp W (fun i => K i ∨ ((none : Option Txt) ≠ none ∧ i = 0)) w' K' → Stp W K w' K' := fun w' K' q => ⟨q.1.mono (fun i hi => hi.elim id (fun q => absurd rfl q.1)), fun i hi => (q.2 i hi).imp (fun q => q.elim id (fun q => absurd rfl q.1)) id⟩
  rintro e w' (⟨h1, h2, _, K', h4, h5⟩ | ⟨h1, h2, K', cb', h4, h5⟩)
  · rw [hok h1]
    exact ⟨h2, Rb.of h4 (key _ _ h5)⟩
  · rw [hno h1]
    exact ⟨h2, K', cb', h4, key _ _ h5, fun q => absurd q h1⟩
set_option maxRecDepth 100000 in
set_option maxHeartbeats 8000000 in
theorem opened_any (hC : CmdC ea f) (fl : Txt) (m : Int) (v : Value) (X : List Nd) (r : Cr) (hE : Ers W ea) (h : Rn W K rb cb sb kb s) (hEl : s.E.length < 4294967296) (hDl : s.D.length < 4294967296) (hfl : fl.length < 4294967296) (hn : NdAt W v X) (ho : Off W K v) (hr : openedS f fl m X s = some r) :
    Calls Tryz.prog 119 #[rP rb, str fl, .int .i64 m, v] W (Done ea W K rb cb sb kb r) := by
  have HO : Hid _ := open_rn fl m h hEl hDl hfl
  have c1 : W.cell? ⟨rb, 1, none⟩ = some (kP kb) := h.rc.cell 1
  unfold openedS at hr
  have HH : Hid (∀ w1 K1 s1 hd q, Stp W K w1 K1 → Rn w1 K1 rb cb sb kb s1 → hearS f hd X s1 = some q → Calls Tryz.prog 120 #[rP rb, str hd, v] w1 (Done ea w1 K1 rb cb sb kb q)) := fun w1 K1 s1 hd q q1 q2 q3 => hearing_any hC hd v X q (hE.stp h q1) q2 (ho.nd hn q1) (ho.stp q1) q3
  have HS : Hid (∀ w1 K1 s1 q, Stp W K w1 K1 → Rn w1 K1 rb cb sb kb s1 → (sayingS f none fl X s1).map Prod.fst = some q → Calls Tryz.prog 172 #[rP rb, .agg #[.pointer none, str fl], v] w1 (Done ea w1 K1 rb cb sb kb q)) := fun w1 K1 s1 q q1 q2 q3 => sayingN_any hC fl v X q (hE.stp h q1) q2 (ho.nd hn q1) (ho.stp q1) q3
  obtain ⟨ad, cap, rfl⟩ := hn.form
  obtain ⟨s1, hs1⟩ : ∃ s1, { s with D := openF s.D fl m, E := s.E ++ openE s.D fl m } = s1 := ⟨_, rfl⟩
  rw [hs1] at HO hr
  generalize openD s.D fl m = dd at *
  clear h hE hn ho hC hs1
  cases hb : openB s.D fl m with
  | false =>
    rw [hb] at HO hr
    simp only [Bool.false_eq_true, if_false] at hr
    obtain rfl : (s1, 1, .ok) = r := by simpa using hr
    clear hr hb
    go_enter Tryz.func119, Tryz.ntmps119
    go_wp2_with fail
    refine Calls.mono HO.out ?_
    rintro e w1 ⟨rfl, K1, hr1, hs1⟩
    have HR1 : Hid _ := hr1
    have HS1 : Hid _ := hs1
    clear hr1 hs1 HO HH HS
    go_wp2_with fail
    go_ret2
    exact ⟨rfl, Rb.of HR1.out HS1.out⟩
  | true =>
    rw [hb, if_pos rfl] at hr
    rw [hb] at HO
    clear hb
    by_cases hm : m = 1
    · rw [if_pos hm] at hr
      subst hm
      have HRR : Hid _ := hr
      clear hr
      go_enter Tryz.func119, Tryz.ntmps119
      go_wp2_with fail
      refine Calls.mono HO.out ?_
      rintro e w1 ⟨rfl, K1, hr1, hs1⟩
      have HCL : Hid _ := HH.out _ _ _ _ _ hs1 hr1 HRR.out
      have HS1 : Hid (Stp W K w1 K1) := hs1
      clear hr1 hs1 HO HH HS
      go_wp2_with fail
      refine Calls.mono HCL.out ?_
      rintro e w2 ⟨rfl, hrb⟩
      have HB : Hid _ := Rb.pre HS1.out hrb
      clear hrb
      go_wp2_with fail
      go_ret2
      exact ⟨rfl, HB.out⟩
    · rw [if_neg hm] at hr
      have HRR : Hid _ := hr
      have hm' : (m == 1) = false := by simpa using hm
      clear hr
      go_enter Tryz.func119, Tryz.ntmps119
      go_wp2_with fail
      refine Calls.mono HO.out ?_
      rintro e w1 ⟨rfl, K1, hr1, hs1⟩
      have HCL : Hid _ := HS.out _ _ _ _ hs1 hr1 HRR.out
      have HS1 : Hid (Stp W K w1 K1) := hs1
      clear hr1 hs1 HO HH HS
      go_wp2_with fail
      refine Calls.mono HCL.out ?_
      rintro e w2 ⟨rfl, hrb⟩
      have HB : Hid _ := Rb.pre HS1.out hrb
      clear hrb
      go_wp2_with fail
      go_ret2
      exact ⟨rfl, HB.out⟩
end Go.Proofs.YtfafhjglcaikoaaGreatDoor
namespace Go.Proofs.YtfafhjglcaikoaaGreatDoor
open Go.RowKit
attribute [local go_sem] Oper.semAt_some

variable {W W' : World} {K : Nat → Prop} {rb cb sb kb : Nat} {s : Sh} {ea : Nat → Addr} {f : List Nd → Sh → Option Cr} {g : List Nd → Sh → Option Wr}
theorem flatS_len {x : List Nd} {s1 : Sh} {t : Txt} (h : flatS g x s = some (s1, t, .ok)) : t.length ≤ 2000 := by
  obtain ⟨s2, l, y, _, hno, hyes⟩ := flatS_some h
  by_cases hy : y = .ok
  · obtain ⟨_, ⟨_, h2⟩ | ⟨h1, h2⟩⟩ := hyes hy
    · cases h2
    · have := (flatB_fits l _ h1).2
      cases h2
      exact ((fitsB_iff _).1 this).2 _ (by simp)
  · have := hno hy
    cases this
    exact absurd rfl hy
theorem markP_okE (k n : Int) (h : Okk s) : (markP k n s).E.length < 4294967296 ∧ (markP k n s).D.length < 4294967296 := by
  have h1 := h.E
  have h2 := h.D
  refine ⟨?_, by show s.D.length < _; omega⟩
  show (s.E ++ marked k n).length < _
  rw [List.length_append]
  unfold marked
  split <;> simp <;> omega
theorem redirS_some {m : Int} {w c : List Nd} {r : Cr} (h : redirS f g m w c s = some r) : ∃ s1 t y, flatS g w s = some (s1, t, y) ∧ (y ≠ .ok → r = (s1, 0, y)) ∧ (y = .ok → (t = [] → r = (s1, 1, .ok)) ∧ (t ≠ [] → okB s1 = true ∧
    ∃ s2 st z, openedS f t m c (markP 5 m s1) = some (s2, st, z) ∧ (z ≠ .ok → r = (s2, 0, z)) ∧ (z = .ok → okB s2 = true ∧ r = (markP 6 m s2, st, .ok)))) := by
  unfold redirS at h
  cases hk : flatS g w s with
  | none => simp [hk] at h
  | some q =>
    obtain ⟨s1, t, y⟩ := q
    refine ⟨s1, t, y, rfl, fun hy => ?_, fun hy => ?_⟩
    · cases y <;> first | exact absurd rfl hy | simpa [hk] using h.symm
    · subst hy
      simp only [hk] at h
      refine ⟨fun ht => by rw [if_pos ht] at h; simpa using h.symm, fun ht => ?_⟩
      rw [if_neg ht] at h
      cases hok : okB s1 with
      | false => simp [hok] at h
      | true =>
        rw [hok, if_pos rfl] at h
        refine ⟨rfl, ?_⟩
        cases ho : openedS f t m c (markP 5 m s1) with
        | none => simp [ho] at h
        | some q =>
          obtain ⟨s2, st, z⟩ := q
          refine ⟨s2, st, z, rfl, fun hz => ?_, fun hz => ?_⟩
          · cases z <;> first | exact absurd rfl hz | simpa [ho] using h.symm
          · subst hz
            simp only [ho] at h
            split at h
            · rename_i hc
              exact ⟨hc, by simpa using h.symm⟩
            · cases h
set_option maxRecDepth 100000 in
set_option maxHeartbeats 8000000 in
theorem redirR_any (hC : CmdC ea f) (hG : WordC ea g) (m : Int) (va vb : Value) (A B : List Nd) (r : Cr) (hE : Ers W ea) (h : Rn W K rb cb sb kb s) (hna : NdAt W va A) (hoa : Off W K va) (hnb : NdAt W vb B) (hob : Off W K vb) (hr : redirS f g m A B s = some r) :
    Calls Tryz.prog 76 #[rP rb, .int .i64 m, va, vb] W (Done ea W K rb cb sb kb r) := by
  obtain ⟨s1, t, y, hfl, hno, hyes⟩ := redirS_some hr
  have HF : Hid (Calls Tryz.prog 115 #[rP rb, va] W (DoneT ea W K rb cb sb kb (s1, t, y))) := flatR_any hG va A _ hE h hna hoa hfl
  have HTL : Hid (y = .ok → t.length ≤ 2000) := fun hy => by subst hy; exact flatS_len hfl
  have HOP : Hid (∀ w1 K1 s1 t q, Stp W K w1 K1 → Rn w1 K1 rb cb sb kb s1 → s1.E.length < 4294967296 → s1.D.length < 4294967296 → t.length < 4294967296 → openedS f t m B s1 = some q → Calls Tryz.prog 119 #[rP rb, str t, .int .i64 m, vb] w1 (Done ea w1 K1 rb cb sb kb q)) := fun w1 K1 s1 t q q1 q2 q3 q4 q5 q6 => opened_any hC t m vb B q (hE.stp h q1) q2 q3 q4 q5 (hob.nd hnb q1) (hob.stp q1) q6
  have HNO : Hid _ := hno
  have HYES : Hid _ := hyes
  obtain ⟨aa, ca, rfl⟩ := hna.form
  obtain ⟨ab, cbb, rfl⟩ := hnb.form
  clear h hE hna hoa hnb hob hr hC hG hno hyes hfl
  go_enter Tryz.func76, Tryz.ntmps76
  go_wp2_with fail
  refine Calls.mono HF.out ?_
  rintro e w1 ⟨rfl, hrb⟩
  rcases xr_cases ea y with ⟨hy1, hy2⟩ | ⟨hy1, a, hy2⟩
  case inr =>
    have HB : Hid _ := hrb
    obtain rfl := HNO.out hy1
    clear hrb HNO HYES HF
    simp only [hy2]
    go_wp2_with fail
    go_ret2
    refine ⟨?_, HB.out⟩
    show _ = Ending.returned (.tuple #[.int .i64 0, xrV ea y])
    rw [hy2]
    rfl
  obtain ⟨K1, cb1, hr1, hs1, hcb1⟩ := hrb
  obtain rfl := hcb1 hy1
  simp only [hy2]
  have htl := HTL.out hy1
  cases t with
  | nil =>
    obtain rfl := (HYES.out hy1).1 rfl
    have HR1 : Hid _ := hr1
    have HS1 : Hid _ := hs1
    clear hr1 hs1 hcb1 HNO HYES HF HOP
    go_wp2_with fail
    go_ret2
    exact ⟨rfl, Rb.of HR1.out HS1.out⟩
  | cons tc tt =>
    obtain ⟨hok1, s2, st, z, hop, hno2, hyes2⟩ := (HYES.out hy1).2 (by simp)
    have hmk := markP_okE 5 m (okk hok1)
    have d1 : w1.cell? ⟨rb, 1, none⟩ = some (kP kb) := hr1.rc.cell 1
    have HM : Hid _ := mark_rn 5 m hr1 (by have := (okk hok1).E; show s1.E.length < _; omega)
    have HS1 : Hid (Stp W K w1 K1) := hs1
    have HO2 : Hid (∀ w2 K2, Stp W K w2 K2 → Rn w2 K2 rb cb1 sb kb (markP 5 m s1) → Calls Tryz.prog 119 #[rP rb, str (tc :: tt), .int .i64 m, .slice ab B.length cbb] w2 (Done ea w2 K2 rb cb1 sb kb (s2, st, z))) := fun w2 K2 q1 q2 => HOP.out _ _ _ _ _ q1 q2 hmk.1 hmk.2 (by omega) hop
    have HNO2 : Hid _ := hno2
    have HYES2 : Hid _ := hyes2
    clear hr1 hs1 hcb1 HNO HYES HF HOP hop hno2 hyes2 hok1 hmk
    go_wp2_with fail
    refine Calls.mono HM.out ?_
    rintro e w2 ⟨rfl, K2, hr2, hs2⟩
    have HO3 : Hid _ := HO2.out _ _ (Stp.trans HS1.out hs2) hr2
    have HS2 : Hid (Stp W K w2 K2) := Stp.trans HS1.out hs2
    clear hr2 hs2 HM HO2
    go_wp2_with fail
    refine Calls.mono HO3.out ?_
    rintro e w3 ⟨rfl, hrb⟩
    rcases xr_cases ea z with ⟨hz1, hz2⟩ | ⟨hz1, a, hz2⟩
    case inr =>
      have HB : Hid _ := Rb.pre HS2.out hrb
      obtain rfl := HNO2.out hz1
      clear hrb HNO2 HYES2 HO3
      simp only [hz2]
      go_wp2_with fail
      go_ret2
      refine ⟨?_, HB.out⟩
      show _ = Ending.returned (.tuple #[.int .i64 0, xrV ea z])
      rw [hz2]
      rfl
    obtain ⟨K3, cb3, hr3, hs3, hcb3⟩ := hrb
    obtain rfl := hcb3 hz1
    obtain ⟨hok2, rfl⟩ := HYES2.out hz1
    have e1 : w3.cell? ⟨rb, 1, none⟩ = some (kP kb) := hr3.rc.cell 1
    have HM2 : Hid _ := mark_rn 6 m hr3 (by have := (okk hok2).E; show s2.E.length < _; omega)
    have HS3 : Hid (Stp W K w3 K3) := Stp.trans HS2.out hs3
    clear hr3 hs3 hcb3 HNO2 HYES2 HO3 hok2
    simp only [hz2]
    go_wp2_with fail
    refine Calls.mono HM2.out ?_
    rintro e w4 ⟨rfl, K4, hr4, hs4⟩
    have HR4 : Hid _ := hr4
    have HS4 : Hid _ := Stp.trans HS3.out hs4
    clear hr4 hs4
    go_wp2_with fail
    go_ret2
    exact ⟨rfl, Rb.of HR4.out HS4.out⟩
theorem hereS_some {w c : List Nd} {r : Cr} (h : hereS f g w c s = some r) : ∃ s1 t y, flatS g w s = some (s1, t, y) ∧ (y ≠ .ok → r = (s1, 0, y)) ∧ (y = .ok → okB s1 = true ∧
    ∃ s2 st z, hearS f t c (markP 5 1 s1) = some (s2, st, z) ∧ (z ≠ .ok → r = (s2, 0, z)) ∧ (z = .ok → okB s2 = true ∧ r = (markP 6 1 s2, st, .ok))) := by
  unfold hereS at h
  cases hk : flatS g w s with
  | none => simp [hk] at h
  | some q =>
    obtain ⟨s1, t, y⟩ := q
    refine ⟨s1, t, y, rfl, fun hy => ?_, fun hy => ?_⟩
    · cases y <;> first | exact absurd rfl hy | simpa [hk] using h.symm
    · subst hy
      simp only [hk] at h
      cases hok : okB s1 with
      | false => simp [hok] at h
      | true =>
        rw [hok, if_pos rfl] at h
        refine ⟨rfl, ?_⟩
        cases ho : hearS f t c (markP 5 1 s1) with
        | none => simp [ho] at h
        | some q =>
          obtain ⟨s2, st, z⟩ := q
          refine ⟨s2, st, z, rfl, fun hz => ?_, fun hz => ?_⟩
          · cases z <;> first | exact absurd rfl hz | simpa [ho] using h.symm
          · subst hz
            simp only [ho] at h
            split at h
            · rename_i hc
              exact ⟨hc, by simpa using h.symm⟩
            · cases h
set_option maxRecDepth 100000 in
set_option maxHeartbeats 8000000 in
theorem hereR_any (hC : CmdC ea f) (hG : WordC ea g) (va vb : Value) (A B : List Nd) (r : Cr) (hE : Ers W ea) (h : Rn W K rb cb sb kb s) (hna : NdAt W va A) (hoa : Off W K va) (hnb : NdAt W vb B) (hob : Off W K vb) (hr : hereS f g A B s = some r) :
    Calls Tryz.prog 77 #[rP rb, va, vb] W (Done ea W K rb cb sb kb r) := by
  obtain ⟨s1, t, y, hfl, hno, hyes⟩ := hereS_some hr
  have HF : Hid (Calls Tryz.prog 115 #[rP rb, va] W (DoneT ea W K rb cb sb kb (s1, t, y))) := flatR_any hG va A _ hE h hna hoa hfl
  have HOP : Hid (∀ w1 K1 s1 t q, Stp W K w1 K1 → Rn w1 K1 rb cb sb kb s1 → hearS f t B s1 = some q → Calls Tryz.prog 120 #[rP rb, str t, vb] w1 (Done ea w1 K1 rb cb sb kb q)) := fun w1 K1 s1 t q q1 q2 q6 => hearing_any hC t vb B q (hE.stp h q1) q2 (hob.nd hnb q1) (hob.stp q1) q6
  have HNO : Hid _ := hno
  have HYES : Hid _ := hyes
  obtain ⟨aa, ca, rfl⟩ := hna.form
  obtain ⟨ab, cbb, rfl⟩ := hnb.form
  clear h hE hna hoa hnb hob hr hC hG hno hyes hfl
  go_enter Tryz.func77, Tryz.ntmps77
  go_wp2_with fail
  refine Calls.mono HF.out ?_
  rintro e w1 ⟨rfl, hrb⟩
  rcases xr_cases ea y with ⟨hy1, hy2⟩ | ⟨hy1, a, hy2⟩
  case inr =>
    have HB : Hid _ := hrb
    obtain rfl := HNO.out hy1
    clear hrb HNO HYES HF
    simp only [hy2]
    go_wp2_with fail
    go_ret2
    refine ⟨?_, HB.out⟩
    show _ = Ending.returned (.tuple #[.int .i64 0, xrV ea y])
    rw [hy2]
    rfl
  obtain ⟨K1, cb1, hr1, hs1, hcb1⟩ := hrb
  obtain rfl := hcb1 hy1
  simp only [hy2]
  obtain ⟨hok1, s2, st, z, hop, hno2, hyes2⟩ := HYES.out hy1
  have d1 : w1.cell? ⟨rb, 1, none⟩ = some (kP kb) := hr1.rc.cell 1
  have HM : Hid _ := mark_rn 5 1 hr1 (by have := (okk hok1).E; show s1.E.length < _; omega)
  have HS1 : Hid (Stp W K w1 K1) := hs1
  have HO2 : Hid (∀ w2 K2, Stp W K w2 K2 → Rn w2 K2 rb cb1 sb kb (markP 5 1 s1) → Calls Tryz.prog 120 #[rP rb, str t, .slice ab B.length cbb] w2 (Done ea w2 K2 rb cb1 sb kb (s2, st, z))) := fun w2 K2 q1 q2 => HOP.out _ _ _ _ _ q1 q2 hop
  have HNO2 : Hid _ := hno2
  have HYES2 : Hid _ := hyes2
  clear hr1 hs1 hcb1 HNO HYES HF HOP hop hno2 hyes2 hok1
  go_wp2_with fail
  refine Calls.mono HM.out ?_
  rintro e w2 ⟨rfl, K2, hr2, hs2⟩
  have HO3 : Hid _ := HO2.out _ _ (Stp.trans HS1.out hs2) hr2
  have HS2 : Hid (Stp W K w2 K2) := Stp.trans HS1.out hs2
  clear hr2 hs2 HM HO2
  go_wp2_with fail
  refine Calls.mono HO3.out ?_
  rintro e w3 ⟨rfl, hrb⟩
  rcases xr_cases ea z with ⟨hz1, hz2⟩ | ⟨hz1, a, hz2⟩
  case inr =>
    have HB : Hid _ := Rb.pre HS2.out hrb
    obtain rfl := HNO2.out hz1
    clear hrb HNO2 HYES2 HO3
    simp only [hz2]
    go_wp2_with fail
    go_ret2
    refine ⟨?_, HB.out⟩
    show _ = Ending.returned (.tuple #[.int .i64 0, xrV ea z])
    rw [hz2]
    rfl
  obtain ⟨K3, cb3, hr3, hs3, hcb3⟩ := hrb
  obtain rfl := hcb3 hz1
  obtain ⟨hok2, rfl⟩ := HYES2.out hz1
  have e1 : w3.cell? ⟨rb, 1, none⟩ = some (kP kb) := hr3.rc.cell 1
  have HM2 : Hid _ := mark_rn 6 1 hr3 (by have := (okk hok2).E; show s2.E.length < _; omega)
  have HS3 : Hid (Stp W K w3 K3) := Stp.trans HS2.out hs3
  clear hr3 hs3 hcb3 HNO2 HYES2 HO3 hok2
  simp only [hz2]
  go_wp2_with fail
  refine Calls.mono HM2.out ?_
  rintro e w4 ⟨rfl, K4, hr4, hs4⟩
  have HR4 : Hid _ := hr4
  have HS4 : Hid _ := Stp.trans HS3.out hs4
  clear hr4 hs4
  go_wp2_with fail
  go_ret2
  exact ⟨rfl, Rb.of HR4.out HS4.out⟩
end Go.Proofs.YtfafhjglcaikoaaGreatDoor
