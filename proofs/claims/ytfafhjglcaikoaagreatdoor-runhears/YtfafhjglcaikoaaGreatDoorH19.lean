/- One deeper: a function's frame, a substitution. -/
import Derived.Test.YtfafhjglcaikoaaGreatDoorH17
import Derived.Test.YtfafhjglcaikoaaGreatDoorH18
namespace Go.Proofs.YtfafhjglcaikoaaGreatDoor
open Go.RowKit
attribute [local go_sem] Oper.semAt_some

variable {W W' : World} {K : Nat → Prop} {rb cb sb kb : Nat} {s : Sh} {ea : Nat → Addr} {f : List Nd → Sh → Option Cr} {g : List Nd → Sh → Option Wr}
theorem deepS_some {k : Sh → Option Cr} {r : Cr} (h : deepS s k = some r) : (s.dp = s.md ∧ r = (s, 0, .deep)) ∨ (s.dp ≠ s.md ∧ ∃ s1 st x, k { s with dp := s.dp + 1 } = some (s1, st, x) ∧
    (x = .ok → 1 ≤ s1.dp ∧ s1.dp ≤ 1000000 ∧ r = ({ s1 with dp := s1.dp - 1 }, st, .ok)) ∧ (x ≠ .ok → r = (s1, 0, x))) := by
  unfold deepS at h
  by_cases hd : s.dp = s.md
  · rw [if_pos hd] at h
    cases h
    exact .inl ⟨hd, rfl⟩
  · rw [if_neg hd] at h
    refine .inr ⟨hd, ?_⟩
    cases hk : k { s with dp := s.dp + 1 } with
    | none => simp [hk] at h
    | some q =>
      obtain ⟨s1, st, x⟩ := q
      refine ⟨s1, st, x, rfl, fun hx => ?_, fun hx => ?_⟩
      · subst hx
        simp only [hk] at h
        split at h
        · rename_i hc
          cases h
          exact ⟨hc.1, hc.2, rfl⟩
        · cases h
      · cases x <;> first | exact absurd rfl hx | simpa [hk] using h.symm
/-- If it comes back well, this holds. -/
def OkP (r : Cr) (P : World → Prop) (w : World) : Prop := r.2.2 = .ok → P w
theorem stp_mono {Kp K' : Nat → Prop} (h : Stp W K W' K') (hk : ∀ i, K i → Kp i) : Stp W Kp W' K' := ⟨h.1.mono hk, fun i hi => (h.2 i hi).imp (hk i) id⟩
set_option maxRecDepth 100000 in
set_option maxHeartbeats 4000000 in
theorem deeper150_any (Kp : Nat → Prop) (hKp : ∀ i, K i → Kp i) (p1 p2 p3 : Value) (P : World → Prop) (hP : ∀ w u, P w → P (w.setCell ⟨rb, 5, none⟩ u)) (s1 : Sh) (st : Int) (x : Xr) (r : Cr) (hE : Ers W ea) (h : Rn W K rb cb sb kb s) (hdp : s.dp ≤ 1000000)
    (hr : (s.dp = s.md ∧ r = (s, 0, .deep)) ∨ (s.dp ≠ s.md ∧ (x = .ok → 1 ≤ s1.dp ∧ s1.dp ≤ 1000000 ∧ r = ({ s1 with dp := s1.dp - 1 }, st, .ok)) ∧ (x ≠ .ok → r = (s1, 0, x)) ∧
      ∀ n, Calls Tryz.prog 150 #[p1, p2, p3] ((W.drewN n).setCell ⟨rb, 5, none⟩ (.int .i64 ((s.dp : Int) + 1))) fun e w' => e = .returned (.tuple #[.int .i64 st, xrV ea x]) ∧ Rb W Kp rb cb sb kb s1 x w' ∧ (x = .ok → P w'))) :
    Calls Tryz.prog 121 #[rP rb, .func (.func 150) #[] #[p1, p2, p3]] W fun e w' => Done ea W Kp rb cb sb kb r e w' ∧ OkP r P w' := by
  have c5 : W.cell? ⟨rb, 5, none⟩ = some (.int .i64 (s.dp : Nat)) := h.rc.cell 5
  have c6 : W.cell? ⟨rb, 6, none⟩ = some (.int .i64 (s.md : Nat)) := h.rc.cell 6
  have f5 := h.rc.frozen 5
  have c0 := (hE 0 (by omega)).1
  rcases hr with ⟨hq, rfl⟩ | ⟨hq, hok, hno, hcl⟩
  · have hq' : ((s.dp : Int) == (s.md : Int)) = true := by simp [hq]
    have HR : Hid (∀ n m, Rn ((W.drewN n).drewN m) K rb cb sb kb s ∧ Stp W Kp ((W.drewN n).drewN m) K) := fun n m => ⟨(h.drewN n).drewN m, stp_mono ((stp_drewN K W n).trans (stp_drewN K _ m)) hKp⟩
    clear h hE hq hKp
    go_enter Tryz.func121, Tryz.ntmps121
    go_wp2_with fail
    go_quiet (fail)
    go_wp2_with fail
    go_quiet (fail)
    go_wp2_with fail
    go_ret2
    exact ⟨⟨rfl, Rb.of (HR.out _ _).1 (HR.out _ _).2⟩, fun q => by cases q⟩
  · have hq' : ((s.dp : Int) == (s.md : Int)) = false := by simp; omega
    have HC : Hid _ := hcl
    have HOK : Hid _ := hok
    have HNO : Hid _ := hno
    have HP : Hid _ := hP
    clear h hE hq hcl hok hno hP hKp
    go_enter Tryz.func121, Tryz.ntmps121
    go_wp2_with fail
    go_quiet (fail)
    go_wp2_with fail
    refine Calls.mono (HC.out _) ?_
    rintro e w1 ⟨rfl, HB, hp1⟩
    rcases xr_cases ea x with ⟨hx1, hx2⟩ | ⟨hx1, a, hx2⟩
    · obtain ⟨K1, cb1, hr1, hs1, hcb⟩ := HB
      obtain rfl := hcb hx1
      obtain ⟨hd1, hd2, rfl⟩ := HOK.out hx1
      have d5 : w1.cell? ⟨rb, 5, none⟩ = some (.int .i64 (s1.dp : Nat)) := hr1.rc.cell 5
      have e5 := hr1.rc.frozen 5
      have h3 := hr1.set 5 (.int .i64 ((s1.dp : Int) - 1)) { s1 with dp := s1.dp - 1 } (by
        have : ((s1.dp - 1 : Nat) : Int) = (s1.dp : Int) - 1 := by omega
        simp [rnC, this]) rfl rfl rfl rfl rfl rfl
      have HR : Hid _ := h3.1
      have HS : Hid _ := hs1.trans h3.2
      have HPP : Hid _ := hp1 hx1
      clear hr1 hs1 hcb h3 hp1
      rw [hx2]
      go_wp2_with fail
      go_ret2
      exact ⟨⟨rfl, Rb.of HR.out HS.out⟩, fun _ => HP.out _ _ HPP.out⟩
    · have HB' : Hid _ := HB
      obtain rfl := HNO.out hx1
      clear HB hp1
      rw [hx2]
      go_wp2_with fail
      go_ret2
      refine ⟨⟨?_, HB'.out⟩, fun q => absurd q hx1⟩
      show _ = Ending.returned (.tuple #[.int .i64 0, xrV ea x])
      rw [hx2]
      rfl
set_option maxRecDepth 100000 in
set_option maxHeartbeats 4000000 in
theorem deeper210_any (Kp : Nat → Prop) (hKp : ∀ i, K i → Kp i) (p1 p2 p3 : Value) (P : World → Prop) (hP : ∀ w u, P w → P (w.setCell ⟨rb, 5, none⟩ u)) (s1 : Sh) (st : Int) (x : Xr) (r : Cr) (hE : Ers W ea) (h : Rn W K rb cb sb kb s) (hdp : s.dp ≤ 1000000)
    (hr : (s.dp = s.md ∧ r = (s, 0, .deep)) ∨ (s.dp ≠ s.md ∧ (x = .ok → 1 ≤ s1.dp ∧ s1.dp ≤ 1000000 ∧ r = ({ s1 with dp := s1.dp - 1 }, st, .ok)) ∧ (x ≠ .ok → r = (s1, 0, x)) ∧
      ∀ n, Calls Tryz.prog 210 #[p1, p2, p3] ((W.drewN n).setCell ⟨rb, 5, none⟩ (.int .i64 ((s.dp : Int) + 1))) fun e w' => e = .returned (.tuple #[.int .i64 st, xrV ea x]) ∧ Rb W Kp rb cb sb kb s1 x w' ∧ (x = .ok → P w'))) :
    Calls Tryz.prog 121 #[rP rb, .func (.func 210) #[] #[p1, p2, p3]] W fun e w' => Done ea W Kp rb cb sb kb r e w' ∧ OkP r P w' := by
  have c5 : W.cell? ⟨rb, 5, none⟩ = some (.int .i64 (s.dp : Nat)) := h.rc.cell 5
  have c6 : W.cell? ⟨rb, 6, none⟩ = some (.int .i64 (s.md : Nat)) := h.rc.cell 6
  have f5 := h.rc.frozen 5
  have c0 := (hE 0 (by omega)).1
  rcases hr with ⟨hq, rfl⟩ | ⟨hq, hok, hno, hcl⟩
  · have hq' : ((s.dp : Int) == (s.md : Int)) = true := by simp [hq]
    have HR : Hid (∀ n m, Rn ((W.drewN n).drewN m) K rb cb sb kb s ∧ Stp W Kp ((W.drewN n).drewN m) K) := fun n m => ⟨(h.drewN n).drewN m, stp_mono ((stp_drewN K W n).trans (stp_drewN K _ m)) hKp⟩
    clear h hE hq hKp
    go_enter Tryz.func121, Tryz.ntmps121
    go_wp2_with fail
    go_quiet (fail)
    go_wp2_with fail
    go_quiet (fail)
    go_wp2_with fail
    go_ret2
    exact ⟨⟨rfl, Rb.of (HR.out _ _).1 (HR.out _ _).2⟩, fun q => by cases q⟩
  · have hq' : ((s.dp : Int) == (s.md : Int)) = false := by simp; omega
    have HC : Hid _ := hcl
    have HOK : Hid _ := hok
    have HNO : Hid _ := hno
    have HP : Hid _ := hP
    clear h hE hq hcl hok hno hP hKp
    go_enter Tryz.func121, Tryz.ntmps121
    go_wp2_with fail
    go_quiet (fail)
    go_wp2_with fail
    refine Calls.mono (HC.out _) ?_
    rintro e w1 ⟨rfl, HB, hp1⟩
    rcases xr_cases ea x with ⟨hx1, hx2⟩ | ⟨hx1, a, hx2⟩
    · obtain ⟨K1, cb1, hr1, hs1, hcb⟩ := HB
      obtain rfl := hcb hx1
      obtain ⟨hd1, hd2, rfl⟩ := HOK.out hx1
      have d5 : w1.cell? ⟨rb, 5, none⟩ = some (.int .i64 (s1.dp : Nat)) := hr1.rc.cell 5
      have e5 := hr1.rc.frozen 5
      have h3 := hr1.set 5 (.int .i64 ((s1.dp : Int) - 1)) { s1 with dp := s1.dp - 1 } (by
        have : ((s1.dp - 1 : Nat) : Int) = (s1.dp : Int) - 1 := by omega
        simp [rnC, this]) rfl rfl rfl rfl rfl rfl
      have HR : Hid _ := h3.1
      have HS : Hid _ := hs1.trans h3.2
      have HPP : Hid _ := hp1 hx1
      clear hr1 hs1 hcb h3 hp1
      rw [hx2]
      go_wp2_with fail
      go_ret2
      exact ⟨⟨rfl, Rb.of HR.out HS.out⟩, fun _ => HP.out _ _ HPP.out⟩
    · have HB' : Hid _ := HB
      obtain rfl := HNO.out hx1
      clear HB hp1
      rw [hx2]
      go_wp2_with fail
      go_ret2
      refine ⟨⟨?_, HB'.out⟩, fun q => absurd q hx1⟩
      show _ = Ending.returned (.tuple #[.int .i64 0, xrV ea x])
      rw [hx2]
      rfl
theorem tx_own {B : Nat} {v : Value} {l : List Txt} (h : W.ownsRow B 9 1 v l.length (txV l)) : Tx W v l := Tx.owned h
set_option maxHeartbeats 1000000 in
theorem swap_rn (k : Txt) (l : List Txt) (v : Value) (h : Rn W K rb cb sb kb s) (hF : s.F.length < 4294967296) (hk : k.length ≤ maxLen) (ht : Tx W v l) (ho : Off W K v) (hl : l.length * 16 ≤ big) :
    Calls Tryz.prog 107 #[sP sb, str k, .bool true, v] W fun e w' => ∃ v', e = .returned (.tuple #[v', .bool (hasM s.F k)]) ∧ w'.ownsRow W.heap.size 9 1 v' (getM s.F k []).length (txV (getM s.F k [])) ∧ ∃ K', Rn w' K' rb cb sb kb { s with F := putM s.F k l } ∧ Stp W K w' K' ∧ Off w' K' v' := by
  have HG : Hid _ := get_rn k h hk
  have HP : Hid (∀ w1, Below W.heap.size W w1 → Calls Tryz.prog 106 #[sP sb, str k, v] w1 fun e w' => e = .returned (.tuple #[]) ∧ ∃ K', Rn w' K' rb cb sb kb { s with F := putM s.F k l } ∧ Stp w1 K w' K') := fun w1 hb => putV_rn k l v (h.below hb) hF hk (ht.below hb (Nat.le_refl _)) hl
  have HLT : Hid (∀ i, K i → i < W.heap.size) := h.lt
  obtain ⟨ad, cap, rfl⟩ := ht.form
  clear h ht ho hl
  go_enter Tryz.func107, Tryz.ntmps107
  go_wp2_with fail
  refine Calls.mono HG.out ?_
  rintro e w1 ⟨v', rfl, ho, hb⟩
  have hoff : Off w1 K v' := fun b hq => ⟨(ho.lt b hq).2, fun hk => by have := (ho.lt b hq).1; have := HLT.out b hk; omega⟩
  have HO : Hid _ := ho
  have HB : Hid _ := hb
  have HOF : Hid (Off w1 K v') := hoff
  clear ho hb hoff
  go_wp2_with fail
  refine Calls.mono (HP.out _ HB.out) ?_
  rintro e w2 ⟨rfl, K', h2, hs2⟩
  go_wp2_with fail
  go_ret2
  exact ⟨v', rfl, owns_turn HO.out hs2.1 (fun b hb => (HOF.out b hb).2), K', h2, (Stp.ofBelow HB.out).trans hs2, Off.stp HOF.out hs2⟩
set_option maxHeartbeats 1000000 in
theorem args_rn (l : List Txt) (v : Value) (h : Rn W K rb cb sb kb s) (hF : s.F.length < 4294967296) (ht : Tx W v l) (ho : Off W K v) (hl : l.length * 16 ≤ big) :
    Calls Tryz.prog 63 #[sP sb, v] W fun e w' => ∃ v', e = .returned v' ∧ w'.ownsRow W.heap.size 9 1 v' (getM s.F star []).length (txV (getM s.F star [])) ∧ ∃ K', Rn w' K' rb cb sb kb { s with F := putM s.F star l } ∧ Stp W K w' K' ∧ Off w' K' v' := by
  have HC : Hid _ := swap_rn star l v h hF (by decide) ht ho hl
  obtain ⟨ad, cap, rfl⟩ := ht.form
  clear h ht hl ho
  go_enter Tryz.func63, Tryz.ntmps63
  go_wp2_with fail
  refine Calls.mono HC.out ?_
  rintro e w1 ⟨v', rfl, h1⟩
  go_wp2_with fail
  go_ret
  exact ⟨v', rfl, h1⟩
/-- A command with these arguments. -/
def innerS (f : List Nd → Sh → Option Cr) (l : List Nd) (a : List Txt) (s0 : Sh) : Option Cr :=
  match f l { s0 with F := putM s0.F star a } with
  | none => none
  | some (s1, st, .ok) => if fitsB (getM s0.F star []) && okB s1 then some ({ s1 with F := putM s1.F star (getM s0.F star []) }, st, .ok) else none
  | some (s1, _, e) => some (s1, 0, e)
theorem framedS_eq (l : List Nd) (a : List Txt) (s : Sh) : framedS f l a s = deepS s (innerS f l a) := rfl
theorem innerS_some {l : List Nd} {a : List Txt} {r : Cr} (h : innerS f l a s = some r) : ∃ s1 st x, f l { s with F := putM s.F star a } = some (s1, st, x) ∧
    (x = .ok → fitsB (getM s.F star []) = true ∧ okB s1 = true ∧ r = ({ s1 with F := putM s1.F star (getM s.F star []) }, st, .ok)) ∧ (x ≠ .ok → r = (s1, 0, x)) := by
  unfold innerS at h
  cases hk : f l { s with F := putM s.F star a } with
  | none => simp [hk] at h
  | some q =>
    obtain ⟨s1, st, x⟩ := q
    refine ⟨s1, st, x, rfl, fun hx => ?_, fun hx => ?_⟩
    · subst hx
      simp only [hk] at h
      split at h
      · rename_i hc
        cases h
        rw [Bool.and_eq_true] at hc
        exact ⟨hc.1, hc.2, rfl⟩
      · cases h
    · cases x <;> first | exact absurd rfl hx | simpa [hk] using h.symm
theorem fits_big {l : List Txt} (h : fitsB l = true) : l.length * 16 ≤ big := by
  have := ((fitsB_iff l).1 h).1
  unfold big
  omega
set_option maxRecDepth 100000 in
set_option maxHeartbeats 4000000 in
theorem frame1_any (hC : CmdC ea f) (b0 b1 b2 : Nat) (va vc : Value) (a : List Txt) (X : List Nd) (r : Cr) (hE : Ers W ea) (h : Rn W K rb cb sb kb s) (h0 : Cel W b0 94 #[rP rb]) (h1 : Cel W b1 23 #[va]) (h2 : Cel W b2 22 #[vc]) (n0 : ¬ K b0) (n1 : ¬ K b1) (n2 : ¬ K b2)
    (ht : Tx W va a) (ho : Off W K va) (hn : NdAt W vc X) (hov : Off W K vc) (hF : s.F.length < 4294967296) (ha : fitsB a = true) (hr : innerS f X a s = some r) :
    Calls Tryz.prog 150 #[.pointer (some ⟨b0, 0, none⟩), .pointer (some ⟨b1, 0, none⟩), .pointer (some ⟨b2, 0, none⟩)] W (Done ea W K rb cb sb kb r) := by
  obtain ⟨s1, st, x, hf, hok, hno⟩ := innerS_some hr
  have hbd := (Below.refl W.heap.size W).drew
  have HA : Hid (Calls Tryz.prog 63 #[sP sb, va] W.drew fun e w' => ∃ v', e = .returned v' ∧ (w'.cell? ⟨b0, 0, none⟩ = some (rP rb) ∧ w'.cell? ⟨rb, 0, none⟩ = some (sP sb) ∧ w'.cell? ⟨b1, 0, none⟩ = some va) ∧ w'.ownsRow W.heap.size 9 1 v' (getM s.F star []).length (txV (getM s.F star [])) ∧ Cel w' b0 94 #[rP rb] ∧ w'.cell? ⟨b2, 0, none⟩ = some vc ∧ ∃ K', Rn w' K' rb cb sb kb { s with F := putM s.F star a } ∧ Stp W K w' K' ∧ Off w' K' v') := by
    refine Calls.mono (args_rn a va (h.below hbd) hF (ht.below hbd (Nat.le_refl _)) (ho.below hbd) (fits_big ha)) ?_
    rintro e w' ⟨v', q1, q2, K', q3, q4, q5⟩
    have q6 := (Stp.ofBelow hbd).trans q4
    exact ⟨v', q1, ⟨(h0.turn q6.1 n0).cell 0, q3.rc.cell 0, (h1.turn q6.1 n1).cell 0⟩, q2, h0.turn q6.1 n0, (h2.turn q6.1 n2).cell 0, K', q3, q6, q5⟩
  have HC : Hid (∀ w1 K1, Rn w1 K1 rb cb sb kb { s with F := putM s.F star a } → Stp W K w1 K1 → Calls Tryz.prog 40 #[rP rb, vc] w1 fun e w' => e = .returned (.tuple #[.int .i64 st, xrV ea x]) ∧ Rb w1 K1 rb cb sb kb s1 x w') := fun w1 K1 q1 q2 => hC _ _ _ _ _ _ _ vc X _ (hE.stp h q2) q1 (hov.nd hn q2) (hov.stp q2) hf
  have HN0 : Hid (∀ w1 K1, Stp W K w1 K1 → ¬ K1 b0) := fun w1 K1 q => not_stp h0.lt n0 q
  have HOK : Hid _ := hok
  have HNO : Hid _ := hno
  have c0 := h0.cell 0
  have c1 := h1.cell 0
  have c2 : W.cell? ⟨rb, 0, none⟩ = some (sP sb) := h.rc.cell 0
  obtain ⟨ad1, cap1, rfl⟩ := ht.form
  obtain ⟨ad2, cap2, rfl⟩ := hn.form
  clear h hE h0 h1 h2 n0 n1 n2 ht ho hn hov hf hok hno hr hbd ha hC
  go_enter Tryz.func150, Tryz.ntmps150
  go_wp2_with fail
  go_region_held3 (fun w' => w'.cell? ⟨b0, 0, none⟩ = some (rP rb) ∧ w'.cell? ⟨rb, 0, none⟩ = some (sP sb) ∧ w'.cell? ⟨b1, 0, none⟩ = some (.slice ad1 a.length cap1)) (go_keep) (first | (go_at_call 63; refine Calls.mono HA.out ?_; rintro e w1 ⟨v', rfl, ⟨k0, k1, k2⟩, hv', hb0, kc, K1, HR1, HS1, HV1⟩; obtain ⟨adv, capv, rfl⟩ := (tx_own hv').form))
  have HO1 : Hid _ := hv'
  have HB0 : Hid _ := hb0
  have HR1' : Hid _ := HR1
  have HS1' : Hid _ := HS1
  have HV1' : Hid _ := HV1
  clear hv' hb0 HR1 HS1 HV1
  go_wp2_with fail
  refine Calls.mono (HC.out _ _ HR1'.out HS1'.out) ?_
  rintro e w2 ⟨rfl, HB⟩
  rcases xr_cases ea x with ⟨hx1, hx2⟩ | ⟨hx1, a, hx2⟩
  · obtain ⟨K2, cb2, hr2, hs2, hcb⟩ := HB
    obtain rfl := hcb hx1
    obtain ⟨hfi, hok1, rfl⟩ := HOK.out hx1
    have d0 := (Cel.turn HB0.out hs2.1 (HN0.out _ _ HS1'.out)).cell 0
    have d2 : w2.cell? ⟨rb, 0, none⟩ = some (sP sb) := hr2.rc.cell 0
    have HA2 : Hid _ := args_rn (getM s.F star []) _ hr2 (by have := (okk hok1).F; omega) (Off.tx HV1'.out (tx_own HO1.out) hs2) (Off.stp HV1'.out hs2) (fits_big hfi)
    have HS2 : Hid _ := Stp.trans HS1'.out hs2
    clear hr2 hs2 hcb hfi hok1
    rw [hx2]
    go_wp2_with fail
    refine Calls.mono HA2.out ?_
    rintro e w3 ⟨v3, rfl, _, K3, hr3, hs3, _⟩
    have HR3 : Hid _ := hr3
    have HS3 : Hid _ := Stp.trans HS2.out hs3
    clear hr3 hs3
    go_wp2_with fail
    go_ret2
    exact ⟨rfl, Rb.of HR3.out HS3.out⟩
  · have HB' : Hid _ := HB
    obtain rfl := HNO.out hx1
    clear HB
    rw [hx2]
    go_wp2_with fail
    go_ret2
    refine ⟨?_, Rb.pre HS1'.out HB'.out⟩
    show _ = Ending.returned (.tuple #[.int .i64 0, xrV ea x])
    rw [hx2]
    rfl
end Go.Proofs.YtfafhjglcaikoaaGreatDoor
