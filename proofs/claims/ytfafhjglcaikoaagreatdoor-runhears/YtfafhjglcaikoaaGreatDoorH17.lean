/- Commands that hear or say elsewhere. -/
import Derived.Test.YtfafhjglcaikoaaGreatDoorH16
/-! What a builtin's outcome says is done. -/
namespace Go.Proofs.YtfafhjglcaikoaaGreatDoor
open Go.RowKit
attribute [local go_sem] Oper.semAt_some

variable {W W' : World} {K : Nat → Prop} {rb cb sb kb : Nat} {s : Sh} {ea : Nat → Addr}
abbrev ocA (o : Oc) : Array Value := #[str o.out, str o.rest, .int .i64 o.status, str o.name, str o.value, .bool o.fin]
/-- What is done behind what was said. -/
def follow2 (s1 : Sh) (o : Oc) : Cr :=
  if o.name ≠ [] then
    if 2000 < o.value.length then ({ s1 with hd := o.rest }, 0, .big)
    else if o.fin then ({ s1 with hd := o.rest, F := putM s1.F o.name [o.value], en := o.status }, 0, .fin) else ({ s1 with hd := o.rest, F := putM s1.F o.name [o.value] }, o.status, .ok)
  else if o.fin then ({ s1 with hd := o.rest, en := o.status }, 0, .fin) else ({ s1 with hd := o.rest }, o.status, .ok)
theorem follow_ok {s1 : Sh} {x : Xr} (o : Oc) (h : sayP s o.out = (s1, x)) (hx : x = .ok) : followP s o = follow2 s1 o := by
  subst hx
  unfold followP follow2
  rw [h]
theorem follow_no {s1 : Sh} {x : Xr} (o : Oc) (h : sayP s o.out = (s1, x)) (hx : x ≠ .ok) : followP s o = (s1, 0, x) := by
  unfold followP
  rw [h]
  cases x <;> first | rfl | exact absurd rfl hx
theorem sayP_F (s : Sh) (d : Txt) : (sayP s d).1.F = s.F := by
  unfold sayP
  split
  · rfl
  · split <;> rfl
theorem not_stp {b : Nat} {K' : Nat → Prop} (hlt : b < W.heap.size) (hb : ¬ K b) (hs : Stp W K W' K') : ¬ K' b := fun hk => (hs.2 b hk).elim hb (fun h => by omega)
set_option maxRecDepth 100000 in
set_option maxHeartbeats 4000000 in
theorem follow_any (o : Oc) (hE : Ers W ea) (h : Rn W K rb cb sb kb s) (hk : Okk s) (ho : o.out.length < 4294967296) (hn : o.name.length < 100000) (hv : o.value.length < 4294967296) :
    Calls Tryz.prog 112 #[rP rb, ocV o] W (Done ea W K rb cb sb kb (followP s o)) := by
  obtain ⟨s1, x, hsx⟩ : ∃ s1 x, sayP s o.out = (s1, x) := ⟨_, _, rfl⟩
  have hF : s1.F = s.F := by rw [← sayP_F s o.out, hsx]
  have hFl := hk.F
  have hbw := below_new W (.cells (ocA o) 188)
  have HSY : Hid (Calls Tryz.prog 159 #[rP rb, str o.out] (W.alloc (.cells (ocA o) 188)) fun e w' => e = .returned (xrV ea x) ∧ ∃ K', Rn w' K' rb cb sb kb s1 ∧ Stp W K w' K' ∧ Cel w' W.heap.size 188 (ocA o) ∧ ¬ K' W.heap.size) := by
    have hs0 : Stp W K (W.alloc (.cells (ocA o) 188)) K := Stp.ofBelow hbw
    have h1 := say_any (ea := ea) o.out (hE.stp h hs0) (h.below hbw) hk.w ho
    rw [hsx] at h1
    refine Calls.mono h1 ?_
    rintro e w' ⟨h3, K', h4, h5⟩
    have hnk : ¬ K W.heap.size := fun hk => by have := h.lt _ hk; omega
    exact ⟨h3, K', h4, hs0.trans h5, (Cel.new W 188 (ocA o)).turn h5.1 hnk, not_stp (Cel.new W 188 (ocA o)).lt hnk h5⟩
  have HSET : Hid (∀ w1 K1, Rn w1 K1 rb cb sb kb s1 → Stp W K w1 K1 → Cel w1 W.heap.size 188 (ocA o) → ¬ K1 W.heap.size → ∃ w2, w2 = w1.setCell ⟨rb, 7, none⟩ (str o.rest) ∧ Rn w2 K1 rb cb sb kb { s1 with hd := o.rest } ∧ Stp W K w2 K1 ∧ Cel w2 W.heap.size 188 (ocA o) ∧ Ers w2 ea) := fun w1 K1 h1 h2 h3 h5 => by
    have h4 := h1.set 7 (str o.rest) { s1 with hd := o.rest } (by simp [rnC]) rfl rfl rfl rfl rfl rfl
    have h6 := h2.trans h4.2
    exact ⟨_, rfl, h4.1, h6, h3.turn h4.2.1 h5, hE.stp h h6⟩
  have HPUT : Hid (∀ w2 K2, Rn w2 K2 rb cb sb kb { s1 with hd := o.rest } → Stp W K w2 K2 → Cel w2 W.heap.size 188 (ocA o) → ¬ K2 W.heap.size → Calls Tryz.prog 106 #[sP sb, str o.name, .slice (some ⟨w2.drew.heap.size, 0, none⟩) 1 1] (w2.drew.alloc (.cells #[str o.value] 9)) fun e w' => e = .returned (.tuple #[]) ∧ (w'.cell? ⟨rb, 0, none⟩ = some (sP sb) ∧ w'.cell? ⟨W.heap.size, 3, none⟩ = some (str o.name) ∧ w'.cell? ⟨W.heap.size, 4, none⟩ = some (str o.value)) ∧ ∃ K', Rn w' K' rb cb sb kb { s1 with hd := o.rest, F := putM s1.F o.name [o.value] } ∧ Stp W K w' K' ∧ Cel w' W.heap.size 188 (ocA o) ∧ ¬ K' W.heap.size) := fun w2 K2 h1 h2 h3 h5 => by
    have hb2 : Below w2.heap.size w2 (w2.drew.alloc (.cells #[str o.value] 9)) := ((Below.refl _ w2).drew).alloc (Nat.le_refl _) _
    have ht : Tx (w2.drew.alloc (.cells #[str o.value] 9)) (.slice (some ⟨w2.drew.heap.size, 0, none⟩) 1 1) [o.value] := by
      refine .inr ⟨⟨w2.drew.heap.size, 0, none⟩, 1, rfl, Nat.le_refl _, fun _ => ⟨w2.drew.heap.size, 0, rfl, (Cel.new w2.drew 9 _).lt, fun k p hp => ?_⟩⟩
      have hk0 : k = 0 := by
        have := (List.getElem?_eq_some_iff.1 hp).1
        simpa using this
      subst hk0
      cases hp
      exact (Cel.new w2.drew 9 #[str o.value]).cell 0
    refine Calls.mono (putV_rn o.name [o.value] _ (h1.below hb2) (by show s1.F.length < _; rw [hF]; omega) (by have := maxLen_big; omega) ht (by unfold big; simp)) ?_
    rintro e w' ⟨h6, K', h7, h8⟩
    have h9 := (Stp.ofBelow hb2).trans h8
    have hc := h3.turn h9.1 h5
    exact ⟨h6, ⟨h7.rc.cell 0, hc.cell 3, hc.cell 4⟩, K', h7, h2.trans h9, hc, not_stp h3.lt h5 h9⟩
  have HEND : Hid (∀ w2 K2 s2, Rn w2 K2 rb cb sb kb s2 → Stp W K w2 K2 → Rn (w2.setCell ⟨rb, 10, none⟩ (.int .i64 o.status)) K2 rb cb sb kb { s2 with en := o.status } ∧ Stp W K (w2.setCell ⟨rb, 10, none⟩ (.int .i64 o.status)) K2 ∧ Ers (w2.setCell ⟨rb, 10, none⟩ (.int .i64 o.status)) ea ∧ w2.frozen? ⟨rb, 10, none⟩ = false ∧ w2.cell? ⟨rb, 10, none⟩ = some (.int .i64 s2.en)) := fun w2 K2 s2 h1 h2 => by
    have h4 := h1.set 10 (.int .i64 o.status) { s2 with en := o.status } (by simp [rnC]) rfl rfl rfl rfl rfl rfl
    exact ⟨h4.1, h2.trans h4.2, hE.stp h (h2.trans h4.2), h1.rc.frozen 10, h1.rc.cell 10⟩
  obtain ⟨r, hr⟩ : ∃ r, followP s o = r := ⟨_, rfl⟩
  have HOK : Hid (x = .ok → r = follow2 s1 o) := fun hx => by rw [← hr]; exact follow_ok o hsx hx
  have HNO : Hid (x ≠ .ok → r = (s1, 0, x)) := fun hx => by rw [← hr]; exact follow_no o hsx hx
  rw [hr]
  obtain ⟨ou, re, stt, nm, vl, fi⟩ := o
  simp only [ocV, ocA] at *
  clear h hE hk hsx hr hF hFl hbw
  go_enter Tryz.func112, Tryz.ntmps112
  go_wp2_with fail
  refine Calls.mono HSY.out ?_
  rintro e w1 ⟨rfl, K1, HR1, HS1, HC1, HN1⟩
  have f7 := HR1.rc.frozen 7
  have c7 : w1.cell? ⟨rb, 7, none⟩ = some (str s1.hd) := HR1.rc.cell 7
  have z1 := HC1.cell 1
  rcases xr_cases ea x with ⟨hx1, hx2⟩ | ⟨hx1, a, hx2⟩
  case inr =>
    rw [hx2]
    go_wp2_with fail
    go_ret2
    rw [HNO.out hx1]
    refine ⟨?_, Rb.of HR1 HS1⟩
    show _ = Ending.returned (.tuple #[.int .i64 0, xrV ea x])
    rw [hx2]
    rfl
  rw [hx2]
  obtain ⟨_, rfl, hr2, hs2, hc2, he2⟩ := HSET.out _ _ HR1 HS1 HC1 HN1
  have d2 := hc2.cell 2
  have d3 := hc2.cell 3
  have d4 := hc2.cell 4
  have d5 := hc2.cell 5
  have g1 := (he2 1 (by omega)).1
  have HR2 : Hid _ := hr2
  have HS2 : Hid _ := hs2
  have HC2 : Hid _ := hc2
  have HN2 : Hid _ := HN1
  have hrr := HOK.out hx1
  subst hrr
  clear hr2 hs2 hc2 he2 HR1 HS1 HC1 HN1 HOK HNO
  cases nm with
  | nil =>
    cases fi with
    | true =>
      obtain ⟨hr3, hs3, he3, f10, c10⟩ := HEND.out _ _ _ HR2.out HS2.out
      have g7 := (he3 7 (by omega)).1
      have HR3 : Hid _ := hr3
      have HS3 : Hid _ := hs3
      clear hr3 hs3 he3
      go_wp2_with fail
      go_quiet (fail)
      go_wp2_with fail
      go_ret2
      exact ⟨rfl, Rb.post (Rb.of HR3.out HS3.out) (below_drewN _ _)⟩
    | false =>
      go_wp2_with fail
      go_ret2
      exact ⟨rfl, Rb.of HR2.out HS2.out⟩
  | cons c cs =>
    have hvl : (⟨vl.toArray⟩ : ByteArray).size = vl.length := by show vl.toArray.size = _; simp
    by_cases hb : 2000 < vl.length
    · have hb' : decide ((2000 : Int) < (vl.length : Nat)) = true := by simp; omega
      go_wp2_with fail
      go_quiet (fail)
      go_wp2_with fail
      go_ret2
      have hf2 : follow2 s1 ⟨ou, re, stt, c :: cs, vl, fi⟩ = ({ s1 with hd := re }, 0, .big) := by simp [follow2, hb]
      rw [hf2]
      exact ⟨rfl, Rb.post (Rb.of HR2.out HS2.out) (below_drewN _ _)⟩
    · have hb' : decide ((2000 : Int) < (vl.length : Nat)) = false := by simp; omega
      have c0 : (w1.setCell ⟨rb, 7, none⟩ (str re)).cell? ⟨rb, 0, none⟩ = some (sP sb) := HR2.out.rc.cell 0
      go_wp2_with fail
      have HB : Hid (¬ 2000 < vl.length) := hb
      clear f7 c7 z1 hb hb' HSET
      generalize w1.setCell ⟨rb, 7, none⟩ (str re) = w2 at *
      go_region_held3 (fun w' => w'.cell? ⟨rb, 0, none⟩ = some (sP sb) ∧ w'.cell? ⟨W.heap.size, 3, none⟩ = some (str (c :: cs)) ∧ w'.cell? ⟨W.heap.size, 4, none⟩ = some (str vl)) (go_keep) (first | (go_at_call 106; refine Calls.mono (HPUT.out _ _ HR2.out HS2.out HC2.out HN2.out) ?_; rintro e w3 ⟨rfl, ⟨k0, k3, k4⟩, K3, HR3, HS3, HC3, HN3⟩))
      have m2 := HC3.cell 2
      have m5 := HC3.cell 5
      have HR3' : Hid _ := HR3
      have HS3' : Hid _ := HS3
      cases fi with
      | true =>
        obtain ⟨hr4, hs4, he4, f10, c10⟩ := HEND.out _ _ _ HR3 HS3
        have g7 := (he4 7 (by omega)).1
        have HR4 : Hid _ := hr4
        have HS4 : Hid _ := hs4
        clear hr4 hs4 he4 HR3 HS3 HC3 HN3
        go_wp2_with fail
        go_quiet (fail)
        go_wp2_with fail
        go_ret2
        have hf2 : follow2 s1 ⟨ou, re, stt, c :: cs, vl, true⟩ = ({ s1 with hd := re, F := putM s1.F (c :: cs) [vl], en := stt }, 0, .fin) := by simp [follow2, HB.out]
        rw [hf2]
        exact ⟨rfl, Rb.post (Rb.of HR4.out HS4.out) (below_drewN _ _)⟩
      | false =>
        clear HR3 HS3 HC3 HN3
        go_wp2_with fail
        go_ret2
        have hf2 : follow2 s1 ⟨ou, re, stt, c :: cs, vl, false⟩ = ({ s1 with hd := re, F := putM s1.F (c :: cs) [vl] }, stt, .ok) := by simp [follow2, HB.out]
        rw [hf2]
        exact ⟨rfl, Rb.of HR3'.out HS3'.out⟩
end Go.Proofs.YtfafhjglcaikoaaGreatDoor
namespace Go.Proofs.YtfafhjglcaikoaaGreatDoor
open Go.RowKit
attribute [local go_sem] Oper.semAt_some

variable {W W' : World} {K : Nat → Prop} {rb cb sb kb : Nat} {s : Sh} {ea : Nat → Addr} {f : List Nd → Sh → Option Cr} {g : List Nd → Sh → Option Wr}
/-- Commands do what f says. -/
def CmdC (ea : Nat → Addr) (f : List Nd → Sh → Option Cr) : Prop := ∀ (W : World) (K : Nat → Prop) (rb cb sb kb : Nat) (s : Sh) (v : Value) (X : List Nd) (r : Cr),
  Ers W ea → Rn W K rb cb sb kb s → NdAt W v X → Off W K v → f X s = some r → Calls Tryz.prog 40 #[rP rb, v] W (Done ea W K rb cb sb kb r)
/-- How a word comes back. -/
def DoneW (ea : Nat → Addr) (W : World) (K : Nat → Prop) (rb cb sb kb : Nat) (r : Wr) (e : Ending) (w' : World) : Prop :=
  ∃ u, e = .returned (.tuple #[u, xrV ea r.2.2]) ∧ w'.ownsRow W.heap.size 9 1 u r.2.1.length (txV r.2.1) ∧ ∃ K' cb', Rn w' K' rb cb' sb kb r.1 ∧ Stp W K w' K' ∧ (r.2.2 = .ok → cb' = cb) ∧ Off w' K' u
/-- Words do what g says. -/
def WordC (ea : Nat → Addr) (g : List Nd → Sh → Option Wr) : Prop := ∀ (W : World) (K : Nat → Prop) (rb cb sb kb : Nat) (s : Sh) (v : Value) (X : List Nd) (r : Wr),
  Ers W ea → Rn W K rb cb sb kb s → NdAt W v X → Off W K v → g X s = some r → Calls Tryz.prog 114 #[rP rb, v] W (DoneW ea W K rb cb sb kb r)

theorem hearS_some {hd : Txt} {X : List Nd} {r : Cr} (h : hearS f hd X s = some r) : ∃ s1 st x, f X { s with hd := hd } = some (s1, st, x) ∧ (x = .ok → r = ({ s1 with hd := s.hd }, st, .ok)) ∧ (x ≠ .ok → r = (s1, 0, x)) := by
  unfold hearS at h
  split at h
  · cases h
  · rename_i s1 st hf
    cases h
    exact ⟨s1, st, .ok, hf, fun _ => rfl, fun hx => absurd rfl hx⟩
  · rename_i s1 st x hne hf
    cases h
    exact ⟨s1, st, x, hf, fun hx => (hne hx).elim, fun _ => rfl⟩
set_option maxRecDepth 100000 in
set_option maxHeartbeats 4000000 in
theorem hearing_any (hC : CmdC ea f) (hd : Txt) (v : Value) (X : List Nd) (r : Cr) (hE : Ers W ea) (h : Rn W K rb cb sb kb s) (hn : NdAt W v X) (ho : Off W K v) (hr : hearS f hd X s = some r) :
    Calls Tryz.prog 120 #[rP rb, str hd, v] W (Done ea W K rb cb sb kb r) := by
  obtain ⟨s1, st, x, hf, hok, hno⟩ := hearS_some hr
  have c7 : W.cell? ⟨rb, 7, none⟩ = some (str s.hd) := h.rc.cell 7
  have f7 := h.rc.frozen 7
  obtain ⟨h1, h2⟩ := h.set 7 (str hd) { s with hd := hd } (by simp [rnC]) rfl rfl rfl rfl rfl rfl
  have HC : Hid (Calls Tryz.prog 40 #[rP rb, v] (W.setCell ⟨rb, 7, none⟩ (str hd)) fun e w' => e = .returned (.tuple #[.int .i64 st, xrV ea x]) ∧ Rb W K rb cb sb kb s1 x w') := by
    refine Calls.mono (hC _ _ _ _ _ _ _ v X _ (hE.stp h h2) h1 (ho.nd hn h2) (ho.stp h2) hf) ?_
    rintro e w' ⟨h3, h4⟩
    exact ⟨h3, h4.pre h2⟩
  have HOK : Hid (x = .ok → r = ({ s1 with hd := s.hd }, st, .ok)) := hok
  have HNO : Hid (x ≠ .ok → r = (s1, 0, x)) := hno
  obtain ⟨adv, capv, rfl⟩ := hn.form
  clear hC hE h hn ho hr hf hok hno h1 h2
  go_enter Tryz.func120, Tryz.ntmps120
  go_wp2_with fail
  refine Calls.mono HC.out ?_
  rintro e w1 ⟨rfl, HB⟩
  rcases xr_cases ea x with ⟨hx1, hx2⟩ | ⟨hx1, a, hx2⟩
  · obtain ⟨K1, cb1, hr1, hs1, hcb⟩ := HB
    obtain rfl := hcb hx1
    have d7 : w1.cell? ⟨rb, 7, none⟩ = some (str s1.hd) := hr1.rc.cell 7
    have e7 := hr1.rc.frozen 7
    have h3 := hr1.set 7 (str s.hd) { s1 with hd := s.hd } (by simp [rnC]) rfl rfl rfl rfl rfl rfl
    have HR : Hid _ := h3.1
    have HS : Hid _ := hs1.trans h3.2
    clear hr1 hs1 hcb h3
    rw [hx2]
    go_wp2_with fail
    go_ret2
    rw [HOK.out hx1]
    exact ⟨rfl, Rb.of HR.out HS.out⟩
  · have HB' : Hid _ := HB
    clear HB
    rw [hx2]
    go_wp2_with fail
    go_ret2
    rw [HNO.out hx1]
    refine ⟨?_, HB'.out⟩
    show _ = Ending.returned (.tuple #[.int .i64 0, xrV ea x])
    rw [hx2]
    rfl
/-- The blocks of a run that says elsewhere. -/
def mK (K : Nat → Prop) (ct : Option Txt) (cb : Nat) (ct1 : Option Txt) (cb1 : Nat) : Nat → Prop := fun i => (K i ∧ (ct ≠ none → i ≠ cb)) ∨ (ct1 ≠ none ∧ i = cb1)
theorem Rn.mouth (h : Rn W K rb cb sb kb s) (ct1 : Option Txt) (fl1 : Txt) (cb1 : Nat) (hc : ∀ t, ct1 = some t → Cel W' cb1 9 #[str t] ∧ ¬ K cb1 ∧ 17 ≤ cb1) (hT : Turn (fun i => i = rb) W W')
    (hrc : Cel W' rb 135 (rnC sb kb cb1 { s with ct := ct1, fl := fl1 })) : Rn W' (mK K s.ct cb ct1 cb1) rb cb1 sb kb { s with ct := ct1, fl := fl1 } := by
  obtain ⟨KS, KK, b, d, iS, iK, n1, n2, n3⟩ := h.ex
  have hrk : s.ct ≠ none → rb ≠ cb := fun hn e => (n3 hn).2.2 e.symm
  refine ⟨hrc, fun t ht => (hc t ht).1, ⟨KS, KK, (b.turn hT (fun i hi e => n1 (e ▸ hi)) (fun i hi e => n2 (e ▸ hi))).as _ rfl rfl rfl rfl rfl, d, fun i hi => .inl ⟨iS i hi, fun hn e => (n3 hn).1 (e ▸ hi)⟩, fun i hi => .inl ⟨iK i hi, fun hn e => (n3 hn).2.1 (e ▸ hi)⟩, n1, n2, fun hn => ?_⟩, .inl ⟨h.Kr, hrk⟩, fun hn => .inr ⟨hn, rfl⟩, ?_, ?_⟩
  · obtain ⟨t, ht⟩ : ∃ t, ct1 = some t := Option.ne_none_iff_exists'.1 hn
    obtain ⟨_, h2, _⟩ := hc t ht
    exact ⟨fun hk => h2 (iS _ hk), fun hk => h2 (iK _ hk), fun e => h2 (e ▸ h.Kr)⟩
  · rintro i (⟨hi, _⟩ | ⟨hn, rfl⟩)
    · exact h.gl i hi
    · obtain ⟨t, ht⟩ := Option.ne_none_iff_exists'.1 hn
      exact (hc t ht).2.2
  · rintro i (⟨hi, _⟩ | ⟨hn, rfl⟩)
    · exact Nat.lt_of_lt_of_le (h.lt i hi) hT.size
    · obtain ⟨t, ht⟩ := Option.ne_none_iff_exists'.1 hn
      exact (hc t ht).1.lt
theorem mK_sub {ct ct1 : Option Txt} {cb1 i : Nat} (h : mK K ct cb ct1 cb1 i) : K i ∨ (ct1 ≠ none ∧ i = cb1) := h.imp (fun h => h.1) id
theorem ctP_form (cb : Nat) (ct : Option Txt) : ∃ p, ctP cb ct = .pointer p := by cases ct <;> exact ⟨_, rfl⟩
/-- How a command that says elsewhere comes back. -/
def SaidC (ea : Nat → Addr) (W : World) (K : Nat → Prop) (rb cb sb kb : Nat) (s : Sh) (ct1 : Option Txt) (cb1 : Nat) (s1 : Sh) (st : Int) (x : Xr) (e : Ending) (w' : World) : Prop :=
  (x = .ok ∧ e = .returned (.tuple #[.int .i64 st, .nilIface]) ∧ (∀ t, s1.ct = some t → Cel w' cb1 9 #[str t]) ∧ ∃ K', Rn w' K' rb cb sb kb { s1 with ct := s.ct, fl := s.fl } ∧ Stp W (fun i => K i ∨ (ct1 ≠ none ∧ i = cb1)) w' K') ∨
  (x ≠ .ok ∧ e = .returned (.tuple #[.int .i64 0, xrV ea x]) ∧ ∃ K' cb', Rn w' K' rb cb' sb kb s1 ∧ Stp W (fun i => K i ∨ (ct1 ≠ none ∧ i = cb1)) w' K')
set_option maxRecDepth 100000 in
set_option maxHeartbeats 4000000 in
theorem saying_any (hC : CmdC ea f) (ct1 : Option Txt) (fl1 : Txt) (cb1 : Nat) (v : Value) (X : List Nd) (s1 : Sh) (st : Int) (x : Xr) (hE : Ers W ea) (h : Rn W K rb cb sb kb s) (hn : NdAt W v X) (ho : Off W K v)
    (hc1 : ∀ t, ct1 = some t → Cel W cb1 9 #[str t] ∧ ¬ K cb1 ∧ 17 ≤ cb1) (hv1 : ct1 ≠ none → ∀ b, v.ownBlock = some b → b ≠ cb1) (hf : f X { s with ct := ct1, fl := fl1 } = some (s1, st, x)) :
    Calls Tryz.prog 172 #[rP rb, .agg #[ctP cb1 ct1, str fl1], v] W (SaidC ea W K rb cb sb kb s ct1 cb1 s1 st x) := by
  have c8 : W.cell? ⟨rb, 8, none⟩ = some (ctP cb s.ct) := h.rc.cell 8
  have c9 : W.cell? ⟨rb, 9, none⟩ = some (str s.fl) := h.rc.cell 9
  have f8 := h.rc.frozen 8
  have f9 := h.rc.frozen 9
  have hlt := h.lt _ h.Kr
  obtain ⟨W1, hW1⟩ : ∃ W1, (((W.setCell ⟨rb, 8, none⟩ (ctP cb1 ct1)).setCell ⟨rb, 9, none⟩ (str fl1)).alloc (.cells #[ctP cb1 ct1, str fl1] 133)).alloc (.cells #[ctP cb s.ct, str s.fl] 133) = W1 := ⟨_, rfl⟩
  have hT1 : Turn (fun i => i = rb) W W1 := by
    rw [← hW1]
    exact ((((Turn.refl (fun i => i = rb) W).setCell (p := ⟨rb, 8, none⟩) (fun _ => rfl) _).setCell (p := ⟨rb, 9, none⟩) (fun _ => rfl) _).alloc _).alloc _
  have hsz : W1.heap.size = W.heap.size + 2 := by rw [← hW1]; simp [World.setCell]
  have hrc1 : Cel W1 rb 135 (rnC sb kb cb1 { s with ct := ct1, fl := fl1 }) := by
    have h1 := (h.rc.set (j := 8) (ctP cb1 ct1)).set (j := 9) (str fl1)
    have e1 : ((rnC sb kb cb s).setIfInBounds 8 (ctP cb1 ct1)).setIfInBounds 9 (str fl1) = rnC sb kb cb1 { s with ct := ct1, fl := fl1 } := by simp [rnC]
    rw [e1] at h1
    rw [← hW1]
    exact (h1.below (below_new _ _) h1.lt).below (below_new _ _) (h1.below (below_new _ _) h1.lt).lt
  have hbox : Cel W1 (W.heap.size + 1) 133 #[ctP cb s.ct, str s.fl] := by
    rw [← hW1]
    have := Cel.new ((((W.setCell ⟨rb, 8, none⟩ (ctP cb1 ct1)).setCell ⟨rb, 9, none⟩ (str fl1)).alloc (.cells #[ctP cb1 ct1, str fl1] 133))) 133 #[ctP cb s.ct, str s.fl]
    simpa [World.setCell] using this
  have hne : s.ct ≠ none → rb ≠ cb := fun hq e => by
    obtain ⟨KS, KK, b, d, iS, iK, n1, n2, n3⟩ := h.ex
    exact (n3 hq).2.2 e.symm
  have hne1 : ct1 ≠ none → rb ≠ cb1 := fun hq e => by
    obtain ⟨t, ht⟩ := Option.ne_none_iff_exists'.1 hq
    exact (hc1 t ht).2.1 (e ▸ h.Kr)
  have hR1 : Rn W1 (mK K s.ct cb ct1 cb1) rb cb1 sb kb { s with ct := ct1, fl := fl1 } := h.mouth ct1 fl1 cb1 (fun t ht => ⟨(hc1 t ht).1.turn hT1 (fun e => hne1 (by rw [ht]; simp) e.symm), (hc1 t ht).2⟩) hT1 hrc1
  have hS1 : Stp W (fun i => K i ∨ (ct1 ≠ none ∧ i = cb1)) W1 (mK K s.ct cb ct1 cb1) := ⟨hT1.mono (fun i e => .inl (e ▸ h.Kr)), fun i hi => .inl (mK_sub hi)⟩
  have hoff : Off W (fun i => K i ∨ (ct1 ≠ none ∧ i = cb1)) v := fun b hb => ⟨(ho b hb).1, fun hk => hk.elim (ho b hb).2 (fun q => hv1 q.1 b hb q.2)⟩
  have hE1 : Ers W1 ea := hE.stp h (K' := K) ⟨hT1.mono (fun i e => by subst e; exact h.Kr), fun i hi => .inl hi⟩
  have HC : Hid (Calls Tryz.prog 40 #[rP rb, v] W1 fun e w' => e = .returned (.tuple #[.int .i64 st, xrV ea x]) ∧ Rb W1 (mK K s.ct cb ct1 cb1) rb cb1 sb kb s1 x w') :=
    hC _ _ _ _ _ _ _ v X _ hE1 hR1 (hoff.nd hn hS1) (hoff.stp hS1) hf
  have HBK : Hid (∀ w2 K2, Rn w2 K2 rb cb1 sb kb s1 → Stp W1 (mK K s.ct cb ct1 cb1) w2 K2 → ∃ w3, w3 = (w2.setCell ⟨rb, 8, none⟩ (ctP cb s.ct)).setCell ⟨rb, 9, none⟩ (str s.fl) ∧ (∀ t, s1.ct = some t → Cel w3 cb1 9 #[str t]) ∧ ∃ K', Rn w3 K' rb cb sb kb { s1 with ct := s.ct, fl := s.fl } ∧ Stp W (fun i => K i ∨ (ct1 ≠ none ∧ i = cb1)) w3 K') := fun w2 K2 h2 hs2 => by
    obtain ⟨w3, hw3⟩ : ∃ w3, (w2.setCell ⟨rb, 8, none⟩ (ctP cb s.ct)).setCell ⟨rb, 9, none⟩ (str s.fl) = w3 := ⟨_, rfl⟩
    have hT3 : Turn (fun i => i = rb) w2 w3 := by
      rw [← hw3]
      exact ((Turn.refl (fun i => i = rb) w2).setCell (p := ⟨rb, 8, none⟩) (fun _ => rfl) _).setCell (p := ⟨rb, 9, none⟩) (fun _ => rfl) _
    have hrc3 : Cel w3 rb 135 (rnC sb kb cb { s1 with ct := s.ct, fl := s.fl }) := by
      have h1 := (h2.rc.set (j := 8) (ctP cb s.ct)).set (j := 9) (str s.fl)
      have e1 : ((rnC sb kb cb1 s1).setIfInBounds 8 (ctP cb s.ct)).setIfInBounds 9 (str s.fl) = rnC sb kb cb { s1 with ct := s.ct, fl := s.fl } := by simp [rnC]
      rw [e1] at h1
      rw [← hw3]
      exact h1
    have hnk : s.ct ≠ none → ¬ mK K s.ct cb ct1 cb1 cb := fun hq hk => by
      rcases hk with ⟨_, hk⟩ | ⟨hk, e⟩
      · exact hk hq rfl
      · obtain ⟨t, ht⟩ := Option.ne_none_iff_exists'.1 hk
        exact (hc1 t ht).2.1 (e ▸ h.Kc hq)
    have hcc : ∀ t, s.ct = some t → Cel w3 cb 9 #[str t] ∧ ¬ K2 cb ∧ 17 ≤ cb := fun t ht => by
      have hq : s.ct ≠ none := by rw [ht]; simp
      have q1 := (h.cc t ht).turn hT1 (fun e => hne hq e.symm)
      exact ⟨(q1.turn hs2.1 (hnk hq)).turn hT3 (fun e => hne hq e.symm), not_stp q1.lt (hnk hq) hs2, h.gl _ (h.Kc hq)⟩
    have h3 := h2.mouth s.ct s.fl cb hcc hT3 hrc3
    have hne2 : s1.ct ≠ none → cb1 ≠ rb := fun hq e => by
      obtain ⟨KS, KK, b, d, iS, iK, n1, n2, n3⟩ := h2.ex
      exact (n3 hq).2.2 e
    have hs3 := (hS1.trans hs2).1
    refine ⟨w3, hw3.symm, fun t ht => (h2.cc t ht).turn hT3 (hne2 (by rw [ht]; simp)), _, h3, hs3.trans hT3 (fun i e _ => by subst e; exact .inl h.Kr), ?_⟩
    rintro i hi
    rcases mK_sub hi with hi | ⟨hq, rfl⟩
    · exact (hS1.trans hs2).2 i hi
    · exact .inl (.inl (h.Kc hq))
  have HBX : Hid (∀ w2 K2, Stp W1 (mK K s.ct cb ct1 cb1) w2 K2 → Cel w2 (W.heap.size + 1) 133 #[ctP cb s.ct, str s.fl]) := fun w2 K2 hs2 => hbox.turn hs2.1 (fun hk => by
    rcases mK_sub hk with hk | ⟨hq, e⟩
    · have := h.lt _ hk; omega
    · obtain ⟨t, ht⟩ := Option.ne_none_iff_exists'.1 hq
      have := (hc1 t ht).1.lt
      omega)
  have HSS : Hid (∀ w2 K2, Stp W1 (mK K s.ct cb ct1 cb1) w2 K2 → Stp W (fun i => K i ∨ (ct1 ≠ none ∧ i = cb1)) w2 K2) := fun w2 K2 hs2 => hS1.trans hs2
  obtain ⟨p0, hp0⟩ := ctP_form cb s.ct
  obtain ⟨p1, hp1⟩ := ctP_form cb1 ct1
  rw [hp0] at c8 hW1 HBK HBX
  rw [hp1] at hW1 ⊢
  obtain ⟨adv, capv, rfl⟩ := hn.form
  have HW1 : Hid _ := hW1
  clear h hE hn ho hc1 hf hv1 hT1 hsz hrc1 hbox hne hne1 hR1 hS1 hoff hE1 hW1 hC
  go_enter Tryz.func172, Tryz.ntmps172
  go_wp2_with fail
  have hw := HW1.out
  simp only [str] at hw ⊢
  rw [hw]
  refine Calls.mono HC.out ?_
  rintro e w2 ⟨rfl, K2, cb2, hr2, hs2, hcb⟩
  rcases xr_cases ea x with ⟨hx1, hx2⟩ | ⟨hx1, a, hx2⟩
  · obtain rfl := hcb hx1
    have b0 := (HBX.out _ _ hs2).cell 0
    have b1 := (HBX.out _ _ hs2).cell 1
    have d8 := hr2.rc.cell 8
    have d9 := hr2.rc.cell 9
    have e8 := hr2.rc.frozen 8
    have e9 := hr2.rc.frozen 9
    obtain ⟨_, rfl, hcc, K', h3, h4⟩ := HBK.out _ _ hr2 hs2
    have HX : Hid _ := hcc
    have HR : Hid _ := h3
    have HS : Hid _ := h4
    clear hcc h3 h4 hr2 hs2 hcb HBK HBX
    rw [hx2]
    go_wp2_with fail
    go_ret2
    exact .inl ⟨hx1, rfl, HX.out, K', HR.out, HS.out⟩
  · have HR : Hid _ := hr2
    have HS : Hid _ := HSS.out _ _ hs2
    clear hr2 hs2 hcb HBK HBX
    rw [hx2]
    go_wp2_with fail
    go_ret2
    refine .inr ⟨hx1, ?_, K2, cb2, HR.out, HS.out⟩
    rw [hx2]
    rfl
theorem catchS_some {X : List Nd} {r : Sh × Txt × Xr} (h : catchS f X s = some r) : ∃ s1 st x, f X { s with ct := some [], fl := [] } = some (s1, st, x) ∧ (x = .ok → ∃ t, s1.ct = some t ∧ r = ({ s1 with ct := s.ct, fl := s.fl }, t, .ok)) ∧ (x ≠ .ok → r = (s1, [], x)) := by
  unfold catchS sayingS at h
  cases hf : f X { s with ct := some [], fl := [] } with
  | none => simp [hf] at h
  | some q =>
    obtain ⟨s1, st, x⟩ := q
    refine ⟨s1, st, x, rfl, fun hx => ?_, fun hx => ?_⟩
    · subst hx
      simp only [hf] at h
      cases ht : s1.ct with
      | none => simp [ht] at h
      | some t => exact ⟨t, rfl, by simpa [ht] using h.symm⟩
    · cases x <;> first | exact absurd rfl hx | simpa [hf] using h.symm
/-- How what is caught comes back. -/
def DoneT (ea : Nat → Addr) (W : World) (K : Nat → Prop) (rb cb sb kb : Nat) (r : Sh × Txt × Xr) (e : Ending) (w' : World) : Prop :=
  e = .returned (.tuple #[str r.2.1, xrV ea r.2.2]) ∧ Rb W K rb cb sb kb r.1 r.2.2 w'
set_option maxRecDepth 100000 in
set_option maxHeartbeats 4000000 in
theorem catching_any (hC : CmdC ea f) (v : Value) (X : List Nd) (r : Sh × Txt × Xr) (hE : Ers W ea) (h : Rn W K rb cb sb kb s) (hn : NdAt W v X) (ho : Off W K v) (hr : catchS f X s = some r) :
    Calls Tryz.prog 170 #[rP rb, v] W (DoneT ea W K rb cb sb kb r) := by
  obtain ⟨s1, st, x, hf, hok, hno⟩ := catchS_some hr
  have hb0 := below_new W (.cells #[str []] 9)
  have h17 := h.size
  have HC : Hid (Calls Tryz.prog 172 #[rP rb, .agg #[.pointer (some ⟨W.heap.size, 0, none⟩), str []], v] (W.alloc (.cells #[str []] 9)) fun e w' =>
      (x = .ok ∧ e = .returned (.tuple #[.int .i64 st, .nilIface]) ∧ (∀ t, s1.ct = some t → Cel w' W.heap.size 9 #[str t]) ∧ ∃ K', Rn w' K' rb cb sb kb { s1 with ct := s.ct, fl := s.fl } ∧ Stp W K w' K') ∨
      (x ≠ .ok ∧ e = .returned (.tuple #[.int .i64 0, xrV ea x]) ∧ ∃ K' cb', Rn w' K' rb cb' sb kb s1 ∧ Stp W K w' K')) := by
    have hs0 : Stp W K (W.alloc (.cells #[str []] 9)) K := Stp.ofBelow hb0
    refine Calls.mono (saying_any hC (some []) [] W.heap.size v X s1 st x (hE.stp h hs0) (h.below hb0) (ho.nd hn hs0) (ho.stp hs0) (fun t ht => ?_) (fun _ b hb e => by have := (ho b hb).1; omega) hf) ?_
    · cases ht
      exact ⟨Cel.new W 9 _, fun hk => by have := h.lt _ hk; omega, by omega⟩
    · have key : ∀ w' K', Stp (W.alloc (.cells #[str []] 9)) (fun i => K i ∨ ((some ([] : Txt)) ≠ none ∧ i = W.heap.size)) w' K' → Stp W K w' K' := fun w' K' hs => by
        refine ⟨(Turn.ofBelow (S := K) hb0).trans hs.1 (fun i hi hlt => hi.elim id (fun q => by omega)), fun i hi => (hs.2 i hi).elim (fun q => q.elim .inl (fun q => .inr (by omega))) (fun q => .inr (Nat.le_trans hb0.size q))⟩
      rintro e w' (⟨h1, h2, h3, K', h4, h5⟩ | ⟨h1, h2, K', cb', h4, h5⟩)
      · exact .inl ⟨h1, h2, h3, K', h4, key _ _ h5⟩
      · exact .inr ⟨h1, h2, K', cb', h4, key _ _ h5⟩
  have HOK : Hid (x = .ok → ∃ t, s1.ct = some t ∧ r = ({ s1 with ct := s.ct, fl := s.fl }, t, .ok)) := hok
  have HNO : Hid (x ≠ .ok → r = (s1, [], x)) := hno
  obtain ⟨adv, capv, rfl⟩ := hn.form
  clear hC hE h hn ho hr hf hok hno hb0 h17
  go_enter Tryz.func170, Tryz.ntmps170
  go_wp2_with fail
  refine Calls.mono HC.out ?_
  rintro e w1 (⟨hx1, rfl, hcl, K1, hr1, hs1⟩ | ⟨hx1, rfl, K1, cb1, hr1, hs1⟩)
  · obtain ⟨t, ht, rfl⟩ := HOK.out hx1
    have b0 := (hcl t ht).cell 0
    have HR : Hid _ := hr1
    have HS : Hid _ := hs1
    clear hr1 hs1 hcl
    go_wp2_with fail
    go_ret2
    exact ⟨rfl, Rb.of HR.out HS.out⟩
  · obtain rfl := HNO.out hx1
    obtain ⟨a, hx2⟩ : ∃ a, xrV ea x = errV a := by
      rcases xr_cases ea x with ⟨h1, _⟩ | ⟨_, h2⟩
      · exact absurd h1 hx1
      · exact h2
    have HR : Hid _ := hr1
    have HS : Hid _ := hs1
    clear hr1 hs1
    rw [hx2]
    go_wp2_with fail
    go_ret2
    refine ⟨?_, K1, cb1, HR.out, HS.out, fun q => absurd q hx1⟩
    show _ = Ending.returned (.tuple #[str [], xrV ea x])
    rw [hx2]
    rfl
end Go.Proofs.YtfafhjglcaikoaaGreatDoor
