/- A run begins. -/
import Derived.Test.YtfafhjglcaikoaaGreatDoorH33
import Derived.Test.YtfafhjglcaikoaaGreatDoorH6
import Derived.Test.YtfafhjglcaikoaaGreatDoorH8
namespace Go.Proofs.YtfafhjglcaikoaaGreatDoor
open Go.RowKit
attribute [local go_sem] Oper.semAt_some

variable {W W' : World} {K : Nat → Prop} {rb cb sb kb : Nat} {s : Sh} {ea : Nat → Addr}
/-- Options with no parser, no variables and no arguments. -/
abbrev oV (st dp : Int) (inp : Txt) : Value := .agg #[.nilFunc, .int .i64 st, .int .i64 dp, .slice none 0 0, .slice none 0 0, str inp]
theorem indexV_nil (W : World) (fv : Value) : Calls Tryz.prog 146 #[.slice none 0 0, fv] W fun e w' => e = .returned (.int .i64 (-1)) ∧ w' = W := by
  go_enter Tryz.func146, Tryz.ntmps146
  go_wp2_with fail
  go_loopw [8] (fun v8 wr => v8 = .int .i64 0 ∧ W = wr) (fun _ _ => 0)
  case atStart => exact ⟨rfl, rfl⟩
  case round =>
    obtain ⟨rfl, rfl⟩ := hrel
    go_wp2_with fail
    go_ret
    exact ⟨rfl, rfl⟩
theorem containsV_nil (W : World) (fv : Value) : Calls Tryz.prog 102 #[.slice none 0 0, fv] W fun e w' => e = .returned (.bool false) ∧ w' = W := by
  go_enter Tryz.func102, Tryz.ntmps102
  go_wp2_with fail
  refine (indexV_nil _ _).mono ?_
  rintro e w1 ⟨rfl, hw⟩
  obtain rfl := hw.symm
  go_wp2_with fail
  go_ret
  exact ⟨rfl, rfl⟩
theorem options_any (st dp : Nat) (inp : Txt) (W : World) (h1 : st ≤ 1500) (h2 : dp ≤ 25) (h3 : inp.length ≤ 2000) :
    Calls Tryz.prog 61 #[oV st dp inp] W fun e w' => e = .returned .nilIface ∧ Below W.heap.size W w' := by
  have hz : (⟨inp.toArray⟩ : ByteArray).size = inp.length := by show inp.toArray.size = _; simp
  have hb1 := below_new W (.cells #[.nilFunc, .int .i64 (st : Nat), .int .i64 (dp : Nat), .slice none 0 0, .slice none 0 0, str inp] 44)
  have HF : Hid (Calls Tryz.prog 101 #[.slice none 0 0] (W.alloc (.cells #[.nilFunc, .int .i64 (st : Nat), .int .i64 (dp : Nat), .slice none 0 0, .slice none 0 0, str inp] 44)) fun e w' => e = .returned .nilIface ∧ Below W.heap.size W w' ∧ w'.cell? ⟨W.heap.size, 3, none⟩ = some (.slice none 0 0)) := by
    refine Calls.mono (fits_yes _ [] _ (Tx.nil _) rfl) ?_
    rintro e w' ⟨q1, q2⟩
    have hc := Cel.new W 44 #[.nilFunc, .int .i64 (st : Nat), .int .i64 (dp : Nat), .slice none 0 0, .slice none 0 0, str inp]
    exact ⟨q1, hb1.trans (q2.mono hb1.size), (hc.below q2 hc.lt).cell 3⟩
  clear hb1
  have d1 : ((st : Int) < 0) = False := by simp
  have d2 : ((1500 : Int) < (st : Nat)) = False := by simp; omega
  have d3 : ((dp : Int) < 0) = False := by simp
  have d4 : ((25 : Int) < (dp : Nat)) = False := by simp; omega
  have d5 : ((2000 : Int) < (inp.length : Nat)) = False := by simp; omega
  go_enter Tryz.func61, Tryz.ntmps61
  go_wp2_with fail
  refine Calls.mono HF.out ?_
  rintro e w1 ⟨rfl, hb1, c3⟩
  have HB1 : Hid _ := hb1
  clear hb1 HF
  go_wp2_with fail
  refine (containsV_nil _ _).mono ?_
  rintro e w2 ⟨rfl, hw⟩
  obtain rfl := hw.symm
  go_wp2_with fail
  go_ret
  exact ⟨rfl, HB1.out⟩
/-- A run of which nothing was done yet. -/
def start0 (Fl : Fls) (st dp : Nat) (inp : Txt) : Sh := ⟨newM [], [], putAll Fl, [], [], 0, st, 0, dp, inp, none, [], 0⟩
def start (Fl : Fls) (st dp : Nat) (inp : Txt) : Sh := { start0 Fl st dp inp with F := putM (newM []) star [] }
theorem newM_nil : newM [] = [(star, [])] := rfl
theorem start_rn {w3 w5 : World} {kb mb sb vb fb : Nat} {KK KS : Nat → Prop} {rv' : Value} {Y' : List (Rw × Value)} {V : Vrs} {B : Nat} (Fl : Fls) (st dp : Nat) (inp : Txt) (hk : Kern w3 KK kb mb (.slice none 0 0) rv' (putAll Fl) Y' []) (hY : Y'.map Prod.fst = []) (hKK : ∀ i, KK i → B ≤ i) (hB : 17 ≤ B)
    (h35 : Below w3.heap.size w3 w5) (hs : Sto w5 KS sb vb fb V []) (hV : cont V = newM []) (hKS : ∀ i, KS i → w3.heap.size ≤ i) :
    Rn (w5.alloc (.cells #[sP sb, kP kb, .nilFunc, .int .i64 0, .int .i64 (st : Nat), .int .i64 0, .int .i64 (dp : Nat), str inp, .pointer none, str [], .int .i64 0] 135)) (fun i => KS i ∨ KK i ∨ i = w5.heap.size) w5.heap.size 0 sb kb (start0 Fl st dp inp) ∧ (∀ i, (KS i ∨ KK i ∨ i = w5.heap.size) → B ≤ i) := by
  have hk5 := hk.below h35
  have hb6 := below_new w5 (.cells #[sP sb, kP kb, .nilFunc, .int .i64 0, .int .i64 (st : Nat), .int .i64 0, .int .i64 (dp : Nat), str inp, .pointer none, str [], .int .i64 0] 135)
  have hB3 : B ≤ w3.heap.size := Nat.le_of_lt (Nat.lt_of_le_of_lt (hKK _ hk.Kk) (hk.lt _ hk.Kk))
  have hge : ∀ i, (KS i ∨ KK i ∨ i = w5.heap.size) → B ≤ i := by
    rintro i (hi | hi | rfl)
    · exact Nat.le_trans hB3 (hKS i hi)
    · exact hKK i hi
    · exact Nat.le_trans hB3 h35.size
  refine ⟨⟨Cel.new w5 135 _, fun t ht => by simp [start0] at ht, ⟨KS, KK, ⟨vb, fb, mb, V, [], .slice none 0 0, rv', Y', [], hs.below hb6, hV, rfl, hk5.below hb6, hY, rfl⟩, ?_, fun i hi => .inl hi, fun i hi => .inr (.inl hi), ?_, ?_, fun hn => absurd rfl hn⟩, .inr (.inr rfl), fun hn => absurd rfl hn, fun i hi => Nat.le_trans hB (hge i hi), ?_⟩, hge⟩
  · intro i h1 h2
    have := hKS i h1
    have := hk.lt i h2
    omega
  · intro h1
    have := hs.lt _ h1
    omega
  · intro h1
    have := hk5.lt _ h1
    omega
  · have e1 : (w5.alloc (.cells #[sP sb, kP kb, .nilFunc, .int .i64 0, .int .i64 (st : Nat), .int .i64 0, .int .i64 (dp : Nat), str inp, .pointer none, str [], .int .i64 0] 135)).heap.size = w5.heap.size + 1 := by simp
    rintro i (hi | hi | rfl)
    · have := hs.lt i hi; omega
    · have := hk5.lt i hi; omega
    · omega
set_option maxRecDepth 100000 in
set_option maxHeartbeats 8000000 in
theorem begin_any (fv : Value) (Fl : Fls) (st dp : Nat) (inp : Txt) (hE : Ers W ea) (h17 : 17 ≤ W.heap.size) (hf : FlAt W fv Fl) (hFl : Fl.length < 4294967296) (hN : ∀ p ∈ Fl, p.1.length < 4294967296) (hm : mayR Fl [] = none) (h1 : st ≤ 1500) (h2 : dp ≤ 25) (h3 : inp.length ≤ 2000) :
    Calls Tryz.prog 39 #[wV fv (.slice none 0 0), oV st dp inp] W fun e w' => ∃ rb sb kb K, e = .returned (.tuple #[rP rb, .nilIface]) ∧ Rn w' K rb 0 sb kb (start Fl st dp inp) ∧ (∀ i, K i → W.heap.size ≤ i) ∧ Below W.heap.size W w' := by
  obtain ⟨W2, hW2⟩ : ∃ W2, (W.alloc (.cells #[fv, .slice none 0 0] 27)).alloc (.cells #[.nilFunc, .int .i64 (st : Nat), .int .i64 (dp : Nat), .slice none 0 0, .slice none 0 0, str inp] 44) = W2 := ⟨_, rfl⟩
  have hb2 : Below W.heap.size W W2 := by
    rw [← hW2]
    exact (below_new W _).trans ((below_new (W.alloc (.cells #[fv, .slice none 0 0] 27)) _).mono (by simp))
  have q0 : Cel W2 W.heap.size 27 #[fv, .slice none 0 0] := by rw [← hW2]; exact (Cel.new W 27 #[fv, .slice none 0 0]).below (below_new _ _) (Cel.new W 27 #[fv, .slice none 0 0]).lt
  have q1 : Cel W2 (W.heap.size + 1) 44 #[.nilFunc, .int .i64 (st : Nat), .int .i64 (dp : Nat), .slice none 0 0, .slice none 0 0, str inp] := by
    rw [← hW2]
    have := Cel.new (W.alloc (.cells #[fv, .slice none 0 0] 27)) 44 #[.nilFunc, .int .i64 (st : Nat), .int .i64 (dp : Nat), .slice none 0 0, .slice none 0 0, str inp]
    simpa using this
  have hrw : RwAt W2 (.slice none 0 0) [] := ⟨.inl ⟨rfl, none, 0, rfl⟩, fun p hp => by simp at hp⟩
  have HNW : Hid _ := new_any fv (.slice none 0 0) Fl [] ea W2 (hf.below hb2 (Nat.le_refl _)) hrw hFl (by simp) (fun p hp => by simp at hp) hN (hE.below hb2 (Nat.le_refl _)) (by simpa using hm)
  have HQ1 : Hid (∀ w, Below W2.heap.size W2 w → Cel w (W.heap.size + 1) 44 #[.nilFunc, .int .i64 (st : Nat), .int .i64 (dp : Nat), .slice none 0 0, .slice none 0 0, str inp]) := fun w hb => q1.below hb q1.lt
  have HOP : Hid (∀ w, Calls Tryz.prog 61 #[oV st dp inp] w fun e w' => e = .returned .nilIface ∧ Below w.heap.size w w') := fun w => options_any st dp inp w h1 h2 h3
  have HB2 : Hid (Below W.heap.size W W2) := hb2
  have H17 : Hid (17 ≤ W.heap.size) := h17
  obtain ⟨fa, fc, rfl⟩ := hf.form
  have p0 := q0.cell 0
  have p1 := q0.cell 1
  clear hE h17 hf hFl hN hm h1 h2 h3 hb2 q0 q1 hrw
  go_enter Tryz.func39, Tryz.ntmps39
  go_wp2_with fail
  clear hW2
  refine Calls.mono HNW.out ?_
  rintro e w3 ⟨kb, mb, rv', Y', KK, rfl, hkern, hY, hKK, hb3⟩
  have r0 := (HQ1.out _ hb3).cell 0
  have r1 := (HQ1.out _ hb3).cell 1
  have r2 := (HQ1.out _ hb3).cell 2
  have r3 := (HQ1.out _ hb3).cell 3
  have r4 := (HQ1.out _ hb3).cell 4
  have r5 := (HQ1.out _ hb3).cell 5
  have HKE : Hid _ := hkern
  have HY : Hid _ := hY
  have HKK : Hid _ := hKK
  have HB3 : Hid (Below W2.heap.size W2 w3) := hb3
  clear hkern hY hKK hb3 HNW
  go_wp2_with fail
  refine Calls.mono (HOP.out _) ?_
  rintro e w4 ⟨rfl, hb4⟩
  have hb24 := Below.trans HB3.out (hb4.mono HB3.out.size)
  have HBD : Hid (Below W2.heap.size W2 w4.drew) := hb24.drew
  have HS0 : Hid (w4.drew.cell? ⟨W.heap.size + 1, 0, none⟩ = some .nilFunc ∧ w4.drew.cell? ⟨W.heap.size + 1, 1, none⟩ = some (.int .i64 (st : Nat)) ∧ w4.drew.cell? ⟨W.heap.size + 1, 2, none⟩ = some (.int .i64 (dp : Nat)) ∧ w4.drew.cell? ⟨W.heap.size + 1, 3, none⟩ = some (.slice none 0 0) ∧ w4.drew.cell? ⟨W.heap.size + 1, 5, none⟩ = some (str inp)) := ⟨(HQ1.out _ HBD.out).cell 0, (HQ1.out _ HBD.out).cell 1, (HQ1.out _ HBD.out).cell 2, (HQ1.out _ HBD.out).cell 3, (HQ1.out _ HBD.out).cell 5⟩
  have HSN : Hid (Calls Tryz.prog 62 #[.slice none 0 0] w4.drew fun e w5 => ∃ sb vb fb KS V, e = .returned (sP sb) ∧ Hid (w5.cell? ⟨W.heap.size + 1, 0, none⟩ = some .nilFunc ∧ w5.cell? ⟨W.heap.size + 1, 1, none⟩ = some (.int .i64 (st : Nat)) ∧ w5.cell? ⟨W.heap.size + 1, 2, none⟩ = some (.int .i64 (dp : Nat)) ∧ w5.cell? ⟨W.heap.size + 1, 3, none⟩ = some (.slice none 0 0) ∧ w5.cell? ⟨W.heap.size + 1, 5, none⟩ = some (str inp)) ∧ Hid ((w5.alloc (.cells #[sP sb, kP kb, .nilFunc, .int .i64 0, .int .i64 (st : Nat), .int .i64 0, .int .i64 (dp : Nat), str inp, .pointer none, str [], .int .i64 0] 135)).cell? ⟨W.heap.size + 1, 0, none⟩ = some .nilFunc ∧ (w5.alloc (.cells #[sP sb, kP kb, .nilFunc, .int .i64 0, .int .i64 (st : Nat), .int .i64 0, .int .i64 (dp : Nat), str inp, .pointer none, str [], .int .i64 0] 135)).cell? ⟨W.heap.size + 1, 1, none⟩ = some (.int .i64 (st : Nat)) ∧ (w5.alloc (.cells #[sP sb, kP kb, .nilFunc, .int .i64 0, .int .i64 (st : Nat), .int .i64 0, .int .i64 (dp : Nat), str inp, .pointer none, str [], .int .i64 0] 135)).cell? ⟨W.heap.size + 1, 2, none⟩ = some (.int .i64 (dp : Nat)) ∧ (w5.alloc (.cells #[sP sb, kP kb, .nilFunc, .int .i64 0, .int .i64 (st : Nat), .int .i64 0, .int .i64 (dp : Nat), str inp, .pointer none, str [], .int .i64 0] 135)).cell? ⟨W.heap.size + 1, 3, none⟩ = some (.slice none 0 0) ∧ (w5.alloc (.cells #[sP sb, kP kb, .nilFunc, .int .i64 0, .int .i64 (st : Nat), .int .i64 0, .int .i64 (dp : Nat), str inp, .pointer none, str [], .int .i64 0] 135)).cell? ⟨W.heap.size + 1, 5, none⟩ = some (str inp)) ∧ Hid (Sto w5 KS sb vb fb V [] ∧ cont V = newM [] ∧ (∀ i, KS i → w4.heap.size ≤ i) ∧ Below w4.heap.size w4 w5)) := by
    refine Calls.mono (new_anyS (.slice none 0 0) [] w4.drew (VaAt.nil _) (by simp) (fun p hp => by simp at hp)) ?_
    rintro e w5 ⟨sb, vb, fb, KS, V, g1, g2, g3, g4, _, g6⟩
    have hb5 : Below W2.heap.size W2 w5 := Below.trans HBD.out (g6.mono HBD.out.size)
    have hc5 := HQ1.out _ hb5
    have hc6 := hc5.below (below_new w5 (.cells #[sP sb, kP kb, .nilFunc, .int .i64 0, .int .i64 (st : Nat), .int .i64 0, .int .i64 (dp : Nat), str inp, .pointer none, str [], .int .i64 0] 135)) hc5.lt
    exact ⟨sb, vb, fb, KS, V, g1, ⟨hc5.cell 0, hc5.cell 1, hc5.cell 2, hc5.cell 3, hc5.cell 5⟩, ⟨hc6.cell 0, hc6.cell 1, hc6.cell 2, hc6.cell 3, hc6.cell 5⟩, g2, g3, g4, ((Below.refl w4.heap.size w4).drew).trans g6⟩
  have HB4 : Hid (Below w3.heap.size w3 w4) := hb4
  have HB24 : Hid (Below W2.heap.size W2 w4) := hb24
  clear hb4 hb24 r0 r1 r2 r3 r4 r5
  go_wp2_with fail
  go_region_held3 (fun w' => w'.cell? ⟨W.heap.size + 1, 0, none⟩ = some .nilFunc ∧ w'.cell? ⟨W.heap.size + 1, 1, none⟩ = some (.int .i64 (st : Nat)) ∧ w'.cell? ⟨W.heap.size + 1, 2, none⟩ = some (.int .i64 (dp : Nat)) ∧ w'.cell? ⟨W.heap.size + 1, 3, none⟩ = some (.slice none 0 0) ∧ w'.cell? ⟨W.heap.size + 1, 5, none⟩ = some (str inp)) (first | with_reducible exact HS0.out | with_reducible exact HS1.out | with_reducible exact HS2.out | go_keep)
    (first | (go_at_call 62; refine Calls.mono HSN.out ?_; rintro e w5 ⟨sb, vb, fb, KS, V, rfl, HS1, HS2, HST⟩))
  obtain ⟨g1, g2, g3, g4⟩ := HST.out
  have hb35 : Below w3.heap.size w3 w5 := Below.trans HB4.out (g4.mono HB4.out.size)
  obtain ⟨hrn, hKK6⟩ := start_rn Fl st dp inp HKE.out HY.out HKK.out (Nat.le_trans H17.out HB2.out.size) hb35 g1 g2 (fun i hi => Nat.le_trans HB4.out.size (g3 i hi))
  obtain ⟨w6, hw6⟩ : ∃ w6, w5.alloc (.cells #[sP sb, kP kb, .nilFunc, .int .i64 0, .int .i64 (st : Nat), .int .i64 0, .int .i64 (dp : Nat), str inp, .pointer none, str [], .int .i64 0] 135) = w6 := ⟨_, rfl⟩
  have hrn6 : Rn w6 (fun i => KS i ∨ KK i ∨ i = w5.heap.size) w5.heap.size 0 sb kb (start0 Fl st dp inp) := by rw [← hw6]; exact hrn
  have hb25 : Below W2.heap.size W2 w5 := Below.trans HB24.out (g4.mono HB24.out.size)
  have hb26 : Below W2.heap.size W2 w6 := by rw [← hw6]; exact hb25.alloc hb25.size _
  have hbd : Below w6.heap.size w6 w6.drew := (Below.refl _ w6).drew
  have HS6 : Hid (w6.drew.cell? ⟨w5.heap.size, 0, none⟩ = some (sP sb) ∧ w6.drew.cell? ⟨W.heap.size + 1, 4, none⟩ = some (.slice none 0 0)) := ⟨hrn6.rc.cell 0, (HQ1.out _ hb26).cell 4⟩
  have HAR : Hid (Calls Tryz.prog 63 #[sP sb, .slice none 0 0] w6.drew fun e w7 => ∃ a7 n7 c7, e = .returned (.slice a7 n7 c7) ∧ Hid (w7.cell? ⟨w5.heap.size, 0, none⟩ = some (sP sb) ∧ w7.cell? ⟨W.heap.size + 1, 4, none⟩ = some (.slice none 0 0)) ∧ Hid (∃ K', Rn w7 K' w5.heap.size 0 sb kb (start Fl st dp inp) ∧ (∀ i, K' i → W.heap.size ≤ i) ∧ Below W.heap.size W w7)) := by
    refine Calls.mono (args_rn [] (.slice none 0 0) (hrn6.below hbd) (by show (newM []).length < _; rw [newM_nil]; simp) (Tx.nil _) (off_nil _ _) (by simp)) ?_
    rintro e w7 ⟨v7, p1, p2, K', p3, p4, _⟩
    obtain ⟨a7, c7, rfl⟩ := owns_slice p2
    have hbe := Stp.below (B := W2.heap.size) p4 (fun i hi => hKK6 i hi) (Nat.le_trans hb26.size hbd.size)
    have hb27 : Below W2.heap.size W2 w7 := (hb26.trans (hbd.mono hb26.size)).trans hbe.1
    exact ⟨a7, _, c7, p1, ⟨p3.rc.cell 0, (HQ1.out _ hb27).cell 4⟩, K', p3, fun i hi => Nat.le_trans HB2.out.size (hbe.2 i hi), Below.trans HB2.out (hb27.mono HB2.out.size)⟩
  rw [show w5.alloc (.cells #[sP sb, kP kb, .nilFunc, .int .i64 0, .int .i64 (st : Nat), .int .i64 0, .int .i64 (dp : Nat), str inp, .pointer none, .string ⟨#[]⟩, .int .i64 0] 135) = w6 from hw6]
  clear g1 g2 g3 g4 hb35 hrn hKK6 hw6 hrn6 hb25 hb26 hbd HST HS1 HS2 HSN HS0 HBD HB4 HB24 HKE HY HKK HB3 HOP HQ1
  go_wp2_with fail
  go_region_held3 (fun w' => w'.cell? ⟨w5.heap.size, 0, none⟩ = some (sP sb) ∧ w'.cell? ⟨W.heap.size + 1, 4, none⟩ = some (.slice none 0 0)) (first | with_reducible exact HS6.out | with_reducible exact HS7.out | go_keep)
    (first | (go_at_call 63; refine Calls.mono HAR.out ?_; rintro e w7 ⟨a7, n7, c7, rfl, HS7, HF7⟩))
  go_wp2_with fail
  go_ret2
  obtain ⟨K', f1, f2, f3⟩ := HF7.out
  exact ⟨w5.heap.size, sb, kb, K', rfl, f1, f2, f3⟩
end Go.Proofs.YtfafhjglcaikoaaGreatDoor
