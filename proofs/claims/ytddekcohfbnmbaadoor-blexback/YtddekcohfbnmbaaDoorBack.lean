/- The law: a source of a source's tokens has these tokens. -/
import Derived.Test.YtddekcohfbnmbaaDoorBk2
import Derived.Test.YtddekcohfbnmbaaDoorPureP
import Derived.Deep.RegionHeld3
import Derived.BigQuiet
namespace Go.Proofs.YtddekcohfbnmbaaDoor
open Go.RowKit
attribute [local go_sem] Oper.semAt_some

set_option maxRecDepth 100000 in
set_option maxHeartbeats 4000000 in
theorem back_long (s : ByteArray) (W : World) (ea : Nat → Addr) (hE : Env W ea) (hW : (ea 64).block ≤ W.heap.size) (hs : 1500 < s.size) :
    Calls Tryd.prog 4 #[.string s] W fun e w' => e = .returned (.bool true) ∧ Below W.heap.size W w' := by
  have HF : Hid _ := first_any W ea hE hW
  have hs' : (1500 : Int) < (s.size : Int) := by omega
  clear hE
  go_enter Tryd.func4, Tryd.ntmps4
  go_wp2_with fail
  refine Calls.mono HF.out ?_
  rintro e w1 ⟨rfl, hb1⟩
  have HB1 : Hid (Below W.heap.size W w1) := hb1
  clear hb1 HF
  go_wp2_with fail
  go_ret
  exact ⟨rfl, HB1.out⟩
set_option maxRecDepth 100000 in
set_option maxHeartbeats 4000000 in
theorem back_err (s : ByteArray) (W : World) (ea : Nat → Addr) (hE : Env W ea) (hW : (ea 64).block ≤ W.heap.size) (hs : s.size ≤ 1500) (x : Er) (hx : lexL s.data.toList = .error x) :
    Calls Tryd.prog 4 #[.string s] W fun e w' => e = .returned (.bool true) ∧ Below W.heap.size W w' := by
  have HF : Hid _ := first_any W ea hE hW
  have hs' : ¬ (1500 : Int) < (s.size : Int) := by omega
  have hd' : decide ((1500 : Int) < (s.size : Int)) = false := by simp; omega
  have HE : Hid (∀ w, Below W.heap.size W w → Env w ea) := fun w hb => hE.below hb
  have HX : Hid (lexL s.data.toList = .error x) := hx
  clear hE hx
  go_enter Tryd.func4, Tryd.ntmps4
  go_wp2_with fail
  refine Calls.mono HF.out ?_
  rintro e w1 ⟨rfl, hb1⟩
  have HB1 : Hid (Below W.heap.size W w1) := hb1
  have HL := lex_any s w1 ea (HE.out _ hb1) (Nat.le_trans hW hb1.size) (by omega)
  rw [HX.out] at HL
  have HLX : Hid _ := HL
  clear HL hb1 HF
  go_wp2_with fail
  refine Calls.mono HLX.out ?_
  rintro e w2 ⟨v, ev, rfl, ⟨rfl, q, rfl, _⟩, hb2⟩
  have HB2 : Hid (Below W.heap.size W w2) := HB1.out.trans (Below.mono hb2 HB1.out.size)
  clear hb2 HLX HB1
  go_wp2_with fail
  go_ret
  exact ⟨rfl, HB2.out⟩
set_option maxRecDepth 100000 in
set_option maxHeartbeats 8000000 in
theorem back_ok (s : ByteArray) (W : World) (ea : Nat → Addr) (hE : Env W ea) (hW : (ea 64).block ≤ W.heap.size) (hs : s.size ≤ 1500) (ts : List Tb) (hx : lexL s.data.toList = .ok ts) :
    Calls Tryd.prog 4 #[.string s] W fun e w' => e = .returned (.bool true) ∧ Below W.heap.size W w' := by
  have HF : Hid _ := first_any W ea hE hW
  have hs' : ¬ (1500 : Int) < (s.size : Int) := by omega
  have hd' : decide ((1500 : Int) < (s.size : Int)) = false := by simp; omega
  have HE : Hid (∀ w, Below W.heap.size W w → Env w ea) := fun w hb => hE.below hb
  have hz : s.data.toList.length = s.size := by simp
  have hlen : ts.length ≤ 1501 := by
    obtain ⟨t, r, rfl, _, ⟨_, _, rfl⟩ | ⟨_, _, hc⟩⟩ := lex_chain hx
    · simp
    · have := hc.len
      simp only [List.length_cons]
      omega
  obtain ⟨p1, p2, ms, p3, p4⟩ := lex_back hx
  have HTK : Hid (∀ t ∈ ts, Tok s.data.toList.length t) := p2
  have HMA : Hid (Mates ts ms) := p4
  have hml := p4.len
  have HX : Hid (lexL s.data.toList = .ok ts) := hx
  have HX2 : Hid (lexL (prL ts) = .ok ms) := p3
  have hpl : (prL ts).length ≤ 1500 := by omega
  clear hE hx p1 p2 p3 p4
  go_enter Tryd.func4, Tryd.ntmps4
  go_wp2_with fail
  refine Calls.mono HF.out ?_
  rintro e w1 ⟨rfl, hb1⟩
  have HB1 : Hid (Below W.heap.size W w1) := hb1
  have HL := lex_any s w1 ea (HE.out _ hb1) (Nat.le_trans hW hb1.size) (by omega)
  rw [HX.out] at HL
  have HLX : Hid _ := HL
  clear HL hb1 HF
  go_wp2_with fail
  refine Calls.mono HLX.out ?_
  rintro e w2 ⟨v, ev, rfl, ⟨rfl, hO⟩, hb2⟩
  have HB2 : Hid (Below W.heap.size W w2) := HB1.out.trans (Below.mono hb2 HB1.out.size)
  have HO2 : Hid (TbOwn w2 w1.heap.size v ts) := hO
  have HPR : Hid _ := print_any (HE.out _ HB2.out) hO HTK.out (by omega) (by omega) (by omega)
  obtain ⟨ad, cap, rfl⟩ := hO.form
  clear hb2 HLX hO HB1
  go_wp2_with fail
  refine Calls.mono HPR.out ?_
  rintro e w3 ⟨rfl, hb3⟩
  have HB3 : Hid (Below W.heap.size W w3) := HB2.out.trans (hb3.mono HB2.out.size)
  have HO3 : Hid (TbOwn w3 w1.heap.size (.slice ad ts.length cap) ts) := HO2.out.below hb3
  have HL := lex_any ⟨(prL ts).toArray⟩ w3 ea (HE.out _ HB3.out) (Nat.le_trans hW HB3.out.size) (by show (prL ts).length ≤ 8192; omega)
  rw [show (⟨(prL ts).toArray⟩ : ByteArray).data.toList = prL ts from rfl, HX2.out] at HL
  have HL2 : Hid _ := HL
  clear HL hb3 HPR HO2 HB2
  go_wp2_with fail
  refine Calls.mono HL2.out ?_
  rintro e w4 ⟨v4, ev4, rfl, ⟨rfl, hO4⟩, hb4⟩
  have HB4 : Hid (Below W.heap.size W w4) := HB3.out.trans (Below.mono hb4 HB3.out.size)
  have h1 : TbOwn w4 w1.heap.size (.slice ad ts.length cap) ts := HO3.out.below hb4
  obtain ⟨a2, c2, rfl⟩ := hO4.form
  have HG : Hid (∀ (k : Nat), k < ts.length → ∃ g1 g2 kd n gl1 gl2 s', ((kd : Nat) ≠ 0 → gl1 = gl2) ∧ ad = some ⟨g1, 0, none⟩ ∧ a2 = some ⟨g2, 0, none⟩ ∧ ∀ m, (w4.drewN m).cell? ⟨g1, k * 5, none⟩ = some (.int .i64 ((kd : Nat) : Int)) ∧ (w4.drewN m).cell? ⟨g2, k * 5, none⟩ = some (.int .i64 ((kd : Nat) : Int)) ∧ (w4.drewN m).cell? ⟨g1, k * 5 + 2, none⟩ = some (.int .i64 ((n : Nat) : Int)) ∧ (w4.drewN m).cell? ⟨g2, k * 5 + 2, none⟩ = some (.int .i64 ((n : Nat) : Int)) ∧ (w4.drewN m).cell? ⟨g1, k * 5 + 3, none⟩ = some (.string s') ∧ (w4.drewN m).cell? ⟨g2, k * 5 + 3, none⟩ = some (.string s') ∧ (w4.drewN m).cell? ⟨g1, k * 5 + 4, none⟩ = some (.bool gl1) ∧ (w4.drewN m).cell? ⟨g2, k * 5 + 4, none⟩ = some (.bool gl2)) := fun k hk => by
    have e1 : ts[k]? = some ts[k] := List.getElem?_eq_getElem _
    have e2 : ms[k]? = some (ms[k]'(by omega)) := List.getElem?_eq_getElem _
    obtain ⟨a1, a2', a3, a4⟩ := HMA.out.get k _ _ e1 e2
    obtain ⟨g1, f1, q1, s1⟩ := h1.get (fun e => by rw [e] at hk; simp at hk)
    obtain ⟨g2, f2, q2, s2⟩ := hO4.get (fun e => by rw [e] at hml; simp at hml; omega)
    obtain ⟨rfl, _, _⟩ := Value.slice.inj q1
    obtain ⟨rfl, _, _⟩ := Value.slice.inj q2
    have y0 := s2 k _ e2 0 _ rfl
    have y2 := s2 k _ e2 2 _ rfl
    have y3 := s2 k _ e2 3 _ rfl
    rw [← a1] at y0
    rw [← a3] at y2
    rw [← a2'] at y3
    exact ⟨g1, g2, _, _, _, _, _, a4, rfl, rfl, fun m => ⟨s1 k _ e1 0 _ rfl, y0, s1 k _ e1 2 _ rfl, y2, s1 k _ e1 3 _ rfl, y3, s1 k _ e1 4 _ rfl, s2 k _ e2 4 _ rfl⟩⟩
  rw [hml]
  have hne : ((ts.length : Int) == (ts.length : Int)) = true := beq_self_eq_true _
  clear h1 hO4 hb4 HL2 HO3 HB3 HMA HTK hml HX HX2 HE
  go_wp2_with fail
  go_loopw [2, 8] (fun v2 v8 wr => ∃ k m : Nat, v2 = .bool false ∧ v8 = .int .i64 (k : Nat) ∧ k ≤ ts.length ∧ wr = w4.drewN m) (fun _ v8 _ => ts.length - (intOf v8).toNat)
  case atStart => exact ⟨0, 0, rfl, rfl, Nat.zero_le _, rfl⟩
  case round =>
    obtain ⟨k, m, rfl, rfl, hk, rfl⟩ := hrel
    by_cases hlt : k < ts.length
    · have hlt' : (k : Int) < (ts.length : Int) := by omega
      obtain ⟨g1, g2, kd, n, gl1, gl2, s', hgl, rfl, rfl, hc⟩ := HG.out k hlt
      obtain ⟨x0, y0, x2, y2, x3, y3, x4, y4⟩ := hc m
      obtain ⟨Wm, hWm⟩ : ∃ Wm, Wm = w4.drewN m := ⟨_, rfl⟩
      have HWM : Hid (Wm = w4.drewN m) := hWm
      rw [← hWm] at x0 y0 x2 y2 x3 y3 x4 y4 ⊢
      clear hWm hc HG
      by_cases hkd : kd = 0
      · subst hkd
        clear hgl
        go_wp2_with fail
        go_quiet (fail)
        go_wp2_with fail
        refine ⟨⟨k + 1, m + nq, rfl, by simp, by omega, ?_⟩, by simp [intOf]; omega⟩
        rw [HWM.out, World.drewN_drewN]
      · obtain rfl := hgl hkd
        have hkn : ((kd : Int) == 0) = false := by rw [beq_eq_false_iff_ne]; omega
        have hkn2 : (kd == 0) = false := by rw [beq_eq_false_iff_ne]; exact hkd
        clear hgl
        go_wp2_with fail
        go_quiet (fail)
        go_wp2_with fail
        refine ⟨⟨k + 1, m + nq, rfl, by simp, by omega, ?_⟩, by simp [intOf]; omega⟩
        rw [HWM.out, World.drewN_drewN]
    · have hlt' : ¬ (k : Int) < (ts.length : Int) := by omega
      go_wp2_with fail
      go_ret
      exact ⟨rfl, HB4.out.trans ⟨rfl, rfl, rfl, Nat.le_refl _, fun _ _ => rfl⟩⟩
/-- THE LAW BlexBack. -/
theorem back_any (s : ByteArray) (W : World) (ea : Nat → Addr) (hE : Env W ea) (hW : (ea 64).block ≤ W.heap.size) :
    Calls Tryd.prog 4 #[.string s] W fun e w' => e = .returned (.bool true) ∧ Below W.heap.size W w' := by
  by_cases h1 : s.size ≤ 1500
  · cases hx : lexL s.data.toList with
    | error x => exact back_err s W ea hE hW h1 x hx
    | ok ts => exact back_ok s W ea hE hW h1 ts hx
  · exact back_long s W ea hE hW (by omega)
end Go.Proofs.YtddekcohfbnmbaaDoor
