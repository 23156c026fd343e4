/- The scan of a source. -/
import Derived.Test.YtlihkblllakhmaaGreatDoorRdD
namespace Go.Proofs.YtlihkblllakhmaaGreatDoor
open Go.RowKit
attribute [local go_sem] Oper.semAt_some

/-- What a source comes to. -/
def ScanV (W : World) (ea : Nat → Addr) (R : Except Er (List Cm)) (v ev : Value) (w' : World) : Prop := match R with
  | .ok l => ev = .nilIface ∧ ∃ K : List Mc, K.map toCm = l ∧ CmOwn w' W.heap.size v K
  | .error x => v = .slice none 0 0 ∧ AtEr w' ea ev x
theorem CmdV.shape {W w' : World} {b sb : Nat} {s : ByteArray} {ea : Nat → Addr} {m : Cm} {u : List UInt8} {v : Array Value} {ev : Value} (h : CmdV W b sb s ea (.ok (m, u)) v ev w') : ev = .nilIface ∧ ∃ (kw : List (Value × Wd)) (wa : Option Addr) (wc : Nat), v = #[.int .i64 (m.pos : Nat), .slice wa kw.length wc] ∧ kw.map Prod.snd = m.words ∧ WdOwn w' W.heap.size (.slice wa kw.length wc) kw ∧ ∃ j, Stp W b sb s j w' ∧ j ≤ s.size + 1 ∧ u = s.data.toList.drop j := by
  obtain ⟨h1, ⟨K, wv, h2, h3, h4⟩, j, h5, h6, h7⟩ := h
  obtain ⟨wa, wc, rfl⟩ := h4.form
  exact ⟨h1, K, wa, wc, h2, h3, h4, j, h5, h6, h7⟩
set_option maxRecDepth 100000 in
set_option maxHeartbeats 8000000 in
theorem scan_any (s : ByteArray) (W : World) (ea : Nat → Addr) (hE : Env W ea) (hW : (ea 64).block ≤ W.heap.size) (hs : s.size ≤ 8192) :
    Calls Tryz.prog 8 #[.string s] W fun e w' => ∃ v ev, e = .returned (.tuple #[v, ev]) ∧ ScanV W ea (scanL s.data.toList) v ev w' ∧ Below W.heap.size W w' := by
  obtain ⟨i0, hi, hz0, hz1, hz2⟩ := info_parts infoM
  have HN : Hid _ := new_any s W hs
  obtain ⟨W2, hW2⟩ : ∃ W2, W2 = (W.alloc (.cells #[.string s] 87)).alloc (.cells #[.pointer (some ⟨W.heap.size, 0, none⟩), .int .i64 0] 67) := ⟨_, rfl⟩
  have hz : W2.heap.size = W.heap.size + 2 := by rw [hW2]; simp
  have HB2 : Hid (Below W.heap.size W W2) := by rw [hW2]; exact (below_new W _).alloc (by simp) _
  have HR2 : Hid (Rd W2 (W.heap.size + 1) W.heap.size s 0) := by
    rw [hW2]
    exact ⟨Cel.new2 _ _ _ _, (Cel.new W _ _).below (below_new _ _) (by simp)⟩
  have HE2 : Hid (Env W2 ea) := by rw [hW2]; exact hE.below ((below_new W _).alloc (by simp) _)
  have HW2 : Hid ((W.alloc (.cells #[.string s] 87)).alloc (.cells #[.pointer (some ⟨W.heap.size, 0, none⟩), .int .i64 0] 67) = W2) := hW2.symm
  obtain ⟨R, HR⟩ : ∃ R, Hid (scanL s.data.toList = R) := ⟨_, rfl⟩
  have HRW : Hid (R = scanW (commandL s.size) s.size s.data.toList) := by
    unfold Hid
    rw [← HR.out]
    unfold scanL
    rw [show s.data.toList.length = s.size by simp]
  rw [HR.out]
  clear hE hW2 HR
  go_enter Tryz.func8, Tryz.ntmps8
  go_wp2_with fail
  refine Calls.mono HN.out ?_
  rintro e w1 ⟨rfl, rfl⟩
  go_wp2_with fail
  rw [HW2.out]
  clear HW2 HN
  go_loopw [2, 3, 7] (fun v2 v3 v7 wr => ∃ (p g : Nat) (K : List Mc), v2 = .slice none 0 0 ∧ v3 = .nilIface ∧ p ≤ s.size + 1 ∧ s.size - p ≤ g ∧ K.length ≤ p ∧ Hid (CmOwn wr W2.heap.size v7 K) ∧ Hid (R = preM (K.map toCm) (scanW (commandL s.size) g (s.data.toList.drop p))) ∧ Hid (Stp W2 (W.heap.size + 1) W.heap.size s p wr) ∧ Hid (Env wr ea)) (fun _ _ _ wr => s.size + 2 - posOf wr (W.heap.size + 1))
  case atStart => exact ⟨0, s.size, [], rfl, rfl, Nat.zero_le _, by omega, Nat.zero_le _, CmOwn.nil _ _, by unfold Hid; rw [HRW.out, List.drop_zero]; exact (preM_nil _).symm, Stp.refl HR2.out, HE2.out⟩
  case round =>
    obtain ⟨p, g, K, rfl, rfl, hp, hg, hKp, HO, HEQ, HS, HE⟩ := hrel
    obtain ⟨ad, cap, rfl⟩ := HO.out.form
    clear HR2 HE2 HRW
    have HPO : Hid (posOf wr (W.heap.size + 1) = p) := HS.out.at_.pos
    have HEN : Hid _ := ended_any HS.out.at_
    by_cases hpe : s.size ≤ p
    · rw [decide_eq_true hpe] at HEN
      have HRR : Hid (R = .ok (K.map toCm)) := by
        unfold Hid
        rw [HEQ.out, drop_none s p (by omega), scan_nil]
        simp [preM]
      clear HEQ HPO
      go_wp2_with fail
      refine Calls.mono HEN.out ?_
      rintro e w4 ⟨rfl, m, hw4⟩
      have HO4 : Hid (CmOwn w4 W2.heap.size (.slice ad K.length cap) K) := by rw [hw4]; exact HO.out.below ⟨rfl, rfl, rfl, Nat.le_refl _, fun _ _ => rfl⟩
      have HS4 : Hid (Stp W2 (W.heap.size + 1) W.heap.size s p w4) := by rw [hw4]; exact HS.out.drewN m
      clear hw4 HS HO HE HEN
      go_wp2_with fail
      go_ret2
      rw [HRR.out]
      exact ⟨_, _, rfl, ⟨rfl, K, rfl, HO4.out.lower (by omega)⟩, HB2.out.trans (Turn.below HS4.out.turn (fun i e => by omega) (by omega))⟩
    · rw [decide_eq_false hpe] at HEN
      have hlt : p < s.size := by omega
      have HDC : Hid _ := drop_cons s p hlt
      obtain ⟨g', rfl⟩ : ∃ g', g = g' + 1 := ⟨g - 1, by omega⟩
      have HCO : Hid (∀ w, Stp W2 (W.heap.size + 1) W.heap.size s p w → Env w ea → Calls Tryz.prog 21 #[.pointer (some ⟨W.heap.size + 1, 0, none⟩)] w fun e' w' => ∃ v ev, e' = .returned (.tuple #[.agg v, ev]) ∧ CmdV w (W.heap.size + 1) W.heap.size s ea (commandL s.size (s.data.toList.drop p)) v ev w') := fun w hw he => command_any hw.at_ he hs (by omega) (by omega)
      cases hcm : commandL s.size (s.data.toList.drop p) with
      | error x =>
        have HRR : Hid (R = .error x) := by
          unfold Hid
          rw [HEQ.out, HDC.out]
          rw [HDC.out] at hcm
          rw [scan_err _ g' _ _ x hcm]
          rfl
        rw [hcm] at HCO
        clear hcm HEQ HDC HPO
        go_wp2_with fail
        refine Calls.mono HEN.out ?_
        rintro e w4 ⟨rfl, m, hw4⟩
        have HS4 : Hid (Stp W2 (W.heap.size + 1) W.heap.size s p w4) := by rw [hw4]; exact HS.out.drewN m
        have HE4 : Hid (Env w4 ea) := by rw [hw4]; exact HE.out.drewN m
        clear hw4 HS HO HE HEN
        go_wp2_with fail
        refine Calls.mono (HCO.out _ HS4.out HE4.out) ?_
        rintro e w5 ⟨v, ev, rfl, rfl, ⟨q5, rfl, hx⟩, j5, hst5⟩
        have HX : Hid (AtEr w5 ea (.iface 119 (.pointer (some ⟨q5, 0, none⟩))) x) := ⟨q5, rfl, hx⟩
        have HS5 : Hid (Stp W2 (W.heap.size + 1) W.heap.size s j5 w5) := HS4.out.trans hst5
        clear hx hst5 HCO HS4 HE4
        go_wp2_with fail
        go_ret2
        rw [HRR.out]
        exact ⟨_, _, rfl, ⟨rfl, HX.out.below (below_new _ _)⟩, HB2.out.trans ((Turn.below (HS5.out.below (below_new _ _)).turn (fun i e => by omega) (by omega)))⟩
      | ok r =>
        obtain ⟨m, u⟩ := r
        have hul : u.length < s.size - p := by
          have := hcm
          rw [HDC.out] at this
          have h9 := command_lt this
          rw [← HDC.out, len_drop] at h9
          exact h9
        have HRR : Hid (R = preM (K.map toCm ++ if m.words.isEmpty then [] else [m]) (scanW (commandL s.size) g' u)) := by
          unfold Hid
          rw [HEQ.out, HDC.out]
          rw [HDC.out] at hcm
          rw [scan_more _ g' _ _ u m hcm, preM_pre]
        rw [hcm] at HCO
        clear hcm HEQ HDC
        go_wp2_with fail
        refine Calls.mono HEN.out ?_
        rintro e w4 ⟨rfl, m4, hw4⟩
        have HS4 : Hid (Stp W2 (W.heap.size + 1) W.heap.size s p w4) := by rw [hw4]; exact HS.out.drewN m4
        have HE4 : Hid (Env w4 ea) := by rw [hw4]; exact HE.out.drewN m4
        have HO4 : Hid (CmOwn w4 W2.heap.size (.slice ad K.length cap) K) := by rw [hw4]; exact HO.out.below ⟨rfl, rfl, rfl, Nat.le_refl _, fun _ _ => rfl⟩
        clear hw4 HS HO HE HEN
        go_wp2_with fail
        refine Calls.mono (HCO.out _ HS4.out HE4.out) ?_
        rintro e w5 ⟨v, ev, rfl, hv⟩
        obtain ⟨rfl, kw, wa, wc, rfl, hkw, hwo, j5, hst5, hj5, hu5⟩ := hv.shape
        obtain ⟨mp, mw⟩ := m
        simp only at hkw HRR
        have HU5 : Hid (u = s.data.toList.drop j5) := hu5
        have hpj : p < j5 := by
          have h9 : (s.data.toList.drop j5).length < s.size - p := by rw [← hu5]; exact hul
          rw [len_drop] at h9
          omega
        have HS5 : Hid (Stp W2 (W.heap.size + 1) W.heap.size s j5 w5) := HS4.out.trans hst5
        have HE5 : Hid (Env w5 ea) := HE4.out.stp hst5 (by omega)
        have HO5 : Hid (CmOwn w5 W2.heap.size (.slice ad K.length cap) K) := HO4.out.turn hst5.turn (fun i e => by omega)
        have HP5 : Hid (WdOwn w5 W2.heap.size (.slice wa kw.length wc) kw) := hwo.lower HS4.out.turn.size
        have hsz5 : W2.heap.size ≤ w5.heap.size := HS5.out.turn.size
        subst hkw
        clear hv hwo hst5 hu5 hul HCO HS4 HE4 HO4
        cases kw with
        | nil =>
          obtain ⟨n, hn⟩ : ∃ n, n = ([] : List (Value × Wd)).length := ⟨_, rfl⟩
          have hn1 : decide ((0 : Int) < (n : Int)) = false := by simp [hn]
          have hn2 : ¬ (0 : Int) < (n : Int) := by simp [hn]
          rw [← hn]
          have HRR2 : Hid (R = preM (K.map toCm) (scanW (commandL s.size) g' (s.data.toList.drop j5))) := by
            unfold Hid
            rw [HRR.out, HU5.out]
            simp
          clear hn HRR HU5 HP5
          go_wp2_with fail
          refine ⟨⟨j5, g', K, rfl, rfl, hj5, by omega, by omega, HO5.out.below (below_new _ _), HRR2, HS5.out.alloc _, HE5.out.below (below_new _ _)⟩, ?_⟩
          rw [(HS5.out.alloc _).at_.pos, HPO.out]
          omega
        | cons k0 kw =>
          obtain ⟨n, hn⟩ : ∃ n, n = (k0 :: kw).length := ⟨_, rfl⟩
          have hn0 : 0 < n := by rw [hn]; simp
          have hn1 : decide ((0 : Int) < (n : Int)) = true := by simp; omega
          have hn2 : (0 : Int) < (n : Int) := by omega
          have HP6 : Hid (WdOwn w5 W2.heap.size (.slice wa n wc) (k0 :: kw)) := by rw [hn]; exact HP5.out
          rw [← hn]
          have HRR2 : Hid (R = preM ((K ++ [((.slice wa n wc, mp, k0 :: kw) : Mc)]).map toCm) (scanW (commandL s.size) g' (s.data.toList.drop j5))) := by
            unfold Hid
            rw [HRR.out, HU5.out, List.map_append]
            rfl
          clear hn HRR HU5 HP5
          go_wp2_with (at_builtin; refine wpList_append_own_at _ rfl _ _ 23 rfl W2.heap.size 39 i0 _ 2 32 Tryz.underlying23 hi hz0 hz1 hz2 rfl (by decide) _ _ _ rfl (World.ownsRow.alloc (World.ownsRow.alloc HO5.out.row _) _) ⟨w5.heap.size + 1, 0, none⟩ 1 1 (cmC ((.slice wa n wc, mp, k0 :: kw) : Mc)) rfl rfl (cells_new2 _ _ _ _) (by simp [Value.oneCell']) (by have := maxLen_big; omega) (by omega) (by simp; omega) ?_; intro v6 w6 hown hgrow _ _; obtain ⟨ad6, cap6, rfl⟩ := owns_slice hown)
          have hb5 : Below W2.heap.size w5 ((w5.alloc (.cells #[.int .i64 (mp : Nat), .slice wa n wc] 39)).alloc (.cells #[.int .i64 (mp : Nat), .slice wa n wc] 39)) := ((Below.refl _ w5).alloc hsz5 _).alloc (by simp; omega) _
          have hbel : Below W2.heap.size w5 w6 := grown_own (by simp; omega) hb5 (World.ownsRow.alloc (World.ownsRow.alloc HO5.out.row _) _) hgrow
          have HO6 : Hid (CmOwn w6 W2.heap.size (.slice ad6 (K.length + 1) cap6) (K ++ [((.slice wa n wc, mp, k0 :: kw) : Mc)])) := by
            refine ⟨by rw [cmCs_append, cmCs_one, List.length_append]; exact hown, fun q hq => ?_⟩
            have hq5 : WdOwn w5 W2.heap.size q.1 q.2.2 := by
              rcases List.mem_append.1 hq with hq | hq
              · exact HO5.out.words q hq
              · rw [List.mem_singleton.1 hq]; exact HP6.out
            exact ((hq5.below (below_new _ _)).below (below_new _ _)).grown2 (World.ownsRow.alloc (World.ownsRow.alloc HO5.out.row _) _) hgrow
          have HS6 : Hid (Stp W2 (W.heap.size + 1) W.heap.size s j5 w6) := HS5.out.under (by omega) (by omega) hbel
          have HE6 : Hid (Env w6 ea) := HE5.out.under hbel (by omega)
          clear hown hgrow hbel HS5 HE5 HO5 HP6 hb5
          go_wp2_with fail
          refine ⟨⟨j5, g', K ++ [((.slice wa n wc, mp, k0 :: kw) : Mc)], rfl, rfl, hj5, by omega, by simp; omega, HO6, HRR2, HS6.out, HE6.out⟩, ?_⟩
          rw [HS6.out.at_.pos, HPO.out]
          omega
end Go.Proofs.YtlihkblllakhmaaGreatDoor
