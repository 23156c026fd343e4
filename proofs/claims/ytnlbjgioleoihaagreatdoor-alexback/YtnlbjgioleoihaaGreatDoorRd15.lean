/- A word. -/
import Derived.Test.YtnlbjgioleoihaaGreatDoorRd14
import Derived.Test.YtnlbjgioleoihaaGreatDoorPure2
namespace Go.Proofs.YtnlbjgioleoihaaGreatDoor
open Go.RowKit
attribute [local go_sem] Oper.semAt_some

theorem PtOwn.cells {W : World} {B : Nat} {v : Value} {X : List Pt} (h : PtOwn W B v X) (hne : X ≠ []) : ∃ g cap, v = .slice (some ⟨g, 0, none⟩) X.length cap ∧ B ≤ g ∧ ∀ j u, (ptCs X)[j]? = some u → W.cell? ((⟨g, 0, none⟩ : Addr).add j) = some u := by
  rcases h.2 with ⟨_, h0⟩ | ⟨g, cap, cur, hv, hb, hc, h1, _, h2, h3⟩
  · exact absurd (List.eq_nil_of_length_eq_zero h0) hne
  · refine ⟨g, cap, hv, hb, fun j u hu => ?_⟩
    have hlt := (List.getElem?_eq_some_iff.1 hu).1
    rw [ptCs_length] at hlt
    have e1 : W.cell? ⟨g, 0 + j, none⟩ = cur[j]? := by simp [World.cell?, hc]
    rw [Addr.add_lit, e1, ← Array.getElem?_toList, ← List.getElem?_take_of_lt hlt, h3]
    exact hu
theorem word_end (N f : Nat) (l : List UInt8) (h : l = [] ∨ ∃ c t, l = c :: t ∧ wEnd c = true) : word N f l = .ok ([], l) := by
  cases f with
  | zero => rfl
  | succ f =>
    rcases h with rfl | ⟨c, t, rfl, hc⟩
    · rfl
    · rw [word, if_pos hc]
theorem word_err (N f : Nat) (c : UInt8) (t : List UInt8) (hc : wEnd c = false) (e : Er) (h : parts N c t = .error e) : word N (f + 1) (c :: t) = .error e := by
  rw [word, if_neg (by rw [hc]; simp), h]
theorem word_ok (N f : Nat) (c : UInt8) (t : List UInt8) (hc : wEnd c = false) (ps : List Pt) (u : List UInt8) (h : parts N c t = .ok (ps, u)) : word N (f + 1) (c :: t) = preR ps (word N f u) := by
  rw [word, if_neg (by rw [hc]; simp), h]
  simp only
  cases word N f u <;> rfl
set_option maxRecDepth 100000 in
set_option maxHeartbeats 4000000 in
theorem word_any {W : World} {b sb k f : Nat} {s : ByteArray} {ea : Nat → Addr} (h : Rd W b sb s k) (hE : Env W ea) (hs : s.size < 1099511627776) (hk : k ≤ s.size) (hf : s.size - k ≤ f) (hb64 : (ea 64).block ≤ b) :
    Calls Tryz.prog 24 #[.pointer (some ⟨b, 0, none⟩)] W fun e w' => ∃ v ev, e = .returned (.tuple #[v, ev]) ∧ PartsV W b sb s ea (word s.size f (s.data.toList.drop k)) v ev w' := by
  have hlb := h.rd.lt
  have hlsb := h.src.lt
  obtain ⟨i0, hi, hz0, hz1, hz2⟩ := info_parts infoP
  have HR0 : Hid (Rd W b sb s k) := h
  have HE0 : Hid (Env W ea) := hE
  obtain ⟨R, HR⟩ : ∃ R, Hid (word s.size f (s.data.toList.drop k) = R) := ⟨_, rfl⟩
  rw [HR.out]
  clear h hE
  go_enter Tryz.func24, Tryz.ntmps24
  go_wp2_with fail
  go_loopw [2, 3, 4] (fun v2 v3 v4 wr => ∃ (p g : Nat) (acc : List Pt), v2 = .slice none 0 0 ∧ v3 = .nilIface ∧ k ≤ p ∧ p ≤ s.size ∧ s.size - p ≤ g ∧ acc.length ≤ p ∧ Hid (PtOwn wr W.heap.size v4 acc) ∧ Hid (R = preR acc (word s.size g (s.data.toList.drop p))) ∧ Hid (Stp W b sb s p wr) ∧ Hid (Env wr ea)) (fun _ _ _ wr => s.size + 2 - posOf wr b)
  case atStart => exact ⟨k, f, [], rfl, rfl, Nat.le_refl _, hk, hf, by simp, PtOwn.nil _ _, by unfold Hid; rw [← HR.out]; cases word s.size f (s.data.toList.drop k) <;> rfl, Stp.refl HR0.out, HE0.out⟩
  case round =>
    obtain ⟨p, g, acc, rfl, rfl, hkp, hp, hg, hacc, HO, HEQ, HS, HE⟩ := hrel
    obtain ⟨ad, cap, rfl⟩ := HO.out.form
    clear HR0 HE0 HR
    have HPO : Hid (posOf wr b = p) := HS.out.at_.pos
    have c0 := HS.out.at_.c0
    have c1 := HS.out.at_.c1
    have HB : Hid (∀ m, Calls Tryz.prog 22 #[.pointer (some ⟨sb, 0, none⟩), .int .i64 (p : Nat)] (wr.drewN m) fun e w' => e = .returned (.tuple (byteV s.data.toList[p]?)) ∧ w' = wr.drewN m) := fun m => byte_any sb s p (wr.drewN m) HS.out.at_.t0
    by_cases hlt : p < s.size
    · rw [text_at s p hlt, byteV_some] at HB
      have HC : Hid _ := drop_cons s p hlt
      have HI : Hid (∀ w, Calls Tryz.prog 31 #[.string ⟨#[32, 9, 10, 59, 38, 124, 40, 41, 60, 62]⟩, .int .u8 (s[p].toNat : Nat)] w fun e w' => e = .returned (.bool (wEnd s[p])) ∧ w' = w) := fun w => in_any [32, 9, 10, 59, 38, 124, 40, 41, 60, 62] s[p] w
      cases hwe : wEnd s[p] with
      | true =>
        have HRR : Hid (R = .ok (acc, s.data.toList.drop p)) := by
          unfold Hid
          rw [HEQ.out, word_end _ _ _ (.inr ⟨_, _, HC.out, hwe⟩)]
          simp [preR]
        rw [hwe] at HI
        generalize s[p] = c at HB HI
        clear hwe HEQ HC
        go_wp2_with fail
        go_quiet (first | (go_at_call 22; exact Calls.quiet_of_same (HB.out _)))
        obtain ⟨W4, hW4⟩ : ∃ W4, W4 = wr.drewN nq := ⟨_, rfl⟩
        have HS4 : Hid (Stp W b sb s p W4) := by rw [hW4]; exact HS.out.drewN nq
        have HO4 : Hid (PtOwn W4 W.heap.size (.slice ad acc.length cap) acc) := by rw [hW4]; exact HO.out
        rw [← hW4]
        clear hW4 c0 c1 HS HO HE HPO HB
        go_wp2_with fail
        refine Calls.mono (HI.out _) ?_
        rintro e w1 ⟨rfl, hw⟩
        obtain rfl := hw.symm
        clear hw
        go_wp2_with fail
        go_ret2
        rw [HRR.out]
        exact ⟨_, _, rfl, rfl, HO4.out, p, HS4.out, hp, rfl⟩
      | false =>
        obtain ⟨g', rfl⟩ : ∃ g', g = g' + 1 := ⟨g - 1, by omega⟩
        have HPA : Hid (∀ w, Rd w b sb s p → Env w ea → Calls Tryz.prog 32 #[.pointer (some ⟨b, 0, none⟩), .int .u8 (s[p].toNat : Nat)] w fun e w' => ∃ v ev, e = .returned (.tuple #[v, ev]) ∧ PartsE w b sb s ea (parts s.size s[p] (s.data.toList.drop (p + 1))) v ev w') := fun w h1 h2 => parts_any h1 h2 hs hlt hb64
        have hln := len_drop s (p + 1)
        cases hpt : parts s.size s[p] (s.data.toList.drop (p + 1)) with
        | error x =>
          have HRR : Hid (R = .error x) := by
            unfold Hid
            rw [HEQ.out, HC.out, word_err _ _ _ _ hwe x hpt]
            rfl
          rw [hwe] at HI
          rw [hpt] at HPA
          generalize s[p] = c at HB HI HPA
          clear hwe HEQ HC hpt hln
          go_wp2_with fail
          go_quiet (first | (go_at_call 22; exact Calls.quiet_of_same (HB.out _)))
          obtain ⟨W4, hW4⟩ : ∃ W4, W4 = wr.drewN nq := ⟨_, rfl⟩
          have HS4 : Hid (Stp W b sb s p W4) := by rw [hW4]; exact HS.out.drewN nq
          have hE4 : Env W4 ea := by rw [hW4]; exact HE.out.drewN nq
          have HP4 : Hid _ := HPA.out W4 HS4.out.at_ hE4
          rw [← hW4]
          clear hW4 c0 c1 HS HO HE HPO HB hE4 HPA
          go_wp2_with fail
          refine Calls.mono (HI.out _) ?_
          rintro e w1 ⟨rfl, hw⟩
          obtain rfl := hw.symm
          clear hw
          go_wp2_with fail
          refine Calls.mono HP4.out ?_
          rintro e w5 ⟨v, ev, rfl, ⟨a5, n5, k5, rfl⟩, ⟨q5, rfl, hx⟩, j5, hst5⟩
          have HX : Hid (AtEr w5 ea (.iface 79 (.pointer (some ⟨q5, 0, none⟩))) x) := ⟨q5, rfl, hx⟩
          have HS5 : Hid (Stp W b sb s j5 w5) := HS4.out.trans hst5
          clear hx hst5 HP4 HS4
          go_wp2_with fail
          go_ret2
          rw [HRR.out]
          exact ⟨_, _, rfl, rfl, HX.out, j5, HS5.out⟩
        | ok r =>
          obtain ⟨ps, u5⟩ := r
          obtain ⟨hq1, hq2, ⟨p0, r0, hq3, _⟩, _⟩ := parts_ok (by omega) hwe hpt
          have hpn : ps ≠ [] := by rw [hq3]; simp
          have HRR : Hid (R = preR (acc ++ ps) (word s.size g' u5)) := by
            unfold Hid
            rw [HEQ.out, HC.out, word_ok _ _ _ _ hwe ps u5 hpt, preR_pre]
          rw [hwe] at HI
          rw [hpt] at HPA
          generalize s[p] = c at HB HI HPA
          clear hwe HEQ HC hpt hq3
          go_wp2_with fail
          go_quiet (first | (go_at_call 22; exact Calls.quiet_of_same (HB.out _)))
          obtain ⟨W4, hW4⟩ : ∃ W4, W4 = wr.drewN nq := ⟨_, rfl⟩
          have HS4 : Hid (Stp W b sb s p W4) := by rw [hW4]; exact HS.out.drewN nq
          have HE4 : Hid (Env W4 ea) := by rw [hW4]; exact HE.out.drewN nq
          have HO4 : Hid (PtOwn W4 W.heap.size (.slice ad acc.length cap) acc) := by rw [hW4]; exact HO.out
          have HP4 : Hid _ := HPA.out W4 HS4.out.at_ HE4.out
          rw [← hW4]
          clear hW4 c0 c1 HS HO HE HB HPA
          go_wp2_with fail
          refine Calls.mono (HI.out _) ?_
          rintro e w1 ⟨rfl, hw⟩
          obtain rfl := hw.symm
          clear hw
          go_wp2_with fail
          refine Calls.mono HP4.out ?_
          rintro e w5 ⟨v, ev, rfl, rfl, hown5, j5, hst5, hj5, hu5⟩
          simp only at hown5 hu5
          have hlu : u5.length = s.size - j5 := by rw [hu5, len_drop]
          have hpj : p < j5 := by omega
          have hlj : ps.length + p ≤ j5 := by omega
          have hz4 : W.heap.size ≤ W4.heap.size := HS4.out.turn.size
          have HS5 : Hid (Stp W b sb s j5 w5) := HS4.out.trans hst5
          have HE5 : Hid (Env w5 ea) := HE4.out.stp hst5 hb64
          have HO5 : Hid (PtOwn w5 W.heap.size (.slice ad acc.length cap) acc) := HO4.out.turn hst5.turn (fun i e => by omega)
          have HU5 : Hid (u5 = s.data.toList.drop j5) := hu5
          obtain ⟨gg, gc, rfl, hgb, hgc⟩ := hown5.cells hpn
          have HGC : Hid (∀ j u, (ptCs ps)[j]? = some u → w5.cell? ((⟨gg, 0, none⟩ : Addr).add j) = some u) := hgc
          clear hst5 HP4 HS4 HE4 HO4 hu5 hown5 hgc hlu
          go_wp2_with (at_builtin; refine wpList_append_own_at _ rfl _ _ 29 rfl W.heap.size 36 i0 _ 5 48 Tryz.underlying29 hi hz0 hz1 hz2 rfl (by decide) _ _ _ rfl HO5.out ⟨gg, 0, none⟩ ps.length gc (ptCs ps) rfl (ptCs_length ps) HGC.out (ptC_one ps) (by have := maxLen_big; omega) (by omega) HS5.out.turn.size ?_; intro v6 w6 hown hgrow _ _)
          have hbel : Below W.heap.size w5 w6 := grown_own HS5.out.turn.size (Below.refl _ w5) HO5.out hgrow
          have HO6 : Hid (PtOwn w6 W.heap.size v6 (acc ++ ps)) := by
            unfold Hid PtOwn
            rw [ptCs_append, List.length_append]
            exact hown
          have HS6 : Hid (Stp W b sb s j5 w6) := HS5.out.under hlb hlsb hbel
          have HE6 : Hid (Env w6 ea) := HE5.out.under hbel (by omega)
          clear hown hgrow hbel HS5 HE5 HO5 HGC
          obtain ⟨ad6, cap6, rfl⟩ := HO6.out.form
          go_wp2_with fail
          refine ⟨⟨j5, g', acc ++ ps, rfl, rfl, by omega, hj5, by omega, by rw [List.length_append]; omega, HO6.out, by unfold Hid; rw [HRR.out, HU5.out], HS6.out, HE6.out⟩, ?_⟩
          rw [HS6.out.at_.pos, HPO.out]
          omega
    · have HRR : Hid (R = .ok (acc, s.data.toList.drop p)) := by
        unfold Hid
        rw [HEQ.out, word_end _ _ _ (.inl (drop_none s p hlt))]
        simp [preR]
      rw [at_none s p hlt, byteV_none] at HB
      clear HEQ
      go_wp2_with fail
      go_quiet (first | (go_at_call 22; exact Calls.quiet_of_same (HB.out _)))
      obtain ⟨W4, hW4⟩ : ∃ W4, W4 = wr.drewN nq := ⟨_, rfl⟩
      have HS4 : Hid (Stp W b sb s p W4) := by rw [hW4]; exact HS.out.drewN nq
      have HO4 : Hid (PtOwn W4 W.heap.size (.slice ad acc.length cap) acc) := by rw [hW4]; exact HO.out
      rw [← hW4]
      clear hW4 c0 c1 HS HO HE HPO HB
      go_wp2_with fail
      go_ret2
      rw [HRR.out]
      exact ⟨_, _, rfl, rfl, HO4.out, p, HS4.out, hp, rfl⟩
end Go.Proofs.YtnlbjgioleoihaaGreatDoor
