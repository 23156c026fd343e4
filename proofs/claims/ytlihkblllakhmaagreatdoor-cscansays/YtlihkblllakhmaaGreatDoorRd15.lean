/- A word. -/
import Derived.Test.YtlihkblllakhmaaGreatDoorRdC
namespace Go.Proofs.YtlihkblllakhmaaGreatDoor
open Go.RowKit
attribute [local go_sem] Oper.semAt_some

theorem WordV.shape {W w' : World} {b sb : Nat} {s : ByteArray} {ea : Nat → Addr} {R : Except Er (Wd × List UInt8)} {v : Array Value} {ev : Value} (h : WordV W b sb s ea R v ev w') : (∃ (n : Int) (bb : Bool) (pa : Option Addr) (pl pc : Nat), v = #[.int .i64 n, .bool bb, .slice pa pl pc]) ∧ (ev = .nilIface ∨ ∃ q, ev = .iface 119 (.pointer (some ⟨q, 0, none⟩))) ∧ ∃ j, Stp W b sb s j w' := by
  cases R with
  | ok q =>
    obtain ⟨rfl, ⟨pv, rfl, ho⟩, j, hj, _⟩ := h
    obtain ⟨pa, pc, rfl⟩ := ho.form
    exact ⟨⟨_, _, _, _, _, rfl⟩, .inl rfl, j, hj⟩
  | error x =>
    obtain ⟨rfl, ⟨q, rfl, _⟩, j, hj⟩ := h
    exact ⟨⟨_, _, _, _, _, rfl⟩, .inr ⟨q, rfl⟩, j, hj⟩
theorem WordV.put {W W1 w : World} {b sb g k : Nat} {s : ByteArray} {ea : Nat → Addr} {R : Except Er (Wd × List UInt8)} {v0 v1 v2 ev : Value} {cs : Array Value} (h : WordV W1 b sb s ea R #[v0, v1, v2] ev w) (hS : Stp W b sb s k W1) (hc : Cel w g 44 cs) (hb : b < W.heap.size) (hsb : sb < W.heap.size) (hg : W.heap.size ≤ g) (hg1 : g < W1.heap.size) : WordV W b sb s ea R #[v0, v1, v2] ev (putW w g v0 v1 v2) := by
  cases R with
  | ok q =>
    obtain ⟨rfl, ⟨pv, he, ho⟩, j, hj, hj1, hj2⟩ := h
    exact ⟨rfl, ⟨pv, he, (ho.turn (Turn.putW _ _ _ _ _) (fun i e => by omega)).lower (by omega)⟩, j, (hS.trans hj).put3 hb hsb hg _ _ _, hj1, hj2⟩
  | error x =>
    obtain ⟨he, hx, j, hj⟩ := h
    exact ⟨he, hx.putW hc _ _ _, j, (hS.trans hj).put3 hb hsb hg _ _ _⟩
theorem word_brace (s : ByteArray) (k : Nat) (hk : k < s.size) (h : s[k] = 123) : wordL s.size (s.data.toList.drop k) = bracedR s.size k (s.data.toList.drop (k + 1)) := by
  unfold wordL bracedR
  rw [drop_cons s k hk, if_pos (by rw [h]; rfl)]
  simp only [List.tail_cons, List.length_cons]
  rw [len_drop, show s.size - (s.size - (k + 1) + 1) = k by omega]
  cases passB 0 (s.data.toList.drop (k + 1)) with
  | none => rfl
  | some u => simp only
theorem word_quote (s : ByteArray) (k : Nat) (hk : k < s.size) (h : s[k] = 34) : wordL s.size (s.data.toList.drop k) = quotedR s.size k (s.size - k) (s.data.toList.drop (k + 1)) := by
  unfold wordL quotedR
  rw [drop_cons s k hk, if_neg (by rw [h]; simp), if_pos (by rw [h]; rfl)]
  simp only [List.tail_cons, List.length_cons]
  rw [len_drop, show s.size - (s.size - (k + 1) + 1) = k by omega, show s.size - (k + 1) + 1 = s.size - k by omega]
  cases partsL s.size [34] (s.size - k) (s.data.toList.drop (k + 1)) with
  | error x => rfl
  | ok q => rfl
theorem word_bare (s : ByteArray) (k : Nat) (hk : k < s.size) (h : s[k] ≠ 123) (h' : s[k] ≠ 34) : wordL s.size (s.data.toList.drop k) = bareR s.size k (s.data.toList.drop k) := by
  unfold wordL bareR
  have hl : s.size - (s.data.toList.drop k).length = k := by rw [len_drop]; omega
  rw [hl, drop_cons s k hk, if_neg (by simpa using h), if_neg (by simpa using h')]
  cases partsL s.size endS (s[k] :: s.data.toList.drop (k + 1)).length (s[k] :: s.data.toList.drop (k + 1)) with
  | error x => rfl
  | ok q => rfl
set_option maxRecDepth 100000 in
set_option maxHeartbeats 4000000 in
theorem word_any {W : World} {b sb k : Nat} {s : ByteArray} {ea : Nat → Addr} (h : Rd W b sb s k) (hE : Env W ea) (hs : s.size ≤ 8192) (hk : k < s.size) (hb64 : (ea 64).block ≤ b) :
    Calls Tryz.prog 37 #[.pointer (some ⟨b, 0, none⟩)] W fun e' w' => ∃ v ev, e' = .returned (.tuple #[.agg v, ev]) ∧ WordV W b sb s ea (wordL s.size (s.data.toList.drop k)) v ev w' := by
  have hlb := h.rd.lt
  have hlsb := h.src.lt
  obtain ⟨W0, hW0⟩ : ∃ W0, W0 = W.alloc (.cells zW 44) := ⟨_, rfl⟩
  have HS0 : Hid (Stp W b sb s k W0) := by rw [hW0]; exact (Stp.refl h).alloc _
  have HQ0 : Hid (Cel W0 W.heap.size 44 zW) := by rw [hW0]; exact Cel.new W _ _
  have HE0 : Hid (Env W0 ea) := by rw [hW0]; exact hE.below (below_new W _)
  have hz0 : W0.heap.size = W.heap.size + 1 := by rw [hW0]; simp
  have HW0 : Hid (W.alloc (.cells zW 44) = W0) := hW0.symm
  have c0 := HS0.out.at_.c0
  have c1 := HS0.out.at_.c1
  have HA : Hid (∀ m, Calls Tryz.prog 47 #[.pointer (some ⟨sb, 0, none⟩), .int .i64 (k : Nat), .string ⟨#[123]⟩] (W0.drewN m) fun e w' => e = .returned (.bool (s.data.toList[k]? == some 123)) ∧ w' = W0.drewN m) := fun m => hasb_any sb s 123 k (W0.drewN m) HS0.out.at_.t0
  have hnb : ¬ W.heap.size = b := by omega
  rw [text_at s k hk] at HA
  clear h hE hW0
  by_cases h123 : s[k] = 123
  · rw [show (some s[k] == some (123 : UInt8)) = true by simpa using h123] at HA
    have HF : Hid (∀ w, Stp W b sb s k w → Env w ea → Calls Tryz.prog 50 #[.pointer (some ⟨b, 0, none⟩)] w fun e' w' => ∃ v ev, e' = .returned (.tuple #[.agg v, ev]) ∧ WordV w b sb s ea (bracedR s.size k (s.data.toList.drop (k + 1))) v ev w') := fun w hw he => braced_any hw.at_ he hs hk h123 hb64
    rw [word_brace s k hk h123]
    generalize bracedR s.size k (s.data.toList.drop (k + 1)) = R at HF ⊢
    go_enter Tryz.func37, Tryz.ntmps37
    go_wp2_with fail
    rw [HW0.out]
    go_quiet (first | (go_at_call 47; exact Calls.quiet_of_same (HA.out _)))
    obtain ⟨W1, hW1⟩ : ∃ W1, W1 = W0.drewN nq := ⟨_, rfl⟩
    have HS1 : Hid (Stp W b sb s k W1) := by rw [hW1]; exact HS0.out.drewN nq
    have HQ1 : Hid (Cel W1 W.heap.size 44 zW) := by rw [hW1]; exact HQ0.out
    have HE1 : Hid (Env W1 ea) := by rw [hW1]; exact HE0.out.drewN nq
    have hz1 : W1.heap.size = W.heap.size + 1 := by rw [hW1]; exact hz0
    rw [← hW1]
    clear hW1 c0 c1 HA HS0 HQ0 HE0 HW0
    go_wp2_with fail
    refine Calls.mono (HF.out _ HS1.out HE1.out) ?_
    rintro e' w6 ⟨v, ev, rfl, hv⟩
    obtain ⟨⟨wn, wb, pa, pl, pc, rfl⟩, hev, j, hst⟩ := hv.shape
    have HQ6 : Hid (Cel w6 W.heap.size 44 zW) := HQ1.out.turn hst.turn (by omega)
    have HV6 : Hid (WordV W b sb s ea R #[.int .i64 wn, .bool wb, .slice pa pl pc] ev (putW w6 W.heap.size (.int .i64 wn) (.bool wb) (.slice pa pl pc))) := hv.put HS1.out HQ6.out hlb hlsb (Nat.le_refl _) (by omega)
    clear hv hst HS1 HQ1 HE1 HF
    have z0 : w6.cell? ⟨W.heap.size, 0, none⟩ = some (.int .i64 0) := HQ6.out.cell 0
    have z1 : w6.cell? ⟨W.heap.size, 1, none⟩ = some (.bool false) := HQ6.out.cell 1
    have z2 : w6.cell? ⟨W.heap.size, 2, none⟩ = some (.slice none 0 0) := HQ6.out.cell 2
    have zf0 := HQ6.out.frozen 0
    have zf1 := HQ6.out.frozen 1
    have zf2 := HQ6.out.frozen 2
    rcases hev with rfl | ⟨q, rfl⟩
    all_goals
      go_wp2_with fail
      refine bodyPost_ret (results_word (p := 2) (u := 3) rfl _ _ W.heap.size _ rfl (HQ6.out.put3 _ _ _) rfl) rfl ?_
      exact ⟨_, _, rfl, HV6.out⟩
  · rw [show (some s[k] == some (123 : UInt8)) = false by simpa using h123] at HA
    by_cases h34 : s[k] = 34
    · have HF : Hid (∀ w, Stp W b sb s k w → Env w ea → Calls Tryz.prog 51 #[.pointer (some ⟨b, 0, none⟩)] w fun e' w' => ∃ v ev, e' = .returned (.tuple #[.agg v, ev]) ∧ WordV w b sb s ea (quotedR s.size k (s.size - k) (s.data.toList.drop (k + 1))) v ev w') := fun w hw he => quoted_any hw.at_ he hs hk (by omega) hb64
      rw [word_quote s k hk h34]
      generalize quotedR s.size k (s.size - k) (s.data.toList.drop (k + 1)) = R at HF ⊢
      have HB : Hid (∀ w, Stp W b sb s k w → ∀ m, Calls Tryz.prog 47 #[.pointer (some ⟨sb, 0, none⟩), .int .i64 (k : Nat), .string ⟨#[34]⟩] (w.drewN m) fun e w' => e = .returned (.bool true) ∧ w' = w.drewN m) := fun w hw m => by
        have := hasb_any sb s 34 k (w.drewN m) hw.at_.t0
        rw [text_at s k hk, show (some s[k] == some (34 : UInt8)) = true by simpa using h34] at this
        exact this
      go_enter Tryz.func37, Tryz.ntmps37
      go_wp2_with fail
      rw [HW0.out]
      go_quiet (first | (go_at_call 47; exact Calls.quiet_of_same (HA.out _)))
      obtain ⟨W1, hW1⟩ : ∃ W1, W1 = W0.drewN nq := ⟨_, rfl⟩
      have HS1 : Hid (Stp W b sb s k W1) := by rw [hW1]; exact HS0.out.drewN nq
      have HQ1 : Hid (Cel W1 W.heap.size 44 zW) := by rw [hW1]; exact HQ0.out
      have HE1 : Hid (Env W1 ea) := by rw [hW1]; exact HE0.out.drewN nq
      have hz1 : W1.heap.size = W.heap.size + 1 := by rw [hW1]; exact hz0
      rw [← hW1]
      clear hW1 c0 c1 HA HS0 HQ0 HE0 HW0
      have c0 := HS1.out.at_.c0
      have c1 := HS1.out.at_.c1
      have HBB : Hid _ := HB.out W1 HS1.out
      go_wp2_with fail
      go_quiet (first | (go_at_call 47; exact Calls.quiet_of_same (HBB.out _)))
      obtain ⟨W2, hW2⟩ : ∃ W2, W2 = W1.drewN nq := ⟨_, rfl⟩
      have HS2 : Hid (Stp W b sb s k W2) := by rw [hW2]; exact HS1.out.drewN nq
      have HQ2 : Hid (Cel W2 W.heap.size 44 zW) := by rw [hW2]; exact HQ1.out
      have HE2 : Hid (Env W2 ea) := by rw [hW2]; exact HE1.out.drewN nq
      have hz2 : W2.heap.size = W.heap.size + 1 := by rw [hW2]; exact hz1
      rw [← hW2]
      clear hW2 c0 c1 HB HBB HS1 HQ1 HE1
      go_wp2_with fail
      refine Calls.mono (HF.out _ HS2.out HE2.out) ?_
      rintro e' w6 ⟨v, ev, rfl, hv⟩
      obtain ⟨⟨wn, wb, pa, pl, pc, rfl⟩, hev, j, hst⟩ := hv.shape
      have HQ6 : Hid (Cel w6 W.heap.size 44 zW) := HQ2.out.turn hst.turn (by omega)
      have HV6 : Hid (WordV W b sb s ea R #[.int .i64 wn, .bool wb, .slice pa pl pc] ev (putW w6 W.heap.size (.int .i64 wn) (.bool wb) (.slice pa pl pc))) := hv.put HS2.out HQ6.out hlb hlsb (Nat.le_refl _) (by omega)
      clear hv hst HS2 HQ2 HE2 HF
      have z0 : w6.cell? ⟨W.heap.size, 0, none⟩ = some (.int .i64 0) := HQ6.out.cell 0
      have z1 : w6.cell? ⟨W.heap.size, 1, none⟩ = some (.bool false) := HQ6.out.cell 1
      have z2 : w6.cell? ⟨W.heap.size, 2, none⟩ = some (.slice none 0 0) := HQ6.out.cell 2
      have zf0 := HQ6.out.frozen 0
      have zf1 := HQ6.out.frozen 1
      have zf2 := HQ6.out.frozen 2
      rcases hev with rfl | ⟨q, rfl⟩
      all_goals
        go_wp2_with fail
        refine bodyPost_ret (results_word (p := 2) (u := 3) rfl _ _ W.heap.size _ rfl (HQ6.out.put3 _ _ _) rfl) rfl ?_
        exact ⟨_, _, rfl, HV6.out⟩
    · have HF : Hid (∀ w, Stp W b sb s k w → Env w ea → Calls Tryz.prog 52 #[.pointer (some ⟨b, 0, none⟩)] w fun e' w' => ∃ v ev, e' = .returned (.tuple #[.agg v, ev]) ∧ WordV w b sb s ea (bareR s.size k (s.data.toList.drop k)) v ev w') := fun w hw he => bare_any hw.at_ he hs (by omega) hb64
      rw [word_bare s k hk h123 h34]
      generalize bareR s.size k (s.data.toList.drop k) = R at HF ⊢
      have HB : Hid (∀ w, Stp W b sb s k w → ∀ m, Calls Tryz.prog 47 #[.pointer (some ⟨sb, 0, none⟩), .int .i64 (k : Nat), .string ⟨#[34]⟩] (w.drewN m) fun e w' => e = .returned (.bool false) ∧ w' = w.drewN m) := fun w hw m => by
        have := hasb_any sb s 34 k (w.drewN m) hw.at_.t0
        rw [text_at s k hk, show (some s[k] == some (34 : UInt8)) = false by simpa using h34] at this
        exact this
      go_enter Tryz.func37, Tryz.ntmps37
      go_wp2_with fail
      rw [HW0.out]
      go_quiet (first | (go_at_call 47; exact Calls.quiet_of_same (HA.out _)))
      obtain ⟨W1, hW1⟩ : ∃ W1, W1 = W0.drewN nq := ⟨_, rfl⟩
      have HS1 : Hid (Stp W b sb s k W1) := by rw [hW1]; exact HS0.out.drewN nq
      have HQ1 : Hid (Cel W1 W.heap.size 44 zW) := by rw [hW1]; exact HQ0.out
      have HE1 : Hid (Env W1 ea) := by rw [hW1]; exact HE0.out.drewN nq
      have hz1 : W1.heap.size = W.heap.size + 1 := by rw [hW1]; exact hz0
      rw [← hW1]
      clear hW1 c0 c1 HA HS0 HQ0 HE0 HW0
      have c0 := HS1.out.at_.c0
      have c1 := HS1.out.at_.c1
      have HBB : Hid _ := HB.out W1 HS1.out
      go_wp2_with fail
      go_quiet (first | (go_at_call 47; exact Calls.quiet_of_same (HBB.out _)))
      obtain ⟨W2, hW2⟩ : ∃ W2, W2 = W1.drewN nq := ⟨_, rfl⟩
      have HS2 : Hid (Stp W b sb s k W2) := by rw [hW2]; exact HS1.out.drewN nq
      have HQ2 : Hid (Cel W2 W.heap.size 44 zW) := by rw [hW2]; exact HQ1.out
      have HE2 : Hid (Env W2 ea) := by rw [hW2]; exact HE1.out.drewN nq
      have hz2 : W2.heap.size = W.heap.size + 1 := by rw [hW2]; exact hz1
      rw [← hW2]
      clear hW2 c0 c1 HB HBB HS1 HQ1 HE1
      go_wp2_with fail
      refine Calls.mono (HF.out _ HS2.out HE2.out) ?_
      rintro e' w6 ⟨v, ev, rfl, hv⟩
      obtain ⟨⟨wn, wb, pa, pl, pc, rfl⟩, hev, j, hst⟩ := hv.shape
      have HQ6 : Hid (Cel w6 W.heap.size 44 zW) := HQ2.out.turn hst.turn (by omega)
      have HV6 : Hid (WordV W b sb s ea R #[.int .i64 wn, .bool wb, .slice pa pl pc] ev (putW w6 W.heap.size (.int .i64 wn) (.bool wb) (.slice pa pl pc))) := hv.put HS2.out HQ6.out hlb hlsb (Nat.le_refl _) (by omega)
      clear hv hst HS2 HQ2 HE2 HF
      have z0 : w6.cell? ⟨W.heap.size, 0, none⟩ = some (.int .i64 0) := HQ6.out.cell 0
      have z1 : w6.cell? ⟨W.heap.size, 1, none⟩ = some (.bool false) := HQ6.out.cell 1
      have z2 : w6.cell? ⟨W.heap.size, 2, none⟩ = some (.slice none 0 0) := HQ6.out.cell 2
      have zf0 := HQ6.out.frozen 0
      have zf1 := HQ6.out.frozen 1
      have zf2 := HQ6.out.frozen 2
      rcases hev with rfl | ⟨q, rfl⟩
      all_goals
        go_wp2_with fail
        refine bodyPost_ret (results_word (p := 2) (u := 3) rfl _ _ W.heap.size _ rfl (HQ6.out.put3 _ _ _) rfl) rfl ?_
        exact ⟨_, _, rfl, HV6.out⟩
end Go.Proofs.YtlihkblllakhmaaGreatDoor
