/- A dollar's part. -/
import Derived.Test.YtlihkblllakhmaaGreatDoorRd7
namespace Go.Proofs.YtlihkblllakhmaaGreatDoor
open Go.RowKit
attribute [local go_sem] Oper.semAt_some

theorem dolB_two (s : ByteArray) (k : Nat) (h : dolB (s.data.toList.drop k) = true) : ∃ (h1 : k + 1 < s.size), s.data.toList.drop k = 36 :: s[k + 1] :: s.data.toList.drop (k + 2) ∧ dolC s[k + 1] = true := by
  rw [dolB_drop, Bool.and_eq_true, beq_iff_eq] at h
  obtain ⟨h0, h1⟩ := h
  have hk : k < s.size := by simpa using (List.getElem?_eq_some_iff.1 h0).1
  by_cases h2 : k + 1 < s.size
  · refine ⟨h2, ?_, ?_⟩
    · rw [drop_cons s k hk, drop_cons s (k + 1) h2]
      rw [text_at s k hk] at h0
      rw [Option.some.inj h0]
    · rw [text_at s (k + 1) h2] at h1
      exact h1
  · rw [at_none s (k + 1) h2] at h1
    cases h1
theorem drop_add (s : ByteArray) (k n : Nat) (h : k + 1 < s.size) : (s[k + 1] :: s.data.toList.drop (k + 2)).drop n = s.data.toList.drop (k + 1 + n) := by
  rw [← drop_cons s (k + 1) h, List.drop_drop]
set_option maxRecDepth 100000 in
set_option maxHeartbeats 4000000 in
theorem dollar_any {W : World} {b sb k : Nat} {s : ByteArray} {ea : Nat → Addr} (h : Rd W b sb s k) (hE : Env W ea) (hs : s.size < 1099511627776) (hd : dolB (s.data.toList.drop k) = true) (hb64 : (ea 64).block ≤ b) :
    Calls Tryz.prog 91 #[.pointer (some ⟨b, 0, none⟩)] W fun e' w' => ∃ p ev, e' = .returned (.tuple #[.agg (ptC p).toArray, ev]) ∧ PartV W b sb s ea (dollar s.size (s.data.toList.drop k)) p ev w' := by
  obtain ⟨h1, hD, hdc⟩ := dolB_two s k hd
  have hlb := h.rd.lt
  have hlsb := h.src.lt
  have hpos : s.size - ((s.data.toList.drop (k + 2)).length + 2) = k := by rw [len_drop]; omega
  obtain ⟨W0, hW0⟩ : ∃ W0, W0 = W.alloc (.cells zC 59) := ⟨_, rfl⟩
  have HS0 : Hid (Stp W b sb s k W0) := by rw [hW0]; exact (Stp.refl h).alloc _
  have HQ0 : Hid (Cel W0 W.heap.size 59 zC) := by rw [hW0]; exact Cel.new W _ _
  have HE0 : Hid (Env W0 ea) := by rw [hW0]; exact hE.below (below_new W _)
  have HW0 : Hid (W.alloc (.cells zC 59) = W0) := hW0.symm
  have HDR : Hid (dollar s.size (s.data.toList.drop k) = if s[k + 1] = 42 then .ok (⟨2, k, 0, [42]⟩, s.data.toList.drop (k + 2)) else if cnts s[k + 1] then .ok (⟨4, k, s[k + 1].toNat - 48, []⟩, s.data.toList.drop (k + 2)) else if 20 < (nrun (s.data.toList.drop (k + 1))).length then .error ⟨0, k⟩ else .ok (⟨2, k, 0, nrun (s.data.toList.drop (k + 1))⟩, s.data.toList.drop (k + 1 + (nrun (s.data.toList.drop (k + 1))).length))) := by
    unfold Hid
    have eD : s.data.toList.drop (k + 1) = s[k + 1] :: s.data.toList.drop (k + 2) := drop_cons s (k + 1) h1
    rw [hD, dollar, hpos, drop_add s k _ h1, ← eD]
  rw [HDR.out]
  have hlen : k + 1 + (nrun (s.data.toList.drop (k + 1))).length ≤ s.size := by
    have := nrun_len (s.data.toList.drop (k + 1))
    rw [len_drop] at this
    omega
  have HBY : Hid (Calls Tryz.prog 48 #[.pointer (some ⟨sb, 0, none⟩), .int .i64 ((k : Int) + 1)] W0 fun e w' => e = .returned (.tuple #[.int .u8 (s[k + 1].toNat : Nat), .bool true]) ∧ w' = W0) := by
    have := byte_any sb s (k + 1) W0 HS0.out.at_.t0
    rw [text_at s (k + 1) h1, byteV_some] at this
    exact this
  have c0 := HS0.out.at_.c0
  have c1 := HS0.out.at_.c1
  have f1 := HS0.out.at_.f1
  have cW : W.cell? ⟨b, 1, none⟩ = some (.int .i64 (k : Nat)) := h.c1
  have cW0 : W.cell? ⟨b, 0, none⟩ = some (.pointer (some ⟨sb, 0, none⟩)) := h.c0
  have hnb : ¬ W.heap.size = b := by omega
  have hbn : ¬ b = W.heap.size := by omega
  have hsn : ¬ sb = W.heap.size := by omega
  have hns : ¬ W.heap.size = sb := by omega
  have HSS : Hid (Stp W b sb s (k + 2) (W0.setCell ⟨b, 1, none⟩ (.int .i64 ((k : Int) + 2)))) := set_step HS0.out _ _ (by omega)
  have HQS : Hid (Cel (W0.setCell ⟨b, 1, none⟩ (.int .i64 ((k : Int) + 2))) W.heap.size 59 zC) := HQ0.out.other (by omega) _
  have HES : Hid (Env (W0.setCell ⟨b, 1, none⟩ (.int .i64 ((k : Int) + 2))) ea) := HE0.out.turn (S := fun i => i = b) (Turn.setCell (S := fun i => i = b) (p := ⟨b, 1, none⟩) (Turn.refl _ W0) (fun _ => rfl) _) (fun i e => by omega)
  clear h hE hW0 hpos hD hd HDR
  have HN : Hid (∀ w, Stp W b sb s (k + 2) w → Calls Tryz.prog 104 #[.pointer (some ⟨sb, 0, none⟩), .int .i64 ((k : Int) + 1)] w fun e w' => e = .returned (str (nrun (s.data.toList.drop (k + 1)))) ∧ w' = w) := fun w hw => sname_any sb s (k + 1) w hw.at_.t0 (by omega)
  have HK : Hid (∀ w, Calls Tryz.prog 103 #[.int .u8 (s[k + 1].toNat : Nat)] w fun e w' => e = .returned (.bool (cnts s[k + 1])) ∧ w' = w) := fun w => by
    have := counts_any (s[k + 1].toNat : Nat) w
    rw [cntB_byte] at this
    exact this
  generalize nrun (s.data.toList.drop (k + 1)) = nm at HN hlen ⊢
  generalize s[k + 1] = c at HBY HK hdc ⊢
  have z0 : W0.cell? ⟨W.heap.size, 0, none⟩ = some (.int .i64 0) := HQ0.out.cell 0
  have z1 : W0.cell? ⟨W.heap.size, 1, none⟩ = some (.int .i64 0) := HQ0.out.cell 1
  have z2 : W0.cell? ⟨W.heap.size, 2, none⟩ = some (.int .i64 0) := HQ0.out.cell 2
  have z3 : W0.cell? ⟨W.heap.size, 3, none⟩ = some (.string ⟨#[]⟩) := HQ0.out.cell 3
  have zf0 := HQ0.out.frozen 0
  have zf1 := HQ0.out.frozen 1
  have zf2 := HQ0.out.frozen 2
  have zf3 := HQ0.out.frozen 3
  by_cases h42 : c = 42
  · subst h42
    rw [if_pos rfl]
    clear HN HK hdc hlen
    go_enter Tryz.func91, Tryz.ntmps91
    go_wp2_with fail
    rw [HW0.out]
    refine Calls.mono HBY.out ?_
    rintro e w1 ⟨rfl, hw1⟩
    obtain rfl := hw1.symm
    clear hw1
    go_wp2_with fail
    refine bodyPost_ret (results_part (p := 2) (u := 3) rfl _ _ W.heap.size _ rfl (HQS.out.put4 _ _ _ _) rfl) rfl ?_
    exact ⟨⟨2, k, 0, [42]⟩, _, rfl, PartV.put (R := .ok (⟨2, k, 0, [42]⟩, s.data.toList.drop (k + 2))) ⟨rfl, rfl, k + 2, HSS.out, by omega, rfl⟩ HQS.out hlb hlsb (Nat.le_refl _) _ _ _ _⟩
  · rw [if_neg h42]
    have n42 : ((c.toNat : Int) == 42) = false := byte_ne c 42 h42
    clear h42
    cases hct : cnts c with
    | true =>
      rw [hct] at HK
      rw [if_pos rfl]
      have hcn : 49 ≤ c.toNat ∧ c.toNat ≤ 57 := by simpa [cnts] using hct
      have hwr : IntKind.u8.wrap ((c.toNat : Int) - 48) = ((c.toNat - 48 : Nat) : Int) := by
        have : ((c.toNat - 48 : Nat) : Int) = (c.toNat : Int) - 48 := by omega
        rw [this, IntKind.wrap_u8]; omega
      have hwr2 : IntKind.i64.wrap ((c.toNat - 48 : Nat) : Int) = ((c.toNat - 48 : Nat) : Int) := by rw [IntKind.wrap_i64]; omega
      clear HN hdc hlen hct
      go_enter Tryz.func91, Tryz.ntmps91
      go_wp2_with fail
      rw [HW0.out]
      refine Calls.mono HBY.out ?_
      rintro e w1 ⟨rfl, hw1⟩
      obtain rfl := hw1.symm
      clear hw1
      go_wp2_with fail
      refine Calls.mono (HK.out _) ?_
      rintro e w2 ⟨rfl, hw2⟩
      obtain rfl := hw2.symm
      clear hw2
      go_wp2_with fail
      refine bodyPost_ret (results_part (p := 2) (u := 3) rfl _ _ W.heap.size _ rfl (HQS.out.put4 _ _ _ _) rfl) rfl ?_
      exact ⟨⟨4, k, c.toNat - 48, []⟩, _, rfl, PartV.put (R := .ok (⟨4, k, c.toNat - 48, []⟩, s.data.toList.drop (k + 2))) ⟨rfl, rfl, k + 2, HSS.out, by omega, rfl⟩ HQS.out hlb hlsb (Nat.le_refl _) _ _ _ _⟩
    | false =>
      rw [hct] at HK
      rw [if_neg (by simp)]
      clear hdc hct
      obtain ⟨W1, hW1⟩ : ∃ W1, W1 = W0.setCell ⟨b, 1, none⟩ (.int .i64 ((k : Int) + 2)) := ⟨_, rfl⟩
      rw [← hW1] at HSS HQS HES
      have HW1 : Hid (W0.setCell ⟨b, 1, none⟩ (.int .i64 ((k : Int) + 2)) = W1) := hW1.symm
      have HN1 : Hid _ := HN.out W1 HSS.out
      have d0 := HSS.out.at_.c0
      have d1 : W1.cell? ⟨b, 1, none⟩ = some (.int .i64 ((k : Int) + 2)) := HSS.out.at_.c1
      have e1 := HSS.out.at_.f1
      have g0 := HES.out.cell 6 (by omega)
      clear hW1 HN z0 z1 z2 z3 zf0 zf1 zf2 zf3
      have z0 : W1.cell? ⟨W.heap.size, 0, none⟩ = some (.int .i64 0) := HQS.out.cell 0
      have z1 : W1.cell? ⟨W.heap.size, 1, none⟩ = some (.int .i64 0) := HQS.out.cell 1
      have z2 : W1.cell? ⟨W.heap.size, 2, none⟩ = some (.int .i64 0) := HQS.out.cell 2
      have z3 : W1.cell? ⟨W.heap.size, 3, none⟩ = some (.string ⟨#[]⟩) := HQS.out.cell 3
      have zf0 := HQS.out.frozen 0
      have zf1 := HQS.out.frozen 1
      have zf2 := HQS.out.frozen 2
      have zf3 := HQS.out.frozen 3
      by_cases h20 : 20 < nm.length
      · rw [if_pos h20]
        have h20' : (20 : Int) < (nm.length : Int) := by omega
        go_enter Tryz.func91, Tryz.ntmps91
        go_wp2_with fail
        rw [HW0.out]
        refine Calls.mono HBY.out ?_
        rintro e w1 ⟨rfl, hw1⟩
        obtain rfl := hw1.symm
        clear hw1
        go_wp2_with fail
        rw [HW1.out]
        refine Calls.mono (HK.out _) ?_
        rintro e w2 ⟨rfl, hw2⟩
        obtain rfl := hw2.symm
        clear hw2
        go_wp2_with fail
        refine Calls.mono HN1.out ?_
        rintro e w2 ⟨rfl, hw2⟩
        obtain rfl := hw2.symm
        clear hw2
        go_wp2_with fail
        refine (fails_any k _ W1).mono ?_
        rintro e w2 ⟨rfl, hq, hb2⟩
        have HQ2 : Hid (Cel w2 W.heap.size 59 zC) := HQS.out.below hb2 HQS.out.lt
        have HX : Hid (AtEr w2 ea (.iface 119 (.pointer (some ⟨W1.heap.size, 0, none⟩))) ⟨0, k⟩) := ⟨_, rfl, hq⟩
        have HS2 : Hid (Stp W b sb s (k + 2) w2) := HSS.out.below hb2
        clear hq hb2 z0 z1 z2 z3 zf0 zf1 zf2 zf3
        have z0 : w2.cell? ⟨W.heap.size, 0, none⟩ = some (.int .i64 0) := HQ2.out.cell 0
        have z1 : w2.cell? ⟨W.heap.size, 1, none⟩ = some (.int .i64 0) := HQ2.out.cell 1
        have z2 : w2.cell? ⟨W.heap.size, 2, none⟩ = some (.int .i64 0) := HQ2.out.cell 2
        have z3 : w2.cell? ⟨W.heap.size, 3, none⟩ = some (.string ⟨#[]⟩) := HQ2.out.cell 3
        have zf0 := HQ2.out.frozen 0
        have zf1 := HQ2.out.frozen 1
        have zf2 := HQ2.out.frozen 2
        have zf3 := HQ2.out.frozen 3
        go_wp2_with fail
        refine bodyPost_ret (results_part (p := 2) (u := 3) rfl _ _ W.heap.size _ rfl (HQ2.out.put4 _ _ _ _) rfl) rfl ?_
        exact ⟨ptZ, _, rfl, PartV.put (R := .error ⟨0, k⟩) ⟨HX.out, k + 2, HS2.out⟩ HQ2.out hlb hlsb (Nat.le_refl _) _ _ _ _⟩
      · rw [if_neg h20]
        have h20' : ¬ (20 : Int) < (nm.length : Int) := by omega
        go_enter Tryz.func91, Tryz.ntmps91
        go_wp2_with fail
        rw [HW0.out]
        refine Calls.mono HBY.out ?_
        rintro e w1 ⟨rfl, hw1⟩
        obtain rfl := hw1.symm
        clear hw1
        go_wp2_with fail
        rw [HW1.out]
        refine Calls.mono (HK.out _) ?_
        rintro e w2 ⟨rfl, hw2⟩
        obtain rfl := hw2.symm
        clear hw2
        go_wp2_with fail
        refine Calls.mono HN1.out ?_
        rintro e w2 ⟨rfl, hw2⟩
        obtain rfl := hw2.symm
        clear hw2
        go_wp2_with fail
        have HS2 : Hid (Stp W b sb s (k + 1 + nm.length) (W1.setCell ⟨b, 1, none⟩ (.int .i64 ((k : Int) + 1 + (nm.length : Int))))) := set_step HSS.out _ _ (by omega)
        have HQ2 : Hid (Cel (W1.setCell ⟨b, 1, none⟩ (.int .i64 ((k : Int) + 1 + (nm.length : Int)))) W.heap.size 59 zC) := HQS.out.other (by omega) _
        refine bodyPost_ret (results_part (p := 2) (u := 3) rfl _ _ W.heap.size _ rfl (HQ2.out.put4 _ _ _ _) rfl) rfl ?_
        exact ⟨⟨2, k, 0, nm⟩, _, rfl, PartV.put (R := .ok (⟨2, k, 0, nm⟩, s.data.toList.drop (k + 1 + nm.length))) ⟨rfl, rfl, k + 1 + nm.length, HS2.out, hlen, rfl⟩ HQ2.out hlb hlsb (Nat.le_refl _) _ _ _ _⟩
end Go.Proofs.YtlihkblllakhmaaGreatDoor
