/- Living text. -/
import Derived.Test.YtnlbjgioleoihaaGreatDoorRd12
namespace Go.Proofs.YtnlbjgioleoihaaGreatDoor
open Go.RowKit
attribute [local go_sem] Oper.semAt_some

/-- So far the text lives. -/
def LivT (s : ByteArray) (a k : Nat) : Prop := liv (s.data.toList.drop a) = (s.data.toList.drop a).take (k - a) ++ liv (s.data.toList.drop k)
theorem LivT.more {s : ByteArray} {a k : Nat} (hak : a ≤ k) (h : k < s.size) (hc : tEnd s[k] = false) (hd : dolB (s.data.toList.drop k) = false) (he : LivT s a k) : LivT s a (k + 1) := by
  unfold LivT at *
  have h1 : liv (s.data.toList.drop k) = s[k] :: liv (s.data.toList.drop (k + 1)) := by
    rw [drop_cons s k h] at hd ⊢
    rw [liv, if_neg (by rw [hc, hd]; simp)]
  rw [he, h1, seg_snoc s a k hak h]
  simp
theorem LivT.stop {s : ByteArray} {a k : Nat} (hak : a ≤ k) (hk : k ≤ s.size) (h0 : liv (s.data.toList.drop k) = []) (he : LivT s a k) : s.extract a k = ⟨(liv (s.data.toList.drop a)).toArray⟩ ∧ (liv (s.data.toList.drop a)).length = k - a := by
  unfold LivT at he
  rw [h0, List.append_nil] at he
  refine ⟨by rw [he, Lib.extract_eq], ?_⟩
  rw [he, List.length_take, len_drop]
  omega
theorem liv_end (s : ByteArray) (k : Nat) (h : ¬ k < s.size) : liv (s.data.toList.drop k) = [] := by rw [drop_none s k h]; rfl
theorem liv_tEnd (s : ByteArray) (k : Nat) (h : k < s.size) (hc : tEnd s[k] = true) : liv (s.data.toList.drop k) = [] := by rw [drop_cons s k h, liv, if_pos (by rw [hc]; rfl)]
theorem liv_dol (s : ByteArray) (k : Nat) (h : k < s.size) (hd : dolB (s.data.toList.drop k) = true) : liv (s.data.toList.drop k) = [] := by
  rw [drop_cons s k h] at hd ⊢
  rw [liv, if_pos (by rw [hd]; simp)]
set_option maxRecDepth 100000 in
set_option maxHeartbeats 4000000 in
theorem living_any {W : World} {b sb k : Nat} {s : ByteArray} (h : Rd W b sb s k) (hs : s.size < 1099511627776) (hk : k ≤ s.size) :
    Calls Tryz.prog 47 #[.pointer (some ⟨b, 0, none⟩)] W fun e w' => e = .returned (.agg (ptC ⟨1, k, 0, false, liv (s.data.toList.drop k)⟩).toArray) ∧ Stp W b sb s (k + (liv (s.data.toList.drop k)).length) w' ∧ k + (liv (s.data.toList.drop k)).length ≤ s.size := by
  have hlb := h.rd.lt
  have hlsb := h.src.lt
  have cW := h.c1
  obtain ⟨W0, hW0⟩ : ∃ W0, W0 = W.alloc (.cells zC 36) := ⟨_, rfl⟩
  have HS0 : Hid (Stp W b sb s k W0) := by rw [hW0]; exact (Stp.refl h).alloc _
  have HQ0 : Hid (Cel W0 W.heap.size 36 zC) := by rw [hW0]; exact Cel.new W _ _
  have HW0 : Hid (W.alloc (.cells zC 36) = W0) := hW0.symm
  have HLE : Hid (LivT s k k) := by simp [Hid, LivT]
  clear h hW0
  go_enter Tryz.func47, Tryz.ntmps47
  go_wp2_with fail
  rw [HW0.out]
  go_loopw [] (fun wr => ∃ p : Nat, k ≤ p ∧ p ≤ s.size ∧ Hid (LivT s k p) ∧ Hid (Stp W b sb s p wr) ∧ Hid (Cel wr W.heap.size 36 zC)) (fun wr => s.size + 2 - posOf wr b)
  case atStart => exact ⟨k, Nat.le_refl _, hk, HLE.out, HS0.out, HQ0.out⟩
  case round =>
    obtain ⟨p, hkp, hp, HLT, HS, HQ⟩ := hrel
    clear HS0 HQ0 HW0 HLE cW
    have HPO : Hid (posOf wr b = p) := HS.out.at_.pos
    have c0 := HS.out.at_.c0
    have c1 := HS.out.at_.c1
    have HB : Hid (∀ m, Calls Tryz.prog 22 #[.pointer (some ⟨sb, 0, none⟩), .int .i64 (p : Nat)] (wr.drewN m) fun e w' => e = .returned (.tuple (byteV s.data.toList[p]?)) ∧ w' = wr.drewN m) := fun m => byte_any sb s p (wr.drewN m) HS.out.at_.t0
    by_cases hlt : p < s.size
    · rw [text_at s p hlt, byteV_some] at HB
      have HI : Hid (∀ w, Calls Tryz.prog 31 #[.string ⟨#[32, 9, 10, 59, 38, 124, 40, 41, 60, 62, 92, 39, 34]⟩, .int .u8 (s[p].toNat : Nat)] w fun e w' => e = .returned (.bool (tEnd s[p])) ∧ w' = w) := fun w => in_any [32, 9, 10, 59, 38, 124, 40, 41, 60, 62, 92, 39, 34] s[p] w
      cases hte : tEnd s[p] with
      | true =>
        have HST : Hid _ := HLT.out.stop hkp hp (liv_tEnd s p hlt hte)
        rw [hte] at HI
        generalize s[p] = c at HB HI
        clear hte HLT
        go_wp2_with fail
        go_quiet (first | (go_at_call 22; exact Calls.quiet_of_same (HB.out _)))
        obtain ⟨W4, hW4⟩ : ∃ W4, W4 = wr.drewN nq := ⟨_, rfl⟩
        have HS4 : Hid (Stp W b sb s p W4) := by rw [hW4]; exact HS.out.drewN nq
        have HQ4 : Hid (Cel W4 W.heap.size 36 zC) := by rw [hW4]; exact HQ.out
        rw [← hW4]
        clear hW4 c0 c1 HS HQ HPO HB
        go_wp2_with fail
        refine Calls.mono (HI.out _) ?_
        rintro e w1 ⟨rfl, hw⟩
        obtain rfl := hw.symm
        clear hw
        go_wp2_with fail
        have d0 := HS4.out.at_.c0
        have d1 : W4.cell? ⟨b, 1, none⟩ = some (.int .i64 (p : Nat)) := HS4.out.at_.c1
        have t0 := HS4.out.at_.t0
        have z0 : W4.cell? ⟨W.heap.size, 0, none⟩ = some (.int .i64 0) := HQ4.out.cell 0
        have z1 : W4.cell? ⟨W.heap.size, 1, none⟩ = some (.int .i64 0) := HQ4.out.cell 1
        have z2 : W4.cell? ⟨W.heap.size, 2, none⟩ = some (.int .i64 0) := HQ4.out.cell 2
        have z3 : W4.cell? ⟨W.heap.size, 3, none⟩ = some (.bool false) := HQ4.out.cell 3
        have z4 : W4.cell? ⟨W.heap.size, 4, none⟩ = some (.string ⟨#[]⟩) := HQ4.out.cell 4
        have zf0 := HQ4.out.frozen 0
        have zf1 := HQ4.out.frozen 1
        have zf2 := HQ4.out.frozen 2
        have zf3 := HQ4.out.frozen 3
        have zf4 := HQ4.out.frozen 4
        have HSL : Hid (Calls Tryz.prog 54 #[.pointer (some ⟨sb, 0, none⟩), .int .i64 (k : Nat), .int .i64 (p : Nat)] W4.drew fun e w' => e = .returned (.string (s.extract (k) (p))) ∧ w' = W4.drew) := slice_any sb s (k) (p) W4.drew t0 (by omega) (by omega)
        have hbn : ¬ b = W.heap.size := by omega
        have hnb : ¬ W.heap.size = b := by omega
        have hsn : ¬ sb = W.heap.size := by omega
        have hns : ¬ W.heap.size = sb := by omega
        go_region_held3 (fun w' => w'.cell? ⟨b, 0, none⟩ = some (.pointer (some ⟨sb, 0, none⟩)) ∧ w'.cell? ⟨b, 1, none⟩ = some (.int .i64 (p : Nat)) ∧ w'.cell? ⟨sb, 0, none⟩ = some (.string s)) (go_keep) (first | (go_at_call 54; refine Calls.mono HSL.out ?_; rintro e w2 ⟨rfl, rfl⟩))
        obtain ⟨W5, hW5⟩ : ∃ W5, W5 = (((((W4.setCell ⟨W.heap.size, 0, none⟩ (.int .i64 1)).setCell ⟨W.heap.size, 1, none⟩ (.int .i64 (k : Nat))).setCell ⟨W.heap.size, 2, none⟩ (.int .i64 0)).setCell ⟨W.heap.size, 3, none⟩ (.bool false)).setCell ⟨W.heap.size, 4, none⟩ (.string (s.extract (k) (p)))).drew := ⟨_, rfl⟩
        have HQ5 : Hid (Cel W5 W.heap.size 36 #[.int .i64 1, .int .i64 (k : Nat), .int .i64 0, .bool false, .string (s.extract (k) (p))]) := by rw [hW5]; exact Cel.drew (HQ4.out.put5 (.int .i64 1) (.int .i64 (k : Nat)) (.int .i64 0) (.bool false) (.string (s.extract (k) (p))))
        have HS5 : Hid (Stp W b sb s (p) W5) := by rw [hW5]; exact (HS4.out.put5 hlb hlsb (Nat.le_refl _) (.int .i64 1) (.int .i64 (k : Nat)) (.int .i64 0) (.bool false) (.string (s.extract (k) (p)))).drew
        rw [← hW5]
        clear hW5 HS4 HQ4
        go_wp2_with fail
        refine bodyPost_ret (results_one (p := 2) rfl _ _ W.heap.size _ rfl HQ5.out rfl) rfl ?_
        rw [HST.out.1, HST.out.2, show k + (p - k) = p by omega]
        exact ⟨rfl, HS5.out, hp⟩
      | false =>
        rw [hte] at HI
        have HDO : Hid (∀ m, Calls Tryz.prog 45 #[.pointer (some ⟨b, 0, none⟩), .int .i64 (p : Nat)] (wr.drewN m) fun e w' => e = .returned (.bool (dolB (s.data.toList.drop p))) ∧ w' = wr.drewN m) := fun m => dollarAt_any (HS.out.drewN m).at_ p (by omega) (by omega)
        cases hd : dolB (s.data.toList.drop p) with
        | true =>
          have HST : Hid _ := HLT.out.stop hkp hp (liv_dol s p hlt hd)
          rw [hd] at HDO
          generalize s[p] = c at HB HI
          clear hte HLT hd
          go_wp2_with fail
          go_quiet (first | (go_at_call 22; exact Calls.quiet_of_same (HB.out _)))
          obtain ⟨W4, hW4⟩ : ∃ W4, W4 = wr.drewN nq := ⟨_, rfl⟩
          have HS4 : Hid (Stp W b sb s p W4) := by rw [hW4]; exact HS.out.drewN nq
          have HQ4 : Hid (Cel W4 W.heap.size 36 zC) := by rw [hW4]; exact HQ.out
          have HDO4 : Hid (Calls Tryz.prog 45 #[.pointer (some ⟨b, 0, none⟩), .int .i64 (p : Nat)] W4 fun e w' => e = .returned (.bool true) ∧ w' = W4) := by rw [hW4]; exact HDO.out nq
          rw [← hW4]
          clear hW4 c0 c1 HS HQ HPO HB HDO
          have k1 := HS4.out.at_.c1
          go_wp2_with fail
          refine Calls.mono (HI.out _) ?_
          rintro e w1 ⟨rfl, hw⟩
          obtain rfl := hw.symm
          clear hw
          go_wp2_with fail
          refine Calls.mono HDO4.out ?_
          rintro e w1 ⟨rfl, hw⟩
          obtain rfl := hw.symm
          clear hw
          go_wp2_with fail
          have d0 := HS4.out.at_.c0
          have d1 : W4.cell? ⟨b, 1, none⟩ = some (.int .i64 (p : Nat)) := HS4.out.at_.c1
          have t0 := HS4.out.at_.t0
          have z0 : W4.cell? ⟨W.heap.size, 0, none⟩ = some (.int .i64 0) := HQ4.out.cell 0
          have z1 : W4.cell? ⟨W.heap.size, 1, none⟩ = some (.int .i64 0) := HQ4.out.cell 1
          have z2 : W4.cell? ⟨W.heap.size, 2, none⟩ = some (.int .i64 0) := HQ4.out.cell 2
          have z3 : W4.cell? ⟨W.heap.size, 3, none⟩ = some (.bool false) := HQ4.out.cell 3
          have z4 : W4.cell? ⟨W.heap.size, 4, none⟩ = some (.string ⟨#[]⟩) := HQ4.out.cell 4
          have zf0 := HQ4.out.frozen 0
          have zf1 := HQ4.out.frozen 1
          have zf2 := HQ4.out.frozen 2
          have zf3 := HQ4.out.frozen 3
          have zf4 := HQ4.out.frozen 4
          have HSL : Hid (Calls Tryz.prog 54 #[.pointer (some ⟨sb, 0, none⟩), .int .i64 (k : Nat), .int .i64 (p : Nat)] W4.drew fun e w' => e = .returned (.string (s.extract (k) (p))) ∧ w' = W4.drew) := slice_any sb s (k) (p) W4.drew t0 (by omega) (by omega)
          have hbn : ¬ b = W.heap.size := by omega
          have hnb : ¬ W.heap.size = b := by omega
          have hsn : ¬ sb = W.heap.size := by omega
          have hns : ¬ W.heap.size = sb := by omega
          go_region_held3 (fun w' => w'.cell? ⟨b, 0, none⟩ = some (.pointer (some ⟨sb, 0, none⟩)) ∧ w'.cell? ⟨b, 1, none⟩ = some (.int .i64 (p : Nat)) ∧ w'.cell? ⟨sb, 0, none⟩ = some (.string s)) (go_keep) (first | (go_at_call 54; refine Calls.mono HSL.out ?_; rintro e w2 ⟨rfl, rfl⟩))
          obtain ⟨W5, hW5⟩ : ∃ W5, W5 = (((((W4.setCell ⟨W.heap.size, 0, none⟩ (.int .i64 1)).setCell ⟨W.heap.size, 1, none⟩ (.int .i64 (k : Nat))).setCell ⟨W.heap.size, 2, none⟩ (.int .i64 0)).setCell ⟨W.heap.size, 3, none⟩ (.bool false)).setCell ⟨W.heap.size, 4, none⟩ (.string (s.extract (k) (p)))).drew := ⟨_, rfl⟩
          have HQ5 : Hid (Cel W5 W.heap.size 36 #[.int .i64 1, .int .i64 (k : Nat), .int .i64 0, .bool false, .string (s.extract (k) (p))]) := by rw [hW5]; exact Cel.drew (HQ4.out.put5 (.int .i64 1) (.int .i64 (k : Nat)) (.int .i64 0) (.bool false) (.string (s.extract (k) (p))))
          have HS5 : Hid (Stp W b sb s (p) W5) := by rw [hW5]; exact (HS4.out.put5 hlb hlsb (Nat.le_refl _) (.int .i64 1) (.int .i64 (k : Nat)) (.int .i64 0) (.bool false) (.string (s.extract (k) (p)))).drew
          rw [← hW5]
          clear hW5 HS4 HQ4
          go_wp2_with fail
          refine bodyPost_ret (results_one (p := 2) rfl _ _ W.heap.size _ rfl HQ5.out rfl) rfl ?_
          rw [HST.out.1, HST.out.2, show k + (p - k) = p by omega]
          exact ⟨rfl, HS5.out, hp⟩
        | false =>
          have HMO : Hid (LivT s k (p + 1)) := HLT.out.more hkp hlt hte hd
          rw [hd] at HDO
          generalize s[p] = c at HB HI
          clear hte HLT hd
          go_wp2_with fail
          go_quiet (first | (go_at_call 22; exact Calls.quiet_of_same (HB.out _)))
          obtain ⟨W4, hW4⟩ : ∃ W4, W4 = wr.drewN nq := ⟨_, rfl⟩
          have HS4 : Hid (Stp W b sb s p W4) := by rw [hW4]; exact HS.out.drewN nq
          have HQ4 : Hid (Cel W4 W.heap.size 36 zC) := by rw [hW4]; exact HQ.out
          have HDO4 : Hid (Calls Tryz.prog 45 #[.pointer (some ⟨b, 0, none⟩), .int .i64 (p : Nat)] W4 fun e w' => e = .returned (.bool false) ∧ w' = W4) := by rw [hW4]; exact HDO.out nq
          rw [← hW4]
          clear hW4 c0 c1 HS HQ HB HDO
          have k1 := HS4.out.at_.c1
          have f1 := HS4.out.at_.f1
          go_wp2_with fail
          refine Calls.mono (HI.out _) ?_
          rintro e w1 ⟨rfl, hw⟩
          obtain rfl := hw.symm
          clear hw
          go_wp2_with fail
          refine Calls.mono HDO4.out ?_
          rintro e w1 ⟨rfl, hw⟩
          obtain rfl := hw.symm
          clear hw
          go_wp2_with fail
          have HS5 := set_step HS4.out ((p : Int) + 1) (p + 1) (by omega)
          refine ⟨⟨p + 1, by omega, by omega, HMO.out, HS5, HQ4.out.other (by omega) _⟩, ?_⟩
          rw [HS5.at_.pos, HPO.out]
          omega
    · have HST : Hid _ := HLT.out.stop hkp hp (liv_end s p hlt)
      rw [at_none s p hlt, byteV_none] at HB
      clear HLT
      go_wp2_with fail
      go_quiet (first | (go_at_call 22; exact Calls.quiet_of_same (HB.out _)))
      obtain ⟨W4, hW4⟩ : ∃ W4, W4 = wr.drewN nq := ⟨_, rfl⟩
      have HS4 : Hid (Stp W b sb s p W4) := by rw [hW4]; exact HS.out.drewN nq
      have HQ4 : Hid (Cel W4 W.heap.size 36 zC) := by rw [hW4]; exact HQ.out
      rw [← hW4]
      clear hW4 c0 c1 HS HQ HPO HB
      go_wp2_with fail
      have d0 := HS4.out.at_.c0
      have d1 : W4.cell? ⟨b, 1, none⟩ = some (.int .i64 (p : Nat)) := HS4.out.at_.c1
      have t0 := HS4.out.at_.t0
      have z0 : W4.cell? ⟨W.heap.size, 0, none⟩ = some (.int .i64 0) := HQ4.out.cell 0
      have z1 : W4.cell? ⟨W.heap.size, 1, none⟩ = some (.int .i64 0) := HQ4.out.cell 1
      have z2 : W4.cell? ⟨W.heap.size, 2, none⟩ = some (.int .i64 0) := HQ4.out.cell 2
      have z3 : W4.cell? ⟨W.heap.size, 3, none⟩ = some (.bool false) := HQ4.out.cell 3
      have z4 : W4.cell? ⟨W.heap.size, 4, none⟩ = some (.string ⟨#[]⟩) := HQ4.out.cell 4
      have zf0 := HQ4.out.frozen 0
      have zf1 := HQ4.out.frozen 1
      have zf2 := HQ4.out.frozen 2
      have zf3 := HQ4.out.frozen 3
      have zf4 := HQ4.out.frozen 4
      have HSL : Hid (Calls Tryz.prog 54 #[.pointer (some ⟨sb, 0, none⟩), .int .i64 (k : Nat), .int .i64 (p : Nat)] W4.drew fun e w' => e = .returned (.string (s.extract (k) (p))) ∧ w' = W4.drew) := slice_any sb s (k) (p) W4.drew t0 (by omega) (by omega)
      have hbn : ¬ b = W.heap.size := by omega
      have hnb : ¬ W.heap.size = b := by omega
      have hsn : ¬ sb = W.heap.size := by omega
      have hns : ¬ W.heap.size = sb := by omega
      go_region_held3 (fun w' => w'.cell? ⟨b, 0, none⟩ = some (.pointer (some ⟨sb, 0, none⟩)) ∧ w'.cell? ⟨b, 1, none⟩ = some (.int .i64 (p : Nat)) ∧ w'.cell? ⟨sb, 0, none⟩ = some (.string s)) (go_keep) (first | (go_at_call 54; refine Calls.mono HSL.out ?_; rintro e w2 ⟨rfl, rfl⟩))
      obtain ⟨W5, hW5⟩ : ∃ W5, W5 = (((((W4.setCell ⟨W.heap.size, 0, none⟩ (.int .i64 1)).setCell ⟨W.heap.size, 1, none⟩ (.int .i64 (k : Nat))).setCell ⟨W.heap.size, 2, none⟩ (.int .i64 0)).setCell ⟨W.heap.size, 3, none⟩ (.bool false)).setCell ⟨W.heap.size, 4, none⟩ (.string (s.extract (k) (p)))).drew := ⟨_, rfl⟩
      have HQ5 : Hid (Cel W5 W.heap.size 36 #[.int .i64 1, .int .i64 (k : Nat), .int .i64 0, .bool false, .string (s.extract (k) (p))]) := by rw [hW5]; exact Cel.drew (HQ4.out.put5 (.int .i64 1) (.int .i64 (k : Nat)) (.int .i64 0) (.bool false) (.string (s.extract (k) (p))))
      have HS5 : Hid (Stp W b sb s (p) W5) := by rw [hW5]; exact (HS4.out.put5 hlb hlsb (Nat.le_refl _) (.int .i64 1) (.int .i64 (k : Nat)) (.int .i64 0) (.bool false) (.string (s.extract (k) (p)))).drew
      rw [← hW5]
      clear hW5 HS4 HQ4
      go_wp2_with fail
      refine bodyPost_ret (results_one (p := 2) rfl _ _ W.heap.size _ rfl HQ5.out rfl) rfl ?_
      rw [HST.out.1, HST.out.2, show k + (p - k) = p by omega]
      exact ⟨rfl, HS5.out, hp⟩
end Go.Proofs.YtnlbjgioleoihaaGreatDoor
