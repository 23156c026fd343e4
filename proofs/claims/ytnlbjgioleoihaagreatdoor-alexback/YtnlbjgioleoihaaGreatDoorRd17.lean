/- Signs. -/
import Derived.Test.YtnlbjgioleoihaaGreatDoorRd4
namespace Go.Proofs.YtnlbjgioleoihaaGreatDoor
open Go.RowKit
attribute [local go_sem] Oper.semAt_some

theorem sgA_at : ∀ i : Fin 13, sgA[i.val]? = some (str (sgn i.val)) := by intro i; match i with
  | 0 => rfl | 1 => rfl | 2 => rfl | 3 => rfl | 4 => rfl | 5 => rfl | 6 => rfl | 7 => rfl | 8 => rfl | 9 => rfl | 10 => rfl | 11 => rfl | 12 => rfl
theorem sgn_len (i : Nat) : (sgn i).length ≤ 3 := by
  unfold sgn
  split <;> decide
theorem run_sign (i : Nat) (hi : i < 13) (w : World) : (Instr.index 67 (.agg sgA) (.int .i64 (i : Nat))).run Tryz.prog w = .ok (str (sgn i)) w := by
  have hA := sgA_at ⟨i, hi⟩
  simp only at hA
  simp [Instr.index, part, run_underlying Tryz.underlying67, asIntOf, Tryz.sizeOf9, Tryz.isAgg9, hA, go_sem]
  intro h13; omega
theorem best_lt : ∀ (k : Nat) (l : List UInt8), k ≤ 13 → best k l < 13
  | 0, _, _ => by rw [best]; omega
  | k + 1, l, h => by
    rw [best]
    split
    · omega
    · exact best_lt k l (by omega)
theorem Env.sign {W : World} {ea : Nat → Addr} (h : Env W ea) (i : Nat) (hi : i < 13) : W.cell? ⟨1, i, none⟩ = some (str (sgn i)) := by
  obtain ⟨t, fr, hc⟩ := h.sg
  rw [← sgA_at ⟨i, hi⟩]
  simp [World.cell?, hc]
set_option maxRecDepth 100000 in
set_option maxHeartbeats 4000000 in
theorem sign_any {W : World} {b sb k : Nat} {s : ByteArray} {ea : Nat → Addr} (h : Rd W b sb s k) (hE : Env W ea) :
    Calls Tryz.prog 21 #[.pointer (some ⟨b, 0, none⟩)] W fun e w' => e = .returned (.int .i64 (best 13 (s.data.toList.drop k) : Nat)) ∧ ∃ m, w' = W.drewN m := by
  obtain ⟨tk, fk, hK⟩ := hE.sg
  have HK : Hid (W.heap[1]? = some (.cells sgA tk fk)) := hK
  have HSG : Hid (∀ m i : Nat, i < 13 → (W.drewN m).cell? ⟨1, i, none⟩ = some (str (sgn i))) := fun m i hi => hE.sign i hi
  have HH : Hid (∀ (m : Nat) (t : List UInt8), t ≠ [] → Calls Tryz.prog 29 #[.pointer (some ⟨sb, 0, none⟩), .int .i64 (k : Nat), str t] (W.drewN m) fun e w' => e = .returned (.bool (t.isPrefixOf (s.data.toList.drop k))) ∧ w' = W.drewN m) := fun m t ht => has_any sb s ⟨t.toArray⟩ k (W.drewN m) h.t0 (by show 0 < t.length; cases t with | nil => exact absurd rfl ht | cons c t => simp)
  have HC0 : Hid (∀ m, (W.drewN m).cell? ⟨b, 0, none⟩ = some (.pointer (some ⟨sb, 0, none⟩))) := fun m => h.c0
  have HC1 : Hid (∀ m, (W.drewN m).cell? ⟨b, 1, none⟩ = some (.int .i64 (k : Nat))) := fun m => h.c1
  clear h hE hK
  generalize s.data.toList.drop k = l at *
  go_enter Tryz.func21, Tryz.ntmps21
  go_wp2_with (refine wpList_load_row rfl 67 _ rfl 1 rfl tk sgA fk _ HK.out Tryz.underlying67 rfl (by kernel_rfl) ?_)
  go_loopw [3, 7] (fun v3 v7 wr => ∃ i m : Nat, v7 = .int .i64 (i : Nat) ∧ v3 = .int .i64 (best i l : Nat) ∧ i ≤ 13 ∧ wr = W.drewN m) (fun _ v7 _ => 13 - (intOf v7).toNat)
  case atStart => exact ⟨0, 0, rfl, rfl, by omega, rfl⟩
  case round =>
    obtain ⟨i, m, rfl, rfl, hi, rfl⟩ := hrel
    by_cases hlt : i < 13
    · have hlt' : (i : Int) < 13 := by omega
      have HX : Hid (∀ w, (Instr.index 67 (.agg sgA) (.int .i64 (i : Nat))).run Tryz.prog w = .ok (str (sgn i)) w) := fun w => run_sign i hlt w
      have hbl := best_lt i l hi
      have HB : Hid _ := best.eq_2 l i
      generalize best i l = kd at *
      have s0 := HSG.out m kd hbl
      have a0 := HC0.out m
      have a1 := HC1.out m
      have hbl' : (kd : Int) < 13 := by omega
      obtain ⟨W4, hW4⟩ : ∃ W4, W4 = W.drewN m := ⟨_, rfl⟩
      have HD4 : Hid (∀ n, ∃ m', W4.drewN n = W.drewN m') := fun n => ⟨m + n, by rw [hW4, World.drewN_drewN]⟩
      by_cases hlen : (sgn kd).length < (sgn i).length
      · have HH4 : Hid (∀ n, Calls Tryz.prog 29 #[.pointer (some ⟨sb, 0, none⟩), .int .i64 (k : Nat), str (sgn i)] (W4.drewN n) fun e w' => e = .returned (.bool ((sgn i).isPrefixOf l)) ∧ w' = W4.drewN n) := fun n => by
          have := HH.out (m + n) (sgn i) (fun e => by rw [e] at hlen; simp at hlen)
          rw [← World.drewN_drewN, ← hW4] at this
          exact this
        rw [← hW4] at s0 a0 a1 ⊢
        have hlen' : ((sgn kd).length : Int) < ((sgn i).length : Int) := by omega
        have HB2 : Hid (best (i + 1) l = if (sgn i).isPrefixOf l = true then i else kd) := by
          unfold Hid
          rw [show best (i + 1) l = _ from HB.out]
          by_cases hq : (sgn i).isPrefixOf l = true
          · rw [if_pos ⟨hlen, hq⟩, if_pos hq]
          · rw [if_neg (fun e => hq e.2), if_neg hq]
        generalize (sgn i).isPrefixOf l = pb at HH4 HB2
        clear HH HB hW4
        generalize sgn i = si at *
        generalize sgn kd = sk at *
        cases pb with
        | true =>
          go_wp2_with fail
          rw [HX.out]
          simp only [Result.andThen]
          rw [Oper.upon_value]
          go_wp2_with fail
          go_quiet (first | (go_at_call 29; exact Calls.quiet_of_same (HH4.out _)))
          go_wp2_with fail
          obtain ⟨m', hm'⟩ := HD4.out nq
          exact ⟨⟨i + 1, m', by simp, by rw [HB2.out]; rfl, by omega, hm'⟩, by simp [intOf]; omega⟩
        | false =>
          go_wp2_with fail
          rw [HX.out]
          simp only [Result.andThen]
          rw [Oper.upon_value]
          go_wp2_with fail
          go_quiet (first | (go_at_call 29; exact Calls.quiet_of_same (HH4.out _)))
          go_wp2_with fail
          obtain ⟨m', hm'⟩ := HD4.out nq
          exact ⟨⟨i + 1, m', by simp, by rw [HB2.out]; rfl, by omega, hm'⟩, by simp [intOf]; omega⟩
      · rw [← hW4] at s0 a0 a1 ⊢
        have hlen' : ¬ ((sgn kd).length : Int) < ((sgn i).length : Int) := by omega
        have HB2 : Hid (best (i + 1) l = kd) := by
          unfold Hid
          rw [show best (i + 1) l = _ from HB.out, if_neg (fun e => hlen e.1)]
        clear HH HB hW4
        generalize sgn i = si at *
        generalize sgn kd = sk at *
        go_wp2_with fail
        rw [HX.out]
        simp only [Result.andThen]
        rw [Oper.upon_value]
        go_wp2_with fail
        go_quiet (fail)
        go_wp2_with fail
        obtain ⟨m', hm'⟩ := HD4.out nq
        exact ⟨⟨i + 1, m', by simp, by rw [HB2.out], by omega, hm'⟩, by simp [intOf]; omega⟩
    · have hlt' : ¬ (i : Int) < 13 := by omega
      obtain rfl : i = 13 := by omega
      go_wp2_with fail
      go_ret
      exact ⟨rfl, m, rfl⟩
end Go.Proofs.YtnlbjgioleoihaaGreatDoor
