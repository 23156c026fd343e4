/- The variables; blanks and comments are passed over; signs. -/
import Derived.Test.YtddekcohfbnmbaaDoorRd1
import Derived.Deep.RegionHeld3
import Derived.Deep.Light
import Derived.Laws.ResultCell
namespace Go.Proofs.YtddekcohfbnmbaaDoor
open Go.RowKit
attribute [local go_sem] Oper.semAt_some

abbrev errV (a : Addr) : Value := .iface 132 (.pointer (some a))
/-- The signs as they lie in their variable. -/
def sgA : Array Value := #[.string ⟨#[]⟩, .string ⟨#[10]⟩, .string ⟨#[59]⟩, .string ⟨#[38, 38]⟩, .string ⟨#[124, 124]⟩, .string ⟨#[124]⟩, .string ⟨#[40]⟩, .string ⟨#[41]⟩, .string ⟨#[123]⟩, .string ⟨#[125]⟩, .string ⟨#[96, 123]⟩, .string ⟨#[60]⟩, .string ⟨#[62]⟩, .string ⟨#[62, 62]⟩, .string ⟨#[60, 60, 60]⟩, .string ⟨#[94]⟩, .string ⟨#[61]⟩, .string ⟨#[33]⟩]
/-- The errors lie in the first variables, and are others each; the signs lie in the second. -/
structure Env (W : World) (ea : Nat → Addr) : Prop where
  cell : ∀ i, i < 18 → i ≠ 1 → W.cell? ⟨i, 0, none⟩ = some (errV (ea i))
  apart : ∀ i j, i < 18 → j < 18 → i ≠ 1 → j ≠ 1 → ea i = ea j → i = j
  row : ∀ i, i < 18 → i ≠ 1 → ∃ c t, W.heap[(ea i).block]? = some (.cells c t (0, 0))
  glob : 19 ≤ (ea 64).block
  old : ∀ i, i < 18 → i ≠ 1 → (ea i).block < (ea 64).block
  sg : ∃ (t : TypeId) (fr : Nat × Nat), W.heap[1]? = some (.cells sgA t fr)
  ml : ∃ m : Int, W.cell? ⟨18, 0, none⟩ = some (.int .i64 m)
theorem Env.lt {W : World} {ea : Nat → Addr} (h : Env W ea) {i : Nat} (hi : i < 18) (h1 : i ≠ 1) : i < W.heap.size := World.block_lt_of_cell? W _ (h.cell i hi h1)
/-- Only blocks behind the first turned. -/
theorem Env.turn {W W' : World} {ea : Nat → Addr} {S : Nat → Prop} (h : Env W ea) (hT : Turn S W W') (hS : ∀ i, S i → (ea 64).block ≤ i) : Env W' ea where
  glob := h.glob
  cell i hi h1 := (World.cell?_of_block (w := W) (a := ⟨i, 0, none⟩) (hT.block i (h.lt hi h1) (fun e => by have := hS i e; have := h.glob; omega))).trans (h.cell i hi h1)
  apart := h.apart
  row i hi h1 := by
    obtain ⟨c, t, hc⟩ := h.row i hi h1
    have ho := h.old i hi h1
    exact ⟨c, t, (hT.block _ (Array.getElem?_eq_some_iff.1 hc).1 (fun e => by have := hS _ e; have := h.glob; omega)).trans hc⟩
  old := h.old
  sg := by
    obtain ⟨t, fr, hc⟩ := h.sg
    exact ⟨t, fr, (hT.block _ (Array.getElem?_eq_some_iff.1 hc).1 (fun e => by have := hS _ e; have := h.glob; omega)).trans hc⟩
  ml := by
    obtain ⟨m, hc⟩ := h.ml
    exact ⟨m, (World.cell?_of_block (w := W) (a := ⟨18, 0, none⟩) (hT.block 18 (World.block_lt_of_cell? W _ hc) (fun e => by have := hS _ e; have := h.glob; omega))).trans hc⟩
theorem Env.below {W W' : World} {ea : Nat → Addr} (h : Env W ea) (hb : Below W.heap.size W W') : Env W' ea := h.turn (Turn.ofBelow (S := fun _ => False) hb) (fun _ e => e.elim)
theorem Env.stp {W W' : World} {ea : Nat → Addr} {b sb k : Nat} {s : ByteArray} (h : Env W ea) (hS : Stp W b sb s k W') (hb : (ea 64).block ≤ b) : Env W' ea := h.turn hS.turn (fun i e => by rw [e]; exact hb)
theorem Env.set {W : World} {ea : Nat → Addr} (h : Env W ea) {b : Nat} (hb : (ea 64).block ≤ b) (j : Nat) (v : Value) : Env (W.setCell ⟨b, j, none⟩ v) ea :=
  h.turn (S := fun i => i = b) (Turn.setCell (S := fun i => i = b) (p := ⟨b, j, none⟩) (Turn.refl _ W) (fun _ => rfl) v) (fun i e => by omega)
theorem Env.drewN {W : World} {ea : Nat → Addr} (h : Env W ea) (m : Nat) : Env (W.drewN m) ea := h.below ⟨rfl, rfl, rfl, Nat.le_refl _, fun _ _ => rfl⟩
theorem sgA_list : sgA.toList = (List.range 18).map (fun i => str (sgn i)) := rfl
theorem sgA_at (i : Fin 18) : sgA[i.val]? = some (str (sgn i.val)) := by
  rw [← Array.getElem?_toList, sgA_list, List.getElem?_map, List.getElem?_range i.isLt]
  rfl
theorem sgn_len (i : Nat) : (sgn i).length ≤ 3 := by
  unfold sgn
  split <;> decide
theorem run_sign (i : Nat) (hi : i < 18) (w : World) : (Instr.index 75 (.agg sgA) (.int .i64 (i : Nat))).run Tryd.prog w = .ok (str (sgn i)) w := by
  have hA := sgA_at ⟨i, hi⟩
  simp only at hA
  simp [Instr.index, part, run_underlying Tryd.underlying75, asIntOf, Tryd.sizeOf9, Tryd.isAgg9, hA, go_sem]
  intro h18; omega
theorem best_lt : ∀ (k : Nat) (l : List UInt8), k ≤ 18 → best k l < 18
  | 0, _, _ => by rw [best]; omega
  | k + 1, l, h => by
    rw [best]
    split
    · omega
    · exact best_lt k l (by omega)
theorem Env.sign {W : World} {ea : Nat → Addr} (h : Env W ea) (i : Nat) (hi : i < 18) : W.cell? ⟨1, i, none⟩ = some (str (sgn i)) := by
  obtain ⟨t, fr, hc⟩ := h.sg
  rw [← sgA_at ⟨i, hi⟩]
  simp [World.cell?, hc]
set_option maxRecDepth 100000 in
set_option maxHeartbeats 4000000 in
theorem sign_any {W : World} {b sb k : Nat} {s : ByteArray} {ea : Nat → Addr} (h : Rd W b sb s k) (hE : Env W ea) :
    Calls Tryd.prog 31 #[.pointer (some ⟨b, 0, none⟩)] W fun e w' => e = .returned (.int .i64 (best 18 (s.data.toList.drop k) : Nat)) ∧ ∃ m, w' = W.drewN m := by
  obtain ⟨tk, fk, hK⟩ := hE.sg
  have HK : Hid (W.heap[1]? = some (.cells sgA tk fk)) := hK
  have HSG : Hid (∀ m i : Nat, i < 18 → (W.drewN m).cell? ⟨1, i, none⟩ = some (str (sgn i))) := fun m i hi => hE.sign i hi
  have HH : Hid (∀ (m : Nat) (t : List UInt8), t ≠ [] → Calls Tryd.prog 42 #[.pointer (some ⟨sb, 0, none⟩), .int .i64 (k : Nat), str t] (W.drewN m) fun e w' => e = .returned (.bool (t.isPrefixOf (s.data.toList.drop k))) ∧ w' = W.drewN m) := fun m t ht => has_any sb s ⟨t.toArray⟩ k (W.drewN m) h.t0 (by show 0 < t.length; cases t with | nil => exact absurd rfl ht | cons c t => simp)
  have HC0 : Hid (∀ m, (W.drewN m).cell? ⟨b, 0, none⟩ = some (.pointer (some ⟨sb, 0, none⟩))) := fun m => h.c0
  have HC1 : Hid (∀ m, (W.drewN m).cell? ⟨b, 1, none⟩ = some (.int .i64 (k : Nat))) := fun m => h.c1
  clear h hE hK
  generalize s.data.toList.drop k = l at *
  go_enter Tryd.func31, Tryd.ntmps31
  go_wp2_with (refine wpList_load_row rfl 75 _ rfl 1 rfl tk sgA fk _ HK.out Tryd.underlying75 rfl (by kernel_rfl) ?_)
  go_loopw [3, 7] (fun v3 v7 wr => ∃ i m : Nat, v7 = .int .i64 (i : Nat) ∧ v3 = .int .i64 (best i l : Nat) ∧ i ≤ 18 ∧ wr = W.drewN m) (fun _ v7 _ => 18 - (intOf v7).toNat)
  case atStart => exact ⟨0, 0, rfl, rfl, by omega, rfl⟩
  case round =>
    obtain ⟨i, m, rfl, rfl, hi, rfl⟩ := hrel
    by_cases hlt : i < 18
    · have hlt' : (i : Int) < 18 := by omega
      have HX : Hid (∀ w, (Instr.index 75 (.agg sgA) (.int .i64 (i : Nat))).run Tryd.prog w = .ok (str (sgn i)) w) := fun w => run_sign i hlt w
      have hbl := best_lt i l hi
      have HB : Hid _ := best.eq_2 l i
      generalize best i l = kd at *
      have s0 := HSG.out m kd hbl
      have a0 := HC0.out m
      have a1 := HC1.out m
      have hbl' : (kd : Int) < 18 := by omega
      obtain ⟨W4, hW4⟩ : ∃ W4, W4 = W.drewN m := ⟨_, rfl⟩
      have HD4 : Hid (∀ n, ∃ m', W4.drewN n = W.drewN m') := fun n => ⟨m + n, by rw [hW4, World.drewN_drewN]⟩
      by_cases hlen : (sgn kd).length < (sgn i).length
      · have HH4 : Hid (∀ n, Calls Tryd.prog 42 #[.pointer (some ⟨sb, 0, none⟩), .int .i64 (k : Nat), str (sgn i)] (W4.drewN n) fun e w' => e = .returned (.bool ((sgn i).isPrefixOf l)) ∧ w' = W4.drewN n) := fun n => by
          have := HH.out (m + n) (sgn i) (fun e => by rw [e] at hlen; simp at hlen)
          rw [← World.drewN_drewN, ← hW4] at this
          exact this
        rw [← hW4] at s0 a0 a1 ⊢
        have hlen' : ((sgn kd).length : Int) < ((sgn i).length : Int) := by omega
        have HB2 : Hid (best (i + 1) l = if (sgn i).isPrefixOf l = true then i else kd) := by
          unfold Hid
          rw [show best (i + 1) l = _ from HB.out]
          by_cases hq : (sgn i).isPrefixOf l = true
          · rw [if_pos ⟨hlen, hq⟩, if_pos hq]
          · rw [if_neg (fun e => hq e.2), if_neg hq]
        generalize (sgn i).isPrefixOf l = pb at HH4 HB2
        clear HH HB hW4
        generalize sgn i = si at *
        generalize sgn kd = sk at *
        cases pb with
        | true =>
          go_wp2_with fail
          rw [HX.out]
          simp only [Result.andThen]
          rw [Oper.upon_value]
          go_wp2_with fail
          go_quiet (first | (go_at_call 42; exact Calls.quiet_of_same (HH4.out _)))
          go_wp2_with fail
          obtain ⟨m', hm'⟩ := HD4.out nq
          exact ⟨⟨i + 1, m', by simp, by rw [HB2.out]; rfl, by omega, hm'⟩, by simp [intOf]; omega⟩
        | false =>
          go_wp2_with fail
          rw [HX.out]
          simp only [Result.andThen]
          rw [Oper.upon_value]
          go_wp2_with fail
          go_quiet (first | (go_at_call 42; exact Calls.quiet_of_same (HH4.out _)))
          go_wp2_with fail
          obtain ⟨m', hm'⟩ := HD4.out nq
          exact ⟨⟨i + 1, m', by simp, by rw [HB2.out]; rfl, by omega, hm'⟩, by simp [intOf]; omega⟩
      · rw [← hW4] at s0 a0 a1 ⊢
        have hlen' : ¬ ((sgn kd).length : Int) < ((sgn i).length : Int) := by omega
        have HB2 : Hid (best (i + 1) l = kd) := by
          unfold Hid
          rw [show best (i + 1) l = _ from HB.out, if_neg (fun e => hlen e.1)]
        clear HH HB hW4
        generalize sgn i = si at *
        generalize sgn kd = sk at *
        go_wp2_with fail
        rw [HX.out]
        simp only [Result.andThen]
        rw [Oper.upon_value]
        go_wp2_with fail
        go_quiet (fail)
        go_wp2_with fail
        obtain ⟨m', hm'⟩ := HD4.out nq
        exact ⟨⟨i + 1, m', by simp, by rw [HB2.out], by omega, hm'⟩, by simp [intOf]; omega⟩
    · have hlt' : ¬ (i : Int) < 18 := by omega
      obtain rfl : i = 18 := by omega
      go_wp2_with fail
      go_ret
      exact ⟨rfl, m, rfl⟩
set_option maxRecDepth 100000 in
set_option maxHeartbeats 4000000 in
theorem passBlanks_any {W : World} {b sb k : Nat} {s : ByteArray} (h : Rd W b sb s k) (hs : s.size < 1099511627776) (hk : k ≤ s.size) :
    Calls Tryd.prog 29 #[.pointer (some ⟨b, 0, none⟩)] W fun e w' => e = .returned (.tuple #[]) ∧ ∃ j, Stp W b sb s j w' ∧ k ≤ j ∧ j ≤ s.size ∧ (s.data.toList.drop k).dropWhile blk = s.data.toList.drop j := by
  have HR0 : Hid (Rd W b sb s k) := h
  clear h
  go_enter Tryd.func29, Tryd.ntmps29
  go_wp2_with fail
  go_loopw [] (fun wr => ∃ p : Nat, k ≤ p ∧ p ≤ s.size ∧ Hid ((s.data.toList.drop k).dropWhile blk = (s.data.toList.drop p).dropWhile blk) ∧ Hid (Stp W b sb s p wr)) (fun wr => s.size + 2 - posOf wr b)
  case atStart => exact ⟨k, Nat.le_refl _, hk, rfl, Stp.refl HR0.out⟩
  case round =>
    obtain ⟨p, hkp, hp, HDW, HS⟩ := hrel
    clear HR0
    have HPO : Hid (posOf wr b = p) := HS.out.at_.pos
    have c0 := HS.out.at_.c0
    have c1 := HS.out.at_.c1
    have HH32 : Hid (∀ m, Calls Tryd.prog 42 #[.pointer (some ⟨sb, 0, none⟩), .int .i64 (p : Nat), .string ⟨#[32]⟩] (wr.drewN m) fun e w' => e = .returned (.bool (s.data.toList[p]? == some 32)) ∧ w' = wr.drewN m) := fun m => hasb_any sb s 32 p (wr.drewN m) HS.out.at_.t0
    have HH9 : Hid (∀ m, Calls Tryd.prog 42 #[.pointer (some ⟨sb, 0, none⟩), .int .i64 (p : Nat), .string ⟨#[9]⟩] (wr.drewN m) fun e w' => e = .returned (.bool (s.data.toList[p]? == some 9)) ∧ w' = wr.drewN m) := fun m => hasb_any sb s 9 p (wr.drewN m) HS.out.at_.t0
    cases h32 : (s.data.toList[p]? == some 32) with
    | true =>
      have hp2 : s.data.toList[p]? = some 32 := by simpa using h32
      have hlt : p < s.size := by simpa using (List.getElem?_eq_some_iff.1 hp2).1
      have hsp : s[p] = 32 := by rw [text_at s p hlt] at hp2; exact Option.some.inj hp2
      have HN : Hid ((s.data.toList.drop k).dropWhile blk = (s.data.toList.drop (p + 1)).dropWhile blk) := by unfold Hid; rw [HDW.out, dw_more s p hlt (by rw [hsp]; rfl)]
      rw [h32] at HH32
      clear h32 hp2 hsp HDW HH9
      go_wp2_with fail
      go_quiet (first | (go_at_call 42; exact Calls.quiet_of_same (HH32.out _)))
      obtain ⟨W4, hW4⟩ : ∃ W4, W4 = wr.drewN nq := ⟨_, rfl⟩
      have HS4 : Hid (Stp W b sb s p W4) := by rw [hW4]; exact HS.out.drewN nq
      have d1 := HS4.out.at_.c1
      have e1 := HS4.out.at_.f1
      rw [← hW4]
      clear hW4 c0 c1 HH32 HS
      go_wp2_with fail
      have HS5 := set_step HS4.out ((p : Int) + 1) (p + 1) (by omega)
      refine ⟨⟨p + 1, by omega, by omega, HN.out, HS5⟩, ?_⟩
      rw [HS5.at_.pos, HPO.out]
      omega
    | false =>
      rw [h32] at HH32
      cases h9 : (s.data.toList[p]? == some 9) with
      | true =>
        have hp2 : s.data.toList[p]? = some 9 := by simpa using h9
        have hlt : p < s.size := by simpa using (List.getElem?_eq_some_iff.1 hp2).1
        have hsp : s[p] = 9 := by rw [text_at s p hlt] at hp2; exact Option.some.inj hp2
        have HN : Hid ((s.data.toList.drop k).dropWhile blk = (s.data.toList.drop (p + 1)).dropWhile blk) := by unfold Hid; rw [HDW.out, dw_more s p hlt (by rw [hsp]; rfl)]
        rw [h9] at HH9
        clear h32 h9 hp2 hsp HDW
        go_wp2_with fail
        go_quiet (first | (go_at_call 42; first | with_reducible exact Calls.quiet_of_same (HH32.out _) | with_reducible exact Calls.quiet_of_same (HH9.out _)))
        obtain ⟨W4, hW4⟩ : ∃ W4, W4 = wr.drewN nq := ⟨_, rfl⟩
        have HS4 : Hid (Stp W b sb s p W4) := by rw [hW4]; exact HS.out.drewN nq
        have d1 := HS4.out.at_.c1
        have e1 := HS4.out.at_.f1
        rw [← hW4]
        clear hW4 c0 c1 HH32 HH9 HS
        go_wp2_with fail
        have HS5 := set_step HS4.out ((p : Int) + 1) (p + 1) (by omega)
        refine ⟨⟨p + 1, by omega, by omega, HN.out, HS5⟩, ?_⟩
        rw [HS5.at_.pos, HPO.out]
        omega
      | false =>
        have HN : Hid ((s.data.toList.drop k).dropWhile blk = s.data.toList.drop p) := by
          unfold Hid
          rw [HDW.out]
          refine dw_stop s p fun h => ?_
          rw [text_at s p h] at h32 h9
          unfold blk
          rw [show (s[p] == 32) = false by simpa using h32, show (s[p] == 9) = false by simpa using h9]
          rfl
        rw [h9] at HH9
        clear h32 h9 HDW HPO
        go_wp2_with fail
        go_quiet (first | (go_at_call 42; first | with_reducible exact Calls.quiet_of_same (HH32.out _) | with_reducible exact Calls.quiet_of_same (HH9.out _)))
        go_wp2_with fail
        go_end0
        exact ⟨rfl, p, HS.out.drewN _, hkp, hp, HN.out⟩
set_option maxRecDepth 100000 in
set_option maxHeartbeats 4000000 in
theorem passComment_any {W : World} {b sb p : Nat} {s : ByteArray} {ea : Nat → Addr} (h : Rd W b sb s p) (hE : Env W ea) (hb : (ea 64).block ≤ b) (hs : s.size < 1099511627776) (hp : p ≤ s.size) :
    Calls Tryd.prog 30 #[.pointer (some ⟨b, 0, none⟩)] W fun e w' => e = .returned (.tuple #[]) ∧ ∃ j, Stp W b sb s j w' ∧ p ≤ j ∧ j ≤ s.size ∧ overC (s.data.toList.drop p) = s.data.toList.drop j := by
  have HS4 : Hid (Stp W b sb s p W) := Stp.refl h
  have HE4 : Hid (Env W ea) := hE
  obtain ⟨R, HR⟩ : ∃ R, Hid (overC (s.data.toList.drop p) = R) := ⟨_, rfl⟩
  rw [HR.out]
  have c0 := h.c0
  have c1 := h.c1
  have HH35 : Hid (∀ m, Calls Tryd.prog 42 #[.pointer (some ⟨sb, 0, none⟩), .int .i64 (p : Nat), .string ⟨#[35]⟩] (W.drewN m) fun e w' => e = .returned (.bool (s.data.toList[p]? == some 35)) ∧ w' = W.drewN m) := fun m => hasb_any sb s 35 p (W.drewN m) h.t0
  clear h hE
  cases h35 : (s.data.toList[p]? == some 35) with
  | false =>
    have HRR : Hid (R = s.data.toList.drop p) := by
      unfold Hid
      rw [← HR.out]
      unfold overC
      rw [drop_head, if_neg (by simpa using h35)]
    rw [h35] at HH35
    clear h35 HR
    go_enter Tryd.func30, Tryd.ntmps30
    go_wp2_with fail
    go_quiet (first | (go_at_call 42; exact Calls.quiet_of_same (HH35.out _)))
    go_wp2_with fail
    refine bodyPost_ret (results_none rfl _ _ _) rfl ?_
    rw [HRR.out]
    exact ⟨rfl, p, HS4.out.drewN _, Nat.le_refl _, hp, rfl⟩
  | true =>
    have HRR : Hid (R = (s.data.toList.drop p).dropWhile notNl) := by
      unfold Hid
      rw [← HR.out]
      unfold overC
      rw [drop_head, if_pos (by simpa using h35)]
    rw [h35] at HH35
    clear h35 HR
    go_enter Tryd.func30, Tryd.ntmps30
    go_wp2_with fail
    go_quiet (first | (go_at_call 42; exact Calls.quiet_of_same (HH35.out _)))
    obtain ⟨W5, hW5⟩ : ∃ W5, W5 = W.drewN nq := ⟨_, rfl⟩
    have HS5 : Hid (Stp W b sb s p W5) := by rw [hW5]; exact HS4.out.drewN nq
    rw [← hW5]
    clear hW5 c0 c1 HH35
    go_wp2_with fail
    go_loopw [] (fun wr => ∃ q : Nat, p ≤ q ∧ q ≤ s.size ∧ Hid (R = (s.data.toList.drop q).dropWhile notNl) ∧ Hid (Stp W b sb s q wr)) (fun wr => s.size + 2 - posOf wr b)
    case atStart => exact ⟨p, Nat.le_refl _, hp, HRR.out, HS5.out⟩
    case round =>
      obtain ⟨q, hkq, hq, HRQ, HSq⟩ := hrel
      have HPQ : Hid (posOf wr b = q) := HSq.out.at_.pos
      have HEq : Hid (Env wr ea) := HE4.out.stp HSq.out hb
      clear HS5 HRR HS4 HE4
      have c0 := HSq.out.at_.c0
      have c1 := HSq.out.at_.c1
      have s1 : wr.cell? ⟨1, 1, none⟩ = some (.string ⟨#[10]⟩) := HEq.out.sign 1 (by omega)
      have HEN : Hid (∀ m, Calls Tryd.prog 32 #[.pointer (some ⟨sb, 0, none⟩)] (wr.drewN m) fun e w' => e = .returned (.int .i64 s.size) ∧ w' = wr.drewN m) := fun m => len_any sb s (wr.drewN m) HSq.out.at_.t0
      have HH10 : Hid (∀ m, Calls Tryd.prog 42 #[.pointer (some ⟨sb, 0, none⟩), .int .i64 (q : Nat), .string ⟨#[10]⟩] (wr.drewN m) fun e w' => e = .returned (.bool (s.data.toList[q]? == some 10)) ∧ w' = wr.drewN m) := fun m => hasb_any sb s 10 q (wr.drewN m) HSq.out.at_.t0
      by_cases hle : s.size ≤ q
      · have HRR : Hid (R = s.data.toList.drop q) := by unfold Hid; rw [HRQ.out]; exact dw_stop s q (fun h => absurd h (by omega))
        have hlt' : ¬ (q : Int) < (s.size : Int) := by omega
        have hlt2 : decide (q < s.size) = false := decide_eq_false (by omega)
        clear HRQ hle
        go_wp2_with fail
        go_quiet (first | (go_at_call 32; exact Calls.quiet_of_same (HEN.out _)))
        go_wp2_with fail
        go_end0
        rw [HRR.out]
        exact ⟨rfl, q, HSq.out.drewN _, hkq, hq, rfl⟩
      · have hlt : q < s.size := by omega
        have hlt' : (q : Int) < (s.size : Int) := by omega
        have hlt2 : decide (q < s.size) = true := decide_eq_true (by omega)
        rw [text_at s q hlt] at HH10
        clear hle
        by_cases h10 : s[q] = 10
        · have HRR : Hid (R = s.data.toList.drop q) := by unfold Hid; rw [HRQ.out]; exact dw_stop s q (fun _ => by rw [h10]; rfl)
          rw [h10, beq_self_eq_true] at HH10
          clear HRQ h10
          go_wp2_with fail
          go_quiet (first | (go_at_call 32; exact Calls.quiet_of_same (HEN.out _)) | (go_at_call 42; exact Calls.quiet_of_same (HH10.out _)))
          go_wp2_with fail
          go_end0
          rw [HRR.out]
          exact ⟨rfl, q, HSq.out.drewN _, hkq, hq, rfl⟩
        · have HRR : Hid (R = (s.data.toList.drop (q + 1)).dropWhile notNl) := by unfold Hid; rw [HRQ.out]; exact dw_more s q hlt (by unfold notNl; simpa using h10)
          have HH : Hid (∀ m, Calls Tryd.prog 42 #[.pointer (some ⟨sb, 0, none⟩), .int .i64 (q : Nat), .string ⟨#[10]⟩] (wr.drewN m) fun e w' => e = .returned (.bool false) ∧ w' = wr.drewN m) := fun m => by
            have := HH10.out m
            rw [show (some s[q] == some (10 : UInt8)) = false by simpa using h10] at this
            exact this
          clear HRQ h10 HH10
          go_wp2_with fail
          go_quiet (first | (go_at_call 32; exact Calls.quiet_of_same (HEN.out _)) | (go_at_call 42; exact Calls.quiet_of_same (HH.out _)))
          obtain ⟨W6, hW6⟩ : ∃ W6, W6 = wr.drewN nq := ⟨_, rfl⟩
          have HS6 : Hid (Stp W b sb s q W6) := by rw [hW6]; exact HSq.out.drewN nq
          have d1 := HS6.out.at_.c1
          have e1 := HS6.out.at_.f1
          rw [← hW6]
          clear hW6 c0 c1 HH HEN HSq s1 HEq
          go_wp2_with fail
          have HS7 := set_step HS6.out ((q : Int) + 1) (q + 1) (by omega)
          refine ⟨⟨q + 1, by omega, by omega, HRR.out, HS7⟩, ?_⟩
          rw [HS7.at_.pos, HPQ.out]
          omega
end Go.Proofs.YtddekcohfbnmbaaDoor
