/- The law of the quotes. -/
import Derived.Test.YtddekcohfbnmbaaDoorFirst
import Derived.Test.YtddekcohfbnmbaaDoorPureC
namespace Go.Proofs.YtddekcohfbnmbaaDoor
open Go.RowKit
attribute [local go_sem] Oper.semAt_some

theorem one_ext (s : ByteArray) (k : Nat) (h : k < s.size) : (s.extract k (k + 1)).data.toList = [s[k]] := by
  rw [ext_list, show k + 1 - k = 1 by omega, drop_cons s k h]
  rfl
theorem take_step (s : ByteArray) (k : Nat) (h : k < s.size) : s.data.toList.take (k + 1) = s.data.toList.take k ++ [s[k]] := by
  rw [List.take_add_one, text_at s k h]
  rfl
theorem app_list (a b : ByteArray) : (a ++ b).data.toList = a.data.toList ++ b.data.toList := by simp
/-- The next byte, once or twice. -/
theorem q_no {s p : ByteArray} {k : Nat} (h : k < s.size) (hP : p.data.toList = 39 :: quo (s.data.toList.take k)) (hc : s[k] ≠ 39) : (p ++ s.extract k (k + 1)).data.toList = 39 :: quo (s.data.toList.take (k + 1)) := by
  rw [app_list, one_ext s k h, hP, take_step s k h, quo_append, quo, if_neg hc]
  rfl
theorem q_yes {s p : ByteArray} {k : Nat} (h : k < s.size) (hP : p.data.toList = 39 :: quo (s.data.toList.take k)) (hc : s[k] = 39) : ((p ++ s.extract k (k + 1)) ++ ⟨#[39]⟩ : ByteArray).data.toList = 39 :: quo (s.data.toList.take (k + 1)) := by
  rw [app_list, app_list, one_ext s k h, hP, take_step s k h, quo_append, quo, if_pos hc, hc]
  show (39 :: quo (s.data.toList.take k)) ++ [39] ++ [39] = _
  rw [List.append_assoc]
  rfl
theorem q_size {s p : ByteArray} {k : Nat} (hs : s.size ≤ 300) (hP : p.data.toList = 39 :: quo (s.data.toList.take k)) : p.size ≤ 601 := by
  have h1 := congrArg List.length hP
  rw [ba_length, List.length_cons] at h1
  have h2 := quo_len (s.data.toList.take k)
  rw [List.length_take, ba_length] at h2
  omega
set_option maxRecDepth 100000 in
set_option maxHeartbeats 4000000 in
theorem quotes_any (s : ByteArray) (W : World) (ea : Nat → Addr) (hE : Env W ea) (hW : (ea 64).block ≤ W.heap.size) :
    Calls Tryd.prog 5 #[.string s] W fun e w' => e = .returned (.bool true) ∧ Below W.heap.size W w' := by
  have HF : Hid _ := first_any W ea hE hW
  by_cases hs : 300 < s.size
  · have hs' : (300 : Int) < (s.size : Int) := by omega
    clear hE
    go_enter Tryd.func5, Tryd.ntmps5
    go_wp2_with fail
    refine Calls.mono HF.out ?_
    rintro e w1 ⟨rfl, hb1⟩
    have HB1 : Hid (Below W.heap.size W w1) := hb1
    clear hb1 HF
    go_wp2_with fail
    go_ret
    exact ⟨rfl, HB1.out⟩
  · have hs' : ¬ (300 : Int) < (s.size : Int) := by omega
    have hd' : decide ((300 : Int) < (s.size : Int)) = false := by simp; omega
    have HE : Hid (∀ w, Below W.heap.size W w → Env w ea) := fun w hb => hE.below hb
    have HLX : Hid (∀ (t : ByteArray) (w : World), t.size ≤ 8192 → Below W.heap.size W w → Calls Tryd.prog 8 #[.string t] w fun e w' => ∃ v ev, e = .returned (.tuple #[v, ev]) ∧ LexV w ea (lexL t.data.toList) v ev w' ∧ Below w.heap.size w w') := fun t w ht hb => lex_any t w ea (hE.below hb) (Nat.le_trans hW hb.size) ht
    clear hE
    go_enter Tryd.func5, Tryd.ntmps5
    go_wp2_with fail
    refine Calls.mono HF.out ?_
    rintro e w1 ⟨rfl, hb1⟩
    have HB1 : Hid (Below W.heap.size W w1) := hb1
    clear hb1 HF
    go_wp2_with fail
    go_loop [4, 5] (fun v4 v5 => ∃ (k : Nat) (p : ByteArray), v4 = .string p ∧ v5 = .int .i64 (k : Nat) ∧ k ≤ s.size ∧ Hid (p.data.toList = 39 :: quo (s.data.toList.take k))) (fun _ v5 => s.size - (intOf v5).toNat)
    case atStart => exact ⟨0, ⟨#[39]⟩, rfl, rfl, Nat.zero_le _, rfl⟩
    case round =>
      obtain ⟨k, p, rfl, rfl, hk, HP⟩ := hrel
      have hps := q_size (by omega) HP.out
      by_cases hlt : k < s.size
      · have hlt' : (k : Int) < (s.size : Int) := by omega
        by_cases c39 : s[k] = 39
        · have d39 : (((s[k]).toNat : Int) == 39) = true := by rw [c39]; rfl
          have HP' : Hid _ := q_yes hlt HP.out c39
          clear HP c39
          go_wp2_with fail
          exact ⟨⟨k + 1, _, rfl, by simp, by omega, HP'.out⟩, by simp [intOf]; omega⟩
        · have d39 : (((s[k]).toNat : Int) == 39) = false := byte_ne s[k] 39 c39
          have HP' : Hid _ := q_no hlt HP.out c39
          clear HP c39
          go_wp2_with fail
          exact ⟨⟨k + 1, _, rfl, by simp, by omega, HP'.out⟩, by simp [intOf]; omega⟩
      · have hlt' : ¬ (k : Int) < (s.size : Int) := by omega
        have HPA : Hid (p.data.toList = 39 :: quo s.data.toList) := by
          have := HP.out
          rwa [List.take_of_length_le (by rw [ba_length]; omega)] at this
        have hq : (p ++ ⟨#[39]⟩ : ByteArray).size ≤ 8192 := by
          rw [ByteArray.size_append]
          show p.size + 1 ≤ 8192
          omega
        have L1 := HLX.out (p ++ ⟨#[39]⟩) w1 hq HB1.out
        rw [app_list, HPA.out, show (39 :: quo s.data.toList) ++ (⟨#[39]⟩ : ByteArray).data.toList = 39 :: (quo s.data.toList ++ [39]) from rfl, lex_quo] at L1
        have HL1 : Hid _ := L1
        clear L1 HP hq
        go_wp2_with fail
        refine Calls.mono HL1.out ?_
        rintro e w2 ⟨v2, ev2, rfl, ⟨rfl, hO2⟩, hb2⟩
        obtain ⟨g2, c2, rfl, hg2⟩ := hO2.get (by simp)
        have HG2 : Hid (∀ w, Below w2.heap.size w2 w → w.cell? ⟨g2, 0, none⟩ = some (.int .i64 19) ∧ w.cell? ⟨g2, 3, none⟩ = some (.string s)) := fun w hb => by
          obtain ⟨g', c', e', r'⟩ := (hO2.below hb).get (by simp)
          obtain ⟨e1, -, -⟩ := Value.slice.inj e'
          cases e1
          refine ⟨r' 0 _ rfl 0 _ rfl, ?_⟩
          have := r' 0 _ rfl 3 _ rfl
          exact this
        have HB2 : Hid (Below W.heap.size W w2) := HB1.out.trans (Below.mono hb2 HB1.out.size)
        have L2 := HLX.out p w2 (by omega) HB2.out
        rw [HPA.out, lex_unquo] at L2
        have HL2 : Hid _ := L2
        clear L2 hO2 hb2 hg2 HL1 HPA
        simp only [List.length_cons, List.length_nil, Nat.zero_add, Nat.reduceAdd]
        go_wp2_with fail
        refine Calls.mono HL2.out ?_
        rintro e w3 ⟨v3, ev3, rfl, ⟨rfl, q3, rfl, hx3⟩, hb3⟩
        have HX3 : Hid (Cel w3 q3 83 #[.int .i64 0, errV (ea (gOf 2))]) := hx3
        have HB3 : Hid (Below W.heap.size W w3) := HB2.out.trans (Below.mono hb3 HB2.out.size)
        obtain ⟨a0, a3⟩ := HG2.out w3 hb3
        clear hx3 hb3 HL2 HB2 HG2
        go_wp2_with fail
        refine (placed_any 103 0 (by decide) _).mono ?_
        rintro e w5 ⟨f5, rfl, hf5, _, hb5⟩
        have HB5 : Hid (Below W.heap.size W w5) := HB3.out.trans (Below.mono hb5 HB3.out.size)
        have HSA : Hid _ := same_any w5 ea (HE.out _ HB5.out) 2 (by omega) (ea (gOf 2)) rfl q3 0 (HX3.out.below hb5 HX3.out.lt) f5 hf5 103 rfl
        clear hf5 hb5 HX3 HB3 a0 a3
        go_wp2_with fail
        refine Calls.mono HSA.out ?_
        rintro e w6 ⟨rfl, hb6⟩
        have HB6 : Hid (Below W.heap.size W w6) := HB5.out.trans (Below.mono hb6 HB5.out.size)
        clear hb6 HSA HB5
        go_wp2_with fail
        go_ret
        exact ⟨rfl, HB6.out⟩
end Go.Proofs.YtddekcohfbnmbaaDoor
