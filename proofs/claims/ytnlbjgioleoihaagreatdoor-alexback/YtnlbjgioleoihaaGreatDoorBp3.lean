/- A word, a token, as they are written. -/
import Derived.Test.YtnlbjgioleoihaaGreatDoorBp2
namespace Go.Proofs.YtnlbjgioleoihaaGreatDoor
open Go.RowKit
attribute [local go_sem] Oper.semAt_some

theorem prW_next' (K : List Pt) (i : Nat) (q : Pt) (hq : K[i]? = some q) : prW (K.take (i + 1)) = prW (K.take i) ++ prPt q := by
  have hlt := (List.getElem?_eq_some_iff.1 hq).1
  have e : K.take (i + 1) = K.take i ++ [q] := by
    rw [List.take_succ_eq_append_getElem hlt]
    rw [List.getElem?_eq_getElem hlt] at hq
    rw [Option.some.inj hq]
  rw [e, prW_app]
  simp [prW]
theorem prW_take (K : List Pt) (i : Nat) : (prW (K.take i)).length ≤ (prW K).length := by
  conv => rhs; rw [← List.take_append_drop i K]
  rw [prW_app, List.length_append]
  omega
theorem Bld.new (W : World) : Bld (W.alloc (.cells #[.pointer none, .slice none 0 0] 53)) W.heap.size W.heap.size [] :=
  ⟨Nat.le_refl _, _, _, .inl rfl, Cel.new _ _ _, World.ownsRow_nil _ _ _ _⟩
theorem Bld.under {W W' : World} {B b : Nat} {l : List UInt8} (h : Bld W B b l) (hb : Below W.heap.size W W') : Bld W' B b l := by
  obtain ⟨h1, p, v, h2, h3, h4⟩ := h
  exact ⟨h1, p, v, h2, h3.below hb h3.lt, owns_turn h4 (Turn.ofBelow (S := fun _ => False) hb) (fun _ _ e => e)⟩
set_option maxRecDepth 100000 in
set_option maxHeartbeats 8000000 in
theorem pword_any {W : World} {B : Nat} {v : Value} {K : List Pt} (hM : MLx W) (h : PtOwn W B v K) (hT : ∀ t ∈ K, GP t ∧ t.s.length ≤ 8192) (hK : K.length ≤ 10000) (hP : (prW K).length ≤ 8192) :
    Calls Tryz.prog 26 #[v] W fun e w' => e = .returned (str (prW K)) ∧ Below W.heap.size W w' := by
  obtain ⟨ad, cap, rfl⟩ := h.form
  have HG : Hid (∀ w, Below W.heap.size W w → ∀ (i : Nat) (q : Pt), K[i]? = some q → ∃ g, ad = some ⟨g, 0, none⟩ ∧ (∀ j u, (ptC q)[j]? = some u → w.cell? ⟨g, i * 5 + j, none⟩ = some u)) := fun w hb i q hq => by
    have hw := h.below hb
    obtain ⟨g, c2, e1, r1⟩ := hw.get (fun e => by rw [e] at hq; cases hq)
    obtain ⟨rfl, _, _⟩ := Value.slice.inj e1
    exact ⟨g, rfl, fun j u hu => r1 i q hq j u hu⟩
  have HPR : Hid (∀ w, Below W.heap.size W w → ∀ t ∈ K, Calls Tryz.prog 34 #[.agg (ptC t).toArray] w fun e w' => e = .returned (str (prPt t)) ∧ Below w.heap.size w w') := fun w hb t ht => part_any (hT t ht).1 (hT t ht).2 w (hM.up hb)
  clear hM h hT
  go_enter Tryz.func26, Tryz.ntmps26
  go_wp2_with fail
  go_loopw [8] (fun v8 wr => ∃ i : Nat, v8 = .int .i64 (i : Nat) ∧ i ≤ K.length ∧ Hid (Bld wr W.heap.size W.heap.size (prW (K.take i))) ∧ Hid (Below W.heap.size W wr)) (fun v8 _ => K.length - (intOf v8).toNat)
  case atStart => exact ⟨0, rfl, Nat.zero_le _, Bld.new W, below_new _ _⟩
  case round =>
    obtain ⟨i, rfl, hiK, HBd, HB⟩ := hrel
    by_cases hlt : i < K.length
    · have hlt' : (i : Int) < (K.length : Int) := by omega
      obtain ⟨q, hq⟩ : ∃ q, K[i]? = some q := ⟨K[i]'hlt, List.getElem?_eq_getElem _⟩
      obtain ⟨g, rfl, hc⟩ := HG.out wr HB.out i q hq
      have c0 : wr.cell? ⟨g, i * 5, none⟩ = some (.int .i64 (q.kind : Nat)) := hc 0 _ rfl
      have c1 : wr.cell? ⟨g, i * 5 + 1, none⟩ = some (.int .i64 (q.pos : Nat)) := hc 1 _ rfl
      have c2 : wr.cell? ⟨g, i * 5 + 2, none⟩ = some (.int .i64 (q.n : Nat)) := hc 2 _ rfl
      have c3 : wr.cell? ⟨g, i * 5 + 3, none⟩ = some (.bool q.quoted) := hc 3 _ rfl
      have c4 : wr.cell? ⟨g, i * 5 + 4, none⟩ = some (str q.s) := hc 4 _ rfl
      have HPQ : Hid (∀ w, Below W.heap.size W w → Calls Tryz.prog 34 #[.agg (ptC q).toArray] w fun e w' => e = .returned (str (prPt q)) ∧ Below w.heap.size w w') := fun w hb => HPR.out w hb q (List.mem_of_getElem? hq)
      have HNX : Hid _ := prW_next' K i q hq
      have hle := prW_take K (i + 1)
      have hlq : (prW (K.take i)).length + (prPt q).length ≤ 8192 := by
        rw [HNX.out] at hle
        simp only [List.length_append] at hle
        omega
      generalize prPt q = pq at *
      generalize prW (K.take i) = pl at *
      obtain ⟨pn, HPN⟩ : ∃ pn, Hid (prW (K.take (i + 1)) = pn) := ⟨_, rfl⟩
      rw [HPN.out] at HNX
      obtain ⟨qk, qp, qn, qg, qs⟩ := q
      simp only at c0 c1 c2 c3 c4 HNX
      have hzr : W.heap.size ≤ wr.heap.size := HB.out.size
      clear hc hq HG HPR hle
      have HX : Hid (Bld (wr.alloc (.cells #[.int .i64 (qk : Nat), .int .i64 (qp : Nat), .int .i64 (qn : Nat), .bool qg, str qs] 36)) W.heap.size W.heap.size pl) := HBd.out.under (below_new _ _)
      have HBX : Hid (Below W.heap.size W (wr.alloc (.cells #[.int .i64 (qk : Nat), .int .i64 (qp : Nat), .int .i64 (qn : Nat), .bool qg, str qs] 36))) := HB.out.alloc hzr _
      have HPX : Hid _ := HPQ.out _ HBX.out
      clear HBd HPQ
      go_wp2_with fail
      refine Calls.mono HPX.out ?_
      rintro e w2 ⟨rfl, hb2⟩
      have HB2 : Hid (Below W.heap.size W w2) := HBX.out.trans (hb2.mono HBX.out.size)
      have HD2 : Hid (Bld w2 W.heap.size W.heap.size pl) := HX.out.under hb2
      have HWS : Hid _ := writeString_bld _ _ _ ⟨pq.toArray⟩ w2 HD2.out (by show pl.length + pq.length < _; omega) HB2.out.size
      clear hb2 HPX HX HBX
      go_wp2_with fail
      refine Calls.mono HWS.out ?_
      rintro e w3 ⟨rfl, hd3, hk3⟩
      have HD3 : Hid (Bld w3 W.heap.size W.heap.size pn) := by
        unfold Hid
        rw [HNX.out]
        simpa using hd3
      have HB3 : Hid (Below W.heap.size W w3) := HB2.out.trans hk3.1
      clear hd3 hk3 HWS HD2 HB2 HNX
      go_wp2_with fail
      exact ⟨⟨i + 1, by simp, by omega, (by unfold Hid; rw [HPN.out]; exact HD3.out), HB3.out⟩, by simp [intOf]; omega⟩
    · have hlt' : ¬ (i : Int) < (K.length : Int) := by omega
      have HBK : Hid (Bld wr W.heap.size W.heap.size (prW K)) := by
        have := HBd.out
        rw [List.take_of_length_le (by omega)] at this
        exact this
      have HS : Hid _ := string_bld _ _ _ wr HBK.out HB.out.size
      clear HBd HBK
      go_wp2_with fail
      refine Calls.mono HS.out ?_
      rintro e w1 ⟨rfl, hb1, _⟩
      have HB1 : Hid (Below W.heap.size W w1) := HB.out.trans hb1
      clear hb1 HS
      go_wp2_with fail
      go_ret
      exact ⟨rfl, HB1.out⟩
/-- A token of a fixed sign, or of none. -/
theorem printed_sign (k p : Nat) (v : Value) (hk : k < 13) (W : World) (ea : Nat → Addr) (hE : Env W ea) :
    Calls Tryz.prog 15 #[.agg #[.int .i64 (k : Nat), .int .i64 (p : Nat), v]] W fun e w' => e = .returned (str (sgn k)) ∧ Below W.heap.size W w' := by
  have c1 := (hE.below (below_new W (.cells #[.int .i64 (k : Nat), .int .i64 (p : Nat), v] 31))).sign k hk
  have n13 : ((k : Int) == 13) = false := by rw [beq_eq_false_iff_ne]; omega
  have l0 : ¬ (k : Int) < 0 := by omega
  have l1 : decide ((k : Int) < 0) = false := decide_eq_false l0
  have g0 : ¬ (13 : Int) ≤ (k : Int) := by omega
  have g1 : decide ((13 : Int) ≤ (k : Int)) = false := decide_eq_false g0
  have k1 : (k : Int) < 13 := by omega
  clear hE
  generalize sgn k = sk at *
  go_enter Tryz.func15, Tryz.ntmps15
  go_wp2_with fail
  go_ret
  exact ⟨rfl, below_new _ _⟩
theorem printed_word {W : World} {B : Nat} {v : Value} {K : List Pt} (p : Nat) (hM : MLx W) (h : PtOwn W B v K) (hT : ∀ t ∈ K, GP t ∧ t.s.length ≤ 8192) (hK : K.length ≤ 10000) (hP : (prW K).length ≤ 8192) :
    Calls Tryz.prog 15 #[.agg #[.int .i64 (13 : Nat), .int .i64 (p : Nat), v]] W fun e w' => e = .returned (str (prW K)) ∧ Below W.heap.size W w' := by
  have hb := below_new W (.cells #[.int .i64 ((13 : Nat) : Int), .int .i64 (p : Nat), v] 31)
  have HW : Hid _ := pword_any (hM.up hb) (h.below hb) hT hK hP
  clear hM h hT hP hb
  generalize prW K = pw at *
  go_enter Tryz.func15, Tryz.ntmps15
  go_wp2_with fail
  refine Calls.mono HW.out ?_
  rintro e w1 ⟨rfl, hb⟩
  have HB1 : Hid (Below W.heap.size W w1) := (below_new W _).trans (hb.mono (by simp))
  clear hb HW
  go_wp2_with fail
  go_ret
  exact ⟨rfl, HB1.out⟩
end Go.Proofs.YtnlbjgioleoihaaGreatDoor
