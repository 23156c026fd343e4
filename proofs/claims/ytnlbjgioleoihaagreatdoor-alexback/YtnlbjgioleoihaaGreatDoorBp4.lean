/- Tokens, as they are written. -/
import Derived.Test.YtnlbjgioleoihaaGreatDoorBp3
namespace Go.Proofs.YtnlbjgioleoihaaGreatDoor
open Go.RowKit
attribute [local go_sem] Oper.semAt_some

/-- A token that can be printed. -/
def TokP (t : Tk) : Prop := t.kind < 13 ∨ (t.kind = 13 ∧ (∀ p ∈ t.parts, GP p ∧ p.s.length ≤ 8192) ∧ t.parts.length ≤ 10000 ∧ (prW t.parts).length ≤ 8192)
theorem printed_any {W : World} {B : Nat} {q : Value × Tk} {ea : Nat → Addr} (hE : Env W ea) (hM : MLx W) (h : PtOwn W B q.1 q.2.parts) (hT : TokP q.2) :
    Calls Tryz.prog 15 #[.agg (tkC q).toArray] W fun e w' => e = .returned (str (prTk q.2)) ∧ Below W.heap.size W w' := by
  obtain ⟨v, k, p, ps⟩ := q
  rcases hT with hk | ⟨hk, h1, h2, h3⟩
  · have e : prTk ⟨k, p, ps⟩ = sgn k := by
      unfold prTk
      rw [if_neg (by simp only at hk ⊢; omega)]
    rw [e]
    exact printed_sign k p v hk W ea hE
  · simp only at hk
    subst hk
    exact printed_word p hM h h1 h2 h3
theorem prR_app : ∀ X Y : List Tk, prR (X ++ Y) = prR X ++ prR Y
  | [], Y => rfl
  | t :: X, Y => by rw [List.cons_append, prR, prR, prR_app X Y]; simp
theorem prL_app {X : List Tk} (h : X ≠ []) (Y : List Tk) : prL (X ++ Y) = prL X ++ prR Y := by
  cases X with
  | nil => exact absurd rfl h
  | cons t X => rw [List.cons_append, prL, prL, prR_app]; simp
theorem prL_take (K : List Tk) (i : Nat) : (prL (K.take i)).length ≤ (prL K).length := by
  by_cases h : K.take i = []
  · rw [h]; simp [prL]
  · conv => rhs; rw [← List.take_append_drop i K]
    rw [prL_app h, List.length_append]
    omega
theorem prL_next (K : List Tk) (i : Nat) (q : Tk) (hq : K[i]? = some q) : prL (K.take (i + 1)) = prL (K.take i) ++ ((if decide (0 < i) && !(q.kind == 0) then [32] else []) ++ prTk q) := by
  have hlt := (List.getElem?_eq_some_iff.1 hq).1
  have e : K.take (i + 1) = K.take i ++ [q] := by
    rw [List.take_succ_eq_append_getElem hlt]
    rw [List.getElem?_eq_getElem hlt] at hq
    rw [Option.some.inj hq]
  rw [e]
  by_cases h0 : i = 0
  · subst h0
    simp [prL, prR]
  · have hne : K.take i ≠ [] := fun e => by
      have := congrArg List.length e
      rw [List.length_take, List.length_nil] at this
      omega
    rw [prL_app hne, decide_eq_true (by omega : 0 < i)]
    by_cases hk : q.kind = 0 <;> simp [prR, hk]
set_option maxRecDepth 100000 in
set_option maxHeartbeats 8000000 in
theorem print_any {W : World} {B : Nat} {v : Value} {K : List (Value × Tk)} {ea : Nat → Addr} (hE : Env W ea) (hM : MLx W) (h : TkOwn W B v K) (hT : ∀ q ∈ K, TokP q.2) (hK : K.length ≤ 10000) (hP : (prL (K.map Prod.snd)).length ≤ 8192) :
    Calls Tryz.prog 6 #[v] W fun e w' => e = .returned (str (prL (K.map Prod.snd))) ∧ Below W.heap.size W w' := by
  obtain ⟨ad, cap, rfl⟩ := h.form
  have HG : Hid (∀ w, Below W.heap.size W w → ∀ (i : Nat) (q : Value × Tk), K[i]? = some q → ∃ g, ad = some ⟨g, 0, none⟩ ∧ (∃ qa ql qc, q.1 = .slice qa ql qc) ∧ (∀ j u, (tkC q)[j]? = some u → w.cell? ⟨g, i * 3 + j, none⟩ = some u)) := fun w hb i q hq => by
    have hw := h.below hb
    obtain ⟨g, c2, e1, r1⟩ := hw.get (fun e => by rw [e] at hq; cases hq)
    obtain ⟨rfl, _, _⟩ := Value.slice.inj e1
    obtain ⟨qa, qc, e2⟩ := (hw.parts q (List.mem_of_getElem? hq)).form
    exact ⟨g, rfl, ⟨qa, _, qc, e2⟩, fun j u hu => r1 i q hq j u hu⟩
  have HPR : Hid (∀ w, Below W.heap.size W w → ∀ t ∈ K, Calls Tryz.prog 15 #[.agg (tkC t).toArray] w fun e w' => e = .returned (str (prTk t.2)) ∧ Below w.heap.size w w') := fun w hb t ht => printed_any (hE.below hb) (hM.up hb) ((h.below hb).parts t ht) (hT t ht)
  clear hE hM h hT
  go_enter Tryz.func6, Tryz.ntmps6
  go_wp2_with fail
  go_loopw [8] (fun v8 wr => ∃ i : Nat, v8 = .int .i64 (i : Nat) ∧ i ≤ K.length ∧ Hid (Bld wr W.heap.size W.heap.size (prL ((K.map Prod.snd).take i))) ∧ Hid (Below W.heap.size W wr)) (fun v8 _ => K.length - (intOf v8).toNat)
  case atStart => exact ⟨0, rfl, Nat.zero_le _, Bld.new W, below_new _ _⟩
  case round =>
    obtain ⟨i, rfl, hiK, HBd, HB⟩ := hrel
    by_cases hlt : i < K.length
    · have hlt' : (i : Int) < (K.length : Int) := by omega
      obtain ⟨q, hq⟩ : ∃ q, K[i]? = some q := ⟨K[i]'hlt, List.getElem?_eq_getElem _⟩
      obtain ⟨g, rfl, hqv, hc⟩ := HG.out wr HB.out i q hq
      have c0 : wr.cell? ⟨g, i * 3, none⟩ = some (.int .i64 (q.2.kind : Nat)) := hc 0 _ rfl
      have c1 : wr.cell? ⟨g, i * 3 + 1, none⟩ = some (.int .i64 (q.2.pos : Nat)) := hc 1 _ rfl
      have c2 : wr.cell? ⟨g, i * 3 + 2, none⟩ = some q.1 := hc 2 _ rfl
      have HPQ : Hid (∀ w, Below W.heap.size W w → Calls Tryz.prog 15 #[.agg (tkC q).toArray] w fun e w' => e = .returned (str (prTk q.2)) ∧ Below w.heap.size w w') := fun w hb => HPR.out w hb q (List.mem_of_getElem? hq)
      have HNX : Hid _ := prL_next (K.map Prod.snd) i q.2 (by rw [List.getElem?_map, hq]; rfl)
      have hle := prL_take (K.map Prod.snd) (i + 1)
      have hlq : (prL ((K.map Prod.snd).take i)).length + (prTk q.2).length ≤ 8192 := by
        rw [HNX.out] at hle
        simp only [List.length_append] at hle
        omega
      generalize prTk q.2 = pq at *
      generalize prL ((K.map Prod.snd).take i) = pl at *
      obtain ⟨pn, HPN⟩ : ∃ pn, Hid (prL ((K.map Prod.snd).take (i + 1)) = pn) := ⟨_, rfl⟩
      rw [HPN.out] at HNX
      obtain ⟨qv, qk, qp, qs⟩ := q
      simp only at c0 c1 c2 HNX hqv
      obtain ⟨qa, ql, qc, rfl⟩ := hqv
      have hzr : W.heap.size ≤ wr.heap.size := HB.out.size
      clear hc hq HG HPR hle
      by_cases hi0 : 0 < i
      · have hi1 : (0 : Int) < (i : Int) := by omega
        have hi2 : decide ((0 : Int) < (i : Int)) = true := decide_eq_true hi1
        have hi3 : decide (0 < i) = true := decide_eq_true hi0
        rw [hi3] at HNX
        by_cases hk : qk = 0
        · subst hk
          have HX : Hid (Bld (wr.alloc (.cells #[.int .i64 ((0 : Nat) : Int), .int .i64 (qp : Nat), .slice qa ql qc] 31)) W.heap.size W.heap.size pl) := HBd.out.under (below_new _ _)
          have HBX : Hid (Below W.heap.size W (wr.alloc (.cells #[.int .i64 ((0 : Nat) : Int), .int .i64 (qp : Nat), .slice qa ql qc] 31))) := HB.out.alloc hzr _
          have HPX : Hid _ := HPQ.out _ HBX.out
          clear HBd HPQ
          go_wp2_with fail
          refine Calls.mono HPX.out ?_
          rintro e w2 ⟨rfl, hb2⟩
          have HB2 : Hid (Below W.heap.size W w2) := HBX.out.trans (hb2.mono HBX.out.size)
          have HD2 : Hid (Bld w2 W.heap.size W.heap.size pl) := HX.out.under hb2
          have HWS : Hid _ := writeString_bld _ _ _ ⟨pq.toArray⟩ w2 HD2.out (by show pl.length + pq.length < _; omega) HB2.out.size
          clear hb2 HPX HX HBX
          go_wp2_with fail
          refine Calls.mono HWS.out ?_
          rintro e w3 ⟨rfl, hd3, hk3⟩
          have HD3 : Hid (Bld w3 W.heap.size W.heap.size pn) := by
            unfold Hid
            rw [HNX.out]
            simpa using hd3
          have HB3 : Hid (Below W.heap.size W w3) := HB2.out.trans hk3.1
          clear hd3 hk3 HWS HD2 HB2 HNX
          go_wp2_with fail
          exact ⟨⟨i + 1, by simp, by omega, (by unfold Hid; rw [HPN.out]; exact HD3.out), HB3.out⟩, by simp [intOf]; omega⟩
        · have hk1 : ((qk : Int) == 0) = false := by rw [beq_eq_false_iff_ne]; omega
          have hk2 : (qk == 0) = false := by rw [beq_eq_false_iff_ne]; exact hk
          rw [hk2] at HNX
          have HX0 : Hid (Bld (wr.alloc (.cells #[.int .i64 (qk : Nat), .int .i64 (qp : Nat), .slice qa ql qc] 31)) W.heap.size W.heap.size pl) := HBd.out.under (below_new _ _)
          have HBX0 : Hid (Below W.heap.size W (wr.alloc (.cells #[.int .i64 (qk : Nat), .int .i64 (qp : Nat), .slice qa ql qc] 31))) := HB.out.alloc hzr _
          have HCX0 : Hid (Cel (wr.alloc (.cells #[.int .i64 (qk : Nat), .int .i64 (qp : Nat), .slice qa ql qc] 31)) wr.heap.size 31 #[.int .i64 (qk : Nat), .int .i64 (qp : Nat), .slice qa ql qc]) := Cel.new wr _ _
          have HWB : Hid _ := writeByte_bld _ _ _ 32 _ HX0.out (by omega) HBX0.out.size
          have hne : wr.heap.size ≠ W.heap.size := by
            have := HBd.out
            obtain ⟨_, _, _, _, hcb, _⟩ := this
            have := hcb.lt
            omega
          clear HBd HX0
          go_wp2_with fail
          refine Calls.mono HWB.out ?_
          rintro e X ⟨rfl, hdx, hkx⟩
          have HX : Hid (Bld X W.heap.size W.heap.size (pl ++ [32])) := hdx
          have HBX : Hid (Below W.heap.size W X) := HBX0.out.trans hkx.1
          have hCX : Cel X wr.heap.size 31 #[.int .i64 (qk : Nat), .int .i64 (qp : Nat), .slice qa ql qc] := hkx.2.2 _ _ _ HCX0.out (by decide) hne
          have x0 : X.cell? ⟨wr.heap.size, 0, none⟩ = some (.int .i64 (qk : Nat)) := hCX.cell 0
          have x1 : X.cell? ⟨wr.heap.size, 1, none⟩ = some (.int .i64 (qp : Nat)) := hCX.cell 1
          have x2 : X.cell? ⟨wr.heap.size, 2, none⟩ = some (.slice qa ql qc) := hCX.cell 2
          have HPX : Hid _ := HPQ.out _ HBX.out
          clear HPQ hdx hkx HWB HCX0 HBX0 c0 c1 c2 hCX
          go_wp2_with fail
          refine Calls.mono HPX.out ?_
          rintro e w2 ⟨rfl, hb2⟩
          have HB2 : Hid (Below W.heap.size W w2) := HBX.out.trans (hb2.mono HBX.out.size)
          have HD2 : Hid (Bld w2 W.heap.size W.heap.size (pl ++ [32])) := HX.out.under hb2
          have HWS : Hid _ := writeString_bld _ _ _ ⟨pq.toArray⟩ w2 HD2.out (by show (pl ++ [32]).length + pq.length < _; rw [List.length_append]; show pl.length + 1 + pq.length < _; omega) HB2.out.size
          clear hb2 HPX HX HBX
          go_wp2_with fail
          refine Calls.mono HWS.out ?_
          rintro e w3 ⟨rfl, hd3, hk3⟩
          have HD3 : Hid (Bld w3 W.heap.size W.heap.size pn) := by
            unfold Hid
            rw [HNX.out]
            simpa using hd3
          have HB3 : Hid (Below W.heap.size W w3) := HB2.out.trans hk3.1
          clear hd3 hk3 HWS HD2 HB2 HNX
          go_wp2_with fail
          exact ⟨⟨i + 1, by simp, by omega, (by unfold Hid; rw [HPN.out]; exact HD3.out), HB3.out⟩, by simp [intOf]; omega⟩
      · obtain rfl : i = 0 := by omega
        have HX : Hid (Bld (wr.alloc (.cells #[.int .i64 (qk : Nat), .int .i64 (qp : Nat), .slice qa ql qc] 31)) W.heap.size W.heap.size pl) := HBd.out.under (below_new _ _)
        have HBX : Hid (Below W.heap.size W (wr.alloc (.cells #[.int .i64 (qk : Nat), .int .i64 (qp : Nat), .slice qa ql qc] 31))) := HB.out.alloc hzr _
        have HPX : Hid _ := HPQ.out _ HBX.out
        clear HBd HPQ
        go_wp2_with fail
        refine Calls.mono HPX.out ?_
        rintro e w2 ⟨rfl, hb2⟩
        have HB2 : Hid (Below W.heap.size W w2) := HBX.out.trans (hb2.mono HBX.out.size)
        have HD2 : Hid (Bld w2 W.heap.size W.heap.size pl) := HX.out.under hb2
        have HWS : Hid _ := writeString_bld _ _ _ ⟨pq.toArray⟩ w2 HD2.out (by show pl.length + pq.length < _; omega) HB2.out.size
        clear hb2 HPX HX HBX
        go_wp2_with fail
        refine Calls.mono HWS.out ?_
        rintro e w3 ⟨rfl, hd3, hk3⟩
        have HD3 : Hid (Bld w3 W.heap.size W.heap.size pn) := by
          unfold Hid
          rw [HNX.out]
          simpa using hd3
        have HB3 : Hid (Below W.heap.size W w3) := HB2.out.trans hk3.1
        clear hd3 hk3 HWS HD2 HB2 HNX
        go_wp2_with fail
        exact ⟨⟨0 + 1, by simp, by omega, (by unfold Hid; rw [HPN.out]; exact HD3.out), HB3.out⟩, by simp [intOf]; omega⟩
    · have hlt' : ¬ (i : Int) < (K.length : Int) := by omega
      have HBK : Hid (Bld wr W.heap.size W.heap.size (prL (K.map Prod.snd))) := by
        have := HBd.out
        rw [List.take_of_length_le (by rw [List.length_map]; omega)] at this
        exact this
      have HS : Hid _ := string_bld _ _ _ wr HBK.out HB.out.size
      clear HBd HBK
      go_wp2_with fail
      refine Calls.mono HS.out ?_
      rintro e w1 ⟨rfl, hb1, _⟩
      have HB1 : Hid (Below W.heap.size W w1) := HB.out.trans hb1
      clear hb1 HS
      go_wp2_with fail
      go_ret
      exact ⟨rfl, HB1.out⟩
end Go.Proofs.YtnlbjgioleoihaaGreatDoor
