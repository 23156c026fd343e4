/- Tokens, as they are written. -/
import Derived.Test.YtddekcohfbnmbaaDoorBk1
import Derived.Test.YtddekcohfbnmbaaDoorBuildB
import Derived.Test.YtddekcohfbnmbaaDoorFirst
namespace Go.Proofs.YtddekcohfbnmbaaDoor
open Go.RowKit
attribute [local go_sem] Oper.semAt_some

theorem prR_app : ∀ X Y : List Tb, prR (X ++ Y) = prR X ++ prR Y
  | [], Y => rfl
  | t :: X, Y => by rw [List.cons_append, prR, prR, prR_app X Y]; simp
theorem prL_app {X : List Tb} (h : X ≠ []) (Y : List Tb) : prL (X ++ Y) = prL X ++ prR Y := by
  cases X with
  | nil => exact absurd rfl h
  | cons t X => rw [List.cons_append, prL, prL, prR_app]; simp
theorem prL_take (K : List Tb) (i : Nat) : (prL (K.take i)).length ≤ (prL K).length := by
  by_cases h : K.take i = []
  · rw [h]; simp [prL]
  · conv => rhs; rw [← List.take_append_drop i K]
    rw [prL_app h, List.length_append]
    omega
theorem prL_next (K : List Tb) (i : Nat) (q : Tb) (hq : K[i]? = some q) : prL (K.take (i + 1)) = prL (K.take i) ++ ((if decide (0 < i) && !q.glue then [32] else []) ++ prB q) := by
  have hlt := (List.getElem?_eq_some_iff.1 hq).1
  have e : K.take (i + 1) = K.take i ++ [q] := by
    rw [List.take_succ_eq_append_getElem hlt]
    rw [List.getElem?_eq_getElem hlt] at hq
    rw [Option.some.inj hq]
  rw [e]
  by_cases h0 : i = 0
  · subst h0
    simp [prL, prR]
  · have hne : K.take i ≠ [] := fun e => by
      have := congrArg List.length e
      rw [List.length_take, List.length_nil] at this
      omega
    rw [prL_app hne, decide_eq_true (by omega : 0 < i)]
    cases hg : q.glue <;> simp [prR, hg]
theorem Bld.new (W : World) : Bld (W.alloc (.cells #[.pointer none, .slice none 0 0] 63)) W.heap.size W.heap.size [] :=
  ⟨Nat.le_refl _, _, _, .inl rfl, Cel.new _ _ _, World.ownsRow_nil _ _ _ _⟩
theorem Bld.under {W W' : World} {B b : Nat} {l : List UInt8} (h : Bld W B b l) (hb : Below W.heap.size W W') : Bld W' B b l := by
  obtain ⟨h1, p, v, h2, h3, h4⟩ := h
  exact ⟨h1, p, v, h2, h3.below hb h3.lt, owns_turn h4 (Turn.ofBelow (S := fun _ => False) hb) (fun _ _ e => e)⟩
set_option maxRecDepth 100000 in
set_option maxHeartbeats 8000000 in
theorem print_any {W : World} {B M : Nat} {v : Value} {K : List Tb} {ea : Nat → Addr} (hE : Env W ea) (h : TbOwn W B v K) (hT : ∀ t ∈ K, Tok M t) (hM : M ≤ 8192) (hK : K.length ≤ 10000) (hP : (prL K).length ≤ 8192) :
    Calls Tryd.prog 13 #[v] W fun e w' => e = .returned (str (prL K)) ∧ Below W.heap.size W w' := by
  obtain ⟨ad, cap, rfl⟩ := h.form
  have HG : Hid (∀ w, Below W.heap.size W w → ∀ (i : Nat) (q : Tb), K[i]? = some q → ∃ g, ad = some ⟨g, 0, none⟩ ∧ (∀ j u, (tbC q)[j]? = some u → w.cell? ⟨g, i * 5 + j, none⟩ = some u)) := fun w hb i q hq => by
    have hw := h.below hb
    obtain ⟨g, c2, e1, r1⟩ := hw.get (fun e => by rw [e] at hq; cases hq)
    obtain ⟨rfl, _, _⟩ := Value.slice.inj e1
    exact ⟨g, rfl, fun j u hu => r1 i q hq j u hu⟩
  have HPR : Hid (∀ w, Below W.heap.size W w → ∀ t ∈ K, Calls Tryd.prog 26 #[.agg (tbC t).toArray] w fun e w' => e = .returned (str (prB t)) ∧ Below w.heap.size w w') := fun w hb t ht => printed_any t (hT t ht) hM w ea (hE.below hb)
  clear hE h hT
  go_enter Tryd.func13, Tryd.ntmps13
  go_wp2_with fail
  go_loopw [8] (fun v8 wr => ∃ i : Nat, v8 = .int .i64 (i : Nat) ∧ i ≤ K.length ∧ Hid (Bld wr W.heap.size W.heap.size (prL (K.take i))) ∧ Hid (Below W.heap.size W wr)) (fun v8 _ => K.length - (intOf v8).toNat)
  case atStart => exact ⟨0, rfl, Nat.zero_le _, Bld.new W, below_new _ _⟩
  case round =>
    obtain ⟨i, rfl, hiK, HBd, HB⟩ := hrel
    by_cases hlt : i < K.length
    · have hlt' : (i : Int) < (K.length : Int) := by omega
      obtain ⟨q, hq⟩ : ∃ q, K[i]? = some q := ⟨K[i]'hlt, List.getElem?_eq_getElem _⟩
      obtain ⟨g, rfl, hc⟩ := HG.out wr HB.out i q hq
      have c0 : wr.cell? ⟨g, i * 5, none⟩ = some (.int .i64 (q.kind : Nat)) := hc 0 _ rfl
      have c1 : wr.cell? ⟨g, i * 5 + 1, none⟩ = some (.int .i64 (q.pos : Nat)) := hc 1 _ rfl
      have c2 : wr.cell? ⟨g, i * 5 + 2, none⟩ = some (.int .i64 (q.n : Nat)) := hc 2 _ rfl
      have c3 : wr.cell? ⟨g, i * 5 + 3, none⟩ = some (str q.s) := hc 3 _ rfl
      have c4 : wr.cell? ⟨g, i * 5 + 4, none⟩ = some (.bool q.glue) := hc 4 _ rfl
      have HPQ : Hid (∀ w, Below W.heap.size W w → Calls Tryd.prog 26 #[.agg (tbC q).toArray] w fun e w' => e = .returned (str (prB q)) ∧ Below w.heap.size w w') := fun w hb => HPR.out w hb q (List.mem_of_getElem? hq)
      have HNX : Hid _ := prL_next K i q hq
      have hle := prL_take K (i + 1)
      have hlq : (prL (K.take i)).length + (prB q).length ≤ 8192 := by
        rw [HNX.out] at hle
        simp only [List.length_append] at hle
        omega
      generalize prB q = pq at *
      generalize prL (K.take i) = pl at *
      obtain ⟨pn, HPN⟩ : ∃ pn, Hid (prL (K.take (i + 1)) = pn) := ⟨_, rfl⟩
      rw [HPN.out] at HNX
      obtain ⟨qk, qp, qn, qs, qg⟩ := q
      simp only at c0 c1 c2 c3 c4 HNX
      have hzr : W.heap.size ≤ wr.heap.size := HB.out.size
      clear hc hq HG HPR hle
      by_cases hi0 : 0 < i
      · have hi1 : (0 : Int) < (i : Int) := by omega
        have hi2 : decide ((0 : Int) < (i : Int)) = true := decide_eq_true hi1
        have hi3 : decide (0 < i) = true := decide_eq_true hi0
        rw [hi3] at HNX
        cases qg with
        | true =>
          have HX : Hid (Bld (wr.alloc (.cells #[.int .i64 (qk : Nat), .int .i64 (qp : Nat), .int .i64 (qn : Nat), str qs, .bool true] 40)) W.heap.size W.heap.size pl) := HBd.out.under (below_new _ _)
          have HBX : Hid (Below W.heap.size W (wr.alloc (.cells #[.int .i64 (qk : Nat), .int .i64 (qp : Nat), .int .i64 (qn : Nat), str qs, .bool true] 40))) := HB.out.alloc hzr _
          have HPX : Hid _ := HPQ.out _ HBX.out
          clear HBd HPQ
          go_wp2_with fail
          refine Calls.mono HPX.out ?_
          rintro e w2 ⟨rfl, hb2⟩
          have HB2 : Hid (Below W.heap.size W w2) := HBX.out.trans (hb2.mono HBX.out.size)
          have HD2 : Hid (Bld w2 W.heap.size W.heap.size pl) := HX.out.under hb2
          have HWS : Hid _ := writeString_bld _ _ _ ⟨pq.toArray⟩ w2 HD2.out (by show pl.length + pq.length < _; omega) HB2.out.size
          clear hb2 HPX HX HBX
          go_wp2_with fail
          refine Calls.mono HWS.out ?_
          rintro e w3 ⟨rfl, hd3, hk3⟩
          have HD3 : Hid (Bld w3 W.heap.size W.heap.size pn) := by
            unfold Hid
            rw [HNX.out]
            simpa using hd3
          have HB3 : Hid (Below W.heap.size W w3) := HB2.out.trans hk3.1
          clear hd3 hk3 HWS HD2 HB2 HNX
          go_wp2_with fail
          exact ⟨⟨i + 1, by simp, by omega, (by unfold Hid; rw [HPN.out]; exact HD3.out), HB3.out⟩, by simp [intOf]; omega⟩
        | false =>
          have HX0 : Hid (Bld (wr.alloc (.cells #[.int .i64 (qk : Nat), .int .i64 (qp : Nat), .int .i64 (qn : Nat), str qs, .bool false] 40)) W.heap.size W.heap.size pl) := HBd.out.under (below_new _ _)
          have HBX0 : Hid (Below W.heap.size W (wr.alloc (.cells #[.int .i64 (qk : Nat), .int .i64 (qp : Nat), .int .i64 (qn : Nat), str qs, .bool false] 40))) := HB.out.alloc hzr _
          have HCX0 : Hid (Cel (wr.alloc (.cells #[.int .i64 (qk : Nat), .int .i64 (qp : Nat), .int .i64 (qn : Nat), str qs, .bool false] 40)) wr.heap.size 40 #[.int .i64 (qk : Nat), .int .i64 (qp : Nat), .int .i64 (qn : Nat), str qs, .bool false]) := Cel.new wr _ _
          have HWB : Hid _ := writeByte_bld _ _ _ 32 _ HX0.out (by omega) HBX0.out.size
          have hne : wr.heap.size ≠ W.heap.size := by
            have := HBd.out
            obtain ⟨_, _, _, _, hcb, _⟩ := this
            have := hcb.lt
            omega
          clear HBd HX0
          go_wp2_with fail
          refine Calls.mono HWB.out ?_
          rintro e X ⟨rfl, hdx, hkx⟩
          have HX : Hid (Bld X W.heap.size W.heap.size (pl ++ [32])) := hdx
          have HBX : Hid (Below W.heap.size W X) := HBX0.out.trans hkx.1
          have hCX : Cel X wr.heap.size 40 #[.int .i64 (qk : Nat), .int .i64 (qp : Nat), .int .i64 (qn : Nat), str qs, .bool false] := hkx.2.2 _ _ _ HCX0.out (by decide) hne
          have x0 : X.cell? ⟨wr.heap.size, 0, none⟩ = some (.int .i64 (qk : Nat)) := hCX.cell 0
          have x1 : X.cell? ⟨wr.heap.size, 1, none⟩ = some (.int .i64 (qp : Nat)) := hCX.cell 1
          have x2 : X.cell? ⟨wr.heap.size, 2, none⟩ = some (.int .i64 (qn : Nat)) := hCX.cell 2
          have x3 : X.cell? ⟨wr.heap.size, 3, none⟩ = some (str qs) := hCX.cell 3
          have x4 : X.cell? ⟨wr.heap.size, 4, none⟩ = some (.bool false) := hCX.cell 4
          have HPX : Hid _ := HPQ.out _ HBX.out
          clear HPQ hdx hkx HWB HCX0 HBX0 c0 c1 c2 c3 c4 hCX
          go_wp2_with fail
          refine Calls.mono HPX.out ?_
          rintro e w2 ⟨rfl, hb2⟩
          have HB2 : Hid (Below W.heap.size W w2) := HBX.out.trans (hb2.mono HBX.out.size)
          have HD2 : Hid (Bld w2 W.heap.size W.heap.size (pl ++ [32])) := HX.out.under hb2
          have HWS : Hid _ := writeString_bld _ _ _ ⟨pq.toArray⟩ w2 HD2.out (by show (pl ++ [32]).length + pq.length < _; rw [List.length_append]; show pl.length + 1 + pq.length < _; omega) HB2.out.size
          clear hb2 HPX HX HBX
          go_wp2_with fail
          refine Calls.mono HWS.out ?_
          rintro e w3 ⟨rfl, hd3, hk3⟩
          have HD3 : Hid (Bld w3 W.heap.size W.heap.size pn) := by
            unfold Hid
            rw [HNX.out]
            simpa using hd3
          have HB3 : Hid (Below W.heap.size W w3) := HB2.out.trans hk3.1
          clear hd3 hk3 HWS HD2 HB2 HNX
          go_wp2_with fail
          exact ⟨⟨i + 1, by simp, by omega, (by unfold Hid; rw [HPN.out]; exact HD3.out), HB3.out⟩, by simp [intOf]; omega⟩
      · obtain rfl : i = 0 := by omega
        have HX : Hid (Bld (wr.alloc (.cells #[.int .i64 (qk : Nat), .int .i64 (qp : Nat), .int .i64 (qn : Nat), str qs, .bool qg] 40)) W.heap.size W.heap.size pl) := HBd.out.under (below_new _ _)
        have HBX : Hid (Below W.heap.size W (wr.alloc (.cells #[.int .i64 (qk : Nat), .int .i64 (qp : Nat), .int .i64 (qn : Nat), str qs, .bool qg] 40))) := HB.out.alloc hzr _
        have HPX : Hid _ := HPQ.out _ HBX.out
        clear HBd HPQ
        go_wp2_with fail
        refine Calls.mono HPX.out ?_
        rintro e w2 ⟨rfl, hb2⟩
        have HB2 : Hid (Below W.heap.size W w2) := HBX.out.trans (hb2.mono HBX.out.size)
        have HD2 : Hid (Bld w2 W.heap.size W.heap.size pl) := HX.out.under hb2
        have HWS : Hid _ := writeString_bld _ _ _ ⟨pq.toArray⟩ w2 HD2.out (by show pl.length + pq.length < _; omega) HB2.out.size
        clear hb2 HPX HX HBX
        go_wp2_with fail
        refine Calls.mono HWS.out ?_
        rintro e w3 ⟨rfl, hd3, hk3⟩
        have HD3 : Hid (Bld w3 W.heap.size W.heap.size pn) := by
          unfold Hid
          rw [HNX.out]
          simpa using hd3
        have HB3 : Hid (Below W.heap.size W w3) := HB2.out.trans hk3.1
        clear hd3 hk3 HWS HD2 HB2 HNX
        go_wp2_with fail
        exact ⟨⟨0 + 1, by simp, by omega, (by unfold Hid; rw [HPN.out]; exact HD3.out), HB3.out⟩, by simp [intOf]; omega⟩
    · have hlt' : ¬ (i : Int) < (K.length : Int) := by omega
      have HBK : Hid (Bld wr W.heap.size W.heap.size (prL K)) := by
        have := HBd.out
        rw [List.take_of_length_le (by omega)] at this
        exact this
      have HS : Hid _ := string_bld _ _ _ wr HBK.out HB.out.size
      clear HBd HBK
      go_wp2_with fail
      refine Calls.mono HS.out ?_
      rintro e w1 ⟨rfl, hb1, _⟩
      have HB1 : Hid (Below W.heap.size W w1) := HB.out.trans hb1
      clear hb1 HS
      go_wp2_with fail
      go_ret
      exact ⟨rfl, HB1.out⟩
end Go.Proofs.YtddekcohfbnmbaaDoor
