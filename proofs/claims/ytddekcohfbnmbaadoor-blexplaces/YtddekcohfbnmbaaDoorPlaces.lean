/- The law of the places. -/
import Derived.Test.YtddekcohfbnmbaaDoorFirst
import Derived.Test.YtddekcohfbnmbaaDoorPureP
namespace Go.Proofs.YtddekcohfbnmbaaDoor
open Go.RowKit
attribute [local go_sem] Oper.semAt_some

theorem lexW_err' {N : Nat} : ∀ (f : Nat) (l : List UInt8) (x : Er), l.length ≤ N → lexW (tokenL N) f l = .error x → x.pos < N := by
  intro f
  induction f with
  | zero => intro l x _ h; cases h
  | succ f ih =>
    intro l x hl h
    rw [lexW] at h
    cases ht : tokenL N l with
    | error e =>
      rw [ht] at h
      obtain rfl := Except.error.inj h
      exact (token_err hl ht).1
    | ok p =>
      obtain ⟨t, u⟩ := p
      rw [ht] at h
      have hov := over_len l
      by_cases h0 : t.kind = 0
      · simp only [h0, if_true] at h
        cases h
      · simp only [if_neg h0] at h
        have hul : u.length ≤ N := by
          rcases token_ok ht with h1 | h1
          · exact absurd h1.1 h0
          · have := h1.2.2.2.1; omega
        cases hr : lexW (tokenL N) f u with
        | error e =>
          rw [hr] at h
          obtain rfl := Except.error.inj h
          exact ih u e hul hr
        | ok rs => rw [hr] at h; cases h
theorem lex_err {l : List UInt8} {x : Er} (h : lexL l = .error x) : x.pos < l.length := lexW_err' _ l x (Nat.le_refl _) h
set_option maxRecDepth 100000 in
set_option maxHeartbeats 4000000 in
theorem places_long (s : ByteArray) (W : World) (ea : Nat → Addr) (hE : Env W ea) (hW : (ea 64).block ≤ W.heap.size) (hs : 1500 < s.size) :
    Calls Tryd.prog 6 #[.string s] W fun e w' => e = .returned (.bool true) ∧ Below W.heap.size W w' := by
  have HF : Hid _ := first_any W ea hE hW
  have hs' : (1500 : Int) < (s.size : Int) := by omega
  clear hE
  go_enter Tryd.func6, Tryd.ntmps6
  go_wp2_with fail
  refine Calls.mono HF.out ?_
  rintro e w1 ⟨rfl, hb1⟩
  have HB1 : Hid (Below W.heap.size W w1) := hb1
  clear hb1 HF
  go_wp2_with fail
  go_ret
  exact ⟨rfl, HB1.out⟩
/-- The error's own number among the seventeen. -/
theorem gOf_ord (c : Nat) : ∃ j, j < 17 ∧ gOf c = ordE j := by
  match c with
  | 0 => exact ⟨5, by decide, rfl⟩
  | 1 => exact ⟨3, by decide, rfl⟩
  | 2 => exact ⟨2, by decide, rfl⟩
  | n + 3 => exact ⟨6, by decide, rfl⟩
set_option maxRecDepth 100000 in
set_option maxHeartbeats 4000000 in
theorem places_err (s : ByteArray) (W : World) (ea : Nat → Addr) (hE : Env W ea) (hW : (ea 64).block ≤ W.heap.size) (hs : s.size ≤ 1500) (x : Er) (hx : lexL s.data.toList = .error x) :
    Calls Tryd.prog 6 #[.string s] W fun e w' => e = .returned (.bool true) ∧ Below W.heap.size W w' := by
  have HF : Hid _ := first_any W ea hE hW
  have hs' : ¬ (1500 : Int) < (s.size : Int) := by omega
  have hd' : decide ((1500 : Int) < (s.size : Int)) = false := by simp; omega
  have HE : Hid (∀ w, Below W.heap.size W w → Env w ea) := fun w hb => hE.below hb
  have hpos : x.pos < s.size := by have := lex_err hx; rwa [ba_length] at this
  obtain ⟨xj, hj, hgj⟩ := gOf_ord x.code
  clear hE
  go_enter Tryd.func6, Tryd.ntmps6
  go_wp2_with fail
  refine Calls.mono HF.out ?_
  rintro e w1 ⟨rfl, hb1⟩
  have HB1 : Hid (Below W.heap.size W w1) := hb1
  have HL := lex_any s w1 ea (HE.out _ hb1) (Nat.le_trans hW hb1.size) (by omega)
  rw [hx] at HL
  have HLX : Hid _ := HL
  clear HL hb1 HF hx
  go_wp2_with fail
  refine Calls.mono HLX.out ?_
  rintro e w2 ⟨v, ev, rfl, ⟨rfl, q, rfl, hq⟩, hb2⟩
  have HB2 : Hid (Below W.heap.size W w2) := HB1.out.trans (Below.mono hb2 HB1.out.size)
  have HFA : Hid _ := Fault_at w2 ea (HE.out _ HB2.out) xj hj _ (by rw [hgj]) q x.pos hq
  clear hq hb2 HLX HB1
  go_wp2_with fail
  refine Calls.mono HFA.out ?_
  rintro e w3 ⟨fb, rfl, hfb, hfb2, hb3⟩
  have HB3 : Hid (Below W.heap.size W w3) := HB2.out.trans (Below.mono hb3 HB2.out.size)
  have f0 : w3.cell? ⟨fb, 0, none⟩ = some (.int .i64 (x.pos : Nat)) := hfb.cell 0
  have hpos' : (x.pos : Int) < (s.size : Int) := by omega
  have hlt : fb < w3.heap.size := hfb.lt
  clear hfb hb3 HFA HB2
  go_wp2_with fail
  go_ret
  exact ⟨rfl, HB3.out.alloc HB3.out.size _⟩
set_option maxRecDepth 100000 in
set_option maxHeartbeats 8000000 in
theorem places_ok (s : ByteArray) (W : World) (ea : Nat → Addr) (hE : Env W ea) (hW : (ea 64).block ≤ W.heap.size) (hs : s.size ≤ 1500) (ts : List Tb) (hx : lexL s.data.toList = .ok ts) :
    Calls Tryd.prog 6 #[.string s] W fun e w' => e = .returned (.bool true) ∧ Below W.heap.size W w' := by
  have HF : Hid _ := first_any W ea hE hW
  have hd' : decide ((1500 : Int) < (s.size : Int)) = false := by simp; omega
  have HE : Hid (∀ w, Below W.heap.size W w → Env w ea) := fun w hb => hE.below hb
  have hch := lex_chain hx
  rw [ba_length] at hch
  have HST : Hid (∀ (i j : Nat) (t q : Tb), i = j + 1 → ts[i]? = some t → ts[j]? = some q → q.pos < t.pos ∧ t.pos ≤ s.size ∧ Ahd s.data.toList t) := by
    obtain ⟨t0, r, rfl, _, hc⟩ := hch
    intro i j t q hij ht hq
    subst hij
    have ht' : r[j]? = some t := ht
    rcases hc with ⟨_, _, rfl⟩ | ⟨_, _, hc⟩
    · cases ht'
    · obtain ⟨a1, a2, a3, a4⟩ := hc.at j t ht'
      rw [ba_length] at a2
      refine ⟨?_, a2, a1⟩
      cases j with
      | zero =>
        obtain rfl := Option.some.inj (show some t0 = some q from hq)
        exact a3 rfl
      | succ j => exact a4 j q rfl hq
  have HLA : Hid (∃ t m, ts.length = m + 1 ∧ ts[m]? = some t ∧ t.kind = 0 ∧ t.pos = s.size) := by
    obtain ⟨t0, r, rfl, _, hc⟩ := hch
    rcases hc with ⟨h1, h2, rfl⟩ | ⟨_, _, hc⟩
    · exact ⟨t0, 0, rfl, rfl, h1, h2⟩
    · obtain ⟨t, a, b, c, d⟩ := hc.last
      rw [ba_length] at c
      refine ⟨t, r.length, rfl, ?_, b, c⟩
      rw [show r.length = (r.length - 1) + 1 by omega]
      exact a
  have HFI : Hid (∃ t, ts[0]? = some t ∧ t.glue = false) := by
    obtain ⟨t0, r, rfl, h1, _⟩ := hch
    exact ⟨t0, rfl, h1⟩
  have HLN : Hid (ts.length ≤ 1501) := by
    show ts.length ≤ 1501
    obtain ⟨t0, r, rfl, _, hc⟩ := hch
    rcases hc with ⟨_, _, rfl⟩ | ⟨_, _, hc⟩
    · rw [List.length_cons, List.length_nil]
      omega
    · have hcl := hc.len
      rw [ba_length] at hcl
      rw [List.length_cons]
      omega
  clear hE hch
  go_enter Tryd.func6, Tryd.ntmps6
  go_wp2_with fail
  refine Calls.mono HF.out ?_
  rintro e w1 ⟨rfl, hb1⟩
  have HB1 : Hid (Below W.heap.size W w1) := hb1
  have HL := lex_any s w1 ea (HE.out _ hb1) (Nat.le_trans hW hb1.size) (by omega)
  rw [hx] at HL
  have HLX : Hid _ := HL
  clear HL hb1 HF hx HE
  go_wp2_with fail
  refine Calls.mono HLX.out ?_
  rintro e w2 ⟨v, ev, rfl, ⟨rfl, hO⟩, hb2⟩
  have HB2 : Hid (Below W.heap.size W w2) := HB1.out.trans (Below.mono hb2 HB1.out.size)
  obtain ⟨tl, m, hm, hl1, hl2, hl3⟩ := HLA.out
  obtain ⟨tf, hf1, hf2⟩ := HFI.out
  obtain ⟨g, cap, rfl, hg⟩ := hO.get (fun e => by rw [e] at hm; simp at hm)
  have HC : Hid (∀ (i : Nat) (q : Tb), ts[i]? = some q → ∀ (j : Nat) (u : Value), (tbC q)[j]? = some u → w2.cell? ⟨g, i * 5 + j, none⟩ = some u) := hg
  have hlk : w2.cell? ⟨g, m * 5, none⟩ = some (.int .i64 0) := by have := hg m tl hl1 0 _ rfl; rw [hl2] at this; exact this
  have hlp : w2.cell? ⟨g, m * 5 + 1, none⟩ = some (.int .i64 (s.size : Nat)) := by have := hg m tl hl1 1 _ rfl; rw [hl3] at this; exact this
  have hfg : w2.cell? ⟨g, 4, none⟩ = some (.bool false) := by have := hg 0 tf hf1 4 _ rfl; rw [hf2] at this; exact this
  have hmb : m ≤ 1500 := by have := HLN.out; omega
  rw [hm]
  have HGT : Hid (∀ i, i < m + 1 → ∃ t, ts[i]? = some t) := fun i hi => ⟨ts[i]'(by omega), List.getElem?_eq_getElem _⟩
  clear hb2 HLX HB1 hO hg hl1 hl2 hl3 hm hf1 hf2 HLA HFI HLN
  have hm0 : ((m : Int) + 1 == 0) = false := by simp; omega
  have hm1 : (m : Int) + 1 - 1 = m := by omega
  go_wp2_with fail
  clear hlk hlp hm0 hm1 hfg
  go_loop [2, 7, 8, 9] (fun v2 v7 _ _ => ∃ i : Nat, v2 = .bool false ∧ v7 = .int .i64 (i : Nat) ∧ 1 ≤ i ∧ i ≤ m + 1) (fun _ v7 _ _ => m + 1 - (intOf v7).toNat)
  case atStart => exact ⟨1, rfl, rfl, by omega, by omega⟩
  case round =>
    obtain ⟨i, rfl, rfl, hi1, hi⟩ := hrel
    by_cases hlt : i < m + 1
    · have hlt' : (i : Int) < (m : Int) + 1 := by omega
      obtain ⟨j, hj⟩ : ∃ j, j = i - 1 := ⟨_, rfl⟩
      obtain ⟨t, ht⟩ := HGT.out i hlt
      obtain ⟨q, hq⟩ := HGT.out j (by omega)
      obtain ⟨k1, k2, c, k3, k4, k5⟩ := HST.out i j t q (by omega) ht hq
      have a0 : w2.cell? ⟨g, i * 5, none⟩ = some (.int .i64 (t.kind : Nat)) := HC.out i t ht 0 _ rfl
      have a1 : w2.cell? ⟨g, i * 5 + 1, none⟩ = some (.int .i64 (t.pos : Nat)) := HC.out i t ht 1 _ rfl
      have a4 : w2.cell? ⟨g, i * 5 + 4, none⟩ = some (.bool t.glue) := HC.out i t ht 4 _ rfl
      have b0 : w2.cell? ⟨g, j * 5, none⟩ = some (.int .i64 (q.kind : Nat)) := HC.out j q hq 0 _ rfl
      have b1 : w2.cell? ⟨g, j * 5 + 1, none⟩ = some (.int .i64 (q.pos : Nat)) := HC.out j q hq 1 _ rfl
      obtain ⟨tk, ap, tn, tx, tg⟩ := t
      obtain ⟨qk, qp, qn, qx, qg⟩ := q
      simp only at k1 k2 k3 k4 k5 a0 a1 a4 b0 b1
      obtain ⟨bp, hbp⟩ : ∃ bp, bp = ap - 1 := ⟨_, rfl⟩
      have hbs : bp < s.size := by omega
      have hcb : s[bp] = c := by
        rw [← hbp, text_at s bp hbs] at k3
        exact Option.some.inj k3
      have hji : (i : Int) - 1 = (j : Int) := by omega
      have hba : (ap : Int) - 1 = (bp : Int) := by omega
      have hjm : (j : Int) < (m : Int) + 1 := by omega
      have hbs' : (bp : Int) < (s.size : Int) := by omega
      have hge : ¬ (ap : Int) ≤ (qp : Int) := by omega
      have hge2 : decide (ap ≤ qp) = false := decide_eq_false (by omega)
      clear ht hq hj hbp k1 k2 k3
      cases tg with
      | true =>
        have hb := k4 rfl
        have c32 : c ≠ 32 := by rintro rfl; cases hb
        have c9 : c ≠ 9 := by rintro rfl; cases hb
        have d32 : (((s[bp]).toNat : Int) == 32) = false := by rw [hcb]; exact byte_ne c 32 c32
        have d9 : (((s[bp]).toNat : Int) == 9) = false := by rw [hcb]; exact byte_ne c 9 c9
        clear k4 k5 hb c32 c9 hcb
        go_wp2_with fail
        exact ⟨⟨i + 1, rfl, by simp, by omega, by omega⟩, by simp [intOf]; omega⟩
      | false =>
        by_cases c32 : c = 32
        · have d32 : (((s[bp]).toNat : Int) == 32) = true := by rw [hcb, c32]; rfl
          clear k4 k5 c32 hcb
          go_wp2_with fail
          exact ⟨⟨i + 1, rfl, by simp, by omega, by omega⟩, by simp [intOf]; omega⟩
        · have d32 : (((s[bp]).toNat : Int) == 32) = false := by rw [hcb]; exact byte_ne c 32 c32
          by_cases c9 : c = 9
          · have d9 : (((s[bp]).toNat : Int) == 9) = true := by rw [hcb, c9]; rfl
            clear k4 k5 c32 c9 hcb
            go_wp2_with fail
            exact ⟨⟨i + 1, rfl, by simp, by omega, by omega⟩, by simp [intOf]; omega⟩
          · have d9 : (((s[bp]).toNat : Int) == 9) = false := by rw [hcb]; exact byte_ne c 9 c9
            have hk := k5 rfl (by simp [blk, c32, c9])
            clear k4 k5 c32 c9 hcb
            rcases hk with rfl | rfl
            · go_wp2_with fail
              exact ⟨⟨i + 1, rfl, by simp, by omega, by omega⟩, by simp [intOf]; omega⟩
            · go_wp2_with fail
              exact ⟨⟨i + 1, rfl, by simp, by omega, by omega⟩, by simp [intOf]; omega⟩
    · have hlt' : ¬ (i : Int) < (m : Int) + 1 := by omega
      go_wp2_with fail
      go_ret
      exact ⟨rfl, HB2.out⟩
/-- THE LAW BlexPlaces. -/
theorem places_any (s : ByteArray) (W : World) (ea : Nat → Addr) (hE : Env W ea) (hW : (ea 64).block ≤ W.heap.size) :
    Calls Tryd.prog 6 #[.string s] W fun e w' => e = .returned (.bool true) ∧ Below W.heap.size W w' := by
  by_cases h1 : s.size ≤ 1500
  · cases hx : lexL s.data.toList with
    | error x => exact places_err s W ea hE hW h1 x hx
    | ok ts => exact places_ok s W ea hE hW h1 ts hx
  · exact places_long s W ea hE hW (by omega)
end Go.Proofs.YtddekcohfbnmbaaDoor
