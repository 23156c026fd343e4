/- The law of the quotes. -/
import Derived.Test.YtlbdecohmjpgaaaDoorFirst
import Derived.Test.YtlbdecohmjpgaaaDoorPureQ
import Derived.Deep.Cut
import Derived.Deep.CutRange
import Derived.Deep.CutBlock
namespace Go.Proofs.YtlbdecohmjpgaaaDoor
open Go.RowKit
attribute [local go_sem] Oper.semAt_some

theorem one_is (s : ByteArray) (k : Nat) (h : k < s.size) : (s.extract k (k + 1)).data.toList = [s[k]] := by rw [one_eq s k h]
theorem one_beq (s : ByteArray) (k : Nat) (h : k < s.size) (c : UInt8) : ((s.extract k (k + 1)).toList == [c]) = (s[k] == c) := by
  rw [ByteArray.toList_eq, one_is s k h, Bool.eq_iff_iff, beq_iff_eq, beq_iff_eq, List.cons.injEq]
  exact and_iff_left rfl
theorem take_one (s : ByteArray) (k : Nat) (h : k < s.size) : s.data.toList.take (k + 1) = s.data.toList.take k ++ [s[k]] := by
  rw [List.take_add_one, s_get s k h]
  rfl
theorem ba_ext {a b : ByteArray} (h : a.data.toList = b.data.toList) : a = b := by
  cases a; cases b
  rw [ByteArray.mk.injEq]
  exact Array.toList_inj.1 h
theorem map_three {K : List (Value × Tk)} {a b c : Tk} (h : K.map Prod.snd = [a, b, c]) : ∃ va vb vc, K = [(va, a), (vb, b), (vc, c)] := by
  match K, h with
  | [(va, _), (vb, _), (vc, _)], h =>
    simp at h
    obtain ⟨rfl, rfl, rfl⟩ := h
    exact ⟨va, vb, vc, rfl⟩
theorem escS_yes {s p : ByteArray} {k : Nat} (h : k < s.size) (hp : p.data.toList = escS (s.data.toList.take k)) (hc : s[k] = 39) : (p ++ ⟨#[39, 92, 39, 39]⟩).data.toList = escS (s.data.toList.take (k + 1)) := by
  rw [take_one s k h, escS_app, hc]
  simp [hp, escS]
theorem escS_no {s p : ByteArray} {k : Nat} (h : k < s.size) (hp : p.data.toList = escS (s.data.toList.take k)) (hc : s[k] ≠ 39) : (p ++ s.extract k (k + 1)).data.toList = escS (s.data.toList.take (k + 1)) := by
  rw [take_one s k h, escS_app, one_eq s k h]
  simp [hp, escS, hc]
theorem escD_yes {s p : ByteArray} {k : Nat} (h : k < s.size) (hp : p.data.toList = escD (s.data.toList.take k)) (hc : dblC s[k] = true) : (p ++ ⟨#[92]⟩ ++ s.extract k (k + 1)).data.toList = escD (s.data.toList.take (k + 1)) := by
  rw [take_one s k h, escD_app, one_eq s k h]
  simp [hp, escD, hc]
theorem escD_no {s p : ByteArray} {k : Nat} (h : k < s.size) (hp : p.data.toList = escD (s.data.toList.take k)) (hc : dblC s[k] = false) : (p ++ s.extract k (k + 1)).data.toList = escD (s.data.toList.take (k + 1)) := by
  rw [take_one s k h, escD_app, one_eq s k h]
  simp [hp, escD, hc]
theorem escB_one {s p : ByteArray} {k : Nat} (h : k < s.size) (hp : p.data.toList = escB (s.data.toList.take k)) : (p ++ ⟨#[92]⟩ ++ s.extract k (k + 1)).data.toList = escB (s.data.toList.take (k + 1)) := by
  rw [take_one s k h, escB_app, one_eq s k h]
  simp [hp, escB]
theorem escS_sz {s p : ByteArray} {k : Nat} (hs : s.size ≤ 300) (h : p.data.toList = escS (s.data.toList.take k)) : p.size ≤ 1200 := by
  have h1 := escS_len (s.data.toList.take k)
  rw [← h, Array.length_toList] at h1
  have h2 : (s.data.toList.take k).length ≤ s.size := by rw [List.length_take, Array.length_toList]; exact Nat.min_le_right _ _
  have h4 : p.data.size = p.size := rfl
  omega
theorem escD_sz {s p : ByteArray} {k : Nat} (hs : s.size ≤ 300) (h : p.data.toList = escD (s.data.toList.take k)) : p.size ≤ 600 := by
  have h1 := escD_len (s.data.toList.take k)
  rw [← h, Array.length_toList] at h1
  have h2 : (s.data.toList.take k).length ≤ s.size := by rw [List.length_take, Array.length_toList]; exact Nat.min_le_right _ _
  have h4 : p.data.size = p.size := rfl
  omega
theorem escB_sz {s p : ByteArray} {k : Nat} (hs : s.size ≤ 300) (h : p.data.toList = escB (s.data.toList.take k)) : p.size ≤ 600 := by
  have h1 := escB_len (s.data.toList.take k)
  rw [← h, Array.length_toList] at h1
  have h2 : (s.data.toList.take k).length ≤ s.size := by rw [List.length_take, Array.length_toList]; exact Nat.min_le_right _ _
  have h4 : p.data.size = p.size := rfl
  omega
/-- The three texts. -/
def txtQ (p q b : ByteArray) : Nat → ByteArray
  | 0 => ⟨#[39]⟩ ++ p ++ ⟨#[39]⟩
  | 1 => ⟨#[34]⟩ ++ q ++ ⟨#[34]⟩
  | _ => b
/-- What the three texts come to. -/
structure Quo (s p q b : ByteArray) : Prop where
  p : p.data.toList = escS s.data.toList
  q : q.data.toList = escD s.data.toList
  b : b.data.toList = escB s.data.toList
theorem Quo.size {s p q b : ByteArray} (h : Quo s p q b) (hs : s.size ≤ 300) (k : Nat) : (txtQ p q b k ++ ⟨#[32, 120]⟩).size ≤ 8192 := by
  have hl : s.data.toList.length = s.size := by simp
  have h1 := escS_len s.data.toList
  have h2 := escD_len s.data.toList
  have h3 := escB_len s.data.toList
  rw [← h.p] at h1
  rw [← h.q] at h2
  rw [← h.b] at h3
  have e1 : p.data.toList.length = p.size := by simp
  have e2 : q.data.toList.length = q.size := by simp
  have e3 : b.data.toList.length = b.size := by simp
  have e4 : (txtQ p q b k ++ ⟨#[32, 120]⟩).size = (txtQ p q b k ++ ⟨#[32, 120]⟩).data.toList.length := by rw [Array.length_toList]; rfl
  rw [e4]
  match k with
  | 0 => simp [txtQ]; omega
  | 1 => simp [txtQ]; omega
  | n + 2 => simp [txtQ]; omega
theorem Quo.lex {s p q b : ByteArray} (h : Quo s p q b) (k : Nat) (hk : k < 2 ∨ s.data.toList ≠ []) : QuoL (txtQ p q b k ++ ⟨#[32, 120]⟩).data.toList s.data.toList := by
  match k, hk with
  | 0, _ =>
    have e : (txtQ p q b 0 ++ ⟨#[32, 120]⟩).data.toList = 39 :: (escS s.data.toList ++ 39 :: qTail) := by simp [txtQ, h.p, qTail]
    rw [e]; exact quo_single _
  | 1, _ =>
    have e : (txtQ p q b 1 ++ ⟨#[32, 120]⟩).data.toList = 34 :: (escD s.data.toList ++ 34 :: qTail) := by simp [txtQ, h.q, qTail]
    rw [e]; exact quo_double _
  | n + 2, hk =>
    have e : (txtQ p q b (n + 2) ++ ⟨#[32, 120]⟩).data.toList = escB s.data.toList ++ qTail := by simp [txtQ, h.b, qTail]
    rw [e]; exact quo_back _ (hk.resolve_left (by omega))
theorem flat_more (ps : List Pt) (j : Nat) (p : Pt) (h : ps[j]? = some p) : ((ps.take (j + 1)).map (·.s)).flatten = ((ps.take j).map (·.s)).flatten ++ p.s := by
  rw [List.take_add_one, h]
  simp
theorem flat_le (ps : List Pt) (j : Nat) (p : Pt) (h : ps[j]? = some p) (s : List UInt8) (hs : (ps.map (·.s)).flatten = s) : ((ps.take j).map (·.s)).flatten.length + p.s.length ≤ s.length := by
  have e : ps = ps.take (j + 1) ++ ps.drop (j + 1) := (List.take_append_drop _ _).symm
  rw [← hs]
  conv => rhs; rw [e]
  rw [List.map_append, List.flatten_append, flat_more ps j p h, List.length_append, List.length_append]
  omega
set_option maxRecDepth 100000 in
set_option maxHeartbeats 4000000 in
theorem quotes_over (s : ByteArray) (W : World) (ea : Nat → Addr) (hE : Env W ea) (hW : (ea 64).block ≤ W.heap.size) (hs : 300 < s.size) :
    Calls Tryd.prog 5 #[.string s] W fun e w' => e = .returned (.bool true) ∧ Below W.heap.size W w' := by
  have HF : Hid _ := first_any W ea hE hW
  have hs' : (300 : Int) < (s.size : Int) := by omega
  clear hE
  go_enter Tryd.func5, Tryd.ntmps5
  go_wp2_with fail
  refine Calls.mono HF.out ?_
  rintro e w1 ⟨rfl, hb1⟩
  have HB1 : Hid (Below W.heap.size W w1) := hb1
  clear hb1 HF
  go_wp2_with fail
  go_ret
  exact ⟨rfl, HB1.out⟩
set_option maxRecDepth 100000 in
set_option maxHeartbeats 8000000 in
theorem quotes_in (s : ByteArray) (W : World) (ea : Nat → Addr) (hE : Env W ea) (hW : (ea 64).block ≤ W.heap.size) (hs : s.size ≤ 300) :
    Calls Tryd.prog 5 #[.string s] W fun e w' => e = .returned (.bool true) ∧ Below W.heap.size W w' := by
  have HF : Hid _ := first_any W ea hE hW
  have hd1 : decide ((300 : Int) < (s.size : Int)) = false := by simp; omega
  have HLX : Hid (∀ (t : ByteArray) (w : World), t.size ≤ 8192 → Below W.heap.size W w → Calls Tryd.prog 9 #[.string t] w fun e w' => ∃ v ev, e = .returned (.tuple #[v, ev]) ∧ LexV w ea (lexL t.data.toList) v ev w' ∧ Below w.heap.size w w') := fun t w ht hb => lex_any t w ea (hE.below hb) (Nat.le_trans hW hb.size) ht
  clear hE
  go_enter Tryd.func5, Tryd.ntmps5
  go_wp2_with fail
  refine Calls.mono HF.out ?_
  rintro e w1 ⟨rfl, hb1⟩
  have HB1 : Hid (Below W.heap.size W w1) := hb1
  clear hb1 HF
  go_wp2_with fail
  go_loop [4, 5, 6, 7, 8] (fun v4 v5 v6 v7 _ => ∃ (k : Nat) (p q b : ByteArray), v4 = .string p ∧ v5 = .string q ∧ v6 = .string b ∧ v7 = .int .i64 k ∧ k ≤ s.size ∧ Hid (p.data.toList = escS (s.data.toList.take k)) ∧ Hid (q.data.toList = escD (s.data.toList.take k)) ∧ Hid (b.data.toList = escB (s.data.toList.take k))) (fun _ _ _ v7 _ => s.size - (intOf v7).toNat)
  case atStart => exact ⟨0, ⟨#[]⟩, ⟨#[]⟩, ⟨#[]⟩, rfl, rfl, rfl, rfl, Nat.zero_le _, rfl, rfl, rfl⟩
  case round =>
    obtain ⟨k, p, q, b, rfl, rfl, rfl, rfl, hk, HP, HQ, HB⟩ := hrel
    have hps := escS_sz hs HP.out
    have hqs := escD_sz hs HQ.out
    have hbs := escB_sz hs HB.out
    by_cases hlt : k < s.size
    · have hlt' : (k : Int) < (s.size : Int) := by omega
      have HB' : Hid _ := escB_one hlt HB.out
      have o39 := one_beq s k hlt 39
      have o36 := one_beq s k hlt 36
      have o34 := one_beq s k hlt 34
      have o92 := one_beq s k hlt 92
      by_cases c39 : s[k] = 39
      · have HP' : Hid _ := escS_yes hlt HP.out c39
        have HQ' : Hid _ := escD_no hlt HQ.out (by rw [c39]; rfl)
        rw [c39] at o39 o36 o34 o92
        replace o39 : ((s.extract k (k + 1)).toList == [39]) = true := o39
        replace o36 : ((s.extract k (k + 1)).toList == [36]) = false := o36
        replace o34 : ((s.extract k (k + 1)).toList == [34]) = false := o34
        replace o92 : ((s.extract k (k + 1)).toList == [92]) = false := o92
        clear HP HQ HB c39
        go_wp2_with fail
        exact ⟨⟨k + 1, _, _, _, rfl, rfl, rfl, by simp, by omega, HP'.out, HQ'.out, HB'.out⟩, by simp [intOf]; omega⟩
      · have HP' : Hid _ := escS_no hlt HP.out c39
        replace o39 : ((s.extract k (k + 1)).toList == [39]) = false := by rw [o39]; simpa using c39
        by_cases c36 : s[k] = 36
        · have HQ' : Hid _ := escD_yes hlt HQ.out (by rw [c36]; rfl)
          replace o36 : ((s.extract k (k + 1)).toList == [36]) = true := by rw [o36]; simpa using c36
          clear HP HQ HB c39 c36 o34 o92
          go_wp2_with fail
          exact ⟨⟨k + 1, _, _, _, rfl, rfl, rfl, by simp, by omega, HP'.out, HQ'.out, HB'.out⟩, by simp [intOf]; omega⟩
        · replace o36 : ((s.extract k (k + 1)).toList == [36]) = false := by rw [o36]; simpa using c36
          by_cases c34 : s[k] = 34
          · have HQ' : Hid _ := escD_yes hlt HQ.out (by rw [c34]; rfl)
            replace o34 : ((s.extract k (k + 1)).toList == [34]) = true := by rw [o34]; simpa using c34
            clear HP HQ HB c39 c36 c34 o92
            go_wp2_with fail
            exact ⟨⟨k + 1, _, _, _, rfl, rfl, rfl, by simp, by omega, HP'.out, HQ'.out, HB'.out⟩, by simp [intOf]; omega⟩
          · replace o34 : ((s.extract k (k + 1)).toList == [34]) = false := by rw [o34]; simpa using c34
            by_cases c92 : s[k] = 92
            · have HQ' : Hid _ := escD_yes hlt HQ.out (by rw [c92]; rfl)
              replace o92 : ((s.extract k (k + 1)).toList == [92]) = true := by rw [o92]; simpa using c92
              clear HP HQ HB c39 c36 c34 c92
              go_wp2_with fail
              exact ⟨⟨k + 1, _, _, _, rfl, rfl, rfl, by simp, by omega, HP'.out, HQ'.out, HB'.out⟩, by simp [intOf]; omega⟩
            · have HQ' : Hid _ := escD_no hlt HQ.out (by simp [dblC, c36, c34, c92])
              replace o92 : ((s.extract k (k + 1)).toList == [92]) = false := by rw [o92]; simpa using c92
              clear HP HQ HB c39 c36 c34 c92
              go_wp2_with fail
              exact ⟨⟨k + 1, _, _, _, rfl, rfl, rfl, by simp, by omega, HP'.out, HQ'.out, HB'.out⟩, by simp [intOf]; omega⟩
    · have hlt' : ¬ (k : Int) < (s.size : Int) := by omega
      have HQU : Hid (Quo s p q b) := by
        have ht : s.data.toList.take k = s.data.toList := List.take_of_length_le (by rw [Array.length_toList]; show s.size ≤ k; omega)
        have h1 := HP.out
        have h2 := HQ.out
        have h3 := HB.out
        rw [ht] at h1 h2 h3
        exact ⟨h1, h2, h3⟩
      clear HP HQ HB hlt
      go_wp2_with fail
      obtain ⟨W2, hW2⟩ : ∃ W2, W2 = w1.alloc (.cells #[.string (⟨#[39]⟩ ++ p ++ ⟨#[39]⟩), .string (⟨#[34]⟩ ++ q ++ ⟨#[34]⟩), .string b] 9) := ⟨_, rfl⟩
      rw [← hW2]
      obtain ⟨gb, hgb⟩ : ∃ gb, gb = w1.heap.size := ⟨_, rfl⟩
      rw [← hgb]
      have HB2 : Hid (Below W.heap.size W W2) := by rw [hW2]; exact HB1.out.alloc HB1.out.size _
      have hC2 : Cel W2 gb 9 #[.string (⟨#[39]⟩ ++ p ++ ⟨#[39]⟩), .string (⟨#[34]⟩ ++ q ++ ⟨#[34]⟩), .string b] := by rw [hW2, hgb]; exact Cel.new w1 _ _
      have HT : Hid (∀ w, Below W2.heap.size W2 w → ∀ i, i < 3 → w.cell? ⟨gb, i, none⟩ = some (.string (txtQ p q b i))) := fun w hb i hi => by
        have hc := Cel.below hC2 hb hC2.lt
        match i, hi with
        | 0, _ => exact hc.cell 0
        | 1, _ => exact hc.cell 1
        | 2, _ => exact hc.cell 2
      have HQL : Hid (∀ i, (i < 2 ∨ s.data.toList ≠ []) → QuoL (txtQ p q b i ++ ⟨#[32, 120]⟩).data.toList s.data.toList) := fun i hi => HQU.out.lex i hi
      have HSZ : Hid (∀ i, (txtQ p q b i ++ ⟨#[32, 120]⟩).size ≤ 8192) := fun i => HQU.out.size hs i
      obtain ⟨T, hT⟩ : ∃ T, T = txtQ p q b := ⟨_, rfl⟩
      rw [← hT] at HT HQL HSZ
      clear hC2 hW2 hgb HQU hT HB1
      go_loopw [2, 10, 11, 12, 13, 14] (fun v2 v10 _ _ _ _ wr => ∃ i : Nat, v2 = .bool false ∧ v10 = .int .i64 i ∧ i ≤ 3 ∧ Hid (Below W2.heap.size W2 wr)) (fun _ v10 _ _ _ _ _ => 3 - (intOf v10).toNat)
      case atStart => exact ⟨0, rfl, rfl, by omega, Below.refl _ _⟩
      case round =>
        obtain ⟨i, rfl, rfl, hi, HBR⟩ := hrel
        by_cases hlt : i < 3
        · have hlt3 : (i : Int) < 3 := by omega
          have c0 := HT.out wr HBR.out i hlt
          have hz := HSZ.out i
          have hz1 : (T i).size ≤ 8190 := by
            rw [ByteArray.size_append] at hz
            have : (⟨#[32, 120]⟩ : ByteArray).size = 2 := rfl
            omega
          have HBW : Hid (Below W.heap.size W wr) := HB2.out.trans (Below.mono HBR.out HB2.out.size)
          obtain ⟨R, HR⟩ : ∃ R, Hid (lexL (T i ++ ⟨#[32, 120]⟩).data.toList = R) := ⟨_, rfl⟩
          have hl := HLX.out _ wr hz HBW.out
          rw [HR.out] at hl
          have HL : Hid _ := hl
          clear hl
          clear hz
          go_wp2_with fail
          refine Calls.mono HL.out ?_
          rintro e w3 ⟨v3, ev3, rfl, hv, hb3⟩
          have HB3 : Hid (Below W2.heap.size W2 w3) := HBR.out.trans (Below.mono hb3 HBR.out.size)
          clear hb3 HL c0 HBW
          by_cases hsp : s.data.toList = [] ∧ i = 2
          · obtain ⟨hs0, rfl⟩ := hsp
            have he : s.toList.isEmpty = true := by rw [ByteArray.toList_eq, hs0]; rfl
            clear hv hs0 HR
            go_wp2_with fail
            exact ⟨⟨3, rfl, rfl, by omega, HB3.out⟩, by simp [intOf]⟩
          · have hq2 : i < 2 ∨ s.data.toList ≠ [] := by
              by_cases e0 : s.data.toList = []
              · have hi2 : i ≠ 2 := fun h => hsp ⟨e0, h⟩
                exact Or.inl (by omega)
              · exact Or.inr e0
            obtain ⟨ps, tb, tc, hlx, hkd, hfl, hle⟩ := HQL.out i hq2
            clear hq2
            have hR := HR.out
            rw [hlx] at hR
            subst hR
            obtain ⟨rfl, K, hK, hO⟩ := hv
            obtain ⟨va, vb, vc, rfl⟩ := map_three hK
            obtain ⟨g3, c3, rfl, hg3⟩ := hO.get (by simp)
            have hpo : PtOwn w3 wr.heap.size va ps := hO.parts (va, ⟨13, 0, ps⟩) (by simp)
            obtain ⟨ad, cp, rfl⟩ := hpo.form
            have t0 : w3.cell? ⟨g3, 0, none⟩ = some (.int .i64 13) := hg3 0 _ rfl 0 _ rfl
            have t2 : w3.cell? ⟨g3, 2, none⟩ = some (.slice ad ps.length cp) := hg3 0 _ rfl 2 _ rfl
            have HPC : Hid (∀ (k : Nat) (p : Pt), ps[k]? = some p → ∃ gp, ad = some ⟨gp, 0, none⟩ ∧ w3.cell? ⟨gp, k * 5, none⟩ = some (.int .i64 2) ∧ w3.cell? ⟨gp, k * 5 + 4, none⟩ = some (str p.s)) := fun k p hp => by
              have hne : ps ≠ [] := fun e => by rw [e] at hp; cases hp
              obtain ⟨gp, cp', hse, hgp⟩ := hpo.get hne
              obtain ⟨rfl, _, _⟩ := Value.slice.inj hse
              have h1 := hgp k p hp 0 _ rfl
              rw [hkd p (List.mem_of_getElem? hp)] at h1
              exact ⟨gp, rfl, h1, hgp k p hp 4 _ rfl⟩
            have HFL : Hid ((ps.map (·.s)).flatten = s.data.toList) := hfl
            have hsl : s.data.toList.length = s.size := by rw [Array.length_toList]; rfl
            have hpl : ps.length ≤ 1000 := by omega
            have hcnd : s.toList.isEmpty = false ∨ (s.toList.isEmpty = true ∧ ((i : Int) == 2) = false) := by
              cases he : s.toList.isEmpty with
              | false => exact Or.inl rfl
              | true =>
                refine Or.inr ⟨rfl, beq_eq_false_iff_ne.2 (fun e => hsp ⟨?_, by omega⟩)⟩
                rw [ByteArray.toList_eq] at he
                exact List.isEmpty_iff.1 he
            clear hK hO hg3 hpo hkd hfl hlx hsp hle HR
            simp only [List.length_cons, List.length_nil, Nat.zero_add, Nat.reduceAdd]
            have HT2 : Hid (w3.cell? ⟨g3, 2, none⟩ = some (.slice ad ps.length cp)) := t2
            go_upto_region 23 with fail
            go_cut [87] from 82 to 87 (fun v87 wx => v87 = .bool false ∧ wx = w3)
            case first =>
              rcases hcnd with he | ⟨he, hi2⟩
              · go_wp2_with fail
                go_meet
                case rel => exact ⟨rfl, rfl⟩
              · go_wp2_with fail
                go_meet
                case rel => exact ⟨rfl, rfl⟩
            obtain ⟨rfl, hwx⟩ := hcut
            have hwx := hwx.symm
            subst hwx
            go_wp2_with fail
            go_loop [2, 13, 14] (fun v2 v13 v14 => ∃ (j : Nat) (t : ByteArray), v2 = .bool false ∧ v13 = .string t ∧ v14 = .int .i64 j ∧ j ≤ ps.length ∧ Hid (t.data.toList = ((ps.take j).map (·.s)).flatten)) (fun _ _ v14 => ps.length - (intOf v14).toNat)
            case atStart => exact ⟨0, ⟨#[]⟩, rfl, rfl, rfl, Nat.zero_le _, rfl⟩
            case round =>
              obtain ⟨j, t, rfl, rfl, rfl, hj, HTJ⟩ := hrel
              by_cases hjl : j < ps.length
              · have hjl' : (j : Int) < (ps.length : Int) := by omega
                obtain ⟨p1, hp1⟩ : ∃ p1, ps[j]? = some p1 := ⟨ps[j]'hjl, List.getElem?_eq_getElem _⟩
                obtain ⟨gp, rfl, d0, d4⟩ := HPC.out j p1 hp1
                have hle := flat_le ps j p1 hp1 _ HFL.out
                rw [← HTJ.out, Array.length_toList, hsl] at hle
                replace hle : t.size + p1.s.length ≤ s.size := hle
                obtain ⟨z, hz⟩ : ∃ z : ByteArray, z = ⟨p1.s.toArray⟩ := ⟨_, rfl⟩
                have hzs : z.size = p1.s.length := by rw [hz]; simp [ByteArray.size]
                have HN : Hid ((t ++ z).data.toList = ((ps.take (j + 1)).map (·.s)).flatten) := by
                  unfold Hid
                  rw [flat_more ps j p1 hp1, ← HTJ.out, hz]
                  simp
                replace d4 : w3.cell? ⟨gp, j * 5 + 4, none⟩ = some (.string z) := by rw [hz]; exact d4
                clear HTJ hp1 hz
                go_wp2_with fail
                exact ⟨⟨j + 1, _, rfl, rfl, by simp, by omega, HN.out⟩, by simp [intOf]; omega⟩
              · have hjl' : ¬ (j : Int) < (ps.length : Int) := by omega
                have hst : s = t := by
                  refine ba_ext ?_
                  rw [HTJ.out, List.take_of_length_le (by omega), HFL.out]
                subst hst
                clear HTJ HFL HPC
                go_wp2_with fail
                exact ⟨⟨i + 1, rfl, by simp, by omega, HB3.out⟩, by simp [intOf]; omega⟩
        · obtain rfl : i = 3 := by omega
          go_wp2_with fail
          go_ret
          exact ⟨rfl, HB2.out.trans (Below.mono HBR.out HB2.out.size)⟩
/-- The law of the quotes. -/
theorem quotes_any (s : ByteArray) (W : World) (ea : Nat → Addr) (hE : Env W ea) (hW : (ea 64).block ≤ W.heap.size) :
    Calls Tryd.prog 5 #[.string s] W fun e w' => e = .returned (.bool true) ∧ Below W.heap.size W w' := by
  by_cases h : 300 < s.size
  · exact quotes_over s W ea hE hW h
  · exact quotes_in s W ea hE hW (by omega)
end Go.Proofs.YtlbdecohmjpgaaaDoor
