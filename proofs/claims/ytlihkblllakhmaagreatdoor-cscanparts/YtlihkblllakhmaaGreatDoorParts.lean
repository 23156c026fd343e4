/- CscanParts: two sources, one behind the other, have the commands of both. -/
import Derived.Test.YtlihkblllakhmaaGreatDoorSc5
import Derived.Test.YtlihkblllakhmaaGreatDoorFirst
import Derived.Deep.RegionHeld3
namespace Go.Proofs.YtlihkblllakhmaaGreatDoor
open Go.RowKit
attribute [local go_sem] Oper.semAt_some

theorem few_of {N : Nat} {l : List UInt8} {ms : List Cm} (hN : l.length = N) (hN' : N ≤ 9000) (h : scanL l = .ok ms) {K : List Mc} (hK : K.map toCm = ms) : Few K ∧ ∀ q ∈ K, FewC N (toCm q) := by
  rw [scanL, hN] at h
  obtain ⟨h1, h2⟩ := scan_few N N l ms (by omega) h
  have hl : K.length = ms.length := by rw [← hK, List.length_map]
  have hm : ∀ q ∈ K, FewC N (toCm q) := fun q hq => h2 _ (by rw [← hK]; exact List.mem_map_of_mem hq)
  refine ⟨⟨by omega, fun q hq => ?_⟩, hm⟩
  obtain ⟨_, a2, a3⟩ := hm q hq
  refine ⟨by simp [toCm] at a2; omega, fun p hp => ?_⟩
  have := (a3 p.2 (by simp only [toCm]; exact List.mem_map_of_mem hp)).2.1
  omega
theorem meek_take (l : List UInt8) (i : Nat) (h : i < l.length) (h1 : meek (l.take i)) (h2 : l[i] ≠ 92 ∧ l[i] ≠ 35) : meek (l.take (i + 1)) := by
  intro c hc
  rw [List.take_add_one, List.getElem?_eq_getElem h] at hc
  rcases List.mem_append.1 hc with hc | hc
  · exact h1 c hc
  · simp at hc
    subst hc
    exact h2
theorem z_sep (s t : ByteArray) (c : UInt8) : s ++ ⟨#[c]⟩ ++ t = (⟨(s.data.toList ++ c :: t.data.toList).toArray⟩ : ByteArray) := by
  apply ByteArray.ext
  apply Array.toList_inj.1
  simp
theorem few_congr {K K' : List Mc} (h : K'.map toCm = K.map toCm) (hF : Few K) : Few K' := by
  have hl : K'.length = K.length := by simpa using congrArg List.length h
  refine ⟨by rw [hl]; exact hF.1, fun q hq => ?_⟩
  have hm : toCm q ∈ K.map toCm := by rw [← h]; exact List.mem_map_of_mem hq
  obtain ⟨r, hr, hrq⟩ := List.mem_map.1 hm
  obtain ⟨f1, f2⟩ := hF.2 r hr
  simp only [toCm, Cm.mk.injEq] at hrq
  have hll : r.2.2.length = q.2.2.length := by simpa using congrArg List.length hrq.2
  refine ⟨by omega, fun p hp => ?_⟩
  have hp2 : p.2 ∈ r.2.2.map Prod.snd := by rw [hrq.2]; exact List.mem_map_of_mem hp
  obtain ⟨p', hp', e⟩ := List.mem_map.1 hp2
  rw [← e]
  exact f2 p' hp'
theorem few_one {K : List Mc} {i : Nat} {q : Mc} (hq : K[i]? = some q) (hF : Few K) : Few [q] :=
  ⟨by simp, fun r hr => by
    rw [List.mem_singleton] at hr
    subst hr
    exact hF.2 r (List.mem_of_getElem? hq)⟩
theorem qm_one (w : World) (n : Nat) (wv : Value) (Kw : List (Value × Wd)) (h : QdAt w wv Kw) : QmAt (w.alloc (.cells #[.int .i64 (n : Nat), wv] 51)) (.slice (some ⟨w.heap.size, 0, none⟩) 1 1) [(wv, n, Kw)] := by
  refine ⟨.inr ⟨w.heap.size, 0, 1, rfl, by simp, by simp, fun j cs hj i u hu => ?_⟩, fun q hq => ?_⟩
  · have hj0 : j = 0 := by
      cases j with
      | zero => rfl
      | succ j => simp at hj
    subst hj0
    simp at hj
    subst hj
    have := cells_new w (cmC (wv, n, Kw)) 51 i u hu
    rw [Addr.add_lit] at this
    simpa using this
  · rw [List.mem_singleton] at hq
    subst hq
    exact h.below (below_new _ _)
theorem cms_sub {W : World} {g o cap i : Nat} {K : List Mc} {q : Mc} (h : CmsAt W (.slice (some ⟨g, o, none⟩) K.length cap) K) (hq : K[i]? = some q) : CmsAt W (.slice (some ⟨g, o + i * 2, none⟩) 1 (cap - i)) [q] := by
  obtain ⟨g', o', c', hv, hc, hg, x⟩ := h.row.get (i := i) (cs := cmC q) (by rw [List.getElem?_map, hq]; rfl)
  simp at hv
  obtain ⟨⟨rfl, rfl⟩, rfl⟩ := hv
  have hi := (List.getElem?_eq_some_iff.1 hq).1
  rw [List.length_map] at hc
  refine ⟨.inr ⟨g, o + i * 2, cap - i, rfl, by simp; omega, hg, fun j cs hj i' u hu => ?_⟩, fun r hr => ?_⟩
  · have hj0 : j = 0 := by
      cases j with
      | zero => rfl
      | succ j => simp at hj
    subst hj0
    simp at hj
    subst hj
    have := x i' u hu
    simpa using this
  · rw [List.mem_singleton] at hr
    subst hr
    exact h.words r (List.mem_of_getElem? hq)
theorem slice_one (w : World) (g o cap i k : Nat) (h : i < cap) : (Instr.sliceAt 23 (.slice (some ⟨g, o, none⟩) k cap) (some (.int .i64 (i : Int))) (some (.int .i64 ((i : Int) + 1))) none).run Tryz.prog w = .ok (.slice (some ⟨g, o + i * 2, none⟩) 1 (cap - i)) w := by
  have h0 : (i : Int) + 1 ≤ (cap : Nat) := by omega
  have h1 : (i : Int) ≤ (cap : Nat) := by omega
  have h2 : ¬ cap = i := by omega
  have h3 : ¬ cap ≤ i := by omega
  have h4 : ¬ ((i : Int) + 1 < 0) := by omega
  have h5 : (i : Int) ≤ (i : Int) + 1 := by omega
  go_simp
set_option maxRecDepth 100000 in
set_option maxHeartbeats 8000000 in
theorem parts_law (s t : ByteArray) (semi : Bool) (W : World) (ea : Nat → Addr) (hE : Env W ea) (hW : (ea 64).block ≤ W.heap.size) :
    Calls Tryz.prog 5 #[.string s, .string t, .bool semi] W fun e w' => e = .returned (.bool true) ∧ Below W.heap.size W w' := by
  have HF : Hid _ := first_any W ea hE hW
  have HW : Hid ((ea 64).block ≤ W.heap.size) := hW
  have HE : Hid (Env W ea) := hE
  clear hE hW
  by_cases hs : 700 < s.size
  · have hs' : (700 : Int) < (s.size : Nat) := by omega
    go_enter Tryz.func5, Tryz.ntmps5
    go_wp2_with fail
    refine Calls.mono HF.out ?_
    rintro e w1 ⟨rfl, hb⟩
    have HB : Hid (Below W.heap.size W w1) := hb
    clear hb HF
    go_wp2_with fail
    go_ret
    exact ⟨rfl, HB.out⟩
  by_cases ht : 700 < t.size
  · have hs' : ¬ ((700 : Int) < (s.size : Nat)) := by omega
    have ht' : (700 : Int) < (t.size : Nat) := by omega
    go_enter Tryz.func5, Tryz.ntmps5
    go_wp2_with fail
    refine Calls.mono HF.out ?_
    rintro e w1 ⟨rfl, hb⟩
    have HB : Hid (Below W.heap.size W w1) := hb
    clear hb HF
    go_wp2_with fail
    go_ret
    exact ⟨rfl, HB.out⟩
  have hs1 : s.size ≤ 700 := by omega
  have ht1 : t.size ≤ 700 := by omega
  have HSL : Hid (s.data.toList.length = s.size) := Array.length_toList
  have HTL : Hid (t.data.toList.length = t.size) := Array.length_toList
  have hs' : ¬ ((700 : Int) < (s.size : Nat)) := by omega
  have ht' : ¬ ((700 : Int) < (t.size : Nat)) := by omega
  have HL : Hid (∀ (x : ByteArray) (w : World), x.size ≤ 8192 → Below W.heap.size W w → Calls Tryz.prog 8 #[.string x] w fun e w' => ∃ v ev, e = .returned (.tuple #[v, ev]) ∧ ScanV w ea (scanL x.data.toList) v ev w' ∧ Below w.heap.size w w') := fun x w hl hb => scan_any x w ea (HE.out.below hb) (Nat.le_trans HW.out hb.size) hl
  clear HE
  go_enter Tryz.func5, Tryz.ntmps5
  go_wp2_with fail
  refine Calls.mono HF.out ?_
  rintro e w1 ⟨rfl, hb⟩
  have HB : Hid (Below W.heap.size W w1) := hb
  clear hb HF HW
  go_wp2_with fail
  go_loopw [8] (fun v8 wr => ∃ i : Nat, i ≤ s.size ∧ v8 = .int .i64 i ∧ w1 = wr ∧ Hid (meek (s.data.toList.take i))) (fun v8 _ => s.size - (intOf v8).toNat)
  case atStart => exact ⟨0, by omega, rfl, rfl, fun c hc => by simp at hc⟩
  case round =>
    obtain ⟨i, hi, rfl, hwr, HT⟩ := hrel
    subst hwr
    by_cases hi4 : i = s.size
    · have HA : Hid (meek s.data.toList) := by
        have h := HT.out
        rw [List.take_of_length_le (by rw [hi4]; exact Nat.le_of_eq Array.length_toList)] at h
        exact h
      have hi5 : ¬ ((i : Int) < (s.size : Nat)) := by omega
      clear HT
      obtain ⟨R1, hR1⟩ : ∃ R1, scanL s.data.toList = R1 := ⟨_, rfl⟩
      obtain ⟨R2, hR2⟩ : ∃ R2, scanL t.data.toList = R2 := ⟨_, rfl⟩
      have hC := HL.out s w1 (by omega) HB.out
      have hC2 := fun w hb => HL.out t w (by omega) hb
      rw [hR1] at hC
      rw [hR2] at hC2
      have HC : Hid _ := hC
      have HC2 : Hid _ := hC2
      have HR1 : Hid _ := hR1
      have HR2 : Hid _ := hR2
      clear hC hC2 hR1 hR2
      go_wp2_with fail
      refine Calls.mono HC.out ?_
      clear HC
      cases R1 with
      | error x =>
        rintro e w2 ⟨v1, ev1, rfl, ⟨rfl, q1, rfl, _⟩, hb1⟩
        have HB2 : Hid (Below W.heap.size W w2) := HB.out.trans (Below.mono hb1 HB.out.size)
        have HC3 : Hid _ := HC2.out w2 HB2.out
        clear hb1 HC2
        go_wp2_with fail
        refine Calls.mono HC3.out ?_
        rintro e w3 ⟨v2, ev2, rfl, _, hb2⟩
        have HB3 : Hid (Below W.heap.size W w3) := HB2.out.trans (Below.mono hb2 HB2.out.size)
        clear hb2 HC3
        go_wp2_with fail
        go_ret
        exact ⟨rfl, HB3.out⟩
      | ok ms1 =>
        rintro e w2 ⟨v1, ev1, rfl, ⟨rfl, K1, hK1, hO1⟩, hb1⟩
        have HB2 : Hid (Below W.heap.size W w2) := HB.out.trans (Below.mono hb1 HB.out.size)
        have HC3 : Hid _ := HC2.out w2 HB2.out
        have HK1 : Hid (K1.map toCm = ms1) := hK1
        have hcm1 := CmsAt.own hO1
        clear hb1 HC2 hO1
        obtain ⟨ad1, cp1, rfl⟩ := hcm1.form
        have HM1 : Hid (CmsAt w2 (.slice ad1 K1.length cp1) K1) := hcm1
        have hf1 := few_of HSL.out (by omega) HR1.out hK1
        have HF1 : Hid (Few K1 ∧ ∀ q ∈ K1, FewC s.size (toCm q)) := hf1
        clear hcm1 hK1 hf1
        go_wp2_with fail
        refine Calls.mono HC3.out ?_
        clear HC3
        cases R2 with
        | error x =>
          rintro e w3 ⟨v2, ev2, rfl, ⟨rfl, q1, rfl, _⟩, hb2⟩
          have HB3 : Hid (Below W.heap.size W w3) := HB2.out.trans (Below.mono hb2 HB2.out.size)
          clear hb2
          go_wp2_with fail
          go_ret
          exact ⟨rfl, HB3.out⟩
        | ok ms2 =>
          rintro e w3 ⟨v2, ev2, rfl, ⟨rfl, K2, hK2, hO2⟩, hb2⟩
          have HB3 : Hid (Below W.heap.size W w3) := HB2.out.trans (Below.mono hb2 HB2.out.size)
          have HB23 : Hid (Below w2.heap.size w2 w3) := hb2
          have HK2 : Hid (K2.map toCm = ms2) := hK2
          have hcm2 := CmsAt.own hO2
          clear hb2 hO2
          obtain ⟨ad2, cp2, rfl⟩ := hcm2.form
          have HM2 : Hid (CmsAt w3 (.slice ad2 K2.length cp2) K2) := hcm2
          have hf2 := few_of HTL.out (by omega) HR2.out hK2
          have HF2 : Hid (Few K2 ∧ ∀ q ∈ K2, FewC t.size (toCm q)) := hf2
          clear hcm2 hK2 hf2
          obtain ⟨c0, h0, hc0⟩ : ∃ c0 : UInt8, sepS.contains c0 = true ∧ c0 = (if semi then 59 else 10) := ⟨_, by cases semi <;> decide, rfl⟩
          have h3 := scan_two c0 h0 _ _ ms1 ms2 HA.out HR1.out HR2.out
          have hLD := HL.out ⟨(s.data.toList ++ c0 :: t.data.toList).toArray⟩ w3 (by have h1 := HSL.out; have h2 := HTL.out; show (s.data.toList ++ c0 :: t.data.toList).toArray.size ≤ 8192; simp only [List.size_toArray, List.length_append, List.length_cons]; omega) HB3.out
          rw [show (⟨(s.data.toList ++ c0 :: t.data.toList).toArray⟩ : ByteArray).data.toList = s.data.toList ++ c0 :: t.data.toList from rfl, h3] at hLD
          have HLD : Hid _ := hLD
          have HZ : Hid (s ++ ⟨#[c0]⟩ ++ t = (⟨(s.data.toList ++ c0 :: t.data.toList).toArray⟩ : ByteArray)) := z_sep s t c0
          have HR3 : Hid (scanL (s.data.toList ++ c0 :: t.data.toList) = .ok (ms1 ++ ms2.map (shC (s.data.toList.length + 1)))) := h3
          have hy1 : ¬ 9223372036854775807 < s.size + 1 := by omega
          have hy2 : ¬ 9223372036854775807 < s.size + 1 + t.size := by omega
          clear hLD h3 h0 HL
          cases semi
          all_goals
            simp at hc0
            subst hc0
            go_wp2_with fail
            rw [HZ.out]
            refine Calls.mono HLD.out ?_
            rintro e w4 ⟨v3, ev3, rfl, ⟨rfl, K3, hK3, hO3⟩, hb3⟩
            have HB34 : Hid (Below w3.heap.size w3 w4) := hb3
            have HB4 : Hid (Below W.heap.size W w4) := HB3.out.trans (Below.mono hb3 HB3.out.size)
            have hcm3 := CmsAt.own hO3
            obtain ⟨ad3, cp3, rfl⟩ := hcm3.form
            have HM3 : Hid (CmsAt w4 (.slice ad3 K3.length cp3) K3) := hcm3
            have HF3 : Hid (Few K3) := (few_of (N := s.size + 1 + t.size) (by have h1 := HSL.out; have h2 := HTL.out; simp only [List.length_append, List.length_cons]; omega) (by omega) HR3.out hK3).1
            have HK3 : Hid (K3.map toCm = ms1 ++ ms2.map (shC (s.size + 1))) := by rw [HSL.out] at hK3; exact hK3
            have HL3 : Hid (K3.length = K1.length + K2.length) := by
              unfold Hid
              have h := congrArg List.length HK3.out
              have h1 := congrArg List.length HK1.out
              have h2 := congrArg List.length HK2.out
              simp at h h1 h2
              omega
            have m0 : ((K3.length : Int) != (K1.length : Int) + (K2.length : Int)) = false := by
              rw [HL3.out]
              simp
            have HMade1 : Hid (∀ w, Below w4.heap.size w4 w → Calls Tryz.prog 12 #[.slice ad1 K1.length cp1] w fun e w' => ∃ v' K', e = .returned v' ∧ K'.map toCm = K1.map toCm ∧ QmOwn w' w.heap.size v' K' ∧ Below w.heap.size w w') := fun w hb => made_any w _ K1 (((HM1.out.below HB23.out).below HB34.out).below hb) HF1.out.1
            have HMade2 : Hid (∀ w, Below w4.heap.size w4 w → Calls Tryz.prog 12 #[.slice ad2 K2.length cp2] w fun e w' => ∃ v' K', e = .returned v' ∧ K'.map toCm = K2.map toCm ∧ QmOwn w' w.heap.size v' K' ∧ Below w.heap.size w w') := fun w hb => made_any w _ K2 ((HM2.out.below HB34.out).below hb) HF2.out.1
            have hk3 := HF3.out.1
            have hks := HF1.out.1.1
            have hkt := HF2.out.1.1
            clear hcm3 hO3 hb3 HLD hK3 hy1 hy2 HZ
            go_wp2_with fail
            go_loopw [16] (fun v16 wr => ∃ i : Nat, i ≤ K3.length ∧ v16 = .int .i64 i ∧ Hid (Below w4.heap.size w4 wr)) (fun v16 _ => K3.length - (intOf v16).toNat)
            case atStart => exact ⟨0, Nat.zero_le _, rfl, Below.refl _ _⟩
            case round =>
              obtain ⟨i, hi', rfl, HBi⟩ := hrel
              by_cases hlt : i < K3.length
              · have hlt' : (i : Int) < (K3.length : Nat) := by omega
                obtain ⟨q, hq⟩ : ∃ q, K3[i]? = some q := ⟨_, List.getElem?_eq_getElem hlt⟩
                obtain ⟨g3, o3, rfl⟩ : ∃ g o, ad3 = some ⟨g, o, none⟩ := by
                  obtain ⟨g, o, c, e, _⟩ := HM3.out.get hq
                  injection e with e1 _ _
                  exact ⟨g, o, e1⟩
                have HHlt : Hid (i < K3.length) := hlt
                have HFq : Hid (Few [q]) := few_one hq HF3.out
                have hcap : K3.length ≤ cp3 := by
                  obtain ⟨g3', o3', c3', e3', hc', _⟩ := HM3.out.get hq
                  injection e3' with _ _ e3c'
                  omega
                have HSub : Hid (∀ w, Below w4.heap.size w4 w → CmsAt w (.slice (some ⟨g3, o3 + i * 2, none⟩) 1 (cp3 - i)) [q]) := fun w hb => (cms_sub HM3.out hq).below hb
                have HX0 : Hid (Cel (wr.alloc (.cells #[.int .i64 0, .slice none 0 0] 51)) wr.heap.size 51 #[.int .i64 0, .slice none 0 0]) := Cel.new _ _ _
                have hba := HBi.out.alloc HBi.out.size (.cells #[.int .i64 0, .slice none 0 0] 51)
                have HBA : Hid (Below w4.heap.size w4 (wr.alloc (.cells #[.int .i64 0, .slice none 0 0] 51))) := hba
                by_cases hia : i < K1.length
                · have hia' : (i : Int) < (K1.length : Nat) := by omega
                  have HMd1 : Hid _ := HMade1.out _ hba
                  clear hba
                  go_wp2_with fail
                  refine Calls.mono HMd1.out ?_
                  rintro e wa ⟨va, Ka, rfl, hKa, hQa, hbw⟩
                  obtain ⟨adA, cpA, rfl⟩ := hQa.form
                  have hlA : Ka.length = K1.length := by simpa using congrArg List.length hKa
                  obtain ⟨qa, hqa⟩ : ∃ qa, Ka[i]? = some qa := ⟨_, List.getElem?_eq_getElem (by omega)⟩
                  obtain ⟨wv, n, Kw⟩ := qa
                  have hEq : [q].map toCm = [(wv, n, Kw)].map toCm := by
                    have h1 := congrArg (·[i]?) HK3.out
                    have h2 := congrArg (·[i]?) hKa
                    simp only [List.getElem?_map, hq, hqa, Option.map_some] at h1 h2
                    rw [List.getElem?_append_left (by rw [← HK1.out]; simpa using hia), ← HK1.out, List.getElem?_map, ← h2] at h1
                    simpa using h1
                  have HEq : Hid _ := hEq
                  obtain ⟨gA, oA, cA, eA, _, hgA, xA⟩ := hQa.at_.row.get (i := i) (cs := cmC (wv, n, Kw)) (by rw [List.getElem?_map, hqa]; rfl)
                  injection eA with eA1 _ _
                  subst eA1
                  have xA0 := xA 0 _ rfl
                  have xA1 := xA 1 _ rfl
                  have hCa := HX0.out.below hbw (Cel.lt HX0.out)
                  have d0 := hCa.cell 0
                  have d1 := hCa.cell 1
                  have df0 := hCa.frozen 0
                  have df1 := hCa.frozen 1
                  have hQd := hQa.words _ (List.mem_of_getElem? hqa)
                  obtain ⟨aw, cw, hwv⟩ : ∃ aw cw, wv = Value.slice aw Kw.length cw := hQd.form
                  subst hwv
                  have HCa : Hid _ := hCa
                  have HQd : Hid (QdOwn wa (wr.alloc (.cells #[.int .i64 0, .slice none 0 0] 51)).heap.size (.slice aw Kw.length cw) Kw) := hQd
                  have HBw : Hid (Below w4.heap.size w4 wa) := HBA.out.trans (Below.mono hbw HBA.out.size)
                  have hws : w4.heap.size ≤ wr.heap.size := HBi.out.size
                  rw [hlA]
                  simp only [Nat.add_zero] at xA0
                  clear hQa hbw hEq hKa hqa hQd hCa xA HMd1 hlA
                  go_wp2_with fail
                  have hT : Turn (fun x => x = wr.heap.size) wa ((wa.setCell ⟨wr.heap.size, 0, none⟩ (.int .i64 (n : Nat))).setCell ⟨wr.heap.size, 1, none⟩ (.slice aw Kw.length cw)) := Turn.setCell (p := ⟨wr.heap.size, 1, none⟩) (Turn.setCell (p := ⟨wr.heap.size, 0, none⟩) (Turn.refl (fun x => x = wr.heap.size) wa) (fun _ => rfl) _) (fun _ => rfl) _
                  have HCx : Hid (Cel ((wa.setCell ⟨wr.heap.size, 0, none⟩ (.int .i64 (n : Nat))).setCell ⟨wr.heap.size, 1, none⟩ (.slice aw Kw.length cw)) wr.heap.size 51 #[.int .i64 (n : Nat), .slice aw Kw.length cw]) := Cel.set (Cel.set HCa.out (j := 0) (.int .i64 (n : Nat))) (j := 1) (.slice aw Kw.length cw)
                  have HQx : Hid (QdAt ((wa.setCell ⟨wr.heap.size, 0, none⟩ (.int .i64 (n : Nat))).setCell ⟨wr.heap.size, 1, none⟩ (.slice aw Kw.length cw)) (.slice aw Kw.length cw) Kw) := (HQd.out.turn hT (by simp)).at_
                  have HBx : Hid (Below w4.heap.size w4 ((wa.setCell ⟨wr.heap.size, 0, none⟩ (.int .i64 (n : Nat))).setCell ⟨wr.heap.size, 1, none⟩ (.slice aw Kw.length cw))) := (HBw.out.setCell (p := ⟨wr.heap.size, 0, none⟩) hws _).setCell (p := ⟨wr.heap.size, 1, none⟩) hws _
                  clear hT xA0 xA1 d0 d1 df0 df1
                  generalize (wa.setCell ⟨wr.heap.size, 0, none⟩ (.int .i64 (n : Nat))).setCell ⟨wr.heap.size, 1, none⟩ (.slice aw Kw.length cw) = wx at HCx HQx HBx ⊢
                  have hslr := fun w => slice_one w g3 o3 cp3 i K3.length (by omega)
                  have hwr : IntKind.i64.wrap ((i : Int) + 1) = (i : Int) + 1 := by rw [IntKind.wrap_i64]; omega
                  have HSx : Hid (∀ w, Below wx.heap.size wx w → w.cell? ⟨wr.heap.size, 0, none⟩ = some (.int .i64 (n : Nat)) ∧ w.cell? ⟨wr.heap.size, 1, none⟩ = some (.slice aw Kw.length cw)) := fun w hb => ⟨(Cel.below HCx.out hb (Cel.lt HCx.out)).cell 0, (Cel.below HCx.out hb (Cel.lt HCx.out)).cell 1⟩
                  have HMd : Hid (∀ w, Below wx.heap.size wx w → Calls Tryz.prog 12 #[.slice (some ⟨g3, o3 + i * 2, none⟩) 1 (cp3 - i)] w fun e w' => ∃ v' K', e = .returned v' ∧ K'.map toCm = [q].map toCm ∧ QmAt w' v' K' ∧ (∀ v K, QmAt w v K → QmAt w' v K) ∧ Below wx.heap.size wx w') := fun w hw => by
                    refine (made_any w _ [q] (CmsAt.below (W := wx) (HSub.out wx HBx.out) hw) HFq.out).mono ?_
                    rintro e w' ⟨v', K', rfl, h1, h2, h3⟩
                    exact ⟨v', K', rfl, h1, h2.at_, fun v K h => h.below h3, hw.trans (Below.mono h3 hw.size)⟩
                  have hd1 : Below wx.heap.size wx wx.drew := (Below.refl _ wx).drew
                  have hd2 : Below wx.heap.size wx (wx.alloc (.cells #[.int .i64 (n : Nat), (.slice aw Kw.length cw)] 51)).drew := ((Below.refl _ wx).alloc (Nat.le_refl _) _).drew
                  have hV0 : QmAt (wx.alloc (.cells #[.int .i64 (n : Nat), (.slice aw Kw.length cw)] 51)).drew (.slice (some ⟨wx.heap.size, 0, none⟩) 1 1) [((.slice aw Kw.length cw), n, Kw)] := (qm_one wx n (.slice aw Kw.length cw) Kw HQx.out).below (Below.refl _ _).drew
                  have HSm : Hid (∀ (w : World) (v5 v2 : Value) (K5 : List Mc), Below wx.heap.size wx w → K5.map toCm = [q].map toCm → QmAt w v5 K5 → QmAt w v2 [((.slice aw Kw.length cw), n, Kw)] → Calls Tryz.prog 11 #[v5, v2] w fun e w' => e = .returned (.bool true) ∧ Below wx.heap.size wx w') := fun w v5 v2 K5 hb hk h1 h2 => by
                    refine (sameCommands_any w v5 v2 K5 _ h1 h2 (hk.trans HEq.out) (few_congr hk HFq.out)).mono ?_
                    rintro e w' ⟨rfl, h3⟩
                    exact ⟨rfl, hb.trans (Below.mono h3 hb.size)⟩
                  go_wp2_with fail
                  go_region_held3 (fun w' => w'.cell? ⟨wr.heap.size, 0, none⟩ = some (.int .i64 (n : Nat)) ∧ w'.cell? ⟨wr.heap.size, 1, none⟩ = some (.slice aw Kw.length cw)) (first | exact HSx.out _ (by assumption) | go_keep)
                    (first
                      | (go_at_call 12; refine Calls.mono (HMd.out _ (by assumption)) ?_; rintro e w5 ⟨v5, K5, rfl, hK5, hQ5, hpr5, hk5⟩; have hk5a : Below wx.heap.size wx (w5.alloc (.cells #[.int .i64 (n : Nat), (.slice aw Kw.length cw)] 51)) := hk5.alloc hk5.size _; have hQ5a : QmAt (w5.alloc (.cells #[.int .i64 (n : Nat), (.slice aw Kw.length cw)] 51)) v5 K5 := hQ5.below (below_new _ _); have hV5 : QmAt (w5.alloc (.cells #[.int .i64 (n : Nat), (.slice aw Kw.length cw)] 51)) (.slice (some ⟨w5.heap.size, 0, none⟩) 1 1) [((.slice aw Kw.length cw), n, Kw)] := qm_one w5 n (.slice aw Kw.length cw) Kw (HQx.out.below hk5); try (have hV5a : QmAt w5 (.slice (some ⟨wx.heap.size, 0, none⟩) 1 1) [((.slice aw Kw.length cw), n, Kw)] := hpr5 _ _ (by assumption)))
                      | (go_at_call 11; refine Calls.mono (HSm.out _ _ _ K5 (by assumption) hK5 (by assumption) (by assumption)) ?_; rintro e w6 ⟨rfl, hk6⟩))
                  all_goals
                    have HB6 : Hid (Below w4.heap.size w4 w6) := HBx.out.trans (Below.mono hk6 HBx.out.size)
                    clear hk6 hk5 hpr5 hQ5 hK5 HMd HSx HSm
                    go_wp2_with fail
                    exact ⟨⟨i + 1, by omega, rfl, HB6.out⟩, by simp only [intOf]; omega⟩
                · obtain ⟨j, hj⟩ : ∃ j, i = K1.length + j := ⟨i - K1.length, by omega⟩
                  have hia' : ¬ ((i : Int) < (K1.length : Nat)) := by omega
                  have hsub : IntKind.i64.wrap ((i : Int) - (K1.length : Nat)) = (j : Nat) := by rw [IntKind.wrap_i64]; omega
                  have hjk : j < K2.length := by have h1 := HL3.out; omega
                  have hj2 : (j : Int) < (K2.length : Nat) := by omega
                  have hj0 : ¬ ((j : Int) < 0) := by omega
                  have HJ : Hid (i = K1.length + j) := hj
                  clear hj
                  have HMd2 : Hid _ := HMade2.out _ hba
                  clear hba
                  go_wp2_with fail
                  refine Calls.mono HMd2.out ?_
                  rintro e wa ⟨va, Ka, rfl, hKa, hQa, hbw⟩
                  obtain ⟨adA, cpA, rfl⟩ := hQa.form
                  have hlA : Ka.length = K2.length := by simpa using congrArg List.length hKa
                  obtain ⟨qa, hqa⟩ : ∃ qa, Ka[j]? = some qa := ⟨_, List.getElem?_eq_getElem (by omega)⟩
                  obtain ⟨wv, n, Kw⟩ := qa
                  obtain ⟨q2, hq2⟩ : ∃ q2, K2[j]? = some q2 := ⟨_, List.getElem?_eq_getElem (by omega)⟩
                  have hqq : toCm q2 = toCm (wv, n, Kw) := by
                    have h2 := congrArg (·[j]?) hKa
                    simp only [List.getElem?_map, hq2, hqa, Option.map_some] at h2
                    injection h2 with h2
                    exact h2.symm
                  have hfc : FewC t.size (toCm (wv, n, Kw)) := hqq ▸ HF2.out.2 q2 (List.mem_of_getElem? hq2)
                  have HEq0 : Hid (toCm q = shC (s.size + 1) (toCm (wv, n, Kw))) := by
                    unfold Hid
                    have hj := HJ.out
                    have h1 := congrArg (·[i]?) HK3.out
                    simp only [List.getElem?_map, hq, Option.map_some] at h1
                    rw [List.getElem?_append_right (by rw [← HK1.out]; simp; omega), ← HK1.out, ← HK2.out, List.getElem?_map, List.getElem?_map, List.length_map, show i - K1.length = j by omega, hq2] at h1
                    simp only [Option.map_some] at h1
                    injection h1 with h1
                    rw [h1, hqq]
                  have htl := ht
                  have hn1 : n ≤ 100000 := by have := hfc.1; simp only [toCm] at this; omega
                  have hn2 : Kw.length ≤ 10000 := by have := hfc.2.1; simp only [toCm, List.length_map] at this; omega
                  have hn3 : ∀ p ∈ Kw, FewW 10000 p.2 := fun p hp => by
                    obtain ⟨f1, f2, f3⟩ := hfc.2.2 p.2 (List.mem_map.2 ⟨p, hp, rfl⟩)
                    exact ⟨by omega, by omega, fun r hr => by have := f3 r hr; omega⟩
                  obtain ⟨gA, oA, cA, eA, _, hgA, xA⟩ := hQa.at_.row.get (i := j) (cs := cmC (wv, n, Kw)) (by rw [List.getElem?_map, hqa]; rfl)
                  injection eA with eA1 _ _
                  subst eA1
                  have xA0 := xA 0 _ rfl
                  have xA1 := xA 1 _ rfl
                  have hCa := HX0.out.below hbw (Cel.lt HX0.out)
                  have d0 := hCa.cell 0
                  have d1 := hCa.cell 1
                  have df0 := hCa.frozen 0
                  have df1 := hCa.frozen 1
                  have hQd := hQa.words _ (List.mem_of_getElem? hqa)
                  obtain ⟨aw, cw, hwv⟩ : ∃ aw cw, wv = Value.slice aw Kw.length cw := hQd.form
                  subst hwv
                  have HBw : Hid (Below w4.heap.size w4 wa) := HBA.out.trans (Below.mono hbw HBA.out.size)
                  have hws : w4.heap.size ≤ wr.heap.size := HBi.out.size
                  have hT : Turn (fun x => x = wr.heap.size) wa ((wa.setCell ⟨wr.heap.size, 0, none⟩ (.int .i64 (n : Nat))).setCell ⟨wr.heap.size, 1, none⟩ (.slice aw Kw.length cw)) := Turn.setCell (p := ⟨wr.heap.size, 1, none⟩) (Turn.setCell (p := ⟨wr.heap.size, 0, none⟩) (Turn.refl (fun x => x = wr.heap.size) wa) (fun _ => rfl) _) (fun _ => rfl) _
                  have HCy : Hid (Cel ((wa.setCell ⟨wr.heap.size, 0, none⟩ (.int .i64 (n : Nat))).setCell ⟨wr.heap.size, 1, none⟩ (.slice aw Kw.length cw)) wr.heap.size 51 #[.int .i64 (n : Nat), .slice aw Kw.length cw]) := Cel.set (Cel.set hCa (j := 0) (.int .i64 (n : Nat))) (j := 1) (.slice aw Kw.length cw)
                  have HBy : Hid (Below w4.heap.size w4 ((wa.setCell ⟨wr.heap.size, 0, none⟩ (.int .i64 (n : Nat))).setCell ⟨wr.heap.size, 1, none⟩ (.slice aw Kw.length cw))) := (HBw.out.setCell (p := ⟨wr.heap.size, 0, none⟩) hws _).setCell (p := ⟨wr.heap.size, 1, none⟩) hws _
                  have hsh := shifted_any _ n (s.size + 1) (.slice aw Kw.length cw) Kw (hQd.turn hT (by simp)).at_ hn1 (by omega) hn2 hn3
                  rw [show ((s.size + 1 : Nat) : Int) = (s.size : Int) + 1 from rfl] at hsh
                  have HSh : Hid _ := hsh
                  rw [hlA]
                  simp only [Nat.add_zero] at xA0
                  clear hQa hbw hKa hqa hQd hCa xA HMd2 hlA hT hfc hqq hq2 hsh hn1 hn2 hn3 HBw htl
                  have hxs : (s.size : Int) + 1 ≤ 9223372036854775807 := by omega
                  go_wp2_with fail
                  clear xA0 xA1 d0 d1 df0 df1
                  refine Calls.mono HSh.out ?_
                  clear HSh
                  generalize (wa.setCell ⟨wr.heap.size, 0, none⟩ (.int .i64 (n : Nat))).setCell ⟨wr.heap.size, 1, none⟩ (.slice aw Kw.length cw) = wy at HCy HBy ⊢
                  rintro e wb ⟨v2, Kv, rfl, hQ2, hKv, hbv⟩
                  obtain ⟨a2, c2, rfl⟩ : ∃ a2 c2, v2 = Value.slice a2 Kv.length c2 := hQ2.form
                  obtain ⟨N, hN⟩ : ∃ N, n + (s.size + 1) = N := ⟨_, rfl⟩
                  rw [hN]
                  have HEq : Hid ([q].map toCm = [(Value.slice a2 Kv.length c2, N, Kv)].map toCm) := by
                    unfold Hid
                    rw [List.map_singleton, List.map_singleton, HEq0.out]
                    simp only [toCm, shC, hKv, hN]
                  have hCb := HCy.out.below hbv (Cel.lt HCy.out)
                  have HCb : Hid _ := hCb
                  have d0 := hCb.cell 0
                  have d1 := hCb.cell 1
                  have df0 := hCb.frozen 0
                  have df1 := hCb.frozen 1
                  have hlt2 : wr.heap.size < wy.heap.size := Cel.lt HCy.out
                  have HQe : Hid (QdOwn wb wy.heap.size (.slice a2 Kv.length c2) Kv) := hQ2
                  have HBe : Hid (Below w4.heap.size w4 wb) := HBy.out.trans (Below.mono hbv HBy.out.size)
                  clear hQ2 hbv hKv hN HEq0 hCb HJ hsub hjk hj2 hj0 hxs
                  go_wp2_with fail
                  have hT : Turn (fun x => x = wr.heap.size) wb ((wb.setCell ⟨wr.heap.size, 0, none⟩ (.int .i64 (N : Nat))).setCell ⟨wr.heap.size, 1, none⟩ (.slice a2 Kv.length c2)) := Turn.setCell (p := ⟨wr.heap.size, 1, none⟩) (Turn.setCell (p := ⟨wr.heap.size, 0, none⟩) (Turn.refl (fun x => x = wr.heap.size) wb) (fun _ => rfl) _) (fun _ => rfl) _
                  have HCx : Hid (Cel ((wb.setCell ⟨wr.heap.size, 0, none⟩ (.int .i64 (N : Nat))).setCell ⟨wr.heap.size, 1, none⟩ (.slice a2 Kv.length c2)) wr.heap.size 51 #[.int .i64 (N : Nat), .slice a2 Kv.length c2]) := Cel.set (Cel.set HCb.out (j := 0) (.int .i64 (N : Nat))) (j := 1) (.slice a2 Kv.length c2)
                  have HQx : Hid (QdAt ((wb.setCell ⟨wr.heap.size, 0, none⟩ (.int .i64 (N : Nat))).setCell ⟨wr.heap.size, 1, none⟩ (.slice a2 Kv.length c2)) (.slice a2 Kv.length c2) Kv) := (HQe.out.turn hT (fun x hx => by omega)).at_
                  have HBx : Hid (Below w4.heap.size w4 ((wb.setCell ⟨wr.heap.size, 0, none⟩ (.int .i64 (N : Nat))).setCell ⟨wr.heap.size, 1, none⟩ (.slice a2 Kv.length c2))) := (HBe.out.setCell (p := ⟨wr.heap.size, 0, none⟩) hws _).setCell (p := ⟨wr.heap.size, 1, none⟩) hws _
                  clear hT d0 d1 df0 df1
                  generalize (wb.setCell ⟨wr.heap.size, 0, none⟩ (.int .i64 (N : Nat))).setCell ⟨wr.heap.size, 1, none⟩ (.slice a2 Kv.length c2) = wx at HCx HQx HBx ⊢
                  have hslr := fun w => slice_one w g3 o3 cp3 i K3.length (by omega)
                  have hwr : IntKind.i64.wrap ((i : Int) + 1) = (i : Int) + 1 := by rw [IntKind.wrap_i64]; omega
                  have HSx : Hid (∀ w, Below wx.heap.size wx w → w.cell? ⟨wr.heap.size, 0, none⟩ = some (.int .i64 (N : Nat)) ∧ w.cell? ⟨wr.heap.size, 1, none⟩ = some (.slice a2 Kv.length c2)) := fun w hb => ⟨(Cel.below HCx.out hb (Cel.lt HCx.out)).cell 0, (Cel.below HCx.out hb (Cel.lt HCx.out)).cell 1⟩
                  have HMd : Hid (∀ w, Below wx.heap.size wx w → Calls Tryz.prog 12 #[.slice (some ⟨g3, o3 + i * 2, none⟩) 1 (cp3 - i)] w fun e w' => ∃ v' K', e = .returned v' ∧ K'.map toCm = [q].map toCm ∧ QmAt w' v' K' ∧ (∀ v K, QmAt w v K → QmAt w' v K) ∧ Below wx.heap.size wx w') := fun w hw => by
                    refine (made_any w _ [q] (CmsAt.below (W := wx) (HSub.out wx HBx.out) hw) HFq.out).mono ?_
                    rintro e w' ⟨v', K', rfl, h1, h2, h3⟩
                    exact ⟨v', K', rfl, h1, h2.at_, fun v K h => h.below h3, hw.trans (Below.mono h3 hw.size)⟩
                  have hd1 : Below wx.heap.size wx wx.drew := (Below.refl _ wx).drew
                  have hd2 : Below wx.heap.size wx (wx.alloc (.cells #[.int .i64 (N : Nat), (.slice a2 Kv.length c2)] 51)).drew := ((Below.refl _ wx).alloc (Nat.le_refl _) _).drew
                  have hV0 : QmAt (wx.alloc (.cells #[.int .i64 (N : Nat), (.slice a2 Kv.length c2)] 51)).drew (.slice (some ⟨wx.heap.size, 0, none⟩) 1 1) [((.slice a2 Kv.length c2), N, Kv)] := (qm_one wx N (.slice a2 Kv.length c2) Kv HQx.out).below (Below.refl _ _).drew
                  have HSm : Hid (∀ (w : World) (v5 v2 : Value) (K5 : List Mc), Below wx.heap.size wx w → K5.map toCm = [q].map toCm → QmAt w v5 K5 → QmAt w v2 [((.slice a2 Kv.length c2), N, Kv)] → Calls Tryz.prog 11 #[v5, v2] w fun e w' => e = .returned (.bool true) ∧ Below wx.heap.size wx w') := fun w v5 v2 K5 hb hk h1 h2 => by
                    refine (sameCommands_any w v5 v2 K5 _ h1 h2 (hk.trans HEq.out) (few_congr hk HFq.out)).mono ?_
                    rintro e w' ⟨rfl, h3⟩
                    exact ⟨rfl, hb.trans (Below.mono h3 hb.size)⟩
                  go_wp2_with fail
                  go_region_held3 (fun w' => w'.cell? ⟨wr.heap.size, 0, none⟩ = some (.int .i64 (N : Nat)) ∧ w'.cell? ⟨wr.heap.size, 1, none⟩ = some (.slice a2 Kv.length c2)) (first | exact HSx.out _ (by assumption) | go_keep)
                    (first
                      | (go_at_call 12; refine Calls.mono (HMd.out _ (by assumption)) ?_; rintro e w5 ⟨v5, K5, rfl, hK5, hQ5, hpr5, hk5⟩; have hk5a : Below wx.heap.size wx (w5.alloc (.cells #[.int .i64 (N : Nat), (.slice a2 Kv.length c2)] 51)) := hk5.alloc hk5.size _; have hQ5a : QmAt (w5.alloc (.cells #[.int .i64 (N : Nat), (.slice a2 Kv.length c2)] 51)) v5 K5 := hQ5.below (below_new _ _); have hV5 : QmAt (w5.alloc (.cells #[.int .i64 (N : Nat), (.slice a2 Kv.length c2)] 51)) (.slice (some ⟨w5.heap.size, 0, none⟩) 1 1) [((.slice a2 Kv.length c2), N, Kv)] := qm_one w5 N (.slice a2 Kv.length c2) Kv (HQx.out.below hk5); try (have hV5a : QmAt w5 (.slice (some ⟨wx.heap.size, 0, none⟩) 1 1) [((.slice a2 Kv.length c2), N, Kv)] := hpr5 _ _ (by assumption)))
                      | (go_at_call 11; refine Calls.mono (HSm.out _ _ _ K5 (by assumption) hK5 (by assumption) (by assumption)) ?_; rintro e w6 ⟨rfl, hk6⟩))
                  all_goals
                    have HB6 : Hid (Below w4.heap.size w4 w6) := HBx.out.trans (Below.mono hk6 HBx.out.size)
                    clear hk6 hk5 hpr5 hQ5 hK5 HMd HSx HSm
                    go_wp2_with fail
                    exact ⟨⟨i + 1, by omega, rfl, HB6.out⟩, by simp only [intOf]; omega⟩
              · have hlt' : ¬ ((i : Int) < (K3.length : Nat)) := by omega
                go_wp2_with fail
                go_ret
                exact ⟨rfl, HB4.out.trans (Below.mono HBi.out HB4.out.size)⟩
    · have hi6 : i < s.size := by omega
      have hi5 : (i : Int) < (s.size : Nat) := by omega
      have hlen : i < s.data.toList.length := by rw [Array.length_toList]; show i < s.size; omega
      obtain ⟨x, hx⟩ : ∃ x, x = s.data.toList[i] := ⟨_, rfl⟩
      have hb8 : s[i]'hi6 = x := by rw [hx]; rfl
      have HN := meek_take s.data.toList i hlen HT.out
      rw [← hx] at HN
      have HN' : Hid (x ≠ 92 ∧ x ≠ 35 → meek (s.data.toList.take (i + 1))) := HN
      clear HN hx HT
      by_cases e5 : x = 92
      · subst e5
        go_wp2_with fail
        go_ret
        exact ⟨rfl, HB.out⟩
      by_cases e1 : x = 35
      · subst e1
        go_wp2_with fail
        go_ret
        exact ⟨rfl, HB.out⟩
      have HM : Hid (meek (s.data.toList.take (i + 1))) := HN'.out ⟨e5, e1⟩
      have f1 : ¬ ((x.toNat : Int) = 35) := fun e => e1 (UInt8.toNat_inj.1 (by show x.toNat = 35; omega))
      have f5 : ¬ ((x.toNat : Int) = 92) := fun e => e5 (UInt8.toNat_inj.1 (by show x.toNat = 92; omega))
      have g1 : ((x.toNat : Int) == 35) = false := by simp [f1]
      have g5 : ((x.toNat : Int) == 92) = false := by simp [f5]
      clear HN' e1 e5
      go_wp2_with fail
      exact ⟨⟨i + 1, by omega, rfl, trivial, HM⟩, by simp only [intOf]; omega⟩
end Go.Proofs.YtlihkblllakhmaaGreatDoor
