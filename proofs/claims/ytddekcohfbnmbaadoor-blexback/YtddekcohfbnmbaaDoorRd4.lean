/- A variable; what stands behind a dollar. -/
import Derived.Test.YtddekcohfbnmbaaDoorRd3
namespace Go.Proofs.YtddekcohfbnmbaaDoor
open Go.RowKit
attribute [local go_sem] Oper.semAt_some

set_option maxRecDepth 100000 in
set_option maxHeartbeats 4000000 in
theorem variable_any {W : World} {b sb k : Nat} {s : ByteArray} {ea : Nat → Addr} (h : Rd W b sb s k) (hE : Env W ea) (_hb64 : (ea 64).block ≤ b) (g : Bool) (p kd : Nat) (sg : ByteArray) (_hsg : sg.size ≤ 2) (hs : s.size < 1099511627776) (hp : p + sg.size ≤ s.size) :
    Calls Tryd.prog 57 #[.pointer (some ⟨b, 0, none⟩), .agg (tbC ⟨0, p, 0, [], g⟩).toArray, .int .i64 (kd : Nat), .string sg] W fun e w' => ∃ v ev, e = .returned (.tuple #[v, ev]) ∧ TokV W b sb s ea (varR kd p g (s.data.toList.drop (p + sg.size))) v ev w' := by
  have hlb := h.rd.lt
  have hlsb := h.src.lt
  obtain ⟨W0, hW0⟩ : ∃ W0, W0 = (W.alloc (.cells (tbC ⟨0, p, 0, [], g⟩).toArray 40)).alloc (.cells zT 40) := ⟨_, rfl⟩
  have HS0 : Hid (Stp W b sb s k W0) := by rw [hW0]; exact ((Stp.refl h).alloc _).alloc _
  have HE0 : Hid (Env W0 ea) := by rw [hW0]; exact (hE.below (below_new _ _)).below (below_new _ _)
  have HT0 : Hid (Cel W0 W.heap.size 40 (tbC ⟨0, p, 0, [], g⟩).toArray) := by rw [hW0]; exact (Cel.new W _ _).below (below_new _ _) (by simp)
  have HQ0 : Hid (Cel W0 (W.heap.size + 1) 40 zT) := by rw [hW0]; exact Cel.new2 W _ _ _
  have HW0 : Hid ((W.alloc (.cells (tbC ⟨0, p, 0, [], g⟩).toArray 40)).alloc (.cells zT 40) = W0) := hW0.symm
  have hgl := hE.glob
  obtain ⟨a, HA⟩ : ∃ a, Hid (p + sg.size = a) := ⟨_, rfl⟩
  have hpa : (p : Int) + (sg.size : Int) = (a : Int) := by have := HA.out; omega
  have ha : a ≤ s.size := by have := HA.out; omega
  rw [HA.out]
  have HN : Hid (Calls Tryd.prog 66 #[.pointer (some ⟨sb, 0, none⟩), .int .i64 (a : Nat)] W0 fun e w' => e = .returned (.string ⟨(nrun (s.data.toList.drop a)).toArray⟩) ∧ w' = W0) := sname_any sb s a W0 HS0.out.at_.t0 (by omega)
  have HH : Hid (Calls Tryd.prog 42 #[.pointer (some ⟨sb, 0, none⟩), .int .i64 (a : Nat), .string ⟨#[42]⟩] W0 fun e w' => e = .returned (.bool (s.data.toList[a]? == some 42)) ∧ w' = W0) := hasb_any sb s 42 a W0 HS0.out.at_.t0
  have HNM : Hid (Calls Tryd.prog 67 #[.string ⟨(nrun (s.data.toList.drop a)).toArray⟩] W0 fun e w' => e = .returned (.bool (nameB (nrun (s.data.toList.drop a)))) ∧ w' = W0) := name_any ⟨(nrun (s.data.toList.drop a)).toArray⟩ W0
  have c0 := HS0.out.at_.c0
  have f1 := HS0.out.at_.f1
  have c1 := HS0.out.at_.c1
  have u0 : W0.cell? ⟨W.heap.size, 0, none⟩ = some (.int .i64 0) := HT0.out.cell 0
  have u1 : W0.cell? ⟨W.heap.size, 1, none⟩ = some (.int .i64 (p : Nat)) := HT0.out.cell 1
  have u2 : W0.cell? ⟨W.heap.size, 2, none⟩ = some (.int .i64 0) := HT0.out.cell 2
  have u3 : W0.cell? ⟨W.heap.size, 3, none⟩ = some (.string ⟨#[]⟩) := HT0.out.cell 3
  have u4 : W0.cell? ⟨W.heap.size, 4, none⟩ = some (.bool g) := HT0.out.cell 4
  have x0 := HT0.out.frozen 0
  have x3 := HT0.out.frozen 3
  have hz0 : W.heap.size + 2 ≤ W0.heap.size := by have := HQ0.out.lt; omega
  have hln := len_drop s a
  have hnl : (nrun (s.data.toList.drop a)).length ≤ s.size - a := by
    have : ∀ l : List UInt8, (nrun l).length ≤ l.length := fun l => by
      cases l with
      | nil => simp [nrun]
      | cons c t =>
        rw [nrun]
        split
        · exact (List.takeWhile_sublist _).length_le
        · simp
    have := this (s.data.toList.drop a)
    omega
  have hbn : ¬ b = W.heap.size := by omega
  have hnb : ¬ W.heap.size = b := by omega
  have hbn1 : ¬ b = W.heap.size + 1 := by omega
  have hnb1 : ¬ W.heap.size + 1 = b := by omega
  clear h hE hW0
  have z0 : W0.cell? ⟨W.heap.size + 1, 0, none⟩ = some (.int .i64 0) := HQ0.out.cell 0
  have z1 : W0.cell? ⟨W.heap.size + 1, 1, none⟩ = some (.int .i64 0) := HQ0.out.cell 1
  have z2 : W0.cell? ⟨W.heap.size + 1, 2, none⟩ = some (.int .i64 0) := HQ0.out.cell 2
  have z3 : W0.cell? ⟨W.heap.size + 1, 3, none⟩ = some (.string ⟨#[]⟩) := HQ0.out.cell 3
  have z4 : W0.cell? ⟨W.heap.size + 1, 4, none⟩ = some (.bool false) := HQ0.out.cell 4
  have zf0 := HQ0.out.frozen 0
  have zf1 := HQ0.out.frozen 1
  have zf2 := HQ0.out.frozen 2
  have zf3 := HQ0.out.frozen 3
  have zf4 := HQ0.out.frozen 4
  cases h42 : (s.data.toList[a]? == some 42) with
  | true =>
    have hlt : a < s.size := by
      have h2 : s.data.toList[a]? = some 42 := by simpa using h42
      simpa using (List.getElem?_eq_some_iff.1 h2).1
    have HR : Hid (varR kd p g (s.data.toList.drop a) = .ok (⟨kd, p, 0, [42], g⟩, s.data.toList.drop (a + 1))) := by
      unfold Hid varR
      rw [drop_head, if_pos (by simpa using h42), List.drop_drop]
    rw [HR.out]
    rw [h42] at HH
    clear h42 HR HNM
    generalize nrun (s.data.toList.drop a) = nm at HN
    go_enter Tryd.func57, Tryd.ntmps57
    go_upto_region 1 with fail
    rw [HW0.out]
    go_wp2_with fail
    refine Calls.mono HN.out ?_
    rintro e w1 ⟨rfl, hw⟩
    obtain rfl := hw.symm
    clear hw
    go_wp2_with fail
    refine Calls.mono HH.out ?_
    rintro e w1 ⟨rfl, hw⟩
    obtain rfl := hw.symm
    clear hw
    go_wp2_with fail
    obtain ⟨X, hX⟩ : ∃ X, X = ((W0.setCell ⟨b, 1, none⟩ (.int .i64 ((a : Int) + 1))).setCell ⟨W.heap.size, 0, none⟩ (.int .i64 (kd : Nat))).setCell ⟨W.heap.size, 3, none⟩ (.string ⟨#[42]⟩) := ⟨_, rfl⟩
    have hSX : Stp W b sb s (a + 1) X := by rw [hX]; exact ((set_step HS0.out _ _ (by omega)).other hlb hlsb (Nat.le_refl _) 0 _).other hlb hlsb (Nat.le_refl _) 3 _
    have hQX : Cel X (W.heap.size + 1) 40 zT := by rw [hX]; exact ((HQ0.out.other (by omega) _).other (by omega) _).other (by omega) _
    have HX : Hid (((W0.setCell ⟨b, 1, none⟩ (.int .i64 ((a : Int) + 1))).setCell ⟨W.heap.size, 0, none⟩ (.int .i64 (kd : Nat))).setCell ⟨W.heap.size, 3, none⟩ (.string ⟨#[42]⟩) = X) := hX.symm
    rw [HX.out]
    refine bodyPost_ret (results_tok (p := 8) (u := 9) rfl _ _ (W.heap.size + 1) _ rfl (hQX.put5 (.int .i64 (kd : Nat)) (.int .i64 (p : Nat)) (.int .i64 0) (.string ⟨#[42]⟩) (.bool g)) rfl) rfl ?_
    exact ⟨_, _, rfl, rfl, rfl, (a + 1), hSX.put5 hlb hlsb (by omega) _ _ _ _ _, by omega, rfl⟩
  | false =>
    rw [h42] at HH
    have hn42 : ¬ (s.data.toList.drop a).head? = some 42 := by rw [drop_head]; simpa using h42
    cases hnm : nameB (nrun (s.data.toList.drop a)) with
    | true =>
      have HR : Hid (varR kd p g (s.data.toList.drop a) = .ok (⟨kd, p, 0, nrun (s.data.toList.drop a), g⟩, s.data.toList.drop (a + (nrun (s.data.toList.drop a)).length))) := by
        unfold Hid varR
        rw [if_neg hn42, if_pos hnm, List.drop_drop]
      rw [HR.out]
      rw [hnm] at HNM
      clear h42 hn42 HR hnm
      generalize nrun (s.data.toList.drop a) = nm at HN HNM hnl ⊢
      go_enter Tryd.func57, Tryd.ntmps57
      go_upto_region 1 with fail
      rw [HW0.out]
      go_wp2_with fail
      refine Calls.mono HN.out ?_
      rintro e w1 ⟨rfl, hw⟩
      obtain rfl := hw.symm
      clear hw
      go_wp2_with fail
      refine Calls.mono HH.out ?_
      rintro e w1 ⟨rfl, hw⟩
      obtain rfl := hw.symm
      clear hw
      go_wp2_with fail
      refine Calls.mono HNM.out ?_
      rintro e w1 ⟨rfl, hw⟩
      obtain rfl := hw.symm
      clear hw
      go_wp2_with fail
      obtain ⟨X, hX⟩ : ∃ X, X = ((W0.setCell ⟨b, 1, none⟩ (.int .i64 ((a : Int) + (nm.length : Nat)))).setCell ⟨W.heap.size, 0, none⟩ (.int .i64 (kd : Nat))).setCell ⟨W.heap.size, 3, none⟩ (str nm) := ⟨_, rfl⟩
      have hSX : Stp W b sb s (a + nm.length) X := by rw [hX]; exact ((set_step HS0.out _ _ (by omega)).other hlb hlsb (Nat.le_refl _) 0 _).other hlb hlsb (Nat.le_refl _) 3 _
      have hQX : Cel X (W.heap.size + 1) 40 zT := by rw [hX]; exact ((HQ0.out.other (by omega) _).other (by omega) _).other (by omega) _
      have HX : Hid (((W0.setCell ⟨b, 1, none⟩ (.int .i64 ((a : Int) + (nm.length : Nat)))).setCell ⟨W.heap.size, 0, none⟩ (.int .i64 (kd : Nat))).setCell ⟨W.heap.size, 3, none⟩ (str nm) = X) := hX.symm
      rw [HX.out]
      refine bodyPost_ret (results_tok (p := 8) (u := 9) rfl _ _ (W.heap.size + 1) _ rfl (hQX.put5 (.int .i64 (kd : Nat)) (.int .i64 (p : Nat)) (.int .i64 0) (str nm) (.bool g)) rfl) rfl ?_
      exact ⟨_, _, rfl, rfl, rfl, (a + nm.length), hSX.put5 hlb hlsb (by omega) _ _ _ _ _, by omega, rfl⟩
    | false =>
      have HR : Hid (varR kd p g (s.data.toList.drop a) = .error ⟨0, p⟩) := by
        unfold Hid varR
        rw [if_neg hn42, if_neg (by rw [hnm]; simp)]
      rw [HR.out]
      rw [hnm] at HNM
      have g0 := HE0.out.cell 7 (by omega) (by omega)
      have HFA : Hid _ := fails_any ⟨0, p, 0, [], g⟩ (ea 7) W0
      clear h42 hn42 HR hnm
      generalize nrun (s.data.toList.drop a) = nm at HN HNM hnl
      go_enter Tryd.func57, Tryd.ntmps57
      go_upto_region 1 with fail
      rw [HW0.out]
      go_wp2_with fail
      refine Calls.mono HN.out ?_
      rintro e w1 ⟨rfl, hw⟩
      obtain rfl := hw.symm
      clear hw
      go_wp2_with fail
      refine Calls.mono HH.out ?_
      rintro e w1 ⟨rfl, hw⟩
      obtain rfl := hw.symm
      clear hw
      go_wp2_with fail
      refine Calls.mono HNM.out ?_
      rintro e w1 ⟨rfl, hw⟩
      obtain rfl := hw.symm
      clear hw
      go_wp2_with fail
      refine Calls.mono HFA.out ?_
      rintro e w1 ⟨q, rfl, hq, hb1⟩
      have HS1 : Hid (Stp W b sb s k w1) := HS0.out.below hb1
      have HQ1 : Hid (Cel w1 (W.heap.size + 1) 40 zT) := HQ0.out.below hb1 HQ0.out.lt
      have HA1 : Hid (AtEr w1 ea (.iface 81 (.pointer (some ⟨q, 0, none⟩))) ⟨0, p⟩) := ⟨q, rfl, hq⟩
      clear hq hb1 HFA HN HH HNM z0 z1 z2 z3 z4 zf0 zf1 zf2 zf3 zf4
      have z0 : w1.cell? ⟨W.heap.size + 1, 0, none⟩ = some (.int .i64 0) := HQ1.out.cell 0
      have z1 : w1.cell? ⟨W.heap.size + 1, 1, none⟩ = some (.int .i64 0) := HQ1.out.cell 1
      have z2 : w1.cell? ⟨W.heap.size + 1, 2, none⟩ = some (.int .i64 0) := HQ1.out.cell 2
      have z3 : w1.cell? ⟨W.heap.size + 1, 3, none⟩ = some (.string ⟨#[]⟩) := HQ1.out.cell 3
      have z4 : w1.cell? ⟨W.heap.size + 1, 4, none⟩ = some (.bool false) := HQ1.out.cell 4
      have zf0 := HQ1.out.frozen 0
      have zf1 := HQ1.out.frozen 1
      have zf2 := HQ1.out.frozen 2
      have zf3 := HQ1.out.frozen 3
      have zf4 := HQ1.out.frozen 4
      go_wp2_with fail
      refine bodyPost_ret (results_tok (p := 8) (u := 9) rfl _ _ (W.heap.size + 1) _ rfl (HQ1.out.put5 (.int .i64 0) (.int .i64 0) (.int .i64 0) (.string ⟨#[]⟩) (.bool false)) rfl) rfl ?_
      exact ⟨_, _, rfl, ⟨⟨0, 0, 0, [], false⟩, rfl⟩, HA1.out.put HQ1.out _ _ _ _ _, k, HS1.out.put5 hlb hlsb (by omega) _ _ _ _ _⟩
end Go.Proofs.YtddekcohfbnmbaaDoor
