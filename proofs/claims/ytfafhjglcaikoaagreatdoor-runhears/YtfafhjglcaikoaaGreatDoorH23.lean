/- The shell's own commands, one by one. -/
import Derived.Test.YtfafhjglcaikoaaGreatDoorH22
import Derived.Test.YtfafhjglcaikoaaGreatDoorH14
import Derived.Lib.Join
/-! Words. -/
namespace Go.Proofs.YtfafhjglcaikoaaGreatDoor
open Go.RowKit
attribute [local go_sem] Oper.semAt_some

variable {W W' : World} {K : Nat → Prop} {rb cb sb kb : Nat} {s : Sh} {ea : Nat → Addr} {f : List Nd → Sh → Option Cr} {g : List Nd → Sh → Option Wr}
theorem DoneW.pre {w1 w' : World} {K1 : Nat → Prop} {r : Wr} {e : Ending} (hs : Stp W K w1 K1) (h : DoneW ea w1 K1 rb cb sb kb r e w') : DoneW ea W K rb cb sb kb r e w' := by
  obtain ⟨u, h1, h2, K', cb', h3, h4, h5, h6⟩ := h
  exact ⟨u, h1, owns_lower h2 hs.1.size, K', cb', h3, hs.trans h4, h5, h6⟩
theorem Done.pre {w1 w' : World} {K1 : Nat → Prop} {r : Cr} {e : Ending} (hs : Stp W K w1 K1) (h : Done ea w1 K1 rb cb sb kb r e w') : Done ea W K rb cb sb kb r e w' := ⟨h.1, h.2.pre hs⟩
theorem kidsP_len {X : List Nd} {ks : List (List Nd)} (h : kidsP X = some ks) : ks.length ≤ 100000 := by
  cases X with
  | nil => simp [kidsP] at h
  | cons x r =>
    have hk' : kidsP (x :: r) = if 0 ≤ x.k ∧ x.k ≤ 100000 ∧ r.length ≤ 100000 then kidsF r.length r else none := rfl
    rw [hk'] at h
    split at h
    · rename_i hc
      have := kidsF_len _ _ _ h
      omega
    · cases h
/-- The children, in a new row: what a run may do with them. -/
theorem kids_rn (v : Value) (X : List Nd) (ks : List (List Nd)) (hE : Ers W ea) (h : Rn W K rb cb sb kb s) (hn : NdAt W v X) (hov : Off W K v) (hk : kidsP X = some ks) :
    Calls Tryz.prog 66 #[v] W fun e w' => ∃ kv, e = .returned kv ∧ Kds w' W.heap.size v kv ks ∧ Rn w' K rb cb sb kb s ∧ Ers w' ea ∧ NdAt w' v X ∧ Off w' K v ∧ Off w' K kv ∧ Stp W K w' K := by
  refine Calls.mono (kids_any v X ks W hn hk) ?_
  rintro e w' ⟨kv, h1, h2, h3⟩
  have hs : Stp W K w' K := Stp.ofBelow h3
  exact ⟨kv, h1, h2, h.below h3, hE.stp h hs, hov.nd hn hs, hov.stp hs, kds_off h.lt h2, hs⟩
set_option maxRecDepth 100000 in
set_option maxHeartbeats 8000000 in
theorem wordR_any (hC : CmdC ea f) (hG : WordC ea g) : WordC ea (wordS f g) := by
  intro W K rb cb sb kb s v X r hE h hn hov hr
  obtain ⟨x, rest, rfl⟩ : ∃ x rest, X = x :: rest := by
    cases X with
    | nil => simp [wordS] at hr
    | cons x rest => exact ⟨x, rest, rfl⟩
  obtain ⟨gb, ob, cap, rfl, hgl, c0, c1, c2, c3, c4⟩ := hn.at (j := 0) (x := x) rfl
  rw [Nat.zero_mul, Nat.add_zero] at c0 c1 c2 c3 c4
  obtain ⟨W1, hW1⟩ : ∃ W1, W.alloc (.cells #[.int .i64 x.kind, .int .i64 x.n, .int .i64 x.k, .int .i64 x.size, str x.s] 40) = W1 := ⟨_, rfl⟩
  have hb1 : Below W.heap.size W W1 := by rw [← hW1]; exact below_new _ _
  have hs1 : Stp W K W1 K := Stp.ofBelow hb1
  have hR1 := h.below hb1
  have hE1 := hE.stp h hs1
  have hn1 := hov.nd hn hs1
  have ho1 := hov.stp hs1
  have hbx : Cel W1 W.heap.size 40 #[.int .i64 x.kind, .int .i64 x.n, .int .i64 x.k, .int .i64 x.size, str x.s] := by rw [← hW1]; exact Cel.new _ _ _
  have d0 := hbx.cell 0
  have d4 := hbx.cell 4
  have hpos : 0 < (x :: rest).length := by simp
  have HW1 : Hid _ := hW1
  unfold wordS at hr
  simp only at hr
  by_cases k1 : x.kind = 1
  · rw [if_pos k1] at hr
    obtain rfl : (s, [x.s], .ok) = r := by simpa using hr
    rw [k1] at c0 HW1
    have HR1 : Hid _ := hR1
    have HS1 : Hid _ := hs1
    generalize (x :: rest).length = nx at *
    clear hr h hE hn hov hW1 hb1 hs1 hR1 hE1 hn1 ho1 hbx d0 d4 hC hG
    go_enter Tryz.func114, Tryz.ntmps114
    go_wp2_with fail
    go_ret2
    rw [HW1.out]
    have hz : W.heap.size + 1 = W1.heap.size := by rw [← HW1.out]; simp
    rw [hz]
    exact doneW_one HR1.out HS1.out x.s
  rw [if_neg k1] at hr
  by_cases k2 : x.kind = 2
  · rw [if_pos k2] at hr
    have hcond : (okB s && decide (x.s.length < 100000)) = true := by
      cases hq : (okB s && decide (x.s.length < 100000)) with
      | true => rfl
      | false => rw [hq] at hr; simp at hr
    rw [hcond, if_pos rfl] at hr
    obtain rfl : (s, getM s.F x.s [], .ok) = r := by simpa using hr
    rw [Bool.and_eq_true, decide_eq_true_eq] at hcond
    have hbd := (Below.refl W1.heap.size W1).drew
    have HG : Hid (Calls Tryz.prog 147 #[sP sb, str x.s] W1.drew fun e w' => ∃ v', e = .returned (.tuple #[v', .bool (hasM s.F x.s)]) ∧ (w'.cell? ⟨rb, 0, none⟩ = some (sP sb) ∧ w'.cell? ⟨W.heap.size, 4, none⟩ = some (str x.s)) ∧ w'.ownsRow W.heap.size 9 1 v' (getM s.F x.s []).length (txV (getM s.F x.s [])) ∧ Rn w' K rb cb sb kb s ∧ Stp W K w' K ∧ Off w' K v') := by
      refine Calls.mono (get_rn x.s (hR1.below hbd) (by have := maxLen_big; omega)) ?_
      rintro e w' ⟨v', q1, q2, q3⟩
      have hs := hs1.trans ((Stp.ofBelow (K := K) hbd).trans (Stp.ofBelow q3))
      have hr' := (hR1.below hbd).below q3
      exact ⟨v', q1, ⟨hr'.rc.cell 0, (hbx.below (hbd.trans q3) hbx.lt).cell 4⟩, owns_lower q2 hb1.size, hr', hs, off_own (fun i hi => Nat.lt_of_lt_of_le (h.lt i hi) hb1.size) q2⟩
    have e0 : W1.cell? ⟨rb, 0, none⟩ = some (sP sb) := hR1.rc.cell 0
    rw [k2] at c0 HW1 d0
    generalize (x :: rest).length = nx at *
    generalize hasM s.F x.s = hb at *
    clear hr h hE hn hov hW1 hb1 hs1 hR1 hE1 hn1 ho1 hbx hC hG hcond
    go_enter Tryz.func114, Tryz.ntmps114
    go_wp2_with fail
    rw [HW1.out]
    go_region_held3 (fun w' => w'.cell? ⟨rb, 0, none⟩ = some (sP sb) ∧ w'.cell? ⟨W.heap.size, 4, none⟩ = some (str x.s)) (go_keep) (first | (go_at_call 147; refine Calls.mono HG.out ?_; rintro e w2 ⟨v', rfl, ⟨g0, g4⟩, ho', hr', hs', hof'⟩))
    have HR2 : Hid _ := hr'
    have HS2 : Hid _ := hs'
    have HO2 : Hid _ := ho'
    have HF2 : Hid _ := hof'
    clear hr' hs' ho' hof'
    go_wp2_with fail
    go_ret2
    exact doneW_rb HR2.out HS2.out HO2.out HF2.out
  rw [if_neg k2] at hr
  obtain ⟨ks, hks⟩ : ∃ ks, kidsP (x :: rest) = some ks := by
    cases hq : kidsP (x :: rest) with
    | none => rw [hq] at hr; simp at hr
    | some ks => exact ⟨ks, rfl⟩
  rw [hks] at hr
  simp only at hr
  have hkl := kidsP_len hks
  have HK : Hid _ := kids_rn _ _ ks hE1 hR1 hn1 ho1 hks
  by_cases k3 : x.kind = 3
  · rw [if_pos k3] at hr
    have HCT : Hid (∀ w2 kv, Kds w2 W1.heap.size (.slice (some ⟨gb, ob, none⟩) (x :: rest).length cap) kv ks → Rn w2 K rb cb sb kb s → Ers w2 ea → Off w2 K (.slice (some ⟨gb, ob, none⟩) (x :: rest).length cap) → Off w2 K kv → Stp W1 K w2 K → Calls Tryz.prog 108 #[rP rb, .int .i64 100, kv] w2 (DoneW ea W K rb cb sb kb r)) := fun w2 kv q1 q2 q3 q4 q5 q6 => Calls.mono (catR_any hG 100 _ kv _ ks r q3 q2 q1 q4 q5 (by omega) hr) (fun e w' q => q.pre (hs1.trans q6))
    rw [k3] at c0 HW1 d0
    clear hr h hE hn hov hW1 hb1 hs1 hR1 hE1 hn1 ho1 hbx hC hG hks
    go_enter Tryz.func114, Tryz.ntmps114
    go_wp2_with fail
    rw [HW1.out]
    refine Calls.mono HK.out ?_
    rintro e w2 ⟨kv, rfl, q1, q2, q3, _, q4, q5, q6⟩
    have HC2 : Hid _ := HCT.out w2 kv q1 q2 q3 q4 q5 q6
    clear q1 q2 q3 q4 q5 q6 HCT HK
    go_wp2_with fail
    refine Calls.mono HC2.out ?_
    rintro e w3 ⟨u, rfl, hd⟩
    have HD : Hid _ := hd
    clear hd
    go_wp2_with fail
    go_ret2
    exact ⟨u, rfl, HD.out⟩
  rw [if_neg k3] at hr
  by_cases k4 : x.kind = 4
  · rw [if_pos k4] at hr
    have HCT : Hid (∀ w2 kv, Kds w2 W1.heap.size (.slice (some ⟨gb, ob, none⟩) (x :: rest).length cap) kv ks → Rn w2 K rb cb sb kb s → Ers w2 ea → Off w2 K (.slice (some ⟨gb, ob, none⟩) (x :: rest).length cap) → Off w2 K kv → Stp W1 K w2 K → Calls Tryz.prog 162 #[rP rb, kv] w2 (DoneW ea W K rb cb sb kb r)) := fun w2 kv q1 q2 q3 q4 q5 q6 => Calls.mono (joinR_any hG _ kv _ ks r q3 q2 q1 q4 q5 (by omega) hr) (fun e w' q => q.pre (hs1.trans q6))
    rw [k4] at c0 HW1 d0
    clear hr h hE hn hov hW1 hb1 hs1 hR1 hE1 hn1 ho1 hbx hC hG hks
    go_enter Tryz.func114, Tryz.ntmps114
    go_wp2_with fail
    rw [HW1.out]
    refine Calls.mono HK.out ?_
    rintro e w2 ⟨kv, rfl, q1, q2, q3, _, q4, q5, q6⟩
    have HC2 : Hid _ := HCT.out w2 kv q1 q2 q3 q4 q5 q6
    clear q1 q2 q3 q4 q5 q6 HCT HK
    go_wp2_with fail
    refine Calls.mono HC2.out ?_
    rintro e w3 ⟨u, rfl, hd⟩
    have HD : Hid _ := hd
    clear hd
    go_wp2_with fail
    go_ret2
    exact ⟨u, rfl, HD.out⟩
  rw [if_neg k4] at hr
  obtain ⟨q0, qs, rfl⟩ : ∃ q0 qs, ks = q0 :: qs := by
    cases ks with
    | nil => simp at hr
    | cons q0 qs => exact ⟨q0, qs, rfl⟩
  by_cases k12 : x.kind = 12
  · rw [if_pos k12] at hr
    simp only at hr
    have hok : okB s = true := by
      cases hq : okB s with
      | true => rfl
      | false => rw [hq] at hr; simp at hr
    have HCT : Hid (∀ w2 pv, Rn w2 K rb cb sb kb s → Ers w2 ea → NdAt w2 pv q0 → Off w2 K pv → Stp W1 K w2 K → Calls Tryz.prog 163 #[rP rb, pv] w2 (DoneW ea W K rb cb sb kb r)) := fun w2 pv q1 q2 q3 q4 q5 => Calls.mono (sub_any hC pv q0 r q2 q1 (okk hok) q3 q4 (by rw [hok] at hr; simpa using hr)) (fun e w' q => q.pre (hs1.trans q5))
    rw [k12] at c0 HW1 d0
    clear hr h hE hn hov hW1 hb1 hs1 hR1 hE1 hn1 ho1 hbx hC hG hks
    go_enter Tryz.func114, Tryz.ntmps114
    go_wp2_with fail
    rw [HW1.out]
    refine Calls.mono HK.out ?_
    rintro e w2 ⟨kv, rfl, q1, q2, q3, _, q4, q5, q6⟩
    obtain ⟨g1, c1', pv, rfl, hg1, hpc, hpn, hpo⟩ := q1.at (j := 0) (k := q0) rfl
    have HC2 : Hid _ := HCT.out w2 pv q2 q3 hpn (q4.pick hpo) q6
    obtain ⟨pa, pc, rfl⟩ := hpn.form
    have hlen : 0 < (q0 :: qs).length := by simp
    generalize (q0 :: qs).length = nk at *
    clear q1 q2 q3 q4 q5 q6 HCT HK hpn hpo
    go_wp2_with fail
    refine Calls.mono HC2.out ?_
    rintro e w3 ⟨u, rfl, hd⟩
    have HD : Hid _ := hd
    clear hd
    go_wp2_with fail
    go_ret2
    exact ⟨u, rfl, HD.out⟩
  rw [if_neg k12] at hr
  by_cases k9 : x.kind = 9
  · rw [if_pos k9] at hr
    simp only at hr
    obtain ⟨q, hq⟩ : ∃ q, flatS g q0 s = some q := by
      cases hq : flatS g q0 s with
      | none => rw [hq] at hr; simp at hr
      | some q => exact ⟨q, rfl⟩
    have hrr : (q.2.2 = .ok → r = (q.1, [q.2.1], .ok)) ∧ (q.2.2 ≠ .ok → r = (q.1, [], q.2.2)) := by
      obtain ⟨s1, t, y⟩ := q
      rw [hq] at hr
      cases y <;> simp at hr ⊢ <;> exact hr.symm
    have HCT : Hid (Calls Tryz.prog 164 #[rP rb, .slice (some ⟨gb, ob, none⟩) (x :: rest).length cap] W1 (DoneW ea W K rb cb sb kb r)) := Calls.mono (turned_any hG _ x (x :: rest) rfl k9 q0 qs hks q r hE1 hR1 hn1 ho1 hq hrr) (fun e w' q => q.pre hs1)
    rw [k9] at c0 HW1 d0
    clear hr h hE hn hov hW1 hb1 hs1 hR1 hE1 hn1 ho1 hbx hC hG hks HK hrr
    go_enter Tryz.func114, Tryz.ntmps114
    go_wp2_with fail
    rw [HW1.out]
    refine Calls.mono HCT.out ?_
    rintro e w3 ⟨u, rfl, hd⟩
    have HD : Hid _ := hd
    clear hd
    go_wp2_with fail
    go_ret2
    exact ⟨u, rfl, HD.out⟩
  rw [if_neg k9] at hr
  cases hr
end Go.Proofs.YtfafhjglcaikoaaGreatDoor
namespace Go.Proofs.YtfafhjglcaikoaaGreatDoor
open Go.RowKit Go.Shelf
attribute [local go_sem] Oper.semAt_some

theorem status_any (b : Bool) (w : World) : Calls Tryz.prog 153 #[.bool b] w fun e w' => e = .returned (.int .i64 (stB b)) ∧ w' = w := by
  cases b
  all_goals
    go_enter Tryz.func153, Tryz.ntmps153
    go_wp2_with fail
    go_ret
    exact ⟨rfl, rfl⟩
set_option maxRecDepth 100000 in
theorem index_nl (s : ByteArray) (w : World) : Calls Tryz.prog 276 #[.string s, .string ⟨#[10]⟩] w fun e w' => ∃ i, e = .returned (.int .i64 i) ∧ w' = w ∧ i = Lib.indexByte s.data.toList 10 := by
  cases hs : ([10] == s.toList)
  · go_enter Tryz.func276, Tryz.ntmps276
    go_wp2_with fail
    refine (Tryz.stringslite_IndexByte _ _ _).mono ?_
    rintro e w1 ⟨rfl, hw⟩
    obtain rfl := hw.symm
    go_wp2_with fail
    go_ret
    exact ⟨_, rfl, rfl, rfl⟩
  · go_enter Tryz.func276, Tryz.ntmps276
    go_wp2_with fail
    go_ret
    have e : s.data.toList = [10] := by rw [← ByteArray.toList_eq]; exact (eq_of_beq hs).symm
    exact ⟨0, rfl, rfl, by rw [e]; decide⟩
theorem extract_take (s : ByteArray) (k : Nat) : Value.string (s.extract 0 k) = str (s.data.toList.take k) := by
  have : (s.extract 0 k) = ⟨(s.data.toList.take k).toArray⟩ := by
    apply ByteArray.ext
    apply Array.ext'
    simp [ByteArray.data_extract]
  rw [this]
theorem extract_drop (s : ByteArray) (k : Nat) : Value.string (s.extract k s.size) = str (s.data.toList.drop k) := by
  rw [str_eq, extract_tail]
theorem ret3 {a b c a' b' c' : Value} (h1 : a = a') (h2 : b = b') (h3 : c = c') : Ending.returned (.tuple #[a, b, c]) = .returned (.tuple #[a', b', c']) := by rw [h1, h2, h3]
theorem below_drewNB (w : World) (n : Nat) : Below w.heap.size w (w.drewN n) := ⟨rfl, rfl, rfl, Nat.le_refl _, fun _ _ => rfl⟩
set_option maxRecDepth 100000 in
theorem scut_nl (s : ByteArray) (w : World) (hs : s.size < 35184372088832) : Calls Tryz.prog 239 #[.string s, .string ⟨#[10]⟩] w fun e w' => ∃ b, e = .returned (.tuple #[str (lineL s.data.toList), str (restL s.data.toList), .bool b]) ∧ Below w.heap.size w w' := by
  go_enter Tryz.func239, Tryz.ntmps239
  go_wp2_with fail
  refine (index_nl _ _).mono ?_
  rintro e w1 ⟨i, rfl, hw, hi⟩
  obtain rfl := hw.symm
  have hge := Lib.indexByte_ge s.data.toList 10
  by_cases hn : i = -1
  · subst hn
    obtain ⟨h1, h2⟩ := line_none _ hi.symm
    have H1 : Hid (lineL s.data.toList = s.data.toList) := h1
    have H2 : Hid (restL s.data.toList = []) := h2
    clear h1 h2 hge hi
    go_wp2_with fail
    go_ret3
    exact ⟨false, by rw [H1.out, H2.out]; rfl, Below.refl _ _⟩
  · obtain ⟨k, rfl⟩ : ∃ k : Nat, i = k := ⟨i.toNat, by omega⟩
    obtain ⟨h1, h2, h3⟩ := line_some _ k hi.symm
    have h4 : k < s.size := by simpa using h3
    have H1 : Hid (lineL s.data.toList = s.data.toList.take k) := h1
    have H2 : Hid (restL s.data.toList = s.data.toList.drop (k + 1)) := h2
    clear h1 h2 hge hi h3 hn
    go_wp2_with fail
    go_quiet (fail)
    go_wp2_with fail
    go_ret3
    exact ⟨true, by rw [H1.out, H2.out]; exact ret3 (extract_take s k) (extract_drop s (k + 1)) rfl, below_drewNB _ _⟩
set_option maxRecDepth 100000 in
theorem cut_nl (s : ByteArray) (w : World) (hs : s.size < 35184372088832) : Calls Tryz.prog 206 #[.string s, .string ⟨#[10]⟩] w fun e w' => ∃ b, e = .returned (.tuple #[str (lineL s.data.toList), str (restL s.data.toList), .bool b]) ∧ Below w.heap.size w w' := by
  go_enter Tryz.func206, Tryz.ntmps206
  go_wp2_with fail
  refine (scut_nl _ _ hs).mono ?_
  rintro e w1 ⟨b, rfl, hw⟩
  go_wp2_with fail
  go_ret3
  exact ⟨b, rfl, hw⟩
end Go.Proofs.YtfafhjglcaikoaaGreatDoor
