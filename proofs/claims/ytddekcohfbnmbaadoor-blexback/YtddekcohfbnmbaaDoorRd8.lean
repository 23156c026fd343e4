/- A token. -/
import Derived.Test.YtddekcohfbnmbaaDoorRd7
import Derived.Deep.Cut
import Derived.Deep.CutRange
import Derived.Deep.CutBlock
import Derived.Deep.DeepCutAuto
import Derived.BigRegion
namespace Go.Proofs.YtddekcohfbnmbaaDoor
open Go.RowKit
attribute [local go_sem] Oper.semAt_some

theorem Cel.drewN {W : World} {g : Nat} {t : TypeId} {cs : Array Value} (h : Cel W g t cs) (m : Nat) : Cel (W.drewN m) g t cs := h
theorem best_prefix : ∀ (k : Nat) (l : List UInt8), (sgn (best k l)).isPrefixOf l = true
  | 0, l => by
    rw [best]
    cases l <;> rfl
  | k + 1, l => by
    rw [best]
    split
    · rename_i h; exact h.2
    · exact best_prefix k l
theorem best_len (s : ByteArray) (p : Nat) (hp : p ≤ s.size) : p + (sgn (best 18 (s.data.toList.drop p))).length ≤ s.size := by
  have := (List.isPrefixOf_iff_prefix.1 (best_prefix 18 (s.data.toList.drop p))).length_le
  rw [len_drop] at this
  omega
theorem glue_at (s : ByteArray) (k p : Nat) (hk : k ≤ s.size) (hp : p ≤ s.size) : glueB s.size (s.data.toList.drop k) (s.data.toList.drop p) = (decide (0 < k) && decide (k = p)) := by
  have e1 : (0 < s.size - (s.size - k)) ↔ 0 < k := by omega
  have e2 : (s.size - k = s.size - p) ↔ k = p := by omega
  unfold glueB
  rw [len_drop, len_drop, decide_eq_decide.2 e1, decide_eq_decide.2 e2]
set_option maxRecDepth 100000 in
set_option maxHeartbeats 16000000 in
theorem token_any {W : World} {b sb k : Nat} {s : ByteArray} {ea : Nat → Addr} (h : Rd W b sb s k) (hE : Env W ea) (hs : s.size ≤ 8192) (hk : k ≤ s.size) (hb64 : (ea 64).block ≤ b) :
    Calls Tryd.prog 17 #[.pointer (some ⟨b, 0, none⟩)] W fun e w' => ∃ v ev, e = .returned (.tuple #[v, ev]) ∧ TokV W b sb s ea (tokenL s.size (s.data.toList.drop k)) v ev w' := by
  have hlb := h.rd.lt
  have hlsb := h.src.lt
  obtain ⟨W0, hW0⟩ : ∃ W0, W0 = W.alloc (.cells zT 40) := ⟨_, rfl⟩
  have HS0 : Hid (Stp W b sb s k W0) := by rw [hW0]; exact (Stp.refl h).alloc _
  have HE0 : Hid (Env W0 ea) := by rw [hW0]; exact hE.below (below_new W _)
  have HQ0 : Hid (Cel W0 W.heap.size 40 zT) := by rw [hW0]; exact Cel.new W _ _
  have HW0 : Hid (W.alloc (.cells zT 40) = W0) := hW0.symm
  have HPA : Hid _ := passBlanks_any HS0.out.at_ (by omega) hk
  have a1 := HS0.out.at_.c1
  obtain ⟨R, HRT⟩ : ∃ R, Hid (tokenL s.size (s.data.toList.drop k) = R) := ⟨tokenL s.size (s.data.toList.drop k), by unfold Hid; rfl⟩
  rw [HRT.out]
  have hgl := hE.glob
  clear h hE hW0
  go_enter Tryd.func17, Tryd.ntmps17
  go_upto_region 1 with fail
  rw [HW0.out]
  go_wp2_with fail
  refine Calls.mono HPA.out ?_
  rintro e w0 ⟨rfl, p0, hst0, hkp0, hp0, hov0⟩
  have HOV0 : Hid ((s.data.toList.drop k).dropWhile blk = s.data.toList.drop p0) := hov0
  have HS9 : Hid (Stp W b sb s p0 w0) := HS0.out.trans hst0
  have HE9 : Hid (Env w0 ea) := HE0.out.stp hst0 hb64
  have HQ9 : Hid (Cel w0 W.heap.size 40 zT) := HQ0.out.turn hst0.turn (by omega)
  have HPC : Hid _ := passComment_any HS9.out.at_ HE9.out hb64 (by omega) hp0
  clear hst0 hov0 HPA HW0 HS0 HE0 HQ0 a1
  go_wp2_with fail
  refine Calls.mono HPC.out ?_
  rintro e w1 ⟨rfl, p, hst1, hkp1, hp, hov⟩
  have hkp : k ≤ p := by omega
  have HOV : Hid (over (s.data.toList.drop k) = s.data.toList.drop p) := by unfold Hid over; rw [HOV0.out, hov]
  have HS1 : Hid (Stp W b sb s p w1) := HS9.out.trans hst1
  have HE1 : Hid (Env w1 ea) := HE9.out.stp hst1 hb64
  have HQ1 : Hid (Cel w1 W.heap.size 40 zT) := HQ9.out.turn hst1.turn (by omega)
  have c1 := HS1.out.at_.c1
  have hlw : W.heap.size < w1.heap.size := HQ1.out.lt
  obtain ⟨gl, HGE⟩ : ∃ gl, Hid (glueB s.size (s.data.toList.drop k) (over (s.data.toList.drop k)) = gl) := ⟨glueB s.size (s.data.toList.drop k) (over (s.data.toList.drop k)), by unfold Hid; rfl⟩
  have HGV : Hid (gl = (decide (0 < k) && decide (k = p))) := by
    unfold Hid
    rw [← HGE.out, HOV.out]
    exact glue_at s k p hk hp
  clear hst1 hov HPC HS9 HE9 HQ9 HOV0 hkp0 hp0 hkp1
  go_upto_region 4 with fail
  go_cut [5] from 14 to 30 (fun v5 wx => ∃ bt, v5 = .pointer (some ⟨bt, 0, none⟩) ∧ W.heap.size < bt ∧ Hid (Cel wx bt 40 #[.int .i64 (best 18 (s.data.toList.drop p) : Nat), .int .i64 (p : Nat), .int .i64 0, .string ⟨#[]⟩, .bool gl]) ∧ Hid (Stp W b sb s p wx) ∧ Hid (Env wx ea) ∧ Hid (Cel wx W.heap.size 40 zT))
  case first =>
    have HSI1 : Hid (Calls Tryd.prog 31 #[.pointer (some ⟨b, 0, none⟩)] w1.drew fun e w' => e = .returned (.int .i64 (best 18 (s.data.toList.drop p) : Nat)) ∧ w'.cell? ⟨b, 1, none⟩ = some (.int .i64 (p : Nat)) ∧ w'.heap.size = w1.heap.size + 0 ∧ Stp W b sb s p w' ∧ Env w' ea ∧ Cel w' W.heap.size 40 zT) := by
      refine (sign_any (HS1.out.drew).at_ (HE1.out.drewN 1)).mono ?_
      rintro e w' ⟨rfl, m, rfl⟩
      exact ⟨rfl, HS1.out.at_.c1, rfl, (HS1.out.drew).drewN m, (HE1.out.drewN 1).drewN m, HQ1.out⟩
    have HSI2 : Hid (Calls Tryd.prog 31 #[.pointer (some ⟨b, 0, none⟩)] (w1.alloc (.cells #[.int .i64 0, .int .i64 0, .int .i64 0, .string ⟨#[]⟩, .bool false] 40)).drew fun e w' => e = .returned (.int .i64 (best 18 (s.data.toList.drop p) : Nat)) ∧ w'.cell? ⟨b, 1, none⟩ = some (.int .i64 (p : Nat)) ∧ w'.heap.size = w1.heap.size + 1 ∧ Stp W b sb s p w' ∧ Env w' ea ∧ Cel w' W.heap.size 40 zT ∧ Cel w' w1.heap.size 40 zT) := by
      have hs2 := (HS1.out.alloc (.cells #[.int .i64 0, .int .i64 0, .int .i64 0, .string ⟨#[]⟩, .bool false] 40)).drew
      have he2 := (HE1.out.below (below_new w1 (.cells #[.int .i64 0, .int .i64 0, .int .i64 0, .string ⟨#[]⟩, .bool false] 40))).drewN 1
      refine (sign_any hs2.at_ he2).mono ?_
      rintro e w' ⟨rfl, m, rfl⟩
      exact ⟨rfl, hs2.at_.c1, by simp, hs2.drewN m, he2.drewN m, Cel.drewN (Cel.drew (HQ1.out.below (below_new w1 _) hlw)) m, Cel.drewN (Cel.drew (Cel.new w1 _ _)) m⟩
    have HA : Hid (∀ o, (w1.alloc o).drew.cell? ⟨b, 1, none⟩ = some (.int .i64 (p : Nat))) := fun o => (HS1.out.alloc o).at_.c1
    have hbn1 : ¬ b = w1.heap.size := by omega
    have hnb1 : ¬ w1.heap.size = b := by omega
    by_cases hk0 : 0 < k
    · have hk1 : (0 : Int) < (k : Int) := by omega
      by_cases hkq : k = p
      · have HGL : Hid (gl = true) := by unfold Hid; rw [HGV.out]; simp; omega
        have hkp2 : ((k : Int) == (p : Int)) = true := by rw [hkq]; exact beq_self_eq_true _
        clear hkq HGV
        obtain rfl := HGL.out
        clear HGL
        generalize best 18 (s.data.toList.drop p) = kd at *
        go_region_held3 (fun w' => w'.cell? ⟨b, 1, none⟩ = some (.int .i64 (p : Nat))) (first | with_reducible assumption | with_reducible exact c1 | with_reducible exact HA.out _ | (rw [World.cell?_setCell_other _ _ _ _ (by simp; omega), World.cell?_setCell_other _ _ _ _ (by simp; omega), World.cell?_setCell_other _ _ _ _ (by simp; omega), World.cell?_setCell_other _ _ _ _ (by simp; omega), World.cell?_setCell_other _ _ _ _ (by simp; omega)]; assumption) | go_keep) (first | (go_at_call 31; (with_reducible refine Calls.mono HSI1.out ?_); rintro e w2 ⟨rfl, m2, hz2, hst2, hE2, hq2⟩; have HS2 : Hid (Stp W b sb s p w2) := hst2; have HE2 : Hid (Env w2 ea) := hE2; have HQ2 : Hid (Cel w2 W.heap.size 40 zT) := hq2; clear hst2 hE2 hq2) | (go_at_call 31; (with_reducible refine Calls.mono HSI2.out ?_); rintro e w2 ⟨rfl, m2, hz2, hst2, hE2, hq2, hr2⟩; have z0 : w2.cell? ⟨w1.heap.size, 0, none⟩ = some (.int .i64 0) := Cel.cell hr2 0; have z1 : w2.cell? ⟨w1.heap.size, 1, none⟩ = some (.int .i64 0) := Cel.cell hr2 1; have z2 : w2.cell? ⟨w1.heap.size, 2, none⟩ = some (.int .i64 0) := Cel.cell hr2 2; have z3 : w2.cell? ⟨w1.heap.size, 3, none⟩ = some (.string ⟨#[]⟩) := Cel.cell hr2 3; have z4 : w2.cell? ⟨w1.heap.size, 4, none⟩ = some (.bool false) := Cel.cell hr2 4; have y0 := Cel.frozen hr2 0; have y1 := Cel.frozen hr2 1; have y2 := Cel.frozen hr2 2; have y3 := Cel.frozen hr2 3; have y4 := Cel.frozen hr2 4; have HR2 : Hid (Cel w2 w1.heap.size 40 zT) := hr2; clear hr2; have HS2 : Hid (Stp W b sb s p w2) := hst2; have HE2 : Hid (Env w2 ea) := hE2; have HQ2 : Hid (Cel w2 W.heap.size 40 zT) := hq2; clear hst2 hE2 hq2))
        · have hc2 : Cel (w2.alloc (.cells #[.int .i64 (kd : Nat), .int .i64 (p : Nat), .int .i64 0, .string ⟨#[]⟩, .bool true] 40)) w1.heap.size 40 #[.int .i64 (kd : Nat), .int .i64 (p : Nat), .int .i64 0, .string ⟨#[]⟩, .bool true] := by
            have := Cel.new w2 40 #[.int .i64 (kd : Nat), .int .i64 (p : Nat), .int .i64 0, .string ⟨#[]⟩, .bool true]
            rw [hz2] at this
            exact this
          have HC2 : Hid _ := hc2
          clear hc2
          go_wp2_with fail
          go_meet
          case rel => exact ⟨w1.heap.size, rfl, hlw, HC2.out, HS2.out.alloc _, HE2.out.below (below_new _ _), HQ2.out.below (below_new _ _) HQ2.out.lt⟩
        · have HC2 : Hid (Cel (putP w2 w1.heap.size (.int .i64 (kd : Nat)) (.int .i64 (p : Nat)) (.int .i64 0) (.string ⟨#[]⟩) (.bool true)) w1.heap.size 40 #[.int .i64 (kd : Nat), .int .i64 (p : Nat), .int .i64 0, .string ⟨#[]⟩, .bool true]) := HR2.out.put5 _ _ _ _ _
          have HS3 : Hid (Stp W b sb s p (putP w2 w1.heap.size (.int .i64 (kd : Nat)) (.int .i64 (p : Nat)) (.int .i64 0) (.string ⟨#[]⟩) (.bool true))) := HS2.out.put5 hlb hlsb (by omega) _ _ _ _ _
          have HE3 : Hid (Env (putP w2 w1.heap.size (.int .i64 (kd : Nat)) (.int .i64 (p : Nat)) (.int .i64 0) (.string ⟨#[]⟩) (.bool true)) ea) := ((((HE2.out.set (by omega) 0 _).set (by omega) 1 _).set (by omega) 2 _).set (by omega) 3 _).set (by omega) 4 _
          have HQ3 : Hid (Cel (putP w2 w1.heap.size (.int .i64 (kd : Nat)) (.int .i64 (p : Nat)) (.int .i64 0) (.string ⟨#[]⟩) (.bool true)) W.heap.size 40 zT) := HQ2.out.away5 (by omega) _ _ _ _ _
          go_wp2_with fail
          go_meet
          case rel => exact ⟨w1.heap.size, rfl, hlw, HC2.out, HS3.out, HE3.out, HQ3.out⟩
      · have HGL : Hid (gl = false) := by unfold Hid; rw [HGV.out]; simp; omega
        have hkp2 : ((k : Int) == (p : Int)) = false := by simp; omega
        have hkp3 : ¬ (k : Int) = (p : Int) := by omega
        clear HGV
        obtain rfl := HGL.out
        clear HGL
        generalize best 18 (s.data.toList.drop p) = kd at *
        go_region_held3 (fun w' => w'.cell? ⟨b, 1, none⟩ = some (.int .i64 (p : Nat))) (first | with_reducible assumption | with_reducible exact c1 | with_reducible exact HA.out _ | (rw [World.cell?_setCell_other _ _ _ _ (by simp; omega), World.cell?_setCell_other _ _ _ _ (by simp; omega), World.cell?_setCell_other _ _ _ _ (by simp; omega), World.cell?_setCell_other _ _ _ _ (by simp; omega), World.cell?_setCell_other _ _ _ _ (by simp; omega)]; assumption) | go_keep) (first | (go_at_call 31; (with_reducible refine Calls.mono HSI1.out ?_); rintro e w2 ⟨rfl, m2, hz2, hst2, hE2, hq2⟩; have HS2 : Hid (Stp W b sb s p w2) := hst2; have HE2 : Hid (Env w2 ea) := hE2; have HQ2 : Hid (Cel w2 W.heap.size 40 zT) := hq2; clear hst2 hE2 hq2) | (go_at_call 31; (with_reducible refine Calls.mono HSI2.out ?_); rintro e w2 ⟨rfl, m2, hz2, hst2, hE2, hq2, hr2⟩; have z0 : w2.cell? ⟨w1.heap.size, 0, none⟩ = some (.int .i64 0) := Cel.cell hr2 0; have z1 : w2.cell? ⟨w1.heap.size, 1, none⟩ = some (.int .i64 0) := Cel.cell hr2 1; have z2 : w2.cell? ⟨w1.heap.size, 2, none⟩ = some (.int .i64 0) := Cel.cell hr2 2; have z3 : w2.cell? ⟨w1.heap.size, 3, none⟩ = some (.string ⟨#[]⟩) := Cel.cell hr2 3; have z4 : w2.cell? ⟨w1.heap.size, 4, none⟩ = some (.bool false) := Cel.cell hr2 4; have y0 := Cel.frozen hr2 0; have y1 := Cel.frozen hr2 1; have y2 := Cel.frozen hr2 2; have y3 := Cel.frozen hr2 3; have y4 := Cel.frozen hr2 4; have HR2 : Hid (Cel w2 w1.heap.size 40 zT) := hr2; clear hr2; have HS2 : Hid (Stp W b sb s p w2) := hst2; have HE2 : Hid (Env w2 ea) := hE2; have HQ2 : Hid (Cel w2 W.heap.size 40 zT) := hq2; clear hst2 hE2 hq2))
        · have hc2 : Cel (w2.alloc (.cells #[.int .i64 (kd : Nat), .int .i64 (p : Nat), .int .i64 0, .string ⟨#[]⟩, .bool false] 40)) w1.heap.size 40 #[.int .i64 (kd : Nat), .int .i64 (p : Nat), .int .i64 0, .string ⟨#[]⟩, .bool false] := by
            have := Cel.new w2 40 #[.int .i64 (kd : Nat), .int .i64 (p : Nat), .int .i64 0, .string ⟨#[]⟩, .bool false]
            rw [hz2] at this
            exact this
          have HC2 : Hid _ := hc2
          clear hc2
          go_wp2_with fail
          go_meet
          case rel => exact ⟨w1.heap.size, rfl, hlw, HC2.out, HS2.out.alloc _, HE2.out.below (below_new _ _), HQ2.out.below (below_new _ _) HQ2.out.lt⟩
        · have HC2 : Hid (Cel (putP w2 w1.heap.size (.int .i64 (kd : Nat)) (.int .i64 (p : Nat)) (.int .i64 0) (.string ⟨#[]⟩) (.bool false)) w1.heap.size 40 #[.int .i64 (kd : Nat), .int .i64 (p : Nat), .int .i64 0, .string ⟨#[]⟩, .bool false]) := HR2.out.put5 _ _ _ _ _
          have HS3 : Hid (Stp W b sb s p (putP w2 w1.heap.size (.int .i64 (kd : Nat)) (.int .i64 (p : Nat)) (.int .i64 0) (.string ⟨#[]⟩) (.bool false))) := HS2.out.put5 hlb hlsb (by omega) _ _ _ _ _
          have HE3 : Hid (Env (putP w2 w1.heap.size (.int .i64 (kd : Nat)) (.int .i64 (p : Nat)) (.int .i64 0) (.string ⟨#[]⟩) (.bool false)) ea) := ((((HE2.out.set (by omega) 0 _).set (by omega) 1 _).set (by omega) 2 _).set (by omega) 3 _).set (by omega) 4 _
          have HQ3 : Hid (Cel (putP w2 w1.heap.size (.int .i64 (kd : Nat)) (.int .i64 (p : Nat)) (.int .i64 0) (.string ⟨#[]⟩) (.bool false)) W.heap.size 40 zT) := HQ2.out.away5 (by omega) _ _ _ _ _
          go_wp2_with fail
          go_meet
          case rel => exact ⟨w1.heap.size, rfl, hlw, HC2.out, HS3.out, HE3.out, HQ3.out⟩
    · have hk1 : ¬ (0 : Int) < (k : Int) := by omega
      have hk2 : decide (0 < k) = false := decide_eq_false hk0
      have hk3 : decide ((0 : Int) < (k : Int)) = false := decide_eq_false hk1
      have HGL : Hid (gl = false) := by unfold Hid; rw [HGV.out]; simp; omega
      clear HGV
      obtain rfl := HGL.out
      clear HGL
      generalize best 18 (s.data.toList.drop p) = kd at *
      refine wp_region_held_drew (S := fun w' => w'.cell? ⟨b, 1, none⟩ = some (.int .i64 (p : Nat))) (by kernel_rfl) c1 (fun hHeld => ?_)
      refine wpAnyH_take (i := 0) (v := .pointer (some ⟨b, 0, none⟩)) rfl (by kernel_rfl) (by kernel_rfl) (by kernel_rfl) (fun _ _ _ h => h) (Or.inl ⟨by rfl, by intro wz hSw; go_simp⟩) (by assumption) ?_
      try simp only [Act.put, List.getElem_toArray, List.getElem_cons_zero, List.setIfInBounds_toArray, List.set_cons_zero, List.set_cons_succ]
      refine wpAnyH_take (i := 2) (v := .pointer (some ⟨b, 0, none⟩)) rfl (by kernel_rfl) (by kernel_rfl) (by kernel_rfl) (fun _ _ _ h => h) (Or.inl ⟨by rfl, by intro wz hSw; go_simp⟩) (by assumption) ?_
      try simp only [Act.put, List.getElem_toArray, List.getElem_cons_succ, List.getElem_cons_zero, List.setIfInBounds_toArray, List.set_cons_zero, List.set_cons_succ]
      refine wpAnyH_take (i := 3) (v := .pointer (some ⟨b, 0, none⟩)) rfl (by kernel_rfl) (by kernel_rfl) (by kernel_rfl) (fun _ _ _ h => h) (Or.inl ⟨by rfl, by intro wz hSw; go_simp⟩) (by assumption) ?_
      try simp only [Act.put, List.getElem_toArray, List.getElem_cons_succ, List.getElem_cons_zero, List.setIfInBounds_toArray, List.set_cons_zero, List.set_cons_succ]
      refine wpAnyH_take (i := 4) (v := .pointer (some ⟨b, 1, none⟩)) rfl (by kernel_rfl) (by kernel_rfl) (by kernel_rfl) (fun _ _ _ h => h) (Or.inl ⟨by rfl, by intro wz hSw; go_simp⟩) (by assumption) ?_
      try simp only [Act.put, List.getElem_toArray, List.getElem_cons_succ, List.getElem_cons_zero, List.setIfInBounds_toArray, List.set_cons_zero, List.set_cons_succ]
      refine wpAnyH_take (i := 5) (v := .int .i64 (p : Nat)) rfl (by kernel_rfl) (by kernel_rfl) (by kernel_rfl) (fun _ _ _ h => h) (Or.inl ⟨by rfl, by intro wz hSw; go_simp⟩) (by assumption) ?_
      try simp only [Act.put, List.getElem_toArray, List.getElem_cons_succ, List.getElem_cons_zero, List.setIfInBounds_toArray, List.set_cons_zero, List.set_cons_succ]
      refine wpAnyH_take (i := 6) (v := .int .i64 (k : Nat)) rfl (by kernel_rfl) (by kernel_rfl) (by kernel_rfl) (fun _ _ _ h => h) (Or.inl ⟨by rfl, by intro wz hSw; go_simp⟩) (by assumption) ?_
      try simp only [Act.put, List.getElem_toArray, List.getElem_cons_succ, List.getElem_cons_zero, List.setIfInBounds_toArray, List.set_cons_zero, List.set_cons_succ]
      refine wpAnyH_take (i := 7) (v := .bool false) rfl (by kernel_rfl) (by kernel_rfl) (by kernel_rfl) (fun _ _ _ h => h) (Or.inl ⟨by rfl, by intro wz hSw; go_simp⟩) (by assumption) ?_
      try simp only [Act.put, List.getElem_toArray, List.getElem_cons_succ, List.getElem_cons_zero, List.setIfInBounds_toArray, List.set_cons_zero, List.set_cons_succ]
      refine wpAnyH_ready (rs := [1, 17]) (by kernel_rfl) (by simp) ?_
      refine AllReadyH.cons rfl (fun K hK => ?_) (AllReadyH.cons rfl (fun K hK => ?_) AllReadyH.nil)
      · go_simp
        refine Calls.mono HSI1.out ?_
        rintro e w2 ⟨rfl, m2, hz2, hst2, hE2, hq2⟩
        have HS2 : Hid (Stp W b sb s p w2) := hst2
        have HE2 : Hid (Env w2 ea) := hE2
        have HQ2 : Hid (Cel w2 W.heap.size 40 zT) := hq2
        clear hst2 hE2 hq2
        go_wp2_with fail
        refine hK.out _ _ m2 (fun hHeld => ?_)
        clear hK K
        try simp only [Act.put, List.getElem_toArray, List.getElem_cons_succ, List.getElem_cons_zero, List.setIfInBounds_toArray, List.set_cons_zero, List.set_cons_succ]
        refine wpAnyH_take (i := 8) (v := .bool false) rfl (by kernel_rfl) (by kernel_rfl) (by kernel_rfl) (fun _ _ _ h => h) (Or.inl ⟨by rfl, by intro wz hSw; go_simp⟩) (by assumption) ?_
        try simp only [Act.put, List.getElem_toArray, List.getElem_cons_succ, List.getElem_cons_zero, List.setIfInBounds_toArray, List.set_cons_zero, List.set_cons_succ]
        refine wpAnyH_take (i := 9) (v := undef) rfl (by kernel_rfl) (by kernel_rfl) (by kernel_rfl) (fun _ _ _ h => h) (Or.inr ⟨by rfl, rfl⟩) (by assumption) ?_
        try simp only [Act.put, List.getElem_toArray, List.getElem_cons_succ, List.getElem_cons_zero, List.setIfInBounds_toArray, List.set_cons_zero, List.set_cons_succ]
        refine wpAnyH_take (i := 10) (v := undef) rfl (by kernel_rfl) (by kernel_rfl) (by kernel_rfl) (fun _ _ _ h => h) (Or.inr ⟨by rfl, rfl⟩) (by assumption) ?_
        try simp only [Act.put, List.getElem_toArray, List.getElem_cons_succ, List.getElem_cons_zero, List.setIfInBounds_toArray, List.set_cons_zero, List.set_cons_succ]
        refine wpAnyH_take (i := 11) (v := undef) rfl (by kernel_rfl) (by kernel_rfl) (by kernel_rfl) (fun _ _ _ h => h) (Or.inr ⟨by rfl, rfl⟩) (by assumption) ?_
        try simp only [Act.put, List.getElem_toArray, List.getElem_cons_succ, List.getElem_cons_zero, List.setIfInBounds_toArray, List.set_cons_zero, List.set_cons_succ]
        refine wpAnyH_take (i := 12) (v := undef) rfl (by kernel_rfl) (by kernel_rfl) (by kernel_rfl) (fun _ _ _ h => h) (Or.inr ⟨by rfl, rfl⟩) (by assumption) ?_
        try simp only [Act.put, List.getElem_toArray, List.getElem_cons_succ, List.getElem_cons_zero, List.setIfInBounds_toArray, List.set_cons_zero, List.set_cons_succ]
        refine wpAnyH_take (i := 13) (v := undef) rfl (by kernel_rfl) (by kernel_rfl) (by kernel_rfl) (fun _ _ _ h => h) (Or.inr ⟨by rfl, rfl⟩) (by assumption) ?_
        try simp only [Act.put, List.getElem_toArray, List.getElem_cons_succ, List.getElem_cons_zero, List.setIfInBounds_toArray, List.set_cons_zero, List.set_cons_succ]
        refine wpAnyH_take (i := 14) (v := undef) rfl (by kernel_rfl) (by kernel_rfl) (by kernel_rfl) (fun _ _ _ h => h) (Or.inr ⟨by rfl, rfl⟩) (by assumption) ?_
        try simp only [Act.put, List.getElem_toArray, List.getElem_cons_succ, List.getElem_cons_zero, List.setIfInBounds_toArray, List.set_cons_zero, List.set_cons_succ]
        refine wpAnyH_take (i := 15) (v := .bool false) rfl (by kernel_rfl) (by kernel_rfl) (by kernel_rfl) (fun _ _ _ h => h) (Or.inl ⟨by rfl, by intro wz hSw; go_simp⟩) (by assumption) ?_
        try simp only [Act.put, List.getElem_toArray, List.getElem_cons_succ, List.getElem_cons_zero, List.setIfInBounds_toArray, List.set_cons_zero, List.set_cons_succ]
        refine wpAnyH_take (i := 16) (v := .agg #[.int .i64 (kd : Nat), .int .i64 (p : Nat), .int .i64 0, .string ⟨#[]⟩, .bool false]) rfl (by kernel_rfl) (by kernel_rfl) (by kernel_rfl) (fun _ _ _ h => h) (Or.inl ⟨by rfl, by intro wz hSw; go_simp⟩) (by assumption) ?_
        try simp only [Act.put, List.getElem_toArray, List.getElem_cons_succ, List.getElem_cons_zero, List.setIfInBounds_toArray, List.set_cons_zero, List.set_cons_succ]
        refine wpAnyH_ready (rs := [17]) (by kernel_rfl) (by simp) ?_
        refine AllReadyH.cons rfl (fun K hK => ?_) AllReadyH.nil
        go_simp
        refine hK.out _ _ ((HS2.out.alloc _).at_.c1) (fun hHeld => ?_)
        clear hK K
        try simp only [Act.put, List.getElem_toArray, List.getElem_cons_succ, List.getElem_cons_zero, List.setIfInBounds_toArray, List.set_cons_zero, List.set_cons_succ]
        refine wpAnyH_ready (rs := [18]) (by kernel_rfl) (by simp) ?_
        refine AllReadyH.cons rfl (fun K hK => ?_) AllReadyH.nil
        go_simp
        refine hK.out _ _ ((HS2.out.alloc _).at_.c1) (fun hHeld => ?_)
        clear hK K
        try simp only [Act.put, List.getElem_toArray, List.getElem_cons_succ, List.getElem_cons_zero, List.setIfInBounds_toArray, List.set_cons_zero, List.set_cons_succ]
        refine wpAnyH_done (by kernel_rfl) ?_ _
        have hc2 : Cel (w2.alloc (.cells #[.int .i64 (kd : Nat), .int .i64 (p : Nat), .int .i64 0, .string ⟨#[]⟩, .bool false] 40)) w1.heap.size 40 #[.int .i64 (kd : Nat), .int .i64 (p : Nat), .int .i64 0, .string ⟨#[]⟩, .bool false] := by
          have := Cel.new w2 40 #[.int .i64 (kd : Nat), .int .i64 (p : Nat), .int .i64 0, .string ⟨#[]⟩, .bool false]
          rw [hz2] at this
          exact this
        have HC2 : Hid _ := hc2
        clear hc2
        go_wp2_with fail
        go_meet
        case rel => exact ⟨w1.heap.size, rfl, hlw, HC2.out, HS2.out.alloc _, HE2.out.below (below_new _ _), HQ2.out.below (below_new _ _) HQ2.out.lt⟩
      · go_simp
        refine hK.out _ _ (HA.out _) (fun hHeld => ?_)
        clear hK K
        try simp only [Act.put, List.getElem_toArray, List.getElem_cons_succ, List.getElem_cons_zero, List.setIfInBounds_toArray, List.set_cons_zero, List.set_cons_succ]
        refine wpAnyH_ready (rs := [1]) (by kernel_rfl) (by simp) ?_
        refine AllReadyH.cons rfl (fun K hK => ?_) AllReadyH.nil
        go_simp
        refine Calls.mono HSI2.out ?_
        rintro e w2 ⟨rfl, m2, hz2, hst2, hE2, hq2, hr2⟩
        have z0 : w2.cell? ⟨w1.heap.size, 0, none⟩ = some (.int .i64 0) := Cel.cell hr2 0
        have z1 : w2.cell? ⟨w1.heap.size, 1, none⟩ = some (.int .i64 0) := Cel.cell hr2 1
        have z2 : w2.cell? ⟨w1.heap.size, 2, none⟩ = some (.int .i64 0) := Cel.cell hr2 2
        have z3 : w2.cell? ⟨w1.heap.size, 3, none⟩ = some (.string ⟨#[]⟩) := Cel.cell hr2 3
        have z4 : w2.cell? ⟨w1.heap.size, 4, none⟩ = some (.bool false) := Cel.cell hr2 4
        have y0 := Cel.frozen hr2 0
        have y1 := Cel.frozen hr2 1
        have y2 := Cel.frozen hr2 2
        have y3 := Cel.frozen hr2 3
        have y4 := Cel.frozen hr2 4
        have HR2 : Hid (Cel w2 w1.heap.size 40 zT) := hr2
        have HS2 : Hid (Stp W b sb s p w2) := hst2
        have HE2 : Hid (Env w2 ea) := hE2
        have HQ2 : Hid (Cel w2 W.heap.size 40 zT) := hq2
        clear hst2 hE2 hq2 hr2
        have HS3 : Hid (Stp W b sb s p (putP w2 w1.heap.size (.int .i64 (kd : Nat)) (.int .i64 (p : Nat)) (.int .i64 0) (.string ⟨#[]⟩) (.bool false))) := HS2.out.put5 hlb hlsb (by omega) _ _ _ _ _
        go_wp2_with fail
        refine hK.out _ _ m2 (fun hHeld => ?_)
        clear hK K
        try simp only [Act.put, List.getElem_toArray, List.getElem_cons_succ, List.getElem_cons_zero, List.setIfInBounds_toArray, List.set_cons_zero, List.set_cons_succ]
        refine wpAnyH_take (i := 8) (v := .bool false) rfl (by kernel_rfl) (by kernel_rfl) (by kernel_rfl) (fun _ _ _ h => h) (Or.inl ⟨by rfl, by intro wz hSw; go_simp⟩) (by assumption) ?_
        try simp only [Act.put, List.getElem_toArray, List.getElem_cons_succ, List.getElem_cons_zero, List.setIfInBounds_toArray, List.set_cons_zero, List.set_cons_succ]
        refine wpAnyH_take (i := 9) (v := undef) rfl (by kernel_rfl) (by kernel_rfl) (by kernel_rfl) (fun _ _ _ h => h) (Or.inr ⟨by rfl, rfl⟩) (by assumption) ?_
        try simp only [Act.put, List.getElem_toArray, List.getElem_cons_succ, List.getElem_cons_zero, List.setIfInBounds_toArray, List.set_cons_zero, List.set_cons_succ]
        refine wpAnyH_take (i := 10) (v := undef) rfl (by kernel_rfl) (by kernel_rfl) (by kernel_rfl) (fun _ _ _ h => h) (Or.inr ⟨by rfl, rfl⟩) (by assumption) ?_
        try simp only [Act.put, List.getElem_toArray, List.getElem_cons_succ, List.getElem_cons_zero, List.setIfInBounds_toArray, List.set_cons_zero, List.set_cons_succ]
        refine wpAnyH_take (i := 11) (v := undef) rfl (by kernel_rfl) (by kernel_rfl) (by kernel_rfl) (fun _ _ _ h => h) (Or.inr ⟨by rfl, rfl⟩) (by assumption) ?_
        try simp only [Act.put, List.getElem_toArray, List.getElem_cons_succ, List.getElem_cons_zero, List.setIfInBounds_toArray, List.set_cons_zero, List.set_cons_succ]
        refine wpAnyH_take (i := 12) (v := undef) rfl (by kernel_rfl) (by kernel_rfl) (by kernel_rfl) (fun _ _ _ h => h) (Or.inr ⟨by rfl, rfl⟩) (by assumption) ?_
        try simp only [Act.put, List.getElem_toArray, List.getElem_cons_succ, List.getElem_cons_zero, List.setIfInBounds_toArray, List.set_cons_zero, List.set_cons_succ]
        refine wpAnyH_take (i := 13) (v := undef) rfl (by kernel_rfl) (by kernel_rfl) (by kernel_rfl) (fun _ _ _ h => h) (Or.inr ⟨by rfl, rfl⟩) (by assumption) ?_
        try simp only [Act.put, List.getElem_toArray, List.getElem_cons_succ, List.getElem_cons_zero, List.setIfInBounds_toArray, List.set_cons_zero, List.set_cons_succ]
        refine wpAnyH_take (i := 14) (v := undef) rfl (by kernel_rfl) (by kernel_rfl) (by kernel_rfl) (fun _ _ _ h => h) (Or.inr ⟨by rfl, rfl⟩) (by assumption) ?_
        try simp only [Act.put, List.getElem_toArray, List.getElem_cons_succ, List.getElem_cons_zero, List.setIfInBounds_toArray, List.set_cons_zero, List.set_cons_succ]
        refine wpAnyH_take (i := 15) (v := .bool false) rfl (by kernel_rfl) (by kernel_rfl) (by kernel_rfl) (fun _ _ _ h => h) (Or.inl ⟨by rfl, by intro wz hSw; go_simp⟩) (by assumption) ?_
        try simp only [Act.put, List.getElem_toArray, List.getElem_cons_succ, List.getElem_cons_zero, List.setIfInBounds_toArray, List.set_cons_zero, List.set_cons_succ]
        refine wpAnyH_take (i := 16) (v := .agg #[.int .i64 (kd : Nat), .int .i64 (p : Nat), .int .i64 0, .string ⟨#[]⟩, .bool false]) rfl (by kernel_rfl) (by kernel_rfl) (by kernel_rfl) (fun _ _ _ h => h) (Or.inl ⟨by rfl, by intro wz hSw; go_simp⟩) (by assumption) ?_
        try simp only [Act.put, List.getElem_toArray, List.getElem_cons_succ, List.getElem_cons_zero, List.setIfInBounds_toArray, List.set_cons_zero, List.set_cons_succ]
        refine wpAnyH_ready (rs := [18]) (by kernel_rfl) (by simp) ?_
        refine AllReadyH.cons rfl (fun K hK => ?_) AllReadyH.nil
        go_simp
        refine hK.out _ _ HS3.out.at_.c1 (fun hHeld => ?_)
        clear hK K
        try simp only [Act.put, List.getElem_toArray, List.getElem_cons_succ, List.getElem_cons_zero, List.setIfInBounds_toArray, List.set_cons_zero, List.set_cons_succ]
        refine wpAnyH_done (by kernel_rfl) ?_ _
        have HC2 : Hid (Cel (putP w2 w1.heap.size (.int .i64 (kd : Nat)) (.int .i64 (p : Nat)) (.int .i64 0) (.string ⟨#[]⟩) (.bool false)) w1.heap.size 40 #[.int .i64 (kd : Nat), .int .i64 (p : Nat), .int .i64 0, .string ⟨#[]⟩, .bool false]) := HR2.out.put5 _ _ _ _ _
        have HE3 : Hid (Env (putP w2 w1.heap.size (.int .i64 (kd : Nat)) (.int .i64 (p : Nat)) (.int .i64 0) (.string ⟨#[]⟩) (.bool false)) ea) := ((((HE2.out.set (by omega) 0 _).set (by omega) 1 _).set (by omega) 2 _).set (by omega) 3 _).set (by omega) 4 _
        have HQ3 : Hid (Cel (putP w2 w1.heap.size (.int .i64 (kd : Nat)) (.int .i64 (p : Nat)) (.int .i64 0) (.string ⟨#[]⟩) (.bool false)) W.heap.size 40 zT) := HQ2.out.away5 (by omega) _ _ _ _ _
        go_wp2_with fail
        go_meet
        case rel => exact ⟨w1.heap.size, rfl, hlw, HC2.out, HS3.out, HE3.out, HQ3.out⟩
  obtain ⟨bt, rfl, hbt, HC, HS, HE, HQ⟩ := hcut
  clear HS1 HE1 HQ1 c1 HGV
  have hbl := best_len s p hp
  have hb18 := best_lt 18 (s.data.toList.drop p) (Nat.le_refl _)
  have hln := len_drop s p
  have HRT2 : Hid (R = tokenM s.size gl (s.data.toList.drop p)) := by unfold Hid; rw [← HRT.out, tokenL, HGE.out, HOV.out]
  clear HOV HRT HGE
  have hpos : s.size - (s.data.toList.drop p).length = p := by rw [hln]; omega
  have hbw : ¬ bt = W.heap.size := by omega
  have hbw2 : ¬ W.heap.size = bt := by omega
  have hbb : ¬ bt = b := by
    intro e
    subst e
    have := (show wc.heap[bt]? = _ from HC.out).symm.trans HS.out.at_.rd
    simp at this
  have hbb2 : ¬ b = bt := fun e => hbb e.symm
  by_cases hb0 : best 18 (s.data.toList.drop p) = 0
  · rw [hb0] at HC
    have c0 := HS.out.at_.c0
    have c1 := HS.out.at_.c1
    have HLN : Hid (∀ m, Calls Tryd.prog 32 #[.pointer (some ⟨sb, 0, none⟩)] (wc.drewN m) fun e w' => e = .returned (.int .i64 s.size) ∧ w' = wc.drewN m) := fun m => len_any sb s (wc.drewN m) HS.out.at_.t0
    have t0 : wc.cell? ⟨bt, 0, none⟩ = some (.int .i64 0) := HC.out.cell 0
    by_cases hlt : p < s.size
    · have hne : ((p : Int) == (s.size : Int)) = false := by simp; omega
      have hne2 : ¬ (p : Int) = (s.size : Int) := by omega
      have hne3 : ¬ p = s.size := by omega
      have HR : Hid (R = writ p gl s[p] (s.data.toList.drop (p + 1))) := by
        unfold Hid
        rw [HRT2.out]
        unfold tokenM
        rw [if_neg (by rw [hb0]; simp), drop_cons s p hlt]
        have hl2 := len_drop s (p + 1)
        show writ (s.size - ((s.data.toList.drop (p + 1)).length + 1)) gl s[p] (s.data.toList.drop (p + 1)) = _
        rw [hl2, show s.size - (s.size - (p + 1) + 1) = p by omega]
      clear HRT2 hb0 hpos hln hbl
      go_wp2_with fail
      go_quiet (first | (go_at_call 32; exact Calls.quiet_of_same (HLN.out _)))
      obtain ⟨W5, hW5⟩ : ∃ W5, W5 = wc.drewN nq := ⟨_, rfl⟩
      have HS5 : Hid (Stp W b sb s p W5) := by rw [hW5]; exact HS.out.drewN nq
      have HE5 : Hid (Env W5 ea) := by rw [hW5]; exact HE.out.drewN nq
      have HQ5 : Hid (Cel W5 W.heap.size 40 zT) := by rw [hW5]; exact HQ.out
      have HC5 : Hid (Cel W5 bt 40 #[.int .i64 0, .int .i64 (p : Nat), .int .i64 0, .string ⟨#[]⟩, .bool gl]) := by rw [hW5]; exact HC.out
      rw [← hW5]
      clear hW5 HS HE HQ HC t0 c0 c1 HLN
      have HWR := written_any HS5.out.at_ HE5.out hb64 gl hs hlt
      rw [← HR.out] at HWR
      have HW5 : Hid _ := HWR
      have u0 : W5.cell? ⟨bt, 0, none⟩ = some (.int .i64 0) := HC5.out.cell 0
      have u1 : W5.cell? ⟨bt, 1, none⟩ = some (.int .i64 (p : Nat)) := HC5.out.cell 1
      have u2 : W5.cell? ⟨bt, 2, none⟩ = some (.int .i64 0) := HC5.out.cell 2
      have u3 : W5.cell? ⟨bt, 3, none⟩ = some (.string ⟨#[]⟩) := HC5.out.cell 3
      have u4 : W5.cell? ⟨bt, 4, none⟩ = some (.bool gl) := HC5.out.cell 4
      clear HWR HR
      go_wp2_with fail
      refine Calls.mono HW5.out ?_
      rintro e w2 ⟨v, ev, rfl, hv⟩
      obtain ⟨j2, hst2⟩ := hv.stp
      have HQ2 : Hid (Cel w2 W.heap.size 40 zT) := HQ5.out.turn hst2.turn (by omega)
      have HV2 : Hid (TokV W b sb s ea R v ev w2) := hv.lift HS5.out
      obtain ⟨⟨tk, tp, tn, ts, tg⟩, rfl⟩ := hv.form
      clear hv hst2 HW5 u0 u1 u2 u3 u4
      have z0 : w2.cell? ⟨W.heap.size, 0, none⟩ = some (.int .i64 0) := HQ2.out.cell 0
      have z1 : w2.cell? ⟨W.heap.size, 1, none⟩ = some (.int .i64 0) := HQ2.out.cell 1
      have z2 : w2.cell? ⟨W.heap.size, 2, none⟩ = some (.int .i64 0) := HQ2.out.cell 2
      have z3 : w2.cell? ⟨W.heap.size, 3, none⟩ = some (.string ⟨#[]⟩) := HQ2.out.cell 3
      have z4 : w2.cell? ⟨W.heap.size, 4, none⟩ = some (.bool false) := HQ2.out.cell 4
      have zf0 := HQ2.out.frozen 0
      have zf1 := HQ2.out.frozen 1
      have zf2 := HQ2.out.frozen 2
      have zf3 := HQ2.out.frozen 3
      have zf4 := HQ2.out.frozen 4
      go_wp2_with fail
      refine bodyPost_ret (results_tok (p := 2) (u := 3) rfl _ _ W.heap.size _ rfl (HQ2.out.put5 (.int .i64 (tk : Nat)) (.int .i64 (tp : Nat)) (.int .i64 (tn : Nat)) (str ts) (.bool tg)) rfl) rfl ?_
      exact ⟨_, _, rfl, HV2.out.put HQ2.out hlb hlsb (Nat.le_refl _) _ _ _ _ _⟩
    · have hne : ((p : Int) == (s.size : Int)) = true := by simp; omega
      have hne2 : (p : Int) = (s.size : Int) := by omega
      have HR : Hid (R = .ok (⟨0, s.size, 0, [], gl⟩, s.data.toList.drop p)) := by
        unfold Hid
        rw [HRT2.out]
        unfold tokenM
        rw [if_neg (by rw [hb0]; simp), drop_none s p hlt]
      clear HRT2 hb0 hpos hln hbl
      go_wp2_with fail
      go_quiet (first | (go_at_call 32; exact Calls.quiet_of_same (HLN.out _)))
      obtain ⟨W5, hW5⟩ : ∃ W5, W5 = wc.drewN nq := ⟨_, rfl⟩
      have HS5 : Hid (Stp W b sb s p W5) := by rw [hW5]; exact HS.out.drewN nq
      have HQ5 : Hid (Cel W5 W.heap.size 40 zT) := by rw [hW5]; exact HQ.out
      have HC5 : Hid (Cel W5 bt 40 #[.int .i64 0, .int .i64 (p : Nat), .int .i64 0, .string ⟨#[]⟩, .bool gl]) := by rw [hW5]; exact HC.out
      rw [← hW5]
      clear hW5 HS HE HQ HC t0 c0 c1 HLN hne2
      have u0 : W5.cell? ⟨bt, 0, none⟩ = some (.int .i64 0) := HC5.out.cell 0
      have u1 : W5.cell? ⟨bt, 1, none⟩ = some (.int .i64 (p : Nat)) := HC5.out.cell 1
      have u2 : W5.cell? ⟨bt, 2, none⟩ = some (.int .i64 0) := HC5.out.cell 2
      have u3 : W5.cell? ⟨bt, 3, none⟩ = some (.string ⟨#[]⟩) := HC5.out.cell 3
      have u4 : W5.cell? ⟨bt, 4, none⟩ = some (.bool gl) := HC5.out.cell 4
      have z0 : W5.cell? ⟨W.heap.size, 0, none⟩ = some (.int .i64 0) := HQ5.out.cell 0
      have z1 : W5.cell? ⟨W.heap.size, 1, none⟩ = some (.int .i64 0) := HQ5.out.cell 1
      have z2 : W5.cell? ⟨W.heap.size, 2, none⟩ = some (.int .i64 0) := HQ5.out.cell 2
      have z3 : W5.cell? ⟨W.heap.size, 3, none⟩ = some (.string ⟨#[]⟩) := HQ5.out.cell 3
      have z4 : W5.cell? ⟨W.heap.size, 4, none⟩ = some (.bool false) := HQ5.out.cell 4
      have zf0 := HQ5.out.frozen 0
      have zf1 := HQ5.out.frozen 1
      have zf2 := HQ5.out.frozen 2
      have zf3 := HQ5.out.frozen 3
      have zf4 := HQ5.out.frozen 4
      go_wp2_with fail
      refine bodyPost_ret (results_tok (p := 2) (u := 3) rfl _ _ W.heap.size _ rfl (HQ5.out.put5 (.int .i64 0) (.int .i64 (p : Nat)) (.int .i64 0) (.string ⟨#[]⟩) (.bool gl)) rfl) rfl ?_
      rw [HR.out]
      refine ⟨_, _, rfl, ?_, rfl, p, HS5.out.put5 hlb hlsb (Nat.le_refl _) _ _ _ _ _, hp, rfl⟩
      rw [show p = s.size by omega]
      rfl
  · have HR : Hid (R = .ok (⟨best 18 (s.data.toList.drop p), p, 0, [], gl⟩, s.data.toList.drop (p + (sgn (best 18 (s.data.toList.drop p))).length))) := by
      unfold Hid
      rw [HRT2.out]
      unfold tokenM
      rw [if_pos hb0, hpos, List.drop_drop]
    have hsg := HE.out.sign _ hb18
    have t0 : wc.cell? ⟨bt, 0, none⟩ = some (.int .i64 (best 18 (s.data.toList.drop p) : Nat)) := HC.out.cell 0
    clear HRT2
    generalize best 18 (s.data.toList.drop p) = kd at *
    have hkd : ((kd : Int) == 0) = false := by simp; exact hb0
    have hkd2 : (kd : Int) < 18 := by omega
    generalize sgn kd = sk at *
    have c0 := HS.out.at_.c0
    have c1 := HS.out.at_.c1
    have f1 := HS.out.at_.f1
    clear hb0 hln hpos
    go_wp2_with fail
    go_region
    obtain ⟨W6, hW6⟩ : ∃ W6, W6 = (wc.setCell ⟨b, 1, none⟩ (.int .i64 ((p : Int) + (sk.length : Nat)))).drew := ⟨_, rfl⟩
    have HS6 : Hid (Stp W b sb s (p + sk.length) W6) := by rw [hW6]; exact (set_step HS.out _ _ (by omega)).drew
    have HQ6 : Hid (Cel W6 W.heap.size 40 zT) := by rw [hW6]; exact Cel.drew (HQ.out.other (by omega) _)
    have HC6 : Hid (Cel W6 bt 40 #[.int .i64 (kd : Nat), .int .i64 (p : Nat), .int .i64 0, .string ⟨#[]⟩, .bool gl]) := by rw [hW6]; exact Cel.drew (HC.out.other (by omega) _)
    rw [← hW6]
    clear hW6 HS HE HQ HC t0 c0 c1 f1 hsg
    have u0 : W6.cell? ⟨bt, 0, none⟩ = some (.int .i64 (kd : Nat)) := HC6.out.cell 0
    have u1 : W6.cell? ⟨bt, 1, none⟩ = some (.int .i64 (p : Nat)) := HC6.out.cell 1
    have u2 : W6.cell? ⟨bt, 2, none⟩ = some (.int .i64 0) := HC6.out.cell 2
    have u3 : W6.cell? ⟨bt, 3, none⟩ = some (.string ⟨#[]⟩) := HC6.out.cell 3
    have u4 : W6.cell? ⟨bt, 4, none⟩ = some (.bool gl) := HC6.out.cell 4
    have z0 : W6.cell? ⟨W.heap.size, 0, none⟩ = some (.int .i64 0) := HQ6.out.cell 0
    have z1 : W6.cell? ⟨W.heap.size, 1, none⟩ = some (.int .i64 0) := HQ6.out.cell 1
    have z2 : W6.cell? ⟨W.heap.size, 2, none⟩ = some (.int .i64 0) := HQ6.out.cell 2
    have z3 : W6.cell? ⟨W.heap.size, 3, none⟩ = some (.string ⟨#[]⟩) := HQ6.out.cell 3
    have z4 : W6.cell? ⟨W.heap.size, 4, none⟩ = some (.bool false) := HQ6.out.cell 4
    have zf0 := HQ6.out.frozen 0
    have zf1 := HQ6.out.frozen 1
    have zf2 := HQ6.out.frozen 2
    have zf3 := HQ6.out.frozen 3
    have zf4 := HQ6.out.frozen 4
    go_wp2_with fail
    refine bodyPost_ret (results_tok (p := 2) (u := 3) rfl _ _ W.heap.size _ rfl (HQ6.out.put5 (.int .i64 (kd : Nat)) (.int .i64 (p : Nat)) (.int .i64 0) (.string ⟨#[]⟩) (.bool gl)) rfl) rfl ?_
    rw [HR.out]
    exact ⟨_, _, rfl, rfl, rfl, p + sk.length, HS6.out.put5 hlb hlsb (Nat.le_refl _) _ _ _ _ _, hbl, rfl⟩
end Go.Proofs.YtddekcohfbnmbaaDoor
