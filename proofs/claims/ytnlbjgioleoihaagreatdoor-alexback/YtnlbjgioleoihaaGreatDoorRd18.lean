/- A token. -/
import Derived.Test.YtnlbjgioleoihaaGreatDoorRd15
import Derived.Test.YtnlbjgioleoihaaGreatDoorRd16
import Derived.Test.YtnlbjgioleoihaaGreatDoorRd17
import Derived.Deep.Cut
import Derived.Deep.CutRange
import Derived.Deep.CutBlock
namespace Go.Proofs.YtnlbjgioleoihaaGreatDoor
open Go.RowKit
attribute [local go_sem] Oper.semAt_some

theorem Cel.drewN {W : World} {g : Nat} {t : TypeId} {cs : Array Value} (h : Cel W g t cs) (m : Nat) : Cel (W.drewN m) g t cs := h
abbrev zT : Array Value := #[.int .i64 0, .int .i64 0, .slice none 0 0]
theorem sizeT : (Tryz.prog.info? 31).map (·.size) = some 3 := by kernel_rfl
theorem results_tok {fn : Func} {p u : Tmp} (h : fn.results = #[.cell p 31, .tmp u]) (tmps : Array Value) (w : World) (g : Nat) (cs : Array Value) (hp : tmps.getD p undef = .pointer (some ⟨g, 0, none⟩)) (hc : Cel w g 31 cs) (hz : cs.size = 3) :
    (results fn tmps).run Tryz.prog w = .ok (.tuple #[.agg cs, tmps.getD u undef]) w := by
  rw [results_cell_tmp h, hp]
  simp only [asAddr, Sem.run_pure, Result.andThen]
  rw [run_loadVar_row w g 31 31 cs (0, 0) _ hc Tryz.underlying31 rfl (by rw [hz]; exact sizeT)]
def putT (X : World) (g : Nat) (v0 v1 v2 : Value) : World := ((X.setCell ⟨g, 0, none⟩ v0).setCell ⟨g, 1, none⟩ v1).setCell ⟨g, 2, none⟩ v2
theorem Cel.put3 {X : World} {g : Nat} {t : TypeId} {u0 u1 u2 : Value} (h : Cel X g t #[u0, u1, u2]) (v0 v1 v2 : Value) : Cel (putT X g v0 v1 v2) g t #[v0, v1, v2] := ((h.set (j := 0) v0).set (j := 1) v1).set (j := 2) v2
theorem Stp.put3 {W X : World} {b sb k g : Nat} {s : ByteArray} (h : Stp W b sb s k X) (hb : b < W.heap.size) (hsb : sb < W.heap.size) (hg : W.heap.size ≤ g) (v0 v1 v2 : Value) : Stp W b sb s k (putT X g v0 v1 v2) := ((h.other hb hsb hg 0 v0).other hb hsb hg 1 v1).other hb hsb hg 2 v2
theorem AtEr.put3 {w : World} {g : Nat} {cs : Array Value} {ea : Nat → Addr} {v : Value} {x : Er} (h : AtEr w ea v x) (hc : Cel w g 31 cs) (v0 v1 v2 : Value) : AtEr (putT w g v0 v1 v2) ea v x := by
  obtain ⟨q, h1, h2⟩ := h
  have hne : q ≠ g := by
    rintro rfl
    have := (show w.heap[q]? = _ from h2).symm.trans hc
    simp at this
  exact ⟨q, h1, ((h2.other hne v0).other hne v1).other hne v2⟩
theorem PtOwn.put3 {w : World} {B g : Nat} {cs : Array Value} {v : Value} {X : List Pt} (h : PtOwn w B v X) (hc : Cel w g 31 cs) (v0 v1 v2 : Value) : PtOwn (putT w g v0 v1 v2) B v X := by
  have hs : ∀ (w' : World) (j : Nat) (u : Value), (∃ cs, Cel w' g 31 cs) → PtOwn w' B v X → PtOwn (w'.setCell ⟨g, j, none⟩ u) B v X := by
    rintro w' j u ⟨cs, hc'⟩ h'
    refine owns_turn h' (Turn.setCell (S := fun i => i = g) (p := ⟨g, j, none⟩) (Turn.refl _ w') (fun _ => rfl) u) fun c hc2 e => ?_
    subst e
    exact owns_apart hc' h' (by decide) hc2
  exact hs _ _ _ ⟨_, (hc.set (j := 0) v0).set (j := 1) v1⟩ (hs _ _ _ ⟨_, hc.set (j := 0) v0⟩ (hs _ _ _ ⟨_, hc⟩ h))
theorem PtOwn.setT {w : World} {B g : Nat} {cs : Array Value} {v : Value} {X : List Pt} (h : PtOwn w B v X) (hc : Cel w g 31 cs) (j : Nat) (u : Value) : PtOwn (w.setCell ⟨g, j, none⟩ u) B v X := by
  refine owns_turn h (Turn.setCell (S := fun i => i = g) (p := ⟨g, j, none⟩) (Turn.refl _ w) (fun _ => rfl) u) fun c hc2 e => ?_
  subst e
  exact owns_apart hc h (by decide) hc2
/-- A token, or an error; where the reader stands behind it. -/
def TokV (W : World) (b sb : Nat) (s : ByteArray) (ea : Nat → Addr) (R : Except Er (Tk × List UInt8)) (kd pos : Int) (v ev : Value) (w' : World) : Prop := match R with
  | .ok q => kd = q.1.kind ∧ pos = q.1.pos ∧ ev = .nilIface ∧ PtOwn w' W.heap.size v q.1.parts ∧ ∃ j, Stp W b sb s j w' ∧ j ≤ s.size ∧ q.2 = s.data.toList.drop j
  | .error x => (∃ ad n cap, v = .slice ad n cap) ∧ AtEr w' ea ev x ∧ ∃ j, Stp W b sb s j w'
theorem best_prefix : ∀ (k : Nat) (l : List UInt8), (sgn (best k l)).isPrefixOf l = true
  | 0, l => by rw [best]; rfl
  | k + 1, l => by
    rw [best]
    split
    · rename_i h; exact h.2
    · exact best_prefix k l
theorem best_len (s : ByteArray) (p : Nat) (hp : p ≤ s.size) : p + (sgn (best 13 (s.data.toList.drop p))).length ≤ s.size := by
  have := (List.isPrefixOf_iff_prefix.1 (best_prefix 13 (s.data.toList.drop p))).length_le
  rw [len_drop] at this
  omega
set_option maxRecDepth 100000 in
set_option maxHeartbeats 8000000 in
theorem token_any {W : World} {b sb k : Nat} {s : ByteArray} {ea : Nat → Addr} (h : Rd W b sb s k) (hE : Env W ea) (hs : s.size < 1099511627776) (hk : k ≤ s.size) (hb64 : (ea 64).block ≤ b) :
    Calls Tryz.prog 12 #[.pointer (some ⟨b, 0, none⟩)] W fun e w' => ∃ kd pos v ev, e = .returned (.tuple #[.agg #[.int .i64 kd, .int .i64 pos, v], ev]) ∧ TokV W b sb s ea (tokenL s.size (over (s.data.toList.drop k))) kd pos v ev w' := by
  have hlb := h.rd.lt
  have hlsb := h.src.lt
  obtain ⟨W0, hW0⟩ : ∃ W0, W0 = W.alloc (.cells zT 31) := ⟨_, rfl⟩
  have HS0 : Hid (Stp W b sb s k W0) := by rw [hW0]; exact (Stp.refl h).alloc _
  have HE0 : Hid (Env W0 ea) := by rw [hW0]; exact hE.below (below_new W _)
  have HQ0 : Hid (Cel W0 W.heap.size 31 zT) := by rw [hW0]; exact Cel.new W _ _
  have HW0 : Hid (W.alloc (.cells zT 31) = W0) := hW0.symm
  have HPA : Hid _ := passOver_any HS0.out.at_ hs hk
  obtain ⟨R, HRT⟩ : ∃ R, Hid (tokenL s.size (over (s.data.toList.drop k)) = R) := ⟨_, rfl⟩
  rw [HRT.out]
  clear h hE hW0
  go_enter Tryz.func12, Tryz.ntmps12
  go_wp2_with fail
  rw [HW0.out]
  refine Calls.mono HPA.out ?_
  rintro e w1 ⟨rfl, p, hst1, hkp, hp, hov⟩
  have HOV : Hid (over (s.data.toList.drop k) = s.data.toList.drop p) := hov
  have HS1 : Hid (Stp W b sb s p w1) := HS0.out.trans hst1
  have HE1 : Hid (Env w1 ea) := HE0.out.stp hst1 hb64
  have HQ1 : Hid (Cel w1 W.heap.size 31 zT) := HQ0.out.turn hst1.turn (by omega)
  have c1 := HS1.out.at_.c1
  have hlw : W.heap.size < w1.heap.size := HQ1.out.lt
  clear hst1 hov HPA HW0 HS0 HE0 HQ0
  go_upto_region 2 with fail
  go_cut [4] from 11 to 17 (fun v4 wx => ∃ bt, v4 = .pointer (some ⟨bt, 0, none⟩) ∧ W.heap.size < bt ∧ Hid (Cel wx bt 31 #[.int .i64 (best 13 (s.data.toList.drop p) : Nat), .int .i64 (p : Nat), .slice none 0 0]) ∧ Hid (Stp W b sb s p wx) ∧ Hid (Env wx ea) ∧ Hid (Cel wx W.heap.size 31 zT))
  case first =>
    have HSI1 : Hid (Calls Tryz.prog 21 #[.pointer (some ⟨b, 0, none⟩)] w1.drew fun e w' => e = .returned (.int .i64 (best 13 (s.data.toList.drop p) : Nat)) ∧ w'.cell? ⟨b, 1, none⟩ = some (.int .i64 (p : Nat)) ∧ w'.heap.size = w1.heap.size + 0 ∧ Stp W b sb s p w' ∧ Env w' ea ∧ Cel w' W.heap.size 31 zT) := by
      refine (sign_any (HS1.out.drew).at_ (HE1.out.drewN 1)).mono ?_
      rintro e w' ⟨rfl, m, rfl⟩
      exact ⟨rfl, HS1.out.at_.c1, rfl, (HS1.out.drew).drewN m, (HE1.out.drewN 1).drewN m, HQ1.out⟩
    have HSI2 : Hid (Calls Tryz.prog 21 #[.pointer (some ⟨b, 0, none⟩)] (w1.alloc (.cells #[.int .i64 0, .int .i64 0, .slice none 0 0] 31)).drew fun e w' => e = .returned (.int .i64 (best 13 (s.data.toList.drop p) : Nat)) ∧ w'.cell? ⟨b, 1, none⟩ = some (.int .i64 (p : Nat)) ∧ w'.heap.size = w1.heap.size + 1 ∧ Stp W b sb s p w' ∧ Env w' ea ∧ Cel w' W.heap.size 31 zT ∧ Cel w' w1.heap.size 31 zT) := by
      have hs2 := (HS1.out.alloc (.cells #[.int .i64 0, .int .i64 0, .slice none 0 0] 31)).drew
      have he2 := (HE1.out.below (below_new w1 (.cells #[.int .i64 0, .int .i64 0, .slice none 0 0] 31))).drewN 1
      refine (sign_any hs2.at_ he2).mono ?_
      rintro e w' ⟨rfl, m, rfl⟩
      exact ⟨rfl, hs2.at_.c1, by simp, hs2.drewN m, he2.drewN m, Cel.drewN (Cel.drew (HQ1.out.below (below_new w1 _) hlw)) m, Cel.drewN (Cel.drew (Cel.new w1 _ _)) m⟩
    have HA : Hid (∀ o, (w1.alloc o).drew.cell? ⟨b, 1, none⟩ = some (.int .i64 (p : Nat))) := fun o => (HS1.out.alloc o).at_.c1
    have hbn1 : ¬ b = w1.heap.size := by omega
    have hnb1 : ¬ w1.heap.size = b := by omega
    generalize best 13 (s.data.toList.drop p) = kd at *
    go_region_held3 (fun w' => w'.cell? ⟨b, 1, none⟩ = some (.int .i64 (p : Nat))) (first | with_reducible assumption | with_reducible exact c1 | with_reducible exact HA.out _ | (rw [World.cell?_setCell_other _ _ _ _ (by simp; omega), World.cell?_setCell_other _ _ _ _ (by simp; omega), World.cell?_setCell_other _ _ _ _ (by simp; omega)]; assumption) | go_keep) (first | (go_at_call 21; (with_reducible refine Calls.mono HSI1.out ?_); rintro e w2 ⟨rfl, m2, hz2, hst2, hE2, hq2⟩; have HS2 : Hid (Stp W b sb s p w2) := hst2; have HE2 : Hid (Env w2 ea) := hE2; have HQ2 : Hid (Cel w2 W.heap.size 31 zT) := hq2; clear hst2 hE2 hq2) | (go_at_call 21; (with_reducible refine Calls.mono HSI2.out ?_); rintro e w2 ⟨rfl, m2, hz2, hst2, hE2, hq2, hr2⟩; have z0 : w2.cell? ⟨w1.heap.size, 0, none⟩ = some (.int .i64 0) := Cel.cell hr2 0; have z1 : w2.cell? ⟨w1.heap.size, 1, none⟩ = some (.int .i64 0) := Cel.cell hr2 1; have z2 : w2.cell? ⟨w1.heap.size, 2, none⟩ = some (.slice none 0 0) := Cel.cell hr2 2; have y0 := Cel.frozen hr2 0; have y1 := Cel.frozen hr2 1; have y2 := Cel.frozen hr2 2; have HR2 : Hid (Cel w2 w1.heap.size 31 zT) := hr2; clear hr2; have HS2 : Hid (Stp W b sb s p w2) := hst2; have HE2 : Hid (Env w2 ea) := hE2; have HQ2 : Hid (Cel w2 W.heap.size 31 zT) := hq2; clear hst2 hE2 hq2))
    · have hc2 : Cel (w2.alloc (.cells #[.int .i64 (kd : Nat), .int .i64 (p : Nat), .slice none 0 0] 31)) w1.heap.size 31 #[.int .i64 (kd : Nat), .int .i64 (p : Nat), .slice none 0 0] := by
        have := Cel.new w2 31 #[.int .i64 (kd : Nat), .int .i64 (p : Nat), .slice none 0 0]
        rw [hz2] at this
        exact this
      have HC2 : Hid _ := hc2
      clear hc2
      go_wp2_with fail
      go_meet
      case rel => exact ⟨w1.heap.size, rfl, hlw, HC2.out, HS2.out.alloc _, HE2.out.below (below_new _ _), HQ2.out.below (below_new _ _) HQ2.out.lt⟩
    · have HC2 : Hid (Cel (putT w2 w1.heap.size (.int .i64 (kd : Nat)) (.int .i64 (p : Nat)) (.slice none 0 0)) w1.heap.size 31 #[.int .i64 (kd : Nat), .int .i64 (p : Nat), .slice none 0 0]) := HR2.out.put3 _ _ _
      have HS3 : Hid (Stp W b sb s p (putT w2 w1.heap.size (.int .i64 (kd : Nat)) (.int .i64 (p : Nat)) (.slice none 0 0))) := HS2.out.put3 hlb hlsb (by omega) _ _ _
      have HE3 : Hid (Env (putT w2 w1.heap.size (.int .i64 (kd : Nat)) (.int .i64 (p : Nat)) (.slice none 0 0)) ea) := ((HE2.out.set (by omega) 0 _).set (by omega) 1 _).set (by omega) 2 _
      have HQ3 : Hid (Cel (putT w2 w1.heap.size (.int .i64 (kd : Nat)) (.int .i64 (p : Nat)) (.slice none 0 0)) W.heap.size 31 zT) := ((HQ2.out.other (by omega) _).other (by omega) _).other (by omega) _
      go_wp2_with fail
      go_meet
      case rel => exact ⟨w1.heap.size, rfl, hlw, HC2.out, HS3.out, HE3.out, HQ3.out⟩
  obtain ⟨bt, rfl, hbt, HC, HS, HE, HQ⟩ := hcut
  clear HS1 HE1 HQ1 c1
  have hbl := best_len s p hp
  have hb13 := best_lt 13 (s.data.toList.drop p) (Nat.le_refl _)
  have hln := len_drop s p
  have HRT2 : Hid (R = tokenL s.size (s.data.toList.drop p)) := by unfold Hid; rw [← HRT.out, HOV.out]
  clear HOV HRT
  have hpos : s.size - (s.data.toList.drop p).length = p := by rw [hln]; omega
  by_cases hb0 : best 13 (s.data.toList.drop p) = 0
  · rw [hb0] at HC
    have t0 : wc.cell? ⟨bt, 0, none⟩ = some (.int .i64 0) := HC.out.cell 0
    have t1 : wc.cell? ⟨bt, 1, none⟩ = some (.int .i64 (p : Nat)) := HC.out.cell 1
    have t2 : wc.cell? ⟨bt, 2, none⟩ = some (.slice none 0 0) := HC.out.cell 2
    have c0 := HS.out.at_.c0
    have c1 := HS.out.at_.c1
    have HB : Hid (∀ m, Calls Tryz.prog 22 #[.pointer (some ⟨sb, 0, none⟩), .int .i64 (p : Nat)] (wc.drewN m) fun e w' => e = .returned (.tuple (byteV s.data.toList[p]?)) ∧ w' = wc.drewN m) := fun m => byte_any sb s p (wc.drewN m) HS.out.at_.t0
    by_cases hlt : p < s.size
    · rw [text_at s p hlt, byteV_some] at HB
      have HCC : Hid _ := drop_cons s p hlt
      by_cases h38 : s[p] = 38
      · have HR : Hid (R = .error ⟨3, p⟩) := by
          unfold Hid
          rw [HRT2.out]
          unfold tokenL
          rw [if_neg (by rw [hb0]; simp), hpos, HCC.out]
          simp only
          rw [if_pos h38]
        rw [h38] at HB
        clear HRT2 hb0 hpos hln h38 HCC hbl
        go_wp2_with fail
        go_quiet (first | (go_at_call 22; exact Calls.quiet_of_same (HB.out _)))
        obtain ⟨W5, hW5⟩ : ∃ W5, W5 = wc.drewN nq := ⟨_, rfl⟩
        have HS5 : Hid (Stp W b sb s p W5) := by rw [hW5]; exact HS.out.drewN nq
        have HE5 : Hid (Env W5 ea) := by rw [hW5]; exact HE.out.drewN nq
        have HQ5 : Hid (Cel W5 W.heap.size 31 zT) := by rw [hW5]; exact HQ.out
        rw [← hW5]
        clear hW5 HS HE HQ HC t0 t1 t2 c0 c1 HB
        have d1 := HS5.out.at_.c1
        have g0 := HE5.out.cell 2 (by omega) (by omega)
        have HFA : Hid (Calls Tryz.prog 23 #[.int .i64 (p : Nat), errV (ea 2)] W5.drew fun e w' => e = .returned (.iface 79 (.pointer (some ⟨W5.heap.size, 0, none⟩))) ∧ (w'.cell? ⟨b, 1, none⟩ = some (.int .i64 (p : Nat)) ∧ w'.cell? ⟨2, 0, none⟩ = some (errV (ea 2))) ∧ AtEr w' ea (.iface 79 (.pointer (some ⟨W5.heap.size, 0, none⟩))) ⟨3, p⟩ ∧ Stp W b sb s p w' ∧ Cel w' W.heap.size 31 zT) := by
          refine (fails_any p _ W5.drew).mono ?_
          rintro e w' ⟨rfl, hq, hb2⟩
          have hst := (HS5.out.drew).below hb2
          have hev := (HE5.out.drewN 1).below hb2
          exact ⟨rfl, ⟨hst.at_.c1, hev.cell 2 (by omega) (by omega)⟩, ⟨_, rfl, hq⟩, hst, (Cel.drew HQ5.out).below hb2 HQ5.out.lt⟩
        have hgl := HE5.out.glob
        have hbn : ¬ b = W.heap.size := by omega
        have hnb : ¬ W.heap.size = b := by omega
        have hen : ¬ 2 = W.heap.size := by omega
        have hne : ¬ W.heap.size = 2 := by omega
        go_wp2_with fail
        go_region_held3 (fun w' => w'.cell? ⟨b, 1, none⟩ = some (.int .i64 (p : Nat)) ∧ w'.cell? ⟨2, 0, none⟩ = some (errV (ea 2))) (go_keep) (first | (go_at_call 23; refine Calls.mono HFA.out ?_; rintro e w6 ⟨rfl, ⟨m0, m1⟩, hx6, hst6, hq6⟩; have HX6 : Hid (AtEr w6 ea (.iface 79 (.pointer (some ⟨W5.heap.size, 0, none⟩))) ⟨3, p⟩) := hx6; have HS6 : Hid (Stp W b sb s p w6) := hst6; have HQ6 : Hid (Cel w6 W.heap.size 31 zT) := hq6; clear hx6 hst6 hq6; have z0 : w6.cell? ⟨W.heap.size, 0, none⟩ = some (.int .i64 0) := HQ6.out.cell 0; have z1 : w6.cell? ⟨W.heap.size, 1, none⟩ = some (.int .i64 0) := HQ6.out.cell 1; have z2 : w6.cell? ⟨W.heap.size, 2, none⟩ = some (.slice none 0 0) := HQ6.out.cell 2; have y0 := HQ6.out.frozen 0; have y1 := HQ6.out.frozen 1; have y2 := HQ6.out.frozen 2))
        go_wp2_with fail
        refine bodyPost_ret (results_tok (p := 2) (u := 3) rfl _ _ W.heap.size _ rfl (HQ6.out.put3 _ _ _) rfl) rfl ?_
        rw [HR.out]
        exact ⟨0, 0, _, _, rfl, ⟨none, 0, 0, rfl⟩, HX6.out.put3 HQ6.out _ _ _, p, HS6.out.put3 hlb hlsb (Nat.le_refl _) _ _ _⟩
      · have n38 : ((s[p].toNat : Int) == 38) = false := byte_ne _ 38 h38
        have HWO : Hid (∀ w, Rd w b sb s p → Env w ea → Calls Tryz.prog 24 #[.pointer (some ⟨b, 0, none⟩)] w fun e w' => ∃ v ev, e = .returned (.tuple #[v, ev]) ∧ PartsV w b sb s ea (word s.size (s.data.toList.drop p).length (s.data.toList.drop p)) v ev w') := fun w h1 h2 => word_any h1 h2 hs hp (by rw [hln]; omega) hb64
        have HTK : Hid (R = (match word s.size (s.data.toList.drop p).length (s.data.toList.drop p) with
            | .error e => .error e
            | .ok q => .ok (⟨13, p, q.1⟩, q.2))) := by
          unfold Hid
          rw [HRT2.out]
          unfold tokenL
          rw [if_neg (by rw [hb0]; simp), hpos, HCC.out]
          simp only
          rw [if_neg h38]
          cases word s.size (s[p] :: s.data.toList.drop (p + 1)).length (s[p] :: s.data.toList.drop (p + 1)) <;> rfl
        generalize s[p] = c at HB n38
        clear HRT2 hb0 hpos hln h38 HCC hbl
        have hbw : ¬ bt = W.heap.size := by omega
        have hbw2 : ¬ W.heap.size = bt := by omega
        have hbb : ¬ bt = b := by
          intro e
          subst e
          have := (show wc.heap[bt]? = _ from HC.out).symm.trans HS.out.at_.rd
          simp at this
        go_wp2_with fail
        go_quiet (first | (go_at_call 22; exact Calls.quiet_of_same (HB.out _)))
        obtain ⟨W5, hW5⟩ : ∃ W5, W5 = wc.drewN nq := ⟨_, rfl⟩
        have HS5 : Hid (Stp W b sb s p W5) := by rw [hW5]; exact HS.out.drewN nq
        have HE5 : Hid (Env W5 ea) := by rw [hW5]; exact HE.out.drewN nq
        have HQ5 : Hid (Cel W5 W.heap.size 31 zT) := by rw [hW5]; exact HQ.out
        have HC5 : Hid (Cel W5 bt 31 #[.int .i64 0, .int .i64 (p : Nat), .slice none 0 0]) := by rw [hW5]; exact HC.out
        rw [← hW5]
        clear hW5 HS HE HQ HC t0 t1 t2 c0 c1 HB
        have HW5 : Hid _ := HWO.out W5 HS5.out.at_ HE5.out
        have hz5 : W.heap.size ≤ W5.heap.size := HS5.out.turn.size
        clear HWO HE5
        go_wp2_with fail
        cases hwd : word s.size (s.data.toList.drop p).length (s.data.toList.drop p) with
        | error x =>
          have HR : Hid (R = .error x) := by unfold Hid; rw [HTK.out, hwd]
          rw [hwd] at HW5
          clear hwd HTK
          refine Calls.mono HW5.out ?_
          rintro e w6 ⟨v, ev, rfl, rfl, ⟨q6, rfl, hx6⟩, j6, hst6⟩
          have HX6 : Hid (AtEr w6 ea (.iface 79 (.pointer (some ⟨q6, 0, none⟩))) x) := ⟨q6, rfl, hx6⟩
          have HS6 : Hid (Stp W b sb s j6 w6) := HS5.out.trans hst6
          have HQ6 : Hid (Cel w6 W.heap.size 31 zT) := HQ5.out.turn hst6.turn (by omega)
          clear hx6 hst6 HW5 HS5 HQ5 HC5
          have z0 : w6.cell? ⟨W.heap.size, 0, none⟩ = some (.int .i64 0) := HQ6.out.cell 0
          have z1 : w6.cell? ⟨W.heap.size, 1, none⟩ = some (.int .i64 0) := HQ6.out.cell 1
          have z2 : w6.cell? ⟨W.heap.size, 2, none⟩ = some (.slice none 0 0) := HQ6.out.cell 2
          have y0 := HQ6.out.frozen 0
          have y1 := HQ6.out.frozen 1
          have y2 := HQ6.out.frozen 2
          go_wp2_with fail
          refine bodyPost_ret (results_tok (p := 2) (u := 3) rfl _ _ W.heap.size _ rfl (HQ6.out.put3 _ _ _) rfl) rfl ?_
          rw [HR.out]
          exact ⟨0, 0, _, _, rfl, ⟨none, 0, 0, rfl⟩, HX6.out.put3 HQ6.out _ _ _, j6, HS6.out.put3 hlb hlsb (Nat.le_refl _) _ _ _⟩
        | ok r =>
          obtain ⟨ps, u⟩ := r
          have HR : Hid (R = .ok (⟨13, p, ps⟩, u)) := by unfold Hid; rw [HTK.out, hwd]
          rw [hwd] at HW5
          clear hwd HTK
          refine Calls.mono HW5.out ?_
          rintro e w6 ⟨v, ev, rfl, rfl, hown6, j6, hst6, hj6, hu6⟩
          simp only at hown6 hu6
          have HO6 : Hid (PtOwn w6 W.heap.size v ps) := hown6.lower hz5
          have HS6 : Hid (Stp W b sb s j6 w6) := HS5.out.trans hst6
          have HQ6 : Hid (Cel w6 W.heap.size 31 zT) := HQ5.out.turn hst6.turn (by omega)
          have HC6 : Hid (Cel w6 bt 31 #[.int .i64 0, .int .i64 (p : Nat), .slice none 0 0]) := HC5.out.turn hst6.turn hbb
          have HU6 : Hid (u = s.data.toList.drop j6) := hu6
          clear hown6 hst6 hu6 HW5 HS5 HQ5 HC5
          obtain ⟨va, vc, rfl⟩ := HO6.out.form
          have z0 : w6.cell? ⟨W.heap.size, 0, none⟩ = some (.int .i64 0) := HQ6.out.cell 0
          have z1 : w6.cell? ⟨W.heap.size, 1, none⟩ = some (.int .i64 0) := HQ6.out.cell 1
          have z2 : w6.cell? ⟨W.heap.size, 2, none⟩ = some (.slice none 0 0) := HQ6.out.cell 2
          have y0 := HQ6.out.frozen 0
          have y1 := HQ6.out.frozen 1
          have y2 := HQ6.out.frozen 2
          have r0 : w6.cell? ⟨bt, 0, none⟩ = some (.int .i64 0) := HC6.out.cell 0
          have r1 : w6.cell? ⟨bt, 1, none⟩ = some (.int .i64 (p : Nat)) := HC6.out.cell 1
          have r2 : w6.cell? ⟨bt, 2, none⟩ = some (.slice none 0 0) := HC6.out.cell 2
          have x0 := HC6.out.frozen 0
          have x2 := HC6.out.frozen 2
          go_wp2_with fail
          have HQ7 : Cel ((w6.setCell ⟨bt, 0, none⟩ (.int .i64 13)).setCell ⟨bt, 2, none⟩ (.slice va ps.length vc)) W.heap.size 31 zT := (HQ6.out.other (by omega) _).other (by omega) _
          have HO7 : PtOwn ((w6.setCell ⟨bt, 0, none⟩ (.int .i64 13)).setCell ⟨bt, 2, none⟩ (.slice va ps.length vc)) W.heap.size (.slice va ps.length vc) ps := (HO6.out.setT HC6.out 0 _).setT (HC6.out.set (j := 0) _) 2 _
          have HS7 : Stp W b sb s j6 ((w6.setCell ⟨bt, 0, none⟩ (.int .i64 13)).setCell ⟨bt, 2, none⟩ (.slice va ps.length vc)) := (HS6.out.other hlb hlsb (by omega) 0 _).other hlb hlsb (by omega) 2 _
          refine bodyPost_ret (results_tok (p := 2) (u := 3) rfl _ _ W.heap.size _ rfl (HQ7.put3 _ _ _) rfl) rfl ?_
          rw [HR.out]
          exact ⟨13, p, _, _, rfl, rfl, rfl, rfl, HO7.put3 HQ7 _ _ _, j6, HS7.put3 hlb hlsb (Nat.le_refl _) _ _ _, hj6, HU6.out⟩
    · have HR : Hid (R = .ok (⟨0, s.size, []⟩, s.data.toList.drop p)) := by
        unfold Hid
        rw [HRT2.out]
        unfold tokenL
        rw [if_neg (by rw [hb0]; simp), drop_none s p hlt]
      rw [at_none s p hlt, byteV_none] at HB
      clear HRT2 hb0 hpos hln hbl
      go_wp2_with fail
      go_quiet (first | (go_at_call 22; exact Calls.quiet_of_same (HB.out _)))
      obtain ⟨W5, hW5⟩ : ∃ W5, W5 = wc.drewN nq := ⟨_, rfl⟩
      have HS5 : Hid (Stp W b sb s p W5) := by rw [hW5]; exact HS.out.drewN nq
      have HQ5 : Hid (Cel W5 W.heap.size 31 zT) := by rw [hW5]; exact HQ.out
      have r0 : W5.cell? ⟨bt, 0, none⟩ = some (.int .i64 0) := by rw [hW5]; exact t0
      have r1 : W5.cell? ⟨bt, 1, none⟩ = some (.int .i64 (p : Nat)) := by rw [hW5]; exact t1
      have r2 : W5.cell? ⟨bt, 2, none⟩ = some (.slice none 0 0) := by rw [hW5]; exact t2
      rw [← hW5]
      clear hW5 HS HE HQ HC t0 t1 t2 c0 c1 HB
      have z0 : W5.cell? ⟨W.heap.size, 0, none⟩ = some (.int .i64 0) := HQ5.out.cell 0
      have z1 : W5.cell? ⟨W.heap.size, 1, none⟩ = some (.int .i64 0) := HQ5.out.cell 1
      have z2 : W5.cell? ⟨W.heap.size, 2, none⟩ = some (.slice none 0 0) := HQ5.out.cell 2
      have y0 := HQ5.out.frozen 0
      have y1 := HQ5.out.frozen 1
      have y2 := HQ5.out.frozen 2
      go_wp2_with fail
      refine bodyPost_ret (results_tok (p := 2) (u := 3) rfl _ _ W.heap.size _ rfl (HQ5.out.put3 _ _ _) rfl) rfl ?_
      rw [HR.out]
      exact ⟨0, p, _, _, rfl, rfl, by show (p : Int) = (s.size : Nat); omega, rfl, PtOwn.nil _ _, p, HS5.out.put3 hlb hlsb (Nat.le_refl _) _ _ _, hp, rfl⟩
  · have HR : Hid (R = .ok (⟨best 13 (s.data.toList.drop p), p, []⟩, s.data.toList.drop (p + (sgn (best 13 (s.data.toList.drop p))).length))) := by
      unfold Hid
      rw [HRT2.out]
      unfold tokenL
      rw [if_pos hb0, hpos, List.drop_drop]
    have hsg := HE.out.sign _ hb13
    have t0 : wc.cell? ⟨bt, 0, none⟩ = some (.int .i64 (best 13 (s.data.toList.drop p) : Nat)) := HC.out.cell 0
    have t1 : wc.cell? ⟨bt, 1, none⟩ = some (.int .i64 (p : Nat)) := HC.out.cell 1
    have t2 : wc.cell? ⟨bt, 2, none⟩ = some (.slice none 0 0) := HC.out.cell 2
    clear HRT2
    generalize best 13 (s.data.toList.drop p) = kd at *
    have hkd : ((kd : Int) == 0) = false := by simp; exact hb0
    have hkd2 : (kd : Int) < 13 := by omega
    generalize sgn kd = sk at *
    have c0 := HS.out.at_.c0
    have c1 := HS.out.at_.c1
    have f1 := HS.out.at_.f1
    have hbb : ¬ bt = b := by omega
    have hbb2 : ¬ b = bt := by omega
    clear hb0 hln hpos
    go_wp2_with fail
    go_region
    obtain ⟨W6, hW6⟩ : ∃ W6, W6 = (wc.setCell ⟨b, 1, none⟩ (.int .i64 ((p : Int) + (sk.length : Nat)))).drew := ⟨_, rfl⟩
    have HS6 : Hid (Stp W b sb s (p + sk.length) W6) := by rw [hW6]; exact (set_step HS.out _ _ (by omega)).drew
    have HQ6 : Hid (Cel W6 W.heap.size 31 zT) := by rw [hW6]; exact Cel.drew (HQ.out.other (by omega) _)
    have HC6 : Hid (Cel W6 bt 31 #[.int .i64 (kd : Nat), .int .i64 (p : Nat), .slice none 0 0]) := by rw [hW6]; exact Cel.drew (HC.out.other (by omega) _)
    rw [← hW6]
    clear hW6 HS HE HQ HC t0 t1 t2 c0 c1 f1 hsg
    have r0 : W6.cell? ⟨bt, 0, none⟩ = some (.int .i64 (kd : Nat)) := HC6.out.cell 0
    have r1 : W6.cell? ⟨bt, 1, none⟩ = some (.int .i64 (p : Nat)) := HC6.out.cell 1
    have r2 : W6.cell? ⟨bt, 2, none⟩ = some (.slice none 0 0) := HC6.out.cell 2
    have z0 : W6.cell? ⟨W.heap.size, 0, none⟩ = some (.int .i64 0) := HQ6.out.cell 0
    have z1 : W6.cell? ⟨W.heap.size, 1, none⟩ = some (.int .i64 0) := HQ6.out.cell 1
    have z2 : W6.cell? ⟨W.heap.size, 2, none⟩ = some (.slice none 0 0) := HQ6.out.cell 2
    have y0 := HQ6.out.frozen 0
    have y1 := HQ6.out.frozen 1
    have y2 := HQ6.out.frozen 2
    go_wp2_with fail
    refine bodyPost_ret (results_tok (p := 2) (u := 3) rfl _ _ W.heap.size _ rfl (HQ6.out.put3 _ _ _) rfl) rfl ?_
    rw [HR.out]
    exact ⟨kd, p, _, _, rfl, rfl, rfl, rfl, PtOwn.nil _ _, p + sk.length, HS6.out.put3 hlb hlsb (Nat.le_refl _) _ _ _, hbl, rfl⟩
end Go.Proofs.YtnlbjgioleoihaaGreatDoor
