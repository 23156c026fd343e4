/- Parts in memory; what stands between double quotes. -/
import Derived.Test.YtnlbjgioleoihaaGreatDoorRd10
import Derived.Test.YtnlbjgioleoihaaGreatDoorPure1
import Derived.Laws.OwnMore
namespace Go.Proofs.YtnlbjgioleoihaaGreatDoor
open Go.RowKit
attribute [local go_sem] Oper.semAt_some

/-! ### parts -/
abbrev ptL (X : List Pt) : List (List Value) := X.map ptC
def ptCs (X : List Pt) : List Value := X.flatMap ptC
theorem ptL_flat (X : List Pt) : (ptL X).flatMap id = ptCs X := by simp [ptL, ptCs, List.flatMap_map]
theorem ptCs_append (X Y : List Pt) : ptCs (X ++ Y) = ptCs X ++ ptCs Y := by simp [ptCs]
theorem ptCs_one (p : Pt) : ptCs [p] = ptC p := by simp [ptCs]
theorem ptCs_length (X : List Pt) : (ptCs X).length = X.length * 5 := by
  induction X with
  | nil => rfl
  | cons x X ih => simp [ptCs] at ih ⊢; omega
theorem ptL_len (X : List Pt) : ∀ cs ∈ ptL X, cs.length = 5 := by
  intro cs hcs
  obtain ⟨p, _, rfl⟩ := List.mem_map.1 hcs
  rfl
theorem ptC_one (X : List Pt) : ∀ u ∈ ptCs X, u.oneCell' = true := by
  intro u hu
  obtain ⟨x, _, hx⟩ := List.mem_flatMap.1 hu
  simp [ptC] at hx
  rcases hx with rfl | rfl | rfl | rfl | rfl <;> rfl
/-- Parts in memory, to be read. -/
def PtAt (W : World) (v : Value) (X : List Pt) : Prop := RowAt W v 5 (ptL X)
/-- Parts of one's own. -/
def PtOwn (W : World) (B : Nat) (v : Value) (X : List Pt) : Prop := W.ownsRow B 36 5 v X.length (ptCs X)
theorem PtOwn.at {W : World} {B : Nat} {v : Value} {X : List Pt} (h : PtOwn W B v X) : PtAt W v X :=
  RowAt.owned (e := 36) (B := B) (by rw [ptL_flat, List.length_map]; exact h) (ptL_len X)
theorem PtOwn.nil (W : World) (B : Nat) : PtOwn W B (.slice none 0 0) [] := World.ownsRow_nil W B _ _
theorem PtOwn.turn {W W' : World} {B : Nat} {v : Value} {X : List Pt} {S : Nat → Prop} (h : PtOwn W B v X) (hT : Turn S W W') (hS : ∀ i, S i → i < B) : PtOwn W' B v X := by
  refine owns_turn h hT fun g hg hs => ?_
  have := (World.ownsRow.lt h g hg).1
  have := hS g hs
  omega
theorem PtOwn.below {W W' : World} {B : Nat} {v : Value} {X : List Pt} (h : PtOwn W B v X) (hb : Below W.heap.size W W') : PtOwn W' B v X := h.turn (Turn.ofBelow (S := fun _ => False) hb) (fun _ e => e.elim)
theorem PtOwn.lower {W : World} {B B' : Nat} {v : Value} {X : List Pt} (h : PtOwn W B v X) (hB : B' ≤ B) : PtOwn W B' v X := owns_lower h hB
theorem PtOwn.form {W : World} {B : Nat} {v : Value} {X : List Pt} (h : PtOwn W B v X) : ∃ ad cap, v = .slice ad X.length cap := owns_slice h
/-- One part, laid anew. -/
theorem PtOwn.one (W : World) (B : Nat) (p : Pt) (hB : B ≤ W.heap.size) : PtOwn (W.alloc (.cells (ptC p).toArray 36)) B (.slice (some ⟨W.heap.size, 0, none⟩) 1 1) [p] := by
  have := World.ownsRow_lit (base := B) (e := 36) (size := 5) W (ptC p).toArray 1 hB (by decide) rfl
  unfold PtOwn
  rw [ptCs_one]
  exact this
theorem Turn.above {B : Nat} {w w' : World} (h : Below B w w') : Turn (fun i => B ≤ i) w w' := ⟨h.os, h.tape, h.output, h.size, fun i _ hs => h.block i (by omega)⟩
theorem Env.under {w w' : World} {ea : Nat → Addr} {B : Nat} (h : Env w ea) (hb : Below B w w') (hB : (ea 64).block ≤ B) : Env w' ea := h.turn (Turn.above hb) (fun i e => by omega)
theorem cells_new2 (w : World) (o : Obj) (cs : List Value) (t : TypeId) : ∀ j u, cs[j]? = some u → ((w.alloc o).alloc (.cells cs.toArray t)).cell? ((⟨w.heap.size + 1, 0, none⟩ : Addr).add j) = some u := by
  have := cells_new (w.alloc o) cs t
  rw [show (w.alloc o).heap.size = w.heap.size + 1 by simp] at this
  exact this
theorem infoP : (Tryz.prog.info? 36).map (fun i => (i.zero, i.size, i.bytes)) = some (some (.agg zC), 5, 48) := by kernel_rfl
/-- Parts, or an error; where the reader stands behind them. -/
def PartsV (W : World) (b sb : Nat) (s : ByteArray) (ea : Nat → Addr) (R : Except Er (List Pt × List UInt8)) (v ev : Value) (w' : World) : Prop := match R with
  | .ok q => ev = .nilIface ∧ PtOwn w' W.heap.size v q.1 ∧ ∃ j, Stp W b sb s j w' ∧ j ≤ s.size ∧ q.2 = s.data.toList.drop j
  | .error x => v = .slice none 0 0 ∧ AtEr w' ea ev x ∧ ∃ j, Stp W b sb s j w'
/-- Parts ahead of others. -/
def preR (acc : List Pt) (R : Except Er (List Pt × List UInt8)) : Except Er (List Pt × List UInt8) := match R with
  | .error e => .error e
  | .ok q => .ok (acc ++ q.1, q.2)
theorem preR_pre (a b : List Pt) (R : Except Er (List Pt × List UInt8)) : preR a (preR b R) = preR (a ++ b) R := by
  cases R with
  | error e => rfl
  | ok q => simp [preR]
/-- What a double quote begins. -/
def dblR (N at_ : Nat) (t : List UInt8) : Except Er (List Pt × List UInt8) := preR [⟨2, at_, 0, false, (dead t.length t).1⟩] (dbl N at_ (t.length + 1) (dead t.length t).2)
theorem dbl_nil (N a f : Nat) : dbl N a f [] = .error ⟨2, a⟩ := by cases f <;> rfl
theorem dbl_quote (N a f : Nat) (t : List UInt8) : dbl N a (f + 1) (34 :: t) = .ok ([], t) := rfl
theorem dbl_err (N a f : Nat) (c : UInt8) (t : List UInt8) (hc : c ≠ 34) (e : Er) (h : quoted N (c :: t) = .error e) : dbl N a (f + 1) (c :: t) = .error e := by
  rw [dbl, if_neg hc, h]
theorem dbl_ok (N a f : Nat) (c : UInt8) (t : List UInt8) (hc : c ≠ 34) (p : Pt) (u : List UInt8) (h : quoted N (c :: t) = .ok (p, u)) : dbl N a (f + 1) (c :: t) = preR [p] (dbl N a f u) := by
  rw [dbl, if_neg hc, h]
  simp only
  cases dbl N a f u <;> rfl
theorem j_of_len {s : ByteArray} {p j : Nat} {u : List UInt8} (hp : p < s.size) (hj : j ≤ s.size) (hu : u = s.data.toList.drop j) (h : u.length < (s.data.toList.drop p).length) : p < j := by
  rw [hu, len_drop, len_drop] at h
  omega
set_option maxRecDepth 100000 in
set_option maxHeartbeats 4000000 in
theorem double_any {W : World} {b sb k : Nat} {s : ByteArray} {ea : Nat → Addr} (h : Rd W b sb s k) (hE : Env W ea) (hs : s.size < 1099511627776) (hk : k < s.size) (hb64 : (ea 64).block ≤ b) :
    Calls Tryz.prog 44 #[.pointer (some ⟨b, 0, none⟩)] W fun e w' => ∃ v ev, e = .returned (.tuple #[v, ev]) ∧ PartsV W b sb s ea (dblR s.size k (s.data.toList.drop (k + 1))) v ev w' := by
  have hlb := h.rd.lt
  have hlsb := h.src.lt
  have cW := h.c1
  have fW := h.f1
  obtain ⟨i0, hi, hz0, hz1, hz2⟩ := info_parts infoP
  obtain ⟨W1, hW1⟩ : ∃ W1, W1 = W.setCell ⟨b, 1, none⟩ (.int .i64 ((k : Int) + 1)) := ⟨_, rfl⟩
  have HS1 : Hid (Stp W b sb s (k + 1) W1) := by rw [hW1]; exact set_step (Stp.refl h) _ _ (by omega)
  have HE1 : Hid (Env W1 ea) := by rw [hW1]; exact hE.set hb64 _ _
  have HW1 : Hid (W.setCell ⟨b, 1, none⟩ (.int .i64 ((k : Int) + 1)) = W1) := hW1.symm
  have HDE : Hid _ := dead_any (f := (s.data.toList.drop (k + 1)).length) HS1.out.at_ hs (by omega) (by rw [len_drop]; omega)
  obtain ⟨R, HR⟩ : ∃ R, Hid (dblR s.size k (s.data.toList.drop (k + 1)) = R) := ⟨_, rfl⟩
  have HR2 : Hid (R = preR [⟨2, k, 0, false, (dead (s.data.toList.drop (k + 1)).length (s.data.toList.drop (k + 1))).1⟩] (dbl s.size k ((s.data.toList.drop (k + 1)).length + 1) (dead (s.data.toList.drop (k + 1)).length (s.data.toList.drop (k + 1))).2)) := HR.out.symm
  have hdl := dead_le (s.data.toList.drop (k + 1)).length (s.data.toList.drop (k + 1))
  rw [HR.out]
  clear h hE hW1 HR
  have htn := len_drop s (k + 1)
  generalize dead (s.data.toList.drop (k + 1)).length (s.data.toList.drop (k + 1)) = D at *
  obtain ⟨tx, u⟩ := D
  simp only at HDE HR2 hdl
  generalize (s.data.toList.drop (k + 1)).length = tn at *
  go_enter Tryz.func44, Tryz.ntmps44
  go_wp2_with fail
  rw [HW1.out]
  refine Calls.mono HDE.out ?_
  rintro e w2 ⟨rfl, j2, hst2, hj1, hj2, hj3⟩
  have HS2 : Hid (Stp W b sb s j2 w2) := HS1.out.trans hst2
  have HE2 : Hid (Env w2 ea) := HE1.out.stp hst2 hb64
  have HJ3 : Hid (u = s.data.toList.drop j2) := hj3
  clear HDE hst2 hj3 HW1 HS1 HE1 cW fW
  go_wp2_with fail
  obtain ⟨W3, hW3⟩ : ∃ W3, W3 = w2.alloc (.cells (ptC ⟨2, k, 0, false, tx⟩).toArray 36) := ⟨_, rfl⟩
  have HP3 : Hid (PtOwn W3 W.heap.size (.slice (some ⟨w2.heap.size, 0, none⟩) 1 1) [⟨2, k, 0, false, tx⟩]) := by rw [hW3]; exact PtOwn.one w2 _ _ HS2.out.turn.size
  have HS3 : Hid (Stp W b sb s j2 W3) := by rw [hW3]; exact HS2.out.alloc _
  have HE3 : Hid (Env W3 ea) := by rw [hW3]; exact HE2.out.below (below_new _ _)
  have HW3 : Hid (w2.alloc (.cells #[.int .i64 2, .int .i64 (k : Nat), .int .i64 0, .bool false, str tx] 36) = W3) := hW3.symm
  rw [HW3.out]
  generalize w2.heap.size = q2 at *
  clear hW3 HW3 HS2 HE2
  go_loopw [2, 3, 5] (fun v2 v3 v5 wr => ∃ (p g : Nat) (acc : List Pt), v2 = .slice none 0 0 ∧ v3 = .nilIface ∧ k < p ∧ p ≤ s.size ∧ s.size - p < g ∧ acc.length ≤ p ∧ Hid (PtOwn wr W.heap.size v5 acc) ∧ Hid (R = preR acc (dbl s.size k g (s.data.toList.drop p))) ∧ Hid (Stp W b sb s p wr) ∧ Hid (Env wr ea)) (fun _ _ _ wr => s.size + 2 - posOf wr b)
  case atStart => exact ⟨j2, tn + 1, [⟨2, k, 0, false, tx⟩], rfl, rfl, by omega, hj2, by omega, by simp; omega, HP3.out, by unfold Hid; rw [HR2.out, HJ3.out], HS3.out, HE3.out⟩
  case round =>
    obtain ⟨p, g, acc, rfl, rfl, hkp, hp, hg, hacc, HO, HEQ, HS, HE⟩ := hrel
    obtain ⟨ad, cap, rfl⟩ := HO.out.form
    clear HP3 HS3 HE3 HR2 HJ3
    have HPO : Hid (posOf wr b = p) := HS.out.at_.pos
    have c0 := HS.out.at_.c0
    have c1 := HS.out.at_.c1
    have HH : Hid (∀ m, Calls Tryz.prog 29 #[.pointer (some ⟨sb, 0, none⟩), .int .i64 (p : Nat), .string ⟨#[34]⟩] (wr.drewN m) fun e w' => e = .returned (.bool (s.data.toList[p]? == some 34)) ∧ w' = wr.drewN m) := fun m => hasb_any sb s 34 p (wr.drewN m) HS.out.at_.t0
    obtain ⟨g', rfl⟩ : ∃ g', g = g' + 1 := ⟨g - 1, by omega⟩
    cases hbr : (s.data.toList[p]? == some 34) with
    | true =>
      rw [hbr] at HH
      have hp2 : s.data.toList[p]? = some 34 := by simpa using hbr
      have hlt : p < s.size := by simpa using (List.getElem?_eq_some_iff.1 hp2).1
      have hsp : s[p] = 34 := by rw [text_at s p hlt] at hp2; exact Option.some.inj hp2
      have HRR : Hid (R = .ok (acc, s.data.toList.drop (p + 1))) := by
        unfold Hid
        rw [HEQ.out, drop_cons s p hlt, hsp, dbl_quote]
        simp [preR]
      clear hbr hp2 hsp HEQ
      go_wp2_with fail
      go_quiet (first | (go_at_call 29; exact Calls.quiet_of_same (HH.out _)))
      obtain ⟨W4, hW4⟩ : ∃ W4, W4 = wr.drewN nq := ⟨_, rfl⟩
      have HS4 : Hid (Stp W b sb s p W4) := by rw [hW4]; exact HS.out.drewN nq
      have HO4 : Hid (PtOwn W4 W.heap.size (.slice ad acc.length cap) acc) := by rw [hW4]; exact HO.out
      have d1 := HS4.out.at_.c1
      have e1 := HS4.out.at_.f1
      rw [← hW4]
      clear hW4 c0 c1 HH HS HO HE HPO
      go_wp2_with fail
      go_ret2
      have HS5 := set_step HS4.out ((p : Int) + 1) (p + 1) (by omega)
      rw [HRR.out]
      exact ⟨_, _, rfl, rfl, HO4.out.turn (S := fun i => i = b) (Turn.setCell (S := fun i => i = b) (p := ⟨b, 1, none⟩) (Turn.refl _ W4) (fun _ => rfl) _) (fun i e => by omega), p + 1, HS5, hlt, rfl⟩
    | false =>
      rw [hbr] at HH
      have HEN : Hid (∀ m, Calls Tryz.prog 30 #[.pointer (some ⟨b, 0, none⟩)] (wr.drewN m) fun e w' => e = .returned (.bool (decide (s.size ≤ p))) ∧ ∃ n, w' = (wr.drewN m).drewN n) := fun m => ended_any (HS.out.drewN m).at_
      by_cases hle : s.size ≤ p
      · have HRR : Hid (R = .error ⟨2, k⟩) := by unfold Hid; rw [HEQ.out, drop_none s p (by omega), dbl_nil]; rfl
        rw [decide_eq_true hle] at HEN
        clear hbr HEQ hle
        go_wp2_with fail
        go_quiet (first | (go_at_call 29; exact Calls.quiet_of_same (HH.out _)))
        go_wp2_with fail
        refine Calls.mono (HEN.out _) ?_
        rintro e w4 ⟨rfl, n1, hw4⟩
        rw [World.drewN_drewN] at hw4
        have HS4 : Hid (Stp W b sb s p w4) := by rw [hw4]; exact HS.out.drewN _
        have g0 := (show Env w4 ea by rw [hw4]; exact HE.out.drewN _).cell 3 (by omega) (by omega)
        clear hw4 c0 c1 HH HS HE HO HPO HEN
        go_wp2_with fail
        refine (fails_any k _ w4).mono ?_
        rintro e w5 ⟨rfl, hq, hb2⟩
        have HX : Hid (AtEr w5 ea (.iface 79 (.pointer (some ⟨w4.heap.size, 0, none⟩))) ⟨2, k⟩) := ⟨_, rfl, hq⟩
        have HS5 : Hid (Stp W b sb s p w5) := HS4.out.below hb2
        clear hq hb2 HS4
        go_wp2_with fail
        go_ret2
        rw [HRR.out]
        exact ⟨_, _, rfl, rfl, HX.out, p, HS5.out⟩
      · have hlt : p < s.size := by omega
        have hne : s[p] ≠ 34 := by
          intro e
          rw [text_at s p hlt, e] at hbr
          simp at hbr
        have HC : Hid _ := drop_cons s p hlt
        rw [decide_eq_false hle] at HEN
        clear hbr hle
        have HQT : Hid (∀ w, Rd w b sb s p → Env w ea → Calls Tryz.prog 57 #[.pointer (some ⟨b, 0, none⟩)] w fun e w' => ∃ p' ev, e = .returned (.tuple #[.agg (ptC p').toArray, ev]) ∧ PartV w b sb s ea (quoted s.size (s.data.toList.drop p)) p' ev w') := fun w h1 h2 => quoted_any h1 h2 hs hp hb64
        cases hqt : quoted s.size (s.data.toList.drop p) with
        | error x =>
          have HRR : Hid (R = .error x) := by
            unfold Hid
            rw [HC.out] at hqt
            rw [HEQ.out, HC.out, dbl_err _ _ _ _ _ hne x hqt]
            rfl
          rw [hqt] at HQT
          clear HEQ hqt HC hne
          go_wp2_with fail
          go_quiet (first | (go_at_call 29; exact Calls.quiet_of_same (HH.out _)))
          go_wp2_with fail
          refine Calls.mono (HEN.out _) ?_
          rintro e w4 ⟨rfl, n1, hw4⟩
          rw [World.drewN_drewN] at hw4
          have HS4 : Hid (Stp W b sb s p w4) := by rw [hw4]; exact HS.out.drewN _
          have hE4 : Env w4 ea := by rw [hw4]; exact HE.out.drewN _
          have HQ4 : Hid _ := HQT.out w4 HS4.out.at_ hE4
          clear hw4 hE4 c0 c1 HH HS HE HO HPO HEN HQT
          go_wp2_with fail
          refine Calls.mono HQ4.out ?_
          rintro e w5 ⟨⟨kd, ps, n, q, sx⟩, ev, rfl, ⟨q5, rfl, hx⟩, j5, hst5⟩
          have HX : Hid (AtEr w5 ea (.iface 79 (.pointer (some ⟨q5, 0, none⟩))) x) := ⟨q5, rfl, hx⟩
          have HS5 : Hid (Stp W b sb s j5 w5) := HS4.out.trans hst5
          clear hx hst5 HQ4 HS4
          go_wp2_with fail
          go_ret2
          rw [HRR.out]
          exact ⟨_, _, rfl, rfl, HX.out.below (below_new _ _), j5, HS5.out.below (below_new _ _)⟩
        | ok r =>
          obtain ⟨pt, u5⟩ := r
          have hq0 := hqt
          rw [HC.out] at hq0
          have hq1 := quoted_ok hne hq0
          clear hq0
          have HRR : Hid (R = preR (acc ++ [pt]) (dbl s.size k g' u5)) := by
            unfold Hid
            rw [HC.out] at hqt
            rw [HEQ.out, HC.out, dbl_ok _ _ _ _ _ hne pt u5 hqt, preR_pre]
          have hlen5 : u5.length < (s.data.toList.drop p).length := by rw [HC.out]; exact hq1.2
          rw [hqt] at HQT
          clear HEQ hqt HC hne hq1
          go_wp2_with fail
          go_quiet (first | (go_at_call 29; exact Calls.quiet_of_same (HH.out _)))
          go_wp2_with fail
          refine Calls.mono (HEN.out _) ?_
          rintro e w4 ⟨rfl, n1, hw4⟩
          rw [World.drewN_drewN] at hw4
          have HS4 : Hid (Stp W b sb s p w4) := by rw [hw4]; exact HS.out.drewN _
          have HE4 : Hid (Env w4 ea) := by rw [hw4]; exact HE.out.drewN _
          have HO4 : Hid (PtOwn w4 W.heap.size (.slice ad acc.length cap) acc) := by rw [hw4]; exact HO.out
          have HQ4 : Hid _ := HQT.out w4 HS4.out.at_ HE4.out
          clear hw4 c0 c1 HH HS HE HO HEN HQT
          go_wp2_with fail
          refine Calls.mono HQ4.out ?_
          rintro e w5 ⟨⟨kd, ps, n, q, sx⟩, ev, rfl, rfl, rfl, j5, hst5, hj5, hu5⟩
          have hpj := j_of_len hlt hj5 hu5 hlen5
          have HS5 : Hid (Stp W b sb s j5 w5) := HS4.out.trans hst5
          have HE5 : Hid (Env w5 ea) := HE4.out.stp hst5 hb64
          have HO5 : Hid (PtOwn w5 W.heap.size (.slice ad acc.length cap) acc) := HO4.out.turn hst5.turn (fun i e => by omega)
          have HU5 : Hid (u5 = s.data.toList.drop j5) := hu5
          clear hst5 HQ4 HS4 HE4 HO4 hu5 hlen5
          go_wp2_with (at_builtin; refine wpList_append_own_at _ rfl _ _ 29 rfl W.heap.size 36 i0 _ 5 48 Tryz.underlying29 hi hz0 hz1 hz2 rfl (by decide) _ _ _ rfl (World.ownsRow.alloc (World.ownsRow.alloc HO5.out _) _) ⟨w5.heap.size + 1, 0, none⟩ 1 1 (ptC (⟨kd, ps, n, q, sx⟩ : Pt)) rfl rfl (cells_new2 _ _ _ _) (by simp [Value.oneCell']) (by have := maxLen_big; omega) (by omega) (by simp; have := HS5.out.turn.size; omega) ?_; intro v6 w6 hown hgrow _ _)
          have hbel : Below W.heap.size w5 w6 := grown_own (by simp; have := HS5.out.turn.size; omega) (((Below.refl _ w5).alloc HS5.out.turn.size _).alloc (by simp; have := HS5.out.turn.size; omega) _) (World.ownsRow.alloc (World.ownsRow.alloc HO5.out _) _) hgrow
          have HO6 : Hid (PtOwn w6 W.heap.size v6 (acc ++ [(⟨kd, ps, n, q, sx⟩ : Pt)])) := by
            unfold Hid PtOwn
            rw [ptCs_append, ptCs_one, List.length_append]
            exact hown
          have HS6 : Hid (Stp W b sb s j5 w6) := HS5.out.under hlb hlsb hbel
          have HE6 : Hid (Env w6 ea) := HE5.out.under hbel (by omega)
          clear hown hgrow hbel HS5 HE5 HO5
          obtain ⟨ad6, cap6, rfl⟩ := HO6.out.form
          go_wp2_with fail
          refine ⟨⟨j5, g', acc ++ [(⟨kd, ps, n, q, sx⟩ : Pt)], rfl, rfl, by omega, hj5, by omega, by rw [List.length_append]; simp; omega, HO6.out, by unfold Hid; rw [HRR.out, HU5.out], HS6.out, HE6.out⟩, ?_⟩
          rw [HS6.out.at_.pos, HPO.out]
          omega
end Go.Proofs.YtnlbjgioleoihaaGreatDoor
