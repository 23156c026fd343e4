/- What stands between single quotes; the parts that begin with a byte. -/
import Derived.Test.YtnlbjgioleoihaaGreatDoorRd13
namespace Go.Proofs.YtnlbjgioleoihaaGreatDoor
open Go.RowKit
attribute [local go_sem] Oper.semAt_some

theorem PtOwn.drew {W : World} {B : Nat} {v : Value} {X : List Pt} (h : PtOwn W B v X) : PtOwn W.drew B v X := h
def sngR (at_ : Nat) (t : List UInt8) : Except Er (List Pt × List UInt8) := match pSing t with
  | none => .error ⟨2, at_⟩
  | some u => .ok ([⟨2, at_, 0, false, t.take (t.length - u.length - 1)⟩], u)
set_option maxRecDepth 100000 in
set_option maxHeartbeats 2000000 in
theorem single_any {W : World} {b sb k : Nat} {s : ByteArray} {ea : Nat → Addr} (h : Rd W b sb s k) (hE : Env W ea) (hs : s.size < 1099511627776) (hk : k < s.size) (hb64 : (ea 64).block ≤ b) :
    Calls Tryz.prog 43 #[.pointer (some ⟨b, 0, none⟩)] W fun e w' => ∃ v ev, e = .returned (.tuple #[v, ev]) ∧ PartsV W b sb s ea (sngR k (s.data.toList.drop (k + 1))) v ev w' := by
  have hlb := h.rd.lt
  have hlsb := h.src.lt
  have cW := h.c1
  have fW := h.f1
  obtain ⟨W1, hW1⟩ : ∃ W1, W1 = W.setCell ⟨b, 1, none⟩ (.int .i64 ((k : Int) + 1)) := ⟨_, rfl⟩
  have HS1 : Hid (Stp W b sb s (k + 1) W1) := by rw [hW1]; exact set_step (Stp.refl h) _ _ (by omega)
  have HE1 : Hid (Env W1 ea) := by rw [hW1]; exact hE.set hb64 _ _
  have HW1 : Hid (W.setCell ⟨b, 1, none⟩ (.int .i64 ((k : Int) + 1)) = W1) := hW1.symm
  have HN : Hid _ := passSingle_any HS1.out.at_ (by omega) (by omega)
  clear h hE hW1
  cases hN : pSing (s.data.toList.drop (k + 1)) with
  | none =>
    have HR : Hid (sngR k (s.data.toList.drop (k + 1)) = .error ⟨2, k⟩) := by unfold Hid sngR; rw [hN]
    rw [HR.out]
    rw [hN] at HN
    clear hN HR
    go_enter Tryz.func43, Tryz.ntmps43
    go_wp2_with fail
    rw [HW1.out]
    refine Calls.mono HN.out ?_
    rintro e w2 ⟨rfl, jj, hS2, hj1, hj2, hL⟩
    have HS2 : Hid (Stp W b sb s jj w2) := HS1.out.trans hS2
    have g0 := (HE1.out.stp hS2 hb64).cell 3 (by omega) (by omega)
    clear hS2 hL HN HW1 HE1 HS1
    go_wp2_with fail
    refine (fails_any k _ w2).mono ?_
    rintro e w3 ⟨rfl, hq, hb2⟩
    have HX : Hid (AtEr w3 ea (.iface 79 (.pointer (some ⟨w2.heap.size, 0, none⟩))) ⟨2, k⟩) := ⟨_, rfl, hq⟩
    have HS3 : Hid (Stp W b sb s jj w3) := HS2.out.below hb2
    clear hq hb2 HS2
    go_wp2_with fail
    go_ret2
    exact ⟨_, _, rfl, rfl, HX.out, jj, HS3.out⟩
  | some u =>
    have HR : Hid (sngR k (s.data.toList.drop (k + 1)) = .ok ([⟨2, k, 0, false, (s.data.toList.drop (k + 1)).take ((s.data.toList.drop (k + 1)).length - u.length - 1)⟩], u)) := by unfold Hid sngR; rw [hN]
    rw [HR.out]
    rw [hN] at HN
    clear hN HR
    go_enter Tryz.func43, Tryz.ntmps43
    go_wp2_with fail
    rw [HW1.out]
    refine Calls.mono HN.out ?_
    rintro e w2 ⟨rfl, jj, hS2, hj1, hj2, hL⟩
    obtain ⟨rfl, hj3⟩ := hL u rfl
    have HS2 : Hid (Stp W b sb s jj w2) := HS1.out.trans hS2
    have HCE : Hid _ := cut_eq s (k + 1) jj hj1 hj3
    have c0 := HS2.out.at_.c0
    have c1 := HS2.out.at_.c1
    have t0 := HS2.out.at_.t0
    have hwr : IntKind.i64.wrap ((jj : Int) - 1) = (jj : Int) - 1 := by rw [IntKind.wrap_i64]; omega
    have hwr2 : IntKind.i64.wrap ((k : Int) + 1) = (k : Int) + 1 := by rw [IntKind.wrap_i64]; omega
    have HSL : Hid (∀ w, (w.cell? ⟨b, 0, none⟩ = some (.pointer (some ⟨sb, 0, none⟩)) ∧ w.cell? ⟨b, 1, none⟩ = some (.int .i64 (jj : Nat)) ∧ w.cell? ⟨sb, 0, none⟩ = some (.string s)) → Calls Tryz.prog 54 #[.pointer (some ⟨sb, 0, none⟩), .int .i64 ((k : Int) + 1), .int .i64 ((jj : Int) - 1)] w fun e w' => e = .returned (.string (s.extract (k + 1) (jj - 1))) ∧ w' = w) := fun w hw => by
      have := slice_any sb s (k + 1) (jj - 1) w hw.2.2 (by omega) (by omega)
      rw [show ((jj - 1 : Nat) : Int) = (jj : Int) - 1 by omega] at this
      exact this
    clear hS2 hL HN HW1 HE1 HS1
    go_wp2_with fail
    go_region_held3 (fun w' => w'.cell? ⟨b, 0, none⟩ = some (.pointer (some ⟨sb, 0, none⟩)) ∧ w'.cell? ⟨b, 1, none⟩ = some (.int .i64 (jj : Nat)) ∧ w'.cell? ⟨sb, 0, none⟩ = some (.string s)) (go_keep) (first | (go_at_call 54; refine Calls.mono (HSL.out _ (by assumption)) ?_; rintro e w3 ⟨rfl, rfl⟩))
    rw [HCE.out]
    obtain ⟨tx, HTX⟩ : ∃ tx, Hid ((s.data.toList.drop (k + 1)).take ((s.data.toList.drop (k + 1)).length - (s.data.toList.drop jj).length - 1) = tx) := ⟨_, rfl⟩
    rw [HTX.out]
    clear c0 c1 t0 HSL
    go_wp2_with fail
    go_ret2
    rw [HTX.out]
    exact ⟨_, _, rfl, rfl, PtOwn.drew (PtOwn.one w2 W.heap.size ⟨2, k, 0, false, tx⟩ HS2.out.turn.size), jj, (HS2.out.alloc _).drew, hj3, rfl⟩
/-- Parts, or an error with whatever list; where the reader stands behind them. -/
def PartsE (W : World) (b sb : Nat) (s : ByteArray) (ea : Nat → Addr) (R : Except Er (List Pt × List UInt8)) (v ev : Value) (w' : World) : Prop := match R with
  | .ok q => ev = .nilIface ∧ PtOwn w' W.heap.size v q.1 ∧ ∃ j, Stp W b sb s j w' ∧ j ≤ s.size ∧ q.2 = s.data.toList.drop j
  | .error x => (∃ ad n cap, v = .slice ad n cap) ∧ AtEr w' ea ev x ∧ ∃ j, Stp W b sb s j w'
theorem PartsV.weak {W w' : World} {b sb : Nat} {s : ByteArray} {ea : Nat → Addr} {R : Except Er (List Pt × List UInt8)} {v ev : Value} (h : PartsV W b sb s ea R v ev w') : PartsE W b sb s ea R v ev w' := by
  cases R with
  | ok q => exact h
  | error x => exact ⟨⟨none, 0, 0, h.1⟩, h.2⟩
theorem PartsE.form {W w' : World} {b sb : Nat} {s : ByteArray} {ea : Nat → Addr} {R : Except Er (List Pt × List UInt8)} {v ev : Value} (h : PartsE W b sb s ea R v ev w') : ∃ ad n cap, v = .slice ad n cap := by
  cases R with
  | ok q =>
    obtain ⟨ad, cap, hv⟩ := h.2.1.form
    exact ⟨ad, _, cap, hv⟩
  | error x => exact h.1
/-- One part as parts. -/
def oneR (R : Except Er (Pt × List UInt8)) : Except Er (List Pt × List UInt8) := match R with
  | .error e => .error e
  | .ok q => .ok ([q.1], q.2)
theorem parts_eq (s : ByteArray) (k : Nat) (h : k < s.size) : parts s.size s[k] (s.data.toList.drop (k + 1)) = (if s[k] = 92 then .ok ([⟨2, k, 0, false, escT (s.data.toList.drop (k + 1))⟩], (s.data.toList.drop (k + 1)).tail) else if s[k] = 39 then sngR k (s.data.toList.drop (k + 1)) else if s[k] = 34 then dblR s.size k (s.data.toList.drop (k + 1))
    else if dolB (s.data.toList.drop k) = true then oneR (dollar s.size (s.data.toList.drop k)) else .ok ([⟨1, k, 0, false, liv (s.data.toList.drop k)⟩], (s.data.toList.drop k).drop (liv (s.data.toList.drop k)).length)) := by
  have el : s.size - ((s.data.toList.drop (k + 1)).length + 1) = k := by rw [len_drop]; omega
  have e0 := drop_cons s k h
  unfold parts
  rw [el, ← e0]
  congr 1
  congr 1
  congr 1
  · unfold dblR preR
    cases dbl s.size k ((s.data.toList.drop (k + 1)).length + 1) (dead (s.data.toList.drop (k + 1)).length (s.data.toList.drop (k + 1))).2 <;> rfl
  · congr 1
    unfold oneR
    cases dollar s.size (s.data.toList.drop k) <;> rfl
set_option maxRecDepth 100000 in
set_option maxHeartbeats 2000000 in
theorem parts_esc {W : World} {b sb k : Nat} {s : ByteArray} {ea : Nat → Addr} (h : Rd W b sb s k) (hs : s.size < 1099511627776) (hk : k < s.size) (h92 : s[k] = 92) :
    Calls Tryz.prog 32 #[.pointer (some ⟨b, 0, none⟩), .int .u8 92] W fun e w' => ∃ v ev, e = .returned (.tuple #[v, ev]) ∧ PartsE W b sb s ea (.ok ([⟨2, k, 0, false, escT (s.data.toList.drop (k + 1))⟩], (s.data.toList.drop (k + 1)).tail)) v ev w' := by
  have HV : Hid (Calls Tryz.prog 42 #[.pointer (some ⟨b, 0, none⟩)] W fun e w' => e = .returned (.agg #[.int .i64 2, .int .i64 (k : Nat), .int .i64 0, .bool false, str (escT (s.data.toList.drop (k + 1)))]) ∧ ∃ j, Stp W b sb s j w' ∧ j ≤ s.size ∧ (s.data.toList.drop (k + 1)).tail = s.data.toList.drop j) := by
    by_cases h2 : k + 1 < s.size
    · refine (escaped_two h hs hk h2).mono ?_
      rintro e w' ⟨rfl, hS⟩
      rw [one_eq s (k + 1) h2, tail_drop, drop_cons s (k + 1) h2]
      exact ⟨rfl, k + 2, hS, by omega, rfl⟩
    · refine (escaped_end h hs hk h2).mono ?_
      rintro e w' ⟨rfl, hS⟩
      rw [one_eq s k hk, tail_drop, drop_none s (k + 1) h2, h92]
      exact ⟨rfl, k + 1, hS, by omega, by rw [drop_none s (k + 1) h2, drop_none s (k + 1 + 1) (by omega)]⟩
  clear h92
  generalize escT (s.data.toList.drop (k + 1)) = tx at HV ⊢
  go_enter Tryz.func32, Tryz.ntmps32
  go_wp2_with fail
  refine Calls.mono HV.out ?_
  rintro e w1 ⟨rfl, j, hS1, hj1, hj2⟩
  have HS1 : Hid (Stp W b sb s j w1) := hS1
  have HJ2 : Hid ((s.data.toList.drop (k + 1)).tail = s.data.toList.drop j) := hj2
  clear hS1 hj2 HV h
  go_wp2_with fail
  go_ret2
  exact ⟨_, _, rfl, rfl, PtOwn.one w1 W.heap.size ⟨2, k, 0, false, tx⟩ HS1.out.turn.size, j, HS1.out.alloc _, hj1, HJ2.out⟩
set_option maxRecDepth 100000 in
set_option maxHeartbeats 2000000 in
theorem parts_sng {W : World} {b sb k : Nat} {s : ByteArray} {ea : Nat → Addr} (h : Rd W b sb s k) (hE : Env W ea) (hs : s.size < 1099511627776) (hk : k < s.size) (hb64 : (ea 64).block ≤ b) :
    Calls Tryz.prog 32 #[.pointer (some ⟨b, 0, none⟩), .int .u8 39] W fun e w' => ∃ v ev, e = .returned (.tuple #[v, ev]) ∧ PartsE W b sb s ea (sngR k (s.data.toList.drop (k + 1))) v ev w' := by
  have HV : Hid _ := single_any h hE hs hk hb64
  clear h hE
  generalize sngR k (s.data.toList.drop (k + 1)) = R at HV ⊢
  go_enter Tryz.func32, Tryz.ntmps32
  go_wp2_with fail
  refine Calls.mono HV.out ?_
  rintro e w1 ⟨v, ev, rfl, hv⟩
  have HV1 : Hid (PartsE W b sb s ea R v ev w1) := hv.weak
  clear HV hv
  go_wp2_with fail
  go_ret2
  exact ⟨_, _, rfl, HV1.out⟩
set_option maxRecDepth 100000 in
set_option maxHeartbeats 2000000 in
theorem parts_dbl {W : World} {b sb k : Nat} {s : ByteArray} {ea : Nat → Addr} (h : Rd W b sb s k) (hE : Env W ea) (hs : s.size < 1099511627776) (hk : k < s.size) (hb64 : (ea 64).block ≤ b) :
    Calls Tryz.prog 32 #[.pointer (some ⟨b, 0, none⟩), .int .u8 34] W fun e w' => ∃ v ev, e = .returned (.tuple #[v, ev]) ∧ PartsE W b sb s ea (dblR s.size k (s.data.toList.drop (k + 1))) v ev w' := by
  have HV : Hid _ := double_any h hE hs hk hb64
  clear h hE
  generalize dblR s.size k (s.data.toList.drop (k + 1)) = R at HV ⊢
  go_enter Tryz.func32, Tryz.ntmps32
  go_wp2_with fail
  refine Calls.mono HV.out ?_
  rintro e w1 ⟨v, ev, rfl, hv⟩
  have HV1 : Hid (PartsE W b sb s ea R v ev w1) := hv.weak
  clear HV hv
  go_wp2_with fail
  go_ret2
  exact ⟨_, _, rfl, HV1.out⟩
set_option maxRecDepth 100000 in
set_option maxHeartbeats 2000000 in
theorem parts_dol {W : World} {b sb k : Nat} {s : ByteArray} {ea : Nat → Addr} (h : Rd W b sb s k) (hE : Env W ea) (hs : s.size < 1099511627776) (hb64 : (ea 64).block ≤ b) (c : UInt8) (h92 : c ≠ 92) (h39 : c ≠ 39) (h34 : c ≠ 34) (hd : dolB (s.data.toList.drop k) = true) (hk : k < s.size) :
    Calls Tryz.prog 32 #[.pointer (some ⟨b, 0, none⟩), .int .u8 (c.toNat : Nat)] W fun e w' => ∃ v ev, e = .returned (.tuple #[v, ev]) ∧ PartsE W b sb s ea (oneR (dollar s.size (s.data.toList.drop k))) v ev w' := by
  have n92 : ((c.toNat : Int) == 92) = false := byte_ne c 92 h92
  have n39 : ((c.toNat : Int) == 39) = false := byte_ne c 39 h39
  have n34 : ((c.toNat : Int) == 34) = false := byte_ne c 34 h34
  have c1 := h.c1
  have HDA : Hid (Calls Tryz.prog 45 #[.pointer (some ⟨b, 0, none⟩), .int .i64 (k : Nat)] W fun e w' => e = .returned (.bool true) ∧ w' = W) := by
    have := dollarAt_any h k (by omega) (by omega)
    rw [hd] at this
    exact this
  have HV : Hid _ := dollar_any h hE (by omega) hb64 hd
  clear h hE h92 h39 h34 hd
  generalize dollar s.size (s.data.toList.drop k) = R at HV ⊢
  go_enter Tryz.func32, Tryz.ntmps32
  go_wp2_with fail
  refine Calls.mono HDA.out ?_
  rintro e w1 ⟨rfl, hw⟩
  obtain rfl := hw.symm
  clear hw
  go_wp2_with fail
  refine Calls.mono HV.out ?_
  rintro e w1 ⟨⟨kd, ps, n, q, sx⟩, ev, rfl, hv⟩
  have HV1 : Hid (PartV W b sb s ea R ⟨kd, ps, n, q, sx⟩ ev w1) := hv
  have HSZ : Hid (W.heap.size ≤ w1.heap.size) := by obtain ⟨j, hj⟩ := hv.stp; exact hj.turn.size
  clear HV hv HDA
  go_wp2_with fail
  go_ret2
  cases R with
  | error x =>
    obtain ⟨hx, j, hS⟩ := HV1.out
    exact ⟨_, _, rfl, ⟨_, _, _, rfl⟩, (hx.below (below_new _ _)).below (below_new _ _), j, (hS.alloc _).alloc _⟩
  | ok r =>
    obtain ⟨hp, rfl, j, hS, hj, hu⟩ := HV1.out
    refine ⟨_, _, rfl, rfl, ?_, j, (hS.alloc _).alloc _, hj, hu⟩
    rw [← hp]
    have := PtOwn.one (w1.alloc (.cells (ptC ⟨kd, ps, n, q, sx⟩).toArray 36)) W.heap.size ⟨kd, ps, n, q, sx⟩ (by simp; have := HSZ.out; omega)
    rw [show (w1.alloc (.cells (ptC ⟨kd, ps, n, q, sx⟩).toArray 36)).heap.size = w1.heap.size + 1 by simp] at this
    exact this
set_option maxRecDepth 100000 in
set_option maxHeartbeats 2000000 in
theorem parts_liv {W : World} {b sb k : Nat} {s : ByteArray} {ea : Nat → Addr} (h : Rd W b sb s k) (hs : s.size < 1099511627776) (c : UInt8) (h92 : c ≠ 92) (h39 : c ≠ 39) (h34 : c ≠ 34) (hd : dolB (s.data.toList.drop k) = false) (hk : k < s.size) :
    Calls Tryz.prog 32 #[.pointer (some ⟨b, 0, none⟩), .int .u8 (c.toNat : Nat)] W fun e w' => ∃ v ev, e = .returned (.tuple #[v, ev]) ∧ PartsE W b sb s ea (.ok ([⟨1, k, 0, false, liv (s.data.toList.drop k)⟩], (s.data.toList.drop k).drop (liv (s.data.toList.drop k)).length)) v ev w' := by
  have n92 : ((c.toNat : Int) == 92) = false := byte_ne c 92 h92
  have n39 : ((c.toNat : Int) == 39) = false := byte_ne c 39 h39
  have n34 : ((c.toNat : Int) == 34) = false := byte_ne c 34 h34
  have c1 := h.c1
  have HDA : Hid (Calls Tryz.prog 45 #[.pointer (some ⟨b, 0, none⟩), .int .i64 (k : Nat)] W fun e w' => e = .returned (.bool false) ∧ w' = W) := by
    have := dollarAt_any h k (by omega) (by omega)
    rw [hd] at this
    exact this
  have HV : Hid _ := living_any h hs (by omega)
  rw [List.drop_drop]
  clear h h92 h39 h34 hd
  generalize liv (s.data.toList.drop k) = tx at HV ⊢
  go_enter Tryz.func32, Tryz.ntmps32
  go_wp2_with fail
  refine Calls.mono HDA.out ?_
  rintro e w1 ⟨rfl, hw⟩
  obtain rfl := hw.symm
  clear hw
  go_wp2_with fail
  refine Calls.mono HV.out ?_
  rintro e w1 ⟨rfl, hS1, hj1⟩
  have HS1 : Hid (Stp W b sb s (k + tx.length) w1) := hS1
  clear hS1 HV HDA
  go_wp2_with fail
  go_ret2
  exact ⟨_, _, rfl, rfl, PtOwn.one w1 W.heap.size ⟨1, k, 0, false, tx⟩ HS1.out.turn.size, _, HS1.out.alloc _, hj1, rfl⟩
/-- The parts that begin here. -/
theorem parts_any {W : World} {b sb k : Nat} {s : ByteArray} {ea : Nat → Addr} (h : Rd W b sb s k) (hE : Env W ea) (hs : s.size < 1099511627776) (hk : k < s.size) (hb64 : (ea 64).block ≤ b) :
    Calls Tryz.prog 32 #[.pointer (some ⟨b, 0, none⟩), .int .u8 (s[k].toNat : Nat)] W fun e w' => ∃ v ev, e = .returned (.tuple #[v, ev]) ∧ PartsE W b sb s ea (parts s.size s[k] (s.data.toList.drop (k + 1))) v ev w' := by
  rw [parts_eq s k hk]
  by_cases h92 : s[k] = 92
  · rw [if_pos h92]
    have := parts_esc (ea := ea) h hs hk h92
    rw [h92]
    exact this
  rw [if_neg h92]
  by_cases h39 : s[k] = 39
  · rw [if_pos h39]
    have := parts_sng h hE hs hk hb64
    rw [h39]
    exact this
  rw [if_neg h39]
  by_cases h34 : s[k] = 34
  · rw [if_pos h34]
    have := parts_dbl h hE hs hk hb64
    rw [h34]
    exact this
  rw [if_neg h34]
  cases hd : dolB (s.data.toList.drop k) with
  | true => rw [if_pos rfl]; exact parts_dol h hE hs hb64 _ h92 h39 h34 hd hk
  | false => rw [if_neg (by simp)]; exact parts_liv h hs _ h92 h39 h34 hd hk
end Go.Proofs.YtnlbjgioleoihaaGreatDoor
