/- A word in memory; that it ends; a bare word. -/
import Derived.Test.YtlihkblllakhmaaGreatDoorRd11
namespace Go.Proofs.YtlihkblllakhmaaGreatDoor
open Go.RowKit
attribute [local go_sem] Oper.semAt_some

theorem sizeW : (Tryz.prog.info? 44).map (·.size) = some 3 := by kernel_rfl
theorem results_word {fn : Func} {p u : Tmp} (h : fn.results = #[.cell p 44, .tmp u]) (tmps : Array Value) (w : World) (g : Nat) (cs : Array Value) (hp : tmps.getD p undef = .pointer (some ⟨g, 0, none⟩)) (hc : Cel w g 44 cs) (hz : cs.size = 3) :
    (results fn tmps).run Tryz.prog w = .ok (.tuple #[.agg cs, tmps.getD u undef]) w := by
  rw [results_cell_tmp h, hp]
  simp only [asAddr, Sem.run_pure, Result.andThen]
  rw [run_loadVar_row w g 44 44 cs (0, 0) _ hc Tryz.underlying44 rfl (by rw [hz]; exact sizeW)]
abbrev zW : Array Value := #[.int .i64 0, .bool false, .slice none 0 0]
def putW (X : World) (g : Nat) (v0 v1 v2 : Value) : World := ((X.setCell ⟨g, 0, none⟩ v0).setCell ⟨g, 1, none⟩ v1).setCell ⟨g, 2, none⟩ v2
theorem Cel.put3 {X : World} {g : Nat} {t : TypeId} {u0 u1 u2 : Value} (h : Cel X g t #[u0, u1, u2]) (v0 v1 v2 : Value) : Cel (putW X g v0 v1 v2) g t #[v0, v1, v2] :=
  ((h.set (j := 0) v0).set (j := 1) v1).set (j := 2) v2
theorem Cel.away3 {X : World} {g c : Nat} {t : TypeId} {cs : Array Value} (h : Cel X c t cs) (hne : c ≠ g) (v0 v1 v2 : Value) : Cel (putW X g v0 v1 v2) c t cs :=
  ((h.other hne v0).other hne v1).other hne v2
theorem Stp.put3 {W X : World} {b sb k g : Nat} {s : ByteArray} (h : Stp W b sb s k X) (hb : b < W.heap.size) (hsb : sb < W.heap.size) (hg : W.heap.size ≤ g) (v0 v1 v2 : Value) : Stp W b sb s k (putW X g v0 v1 v2) :=
  ((h.other hb hsb hg 0 v0).other hb hsb hg 1 v1).other hb hsb hg 2 v2
theorem Turn.putW (X : World) (g : Nat) (v0 v1 v2 : Value) : Turn (fun i => i = g) X (putW X g v0 v1 v2) :=
  ((Turn.setCell (S := fun i => i = g) (p := ⟨g, 0, none⟩) (Turn.refl _ X) (fun _ => rfl) v0).setCell (p := ⟨g, 1, none⟩) (fun _ => rfl) v1).setCell (p := ⟨g, 2, none⟩) (fun _ => rfl) v2
theorem AtEr.putW {w : World} {g : Nat} {cs : Array Value} {ea : Nat → Addr} {v : Value} {x : Er} (h : AtEr w ea v x) (hc : Cel w g 44 cs) (v0 v1 v2 : Value) : AtEr (putW w g v0 v1 v2) ea v x := by
  refine h.turn (Turn.putW w g v0 v1 v2) (fun i e cs' hc' => ?_)
  subst e
  have := (show w.heap[i]? = _ from hc').symm.trans hc
  simp at this
/-- A word, or an error; where the reader stands behind it. -/
def WordV (W : World) (b sb : Nat) (s : ByteArray) (ea : Nat → Addr) (R : Except Er (Wd × List UInt8)) (v : Array Value) (ev : Value) (w' : World) : Prop := match R with
  | .ok q => ev = .nilIface ∧ (∃ pv, v = #[.int .i64 (q.1.pos : Nat), .bool q.1.braced, pv] ∧ PtOwn w' W.heap.size pv q.1.parts) ∧ ∃ j, Stp W b sb s j w' ∧ j ≤ s.size ∧ q.2 = s.data.toList.drop j
  | .error x => v = zW ∧ AtEr w' ea ev x ∧ ∃ j, Stp W b sb s j w'
set_option maxRecDepth 100000 in
set_option maxHeartbeats 2000000 in
theorem closed_yes {W : World} {b sb k : Nat} {s : ByteArray} (h : Rd W b sb s k) (hq : endQ endS s.data.toList[k]? = true) (ps : Nat) (br : Bool) (pa : Option Addr) (pl pc : Nat) :
    Calls Tryz.prog 67 #[.pointer (some ⟨b, 0, none⟩), .agg #[.int .i64 (ps : Nat), .bool br, .slice pa pl pc]] W fun e' w' => e' = .returned (.tuple #[.agg #[.int .i64 (ps : Nat), .bool br, .slice pa pl pc], .nilIface]) ∧ Stp W b sb s k w' := by
  have hlb := h.rd.lt
  have hlsb := h.src.lt
  obtain ⟨W0, hW0⟩ : ∃ W0, W0 = (W.alloc (.cells #[.int .i64 (ps : Nat), .bool br, .slice pa pl pc] 44)).alloc (.cells zW 44) := ⟨_, rfl⟩
  have HS0 : Hid (Stp W b sb s k W0) := by rw [hW0]; exact ((Stp.refl h).alloc _).alloc _
  have HP0 : Hid (Cel W0 W.heap.size 44 #[.int .i64 (ps : Nat), .bool br, .slice pa pl pc]) := by rw [hW0]; exact (Cel.new W _ _).below (below_new _ _) (by simp)
  have HQ0 : Hid (Cel W0 (W.heap.size + 1) 44 zW) := by rw [hW0]; exact Cel.new2 W _ _ _
  have HW0 : Hid ((W.alloc (.cells #[.int .i64 (ps : Nat), .bool br, .slice pa pl pc] 44)).alloc (.cells zW 44) = W0) := hW0.symm
  have HEA : Hid (Calls Tryz.prog 36 #[.pointer (some ⟨b, 0, none⟩), .string ⟨#[32, 9, 10, 59]⟩] W0 fun e w' => e = .returned (.bool true) ∧ ∃ m, w' = W0.drewN m) := by
    have := endsAt_any HS0.out.at_ endS
    rw [hq] at this
    exact this
  clear h hW0 hq
  go_enter Tryz.func67, Tryz.ntmps67
  go_wp2_with fail
  rw [HW0.out]
  refine Calls.mono HEA.out ?_
  rintro e' w1 ⟨rfl, m1, hw1⟩
  have HS1 : Hid (Stp W b sb s k w1) := by rw [hw1]; exact HS0.out.drewN m1
  have HP1 : Hid (Cel w1 W.heap.size 44 #[.int .i64 (ps : Nat), .bool br, .slice pa pl pc]) := by rw [hw1]; exact HP0.out
  have HQ1 : Hid (Cel w1 (W.heap.size + 1) 44 zW) := by rw [hw1]; exact HQ0.out
  clear hw1 HS0 HP0 HQ0 HEA HW0
  have z0 : w1.cell? ⟨W.heap.size + 1, 0, none⟩ = some (.int .i64 0) := HQ1.out.cell 0
  have z1 : w1.cell? ⟨W.heap.size + 1, 1, none⟩ = some (.bool false) := HQ1.out.cell 1
  have z2 : w1.cell? ⟨W.heap.size + 1, 2, none⟩ = some (.slice none 0 0) := HQ1.out.cell 2
  have zf0 := HQ1.out.frozen 0
  have zf1 := HQ1.out.frozen 1
  have zf2 := HQ1.out.frozen 2
  have p0 : w1.cell? ⟨W.heap.size, 0, none⟩ = some (.int .i64 (ps : Nat)) := HP1.out.cell 0
  have p1 : w1.cell? ⟨W.heap.size, 1, none⟩ = some (.bool br) := HP1.out.cell 1
  have p2 : w1.cell? ⟨W.heap.size, 2, none⟩ = some (.slice pa pl pc) := HP1.out.cell 2
  go_wp2_with fail
  refine bodyPost_ret (results_word (p := 4) (u := 5) rfl _ _ (W.heap.size + 1) _ rfl (HQ1.out.put3 _ _ _) rfl) rfl ?_
  exact ⟨rfl, HS1.out.put3 hlb hlsb (by omega) _ _ _⟩
set_option maxRecDepth 100000 in
set_option maxHeartbeats 2000000 in
theorem closed_no {W : World} {b sb k : Nat} {s : ByteArray} {ea : Nat → Addr} (h : Rd W b sb s k) (hE : Env W ea) (hb64 : (ea 64).block ≤ b) (hq : endQ endS s.data.toList[k]? = false) (ps : Nat) (br : Bool) (pa : Option Addr) (pl pc : Nat) :
    Calls Tryz.prog 67 #[.pointer (some ⟨b, 0, none⟩), .agg #[.int .i64 (ps : Nat), .bool br, .slice pa pl pc]] W fun e' w' => ∃ q, e' = .returned (.tuple #[.agg zW, .iface 119 (.pointer (some ⟨q, 0, none⟩))]) ∧ AtEr w' ea (.iface 119 (.pointer (some ⟨q, 0, none⟩))) ⟨3, k⟩ ∧ Stp W b sb s k w' := by
  have hlb := h.rd.lt
  have hlsb := h.src.lt
  obtain ⟨W0, hW0⟩ : ∃ W0, W0 = (W.alloc (.cells #[.int .i64 (ps : Nat), .bool br, .slice pa pl pc] 44)).alloc (.cells zW 44) := ⟨_, rfl⟩
  have HS0 : Hid (Stp W b sb s k W0) := by rw [hW0]; exact ((Stp.refl h).alloc _).alloc _
  have HQ0 : Hid (Cel W0 (W.heap.size + 1) 44 zW) := by rw [hW0]; exact Cel.new2 W _ _ _
  have HE0 : Hid (Env W0 ea) := by rw [hW0]; exact hE.below ((below_new W _).alloc (by simp) _)
  have HW0 : Hid ((W.alloc (.cells #[.int .i64 (ps : Nat), .bool br, .slice pa pl pc] 44)).alloc (.cells zW 44) = W0) := hW0.symm
  have HEA : Hid (Calls Tryz.prog 36 #[.pointer (some ⟨b, 0, none⟩), .string ⟨#[32, 9, 10, 59]⟩] W0 fun e w' => e = .returned (.bool false) ∧ ∃ m, w' = W0.drewN m) := by
    have := endsAt_any HS0.out.at_ endS
    rw [hq] at this
    exact this
  clear h hE hW0 hq
  go_enter Tryz.func67, Tryz.ntmps67
  go_wp2_with fail
  rw [HW0.out]
  refine Calls.mono HEA.out ?_
  rintro e' w1 ⟨rfl, m1, hw1⟩
  have HS1 : Hid (Stp W b sb s k w1) := by rw [hw1]; exact HS0.out.drewN m1
  have HQ1 : Hid (Cel w1 (W.heap.size + 1) 44 zW) := by rw [hw1]; exact HQ0.out
  have HE1 : Hid (Env w1 ea) := by rw [hw1]; exact HE0.out.drewN m1
  clear hw1 HS0 HQ0 HE0 HEA HW0
  have d1 := HS1.out.at_.c1
  have g0 := HE1.out.cell 3 (by omega)
  have HFA : Hid (∀ w, Stp W b sb s k w → Cel w (W.heap.size + 1) 44 zW → Env w ea → Calls Tryz.prog 65 #[.int .i64 (k : Nat), errV (ea 3)] w fun e w' => ∃ q, e = .returned (.iface 119 (.pointer (some ⟨q, 0, none⟩))) ∧ (w'.cell? ⟨b, 1, none⟩ = some (.int .i64 (k : Nat)) ∧ w'.cell? ⟨3, 0, none⟩ = some (errV (ea 3))) ∧ Hid (Stp W b sb s k w') ∧ Hid (Cel w' (W.heap.size + 1) 44 zW) ∧ Hid (AtEr w' ea (.iface 119 (.pointer (some ⟨q, 0, none⟩))) ⟨3, k⟩)) := fun w h1 h2 h3 => by
    refine (fails_any k (ea 3) w).mono ?_
    rintro e w' ⟨rfl, hq, hb⟩
    exact ⟨_, rfl, ⟨(h1.below hb).at_.c1, (h3.below hb).cell 3 (by omega)⟩, h1.below hb, h2.below hb h2.lt, ⟨_, rfl, hq⟩⟩
  have hnb : ¬ W.heap.size + 1 = b := by omega
  have hnb2 : ¬ b = W.heap.size + 1 := by omega
  have hng : ¬ 3 = W.heap.size + 1 := by have := HE1.out.glob; omega
  have hng2 : ¬ W.heap.size + 1 = 3 := by have := HE1.out.glob; omega
  have hng3 : ¬ W.heap.size = 3 - 1 := by have := HE1.out.glob; omega
  have hng4 : ¬ W.heap.size = 2 := by have := HE1.out.glob; omega
  have hng5 : ¬ 2 = W.heap.size := by have := HE1.out.glob; omega
  go_wp2_with fail
  go_region_held3 (fun w' => w'.cell? ⟨b, 1, none⟩ = some (.int .i64 (k : Nat)) ∧ w'.cell? ⟨3, 0, none⟩ = some (errV (ea 3))) (go_keep) (first | (go_at_call 65; refine Calls.mono (HFA.out _ HS1.out.drew HQ1.out (HE1.out.drewN 1)) ?_; rintro e' w2 ⟨q2, rfl, ⟨m0, m1⟩, HS2, HQ2, HX2⟩; have z0 : w2.cell? ⟨W.heap.size + 1, 0, none⟩ = some (.int .i64 0) := HQ2.out.cell 0; have z1 : w2.cell? ⟨W.heap.size + 1, 1, none⟩ = some (.bool false) := HQ2.out.cell 1; have z2 : w2.cell? ⟨W.heap.size + 1, 2, none⟩ = some (.slice none 0 0) := HQ2.out.cell 2; have zf0 := HQ2.out.frozen 0; have zf1 := HQ2.out.frozen 1; have zf2 := HQ2.out.frozen 2))
  obtain ⟨W3, hW3⟩ : ∃ W3, W3 = (((w2.setCell ⟨W.heap.size + 1, 0, none⟩ (.int .i64 0)).setCell ⟨W.heap.size + 1, 1, none⟩ (.bool false)).setCell ⟨W.heap.size + 1, 2, none⟩ (.slice none 0 0)) := ⟨_, rfl⟩
  have HQ3 : Hid (Cel W3 (W.heap.size + 1) 44 zW) := by rw [hW3]; exact HQ2.out.put3 (.int .i64 0) (.bool false) (.slice none 0 0)
  have HS3 : Hid (Stp W b sb s k W3) := by rw [hW3]; exact HS2.out.put3 hlb hlsb (by omega) (.int .i64 0) (.bool false) (.slice none 0 0)
  have HX3 : Hid (AtEr W3 ea (.iface 119 (.pointer (some ⟨q2, 0, none⟩))) ⟨3, k⟩) := by rw [hW3]; exact HX2.out.putW HQ2.out (.int .i64 0) (.bool false) (.slice none 0 0)
  rw [← hW3]
  clear hW3 HS1 HQ1 HE1 HS2 HQ2 HX2 HFA m0 m1 z0 z1 z2 zf0 zf1 zf2
  go_wp2_with fail
  refine bodyPost_ret (results_word (p := 4) (u := 5) rfl _ _ (W.heap.size + 1) _ rfl HQ3.out rfl) rfl ?_
  exact ⟨q2, rfl, HX3.out, HS3.out⟩
/-- A bare word. -/
def bareR (N k : Nat) (l : List UInt8) : Except Er (Wd × List UInt8) := match partsL N endS l.length l with
  | .error x => .error x
  | .ok (ps, u) => .ok (⟨k, false, ps⟩, u)
set_option maxRecDepth 100000 in
set_option maxHeartbeats 2000000 in
theorem bare_any {W : World} {b sb k : Nat} {s : ByteArray} {ea : Nat → Addr} (h : Rd W b sb s k) (hE : Env W ea) (hs : s.size ≤ 8192) (hk : k ≤ s.size) (hb64 : (ea 64).block ≤ b) :
    Calls Tryz.prog 52 #[.pointer (some ⟨b, 0, none⟩)] W fun e' w' => ∃ v ev, e' = .returned (.tuple #[.agg v, ev]) ∧ WordV W b sb s ea (bareR s.size k (s.data.toList.drop k)) v ev w' := by
  have hlb := h.rd.lt
  have hlsb := h.src.lt
  obtain ⟨W0, hW0⟩ : ∃ W0, W0 = W.alloc (.cells zW 44) := ⟨_, rfl⟩
  have HS0 : Hid (Stp W b sb s k W0) := by rw [hW0]; exact (Stp.refl h).alloc _
  have HQ0 : Hid (Cel W0 W.heap.size 44 zW) := by rw [hW0]; exact Cel.new W _ _
  have HE0 : Hid (Env W0 ea) := by rw [hW0]; exact hE.below (below_new W _)
  have hz0 : W0.heap.size = W.heap.size + 1 := by rw [hW0]; simp
  have HW0 : Hid (W.alloc (.cells zW 44) = W0) := hW0.symm
  have cW := h.c1
  have c1 := HS0.out.at_.c1
  have HPA : Hid (Calls Tryz.prog 68 #[.pointer (some ⟨b, 0, none⟩), .string ⟨#[32, 9, 10, 59]⟩] W0 fun e' w' => ∃ v ev, e' = .returned (.tuple #[v, ev]) ∧ PartsV W0 b sb s ea (partsL s.size endS (s.data.toList.drop k).length (s.data.toList.drop k)) v ev w') := parts_any endS HS0.out.at_ HE0.out hs hk (by rw [len_drop]; omega) hb64
  have hnb : ¬ W.heap.size = b := by omega
  unfold bareR
  clear h hE hW0
  generalize partsL s.size endS (s.data.toList.drop k).length (s.data.toList.drop k) = R at HPA ⊢
  go_enter Tryz.func52, Tryz.ntmps52
  go_wp2_with fail
  rw [HW0.out]
  refine Calls.mono HPA.out ?_
  rintro e' w2 ⟨v, ev, rfl, hv⟩
  cases R with
  | error x =>
    obtain ⟨rfl, ⟨q, rfl, hq⟩, j, hst⟩ := hv
    have HS2 : Hid (Stp W b sb s j w2) := HS0.out.trans hst
    have HQ2 : Hid (Cel w2 W.heap.size 44 zW) := HQ0.out.turn hst.turn (by omega)
    have HX2 : Hid (AtEr w2 ea (.iface 119 (.pointer (some ⟨q, 0, none⟩))) x) := ⟨q, rfl, hq⟩
    clear hq hst HS0 HQ0 HE0 HPA HW0 cW c1
    have z0 : w2.cell? ⟨W.heap.size, 0, none⟩ = some (.int .i64 0) := HQ2.out.cell 0
    have z1 : w2.cell? ⟨W.heap.size, 1, none⟩ = some (.bool false) := HQ2.out.cell 1
    have z2 : w2.cell? ⟨W.heap.size, 2, none⟩ = some (.slice none 0 0) := HQ2.out.cell 2
    have zf0 := HQ2.out.frozen 0
    have zf1 := HQ2.out.frozen 1
    have zf2 := HQ2.out.frozen 2
    go_wp2_with fail
    refine bodyPost_ret (results_word (p := 2) (u := 3) rfl _ _ W.heap.size _ rfl (HQ2.out.put3 _ _ _) rfl) rfl ?_
    exact ⟨_, _, rfl, rfl, HX2.out.putW HQ2.out _ _ _, j, HS2.out.put3 hlb hlsb (Nat.le_refl _) _ _ _⟩
  | ok r =>
    obtain ⟨ps, u⟩ := r
    obtain ⟨rfl, ho, j, hst, hj1, hj2⟩ := hv
    obtain ⟨pa, pc, rfl⟩ := ho.form
    have HS2 : Hid (Stp W b sb s j w2) := HS0.out.trans hst
    have HQ2 : Hid (Cel w2 W.heap.size 44 zW) := HQ0.out.turn hst.turn (by omega)
    have HO2 : Hid (PtOwn w2 W0.heap.size (.slice pa ps.length pc) ps) := ho
    have HJ : Hid (u = s.data.toList.drop j) := hj2
    clear ho hst hj2 HS0 HQ0 HE0 HPA HW0 cW c1
    have z0 : w2.cell? ⟨W.heap.size, 0, none⟩ = some (.int .i64 0) := HQ2.out.cell 0
    have z1 : w2.cell? ⟨W.heap.size, 1, none⟩ = some (.bool false) := HQ2.out.cell 1
    have z2 : w2.cell? ⟨W.heap.size, 2, none⟩ = some (.slice none 0 0) := HQ2.out.cell 2
    have zf0 := HQ2.out.frozen 0
    have zf1 := HQ2.out.frozen 1
    have zf2 := HQ2.out.frozen 2
    go_wp2_with fail
    refine bodyPost_ret (results_word (p := 2) (u := 3) rfl _ _ W.heap.size _ rfl (HQ2.out.put3 _ _ _) rfl) rfl ?_
    exact ⟨_, _, rfl, rfl, ⟨_, rfl, (HO2.out.turn (Turn.putW _ _ _ _ _) (fun i e => by omega)).lower (by omega)⟩, j, HS2.out.put3 hlb hlsb (Nat.le_refl _) _ _ _, hj1, HJ.out⟩
end Go.Proofs.YtlihkblllakhmaaGreatDoor
