/- A part between double quotes. -/
import Derived.Test.YtnlbjgioleoihaaGreatDoorRd7
import Derived.Test.YtnlbjgioleoihaaGreatDoorRd9
namespace Go.Proofs.YtnlbjgioleoihaaGreatDoor
open Go.RowKit
attribute [local go_sem] Oper.semAt_some

theorem PartV.below {W w w' : World} {b sb : Nat} {s : ByteArray} {ea : Nat → Addr} {R : Except Er (Pt × List UInt8)} {p : Pt} {ev : Value} (h : PartV W b sb s ea R p ev w) (hb : Below w.heap.size w w') : PartV W b sb s ea R p ev w' := by
  cases R with
  | ok q =>
    obtain ⟨h1, h2, j, h3, h4, h5⟩ := h
    exact ⟨h1, h2, j, h3.below hb, h4, h5⟩
  | error x =>
    obtain ⟨h1, j, h3⟩ := h
    exact ⟨h1.below hb, j, h3.below hb⟩
/-- The same part, quoted. -/
def quoR (R : Except Er (Pt × List UInt8)) : Except Er (Pt × List UInt8) := match R with
  | .error e => .error e
  | .ok q => .ok (quo q.1, q.2)
theorem PartV.quo {W w : World} {b sb : Nat} {s : ByteArray} {ea : Nat → Addr} {R : Except Er (Pt × List UInt8)} {p : Pt} {ev : Value} (h : PartV W b sb s ea R p ev w) : PartV W b sb s ea (quoR R) (quo p) ev w := by
  cases R with
  | ok q =>
    obtain ⟨h1, h2, h3⟩ := h
    exact ⟨by rw [h1], h2, h3⟩
  | error x => exact h
theorem quoted_dol (N : Nat) (l : List UInt8) (h : dolB l = true) : quoted N l = quoR (dollar N l) := by
  unfold quoted quoR
  rw [if_pos h]
  cases dollar N l <;> rfl
theorem quoted_dead (N : Nat) (l : List UInt8) (h : dolB l = false) : quoted N l = .ok (⟨2, N - l.length, 0, false, (dead l.length l).1⟩, (dead l.length l).2) := by
  unfold quoted
  rw [if_neg (by rw [h]; simp)]
set_option maxRecDepth 100000 in
set_option maxHeartbeats 2000000 in
theorem quoted_any {W : World} {b sb k : Nat} {s : ByteArray} {ea : Nat → Addr} (h : Rd W b sb s k) (hE : Env W ea) (hs : s.size < 1099511627776) (hk : k ≤ s.size) (hb64 : (ea 64).block ≤ b) :
    Calls Tryz.prog 57 #[.pointer (some ⟨b, 0, none⟩)] W fun e w' => ∃ p ev, e = .returned (.tuple #[.agg (ptC p).toArray, ev]) ∧ PartV W b sb s ea (quoted s.size (s.data.toList.drop k)) p ev w' := by
  have hlb := h.rd.lt
  have hlsb := h.src.lt
  have cW := h.c1
  obtain ⟨W0, hW0⟩ : ∃ W0, W0 = W.alloc (.cells zC 36) := ⟨_, rfl⟩
  have HS0 : Hid (Stp W b sb s k W0) := by rw [hW0]; exact (Stp.refl h).alloc _
  have HE0 : Hid (Env W0 ea) := by rw [hW0]; exact hE.below (below_new W _)
  have HQ0 : Hid (Cel W0 W.heap.size 36 zC) := by rw [hW0]; exact Cel.new W _ _
  have HW0 : Hid (W.alloc (.cells zC 36) = W0) := hW0.symm
  have HDA : Hid (Calls Tryz.prog 45 #[.pointer (some ⟨b, 0, none⟩), .int .i64 (k : Nat)] W0 fun e w' => e = .returned (.bool (dolB (s.data.toList.drop k))) ∧ w' = W0) := dollarAt_any HS0.out.at_ k (by omega) (by omega)
  clear h hE hW0
  cases hd : dolB (s.data.toList.drop k) with
  | true =>
    have HR : Hid _ := quoted_dol s.size _ hd
    have HV : Hid _ := dollar_any (ea := ea) HS0.out.at_ HE0.out (by omega) hb64 hd
    rw [HR.out]
    rw [hd] at HDA
    clear hd HR
    generalize dollar s.size (s.data.toList.drop k) = R at HV ⊢
    go_enter Tryz.func57, Tryz.ntmps57
    go_wp2_with fail
    rw [HW0.out]
    refine Calls.mono HDA.out ?_
    rintro e w1 ⟨rfl, hw⟩
    obtain rfl := hw.symm
    clear hw
    go_wp2_with fail
    refine Calls.mono HV.out ?_
    rintro e w1 ⟨p, ev, rfl, hv⟩
    obtain ⟨j3, hst3⟩ := hv.stp
    have HQ1 : Hid (Cel w1 W.heap.size 36 zC) := HQ0.out.turn hst3.turn (by omega)
    have HV1 : Hid (PartV W b sb s ea (quoR R) (quo p) ev w1) := (hv.lift HS0.out).quo
    clear HV hv hst3 HQ0 HS0 HE0 HW0 HDA cW
    have z0 : w1.cell? ⟨W.heap.size, 0, none⟩ = some (.int .i64 0) := HQ1.out.cell 0
    have z1 : w1.cell? ⟨W.heap.size, 1, none⟩ = some (.int .i64 0) := HQ1.out.cell 1
    have z2 : w1.cell? ⟨W.heap.size, 2, none⟩ = some (.int .i64 0) := HQ1.out.cell 2
    have z3 : w1.cell? ⟨W.heap.size, 3, none⟩ = some (.bool false) := HQ1.out.cell 3
    have z4 : w1.cell? ⟨W.heap.size, 4, none⟩ = some (.string ⟨#[]⟩) := HQ1.out.cell 4
    have zf0 := HQ1.out.frozen 0
    have zf1 := HQ1.out.frozen 1
    have zf2 := HQ1.out.frozen 2
    have zf3 := HQ1.out.frozen 3
    have zf4 := HQ1.out.frozen 4
    have hlw : W.heap.size < w1.heap.size := HQ1.out.lt
    have hne : ¬ W.heap.size = w1.heap.size := by omega
    have hne2 : ¬ w1.heap.size = W.heap.size := by omega
    obtain ⟨kd, ps, n, q, sx⟩ := p
    go_wp2_with fail
    have HQ2 : Cel (putP w1 W.heap.size (.int .i64 (kd : Nat)) (.int .i64 (ps : Nat)) (.int .i64 (n : Nat)) (.bool true) (str sx)) W.heap.size 36 #[.int .i64 (kd : Nat), .int .i64 (ps : Nat), .int .i64 (n : Nat), .bool true, str sx] := HQ1.out.put5 _ _ _ _ _
    refine bodyPost_ret (results_part (p := 2) (u := 3) rfl _ _ W.heap.size _ rfl (HQ2.below (below_new _ _) HQ2.lt) rfl) rfl ?_
    exact ⟨⟨kd, ps, n, true, sx⟩, ev, rfl, (HV1.out.put HQ1.out hlb hlsb (Nat.le_refl _) _ _ _ _ _).below (below_new _ _)⟩
  | false =>
    have HR : Hid _ := quoted_dead s.size _ hd
    have HV : Hid _ := dead_any (f := (s.data.toList.drop k).length) HS0.out.at_ hs hk (by rw [len_drop]; omega)
    have HP : Hid (s.size - (s.data.toList.drop k).length = k) := by unfold Hid; rw [len_drop]; omega
    rw [HR.out, HP.out]
    rw [hd] at HDA
    clear hd HR HP
    generalize dead (s.data.toList.drop k).length (s.data.toList.drop k) = R at HV ⊢
    have c0 := HS0.out.at_.c1
    obtain ⟨tx, u⟩ := R
    go_enter Tryz.func57, Tryz.ntmps57
    go_wp2_with fail
    rw [HW0.out]
    refine Calls.mono HDA.out ?_
    rintro e w1 ⟨rfl, hw⟩
    obtain rfl := hw.symm
    clear hw
    go_wp2_with fail
    refine Calls.mono HV.out ?_
    rintro e w1 ⟨rfl, j, hst3, hj1, hj2, hj3⟩
    have HQ1 : Hid (Cel w1 W.heap.size 36 zC) := HQ0.out.turn hst3.turn (by omega)
    have HS1 : Hid (Stp W b sb s j w1) := HS0.out.trans hst3
    have HJ3 : Hid (u = s.data.toList.drop j) := hj3
    clear HV hst3 HQ0 HS0 HE0 HW0 HDA cW hj3 c0
    have z0 : w1.cell? ⟨W.heap.size, 0, none⟩ = some (.int .i64 0) := HQ1.out.cell 0
    have z1 : w1.cell? ⟨W.heap.size, 1, none⟩ = some (.int .i64 0) := HQ1.out.cell 1
    have z2 : w1.cell? ⟨W.heap.size, 2, none⟩ = some (.int .i64 0) := HQ1.out.cell 2
    have z3 : w1.cell? ⟨W.heap.size, 3, none⟩ = some (.bool false) := HQ1.out.cell 3
    have z4 : w1.cell? ⟨W.heap.size, 4, none⟩ = some (.string ⟨#[]⟩) := HQ1.out.cell 4
    have zf0 := HQ1.out.frozen 0
    have zf1 := HQ1.out.frozen 1
    have zf2 := HQ1.out.frozen 2
    have zf3 := HQ1.out.frozen 3
    have zf4 := HQ1.out.frozen 4
    go_wp2_with fail
    refine bodyPost_ret (results_part (p := 2) (u := 3) rfl _ _ W.heap.size _ rfl (HQ1.out.put5 _ _ _ _ _) rfl) rfl ?_
    exact ⟨⟨2, k, 0, false, tx⟩, _, rfl, PartV.put (R := .ok (⟨2, k, 0, false, tx⟩, u)) ⟨rfl, rfl, j, HS1.out, hj2, HJ3.out⟩ HQ1.out hlb hlsb (Nat.le_refl _) _ _ _ _ _⟩
end Go.Proofs.YtnlbjgioleoihaaGreatDoor
