/- What has come of a run. -/
import Derived.Test.YtfafhjglcaikoaaGreatDoorH32
import Derived.Test.YtfafhjglcaikoaaGreatDoorH3
import Derived.Test.YtfafhjglcaikoaaGreatDoorH5
import Derived.Test.YtfafhjglcaikoaaGreatDoorH8
import Derived.LaidEql
namespace Go.Proofs.YtfafhjglcaikoaaGreatDoor
open Go.RowKit
attribute [local go_sem] Oper.semAt_some

variable {W W' : World} {K : Nat → Prop} {rb cb sb kb : Nat} {s : Sh} {ea : Nat → Addr}
/-- Nothing that is told is too great. -/
structure Okr (s : Sh) : Prop where
  E : s.E.length < 4294967296
  El : ∀ q ∈ s.E, q.l.length < 4294967296
  F : s.F.length < 4294967296
  Fn : ∀ p ∈ s.F, p.1.length ≤ maxLen
  D : s.D.length < 4294967296
  Dn : ∀ p ∈ s.D, p.1.length < 4294967296
theorem trace_rn (h : Rn W K rb cb sb kb s) (hk : Okr s) : Calls Tryz.prog 81 #[kP kb] W fun e w' => ∃ v' X', e = .returned v' ∧ EvOwn w' W.heap.size v' X' ∧ X'.map Prod.fst = s.E ∧ Below W.heap.size W w' := by
  obtain ⟨KS, KK, ⟨vb, fb, mb, V, G, ev, rv, Y, X, a1, a2, a3, a4, a5, a6⟩, _⟩ := h.ex
  have hl : X.length = s.E.length := by rw [← a6, List.length_map]
  have := trace_any a4 (by have := hk.E; omega) (fun q hq => hk.El q.1 (by rw [← a6]; exact List.mem_map_of_mem hq))
  rw [a6] at this
  exact this
theorem vars_rn (h : Rn W K rb cb sb kb s) (hk : Okr s) : Calls Tryz.prog 82 #[sP sb] W fun e w' => ∃ v' Y, e = .returned v' ∧ VaOwn w' W.heap.size v' Y ∧ cont Y = noStar s.F ∧ Below W.heap.size W w' := by
  obtain ⟨KS, vb, fb, V, G, a1, a2, a3⟩ := h.store
  have hl : V.length = s.F.length := by rw [← a2, cont_length]
  have := vars_any a1 (by have := hk.F; omega) (fun p hp => hk.Fn (p.1, p.2.2) (by rw [← a2]; exact List.mem_map_of_mem (f := fun p => (p.1, p.2.2)) hp))
  rw [a2] at this
  exact this
theorem files_rn (h : Rn W K rb cb sb kb s) (hk : Okr s) : Calls Tryz.prog 83 #[kP kb] W fun e w' => ∃ v', e = .returned v' ∧ w'.ownsRow W.heap.size 68 2 v' s.D.length (flCs s.D) ∧ Below W.heap.size W w' := by
  obtain ⟨KS, KK, ⟨vb, fb, mb, V, G, ev, rv, Y, X, a1, a2, a3, a4, a5, a6⟩, _⟩ := h.ex
  exact files_any a4 hk.D hk.Dn
/-- A result in memory of its own. -/
def Res (ea : Nat → Addr) (B : Nat) (W : World) (v : Value) (st : Int) (x : Xr) (s : Sh) : Prop :=
  ∃ tv vv fv X Y, v = .agg #[.int .i64 st, xrV ea x, tv, vv, fv, .int .i64 (s.st : Nat)] ∧ EvOwn W B tv X ∧ X.map Prod.fst = s.E ∧ VaOwn W B vv Y ∧ cont Y = noStar s.F ∧ W.ownsRow B 68 2 fv s.D.length (flCs s.D)
/-- How an end is told. -/
def finR (s : Sh) (st : Int) (x : Xr) : Int × Xr := if x = .fin then (s.en, .ok) else (st, x)
/-- The errors, apart from one another. -/
structure ErX (W : World) (ea : Nat → Addr) : Prop where
  er : Ers W ea
  apart : ∀ i j, i < 11 ∧ i ≠ 3 → j < 11 ∧ j ≠ 3 → ea i = ea j → i = j
  row : ∀ i, i < 11 ∧ i ≠ 3 → ∃ c t, W.heap[(ea i).block]? = some (.cells c t (0, 0))
theorem ErX.below {B : Nat} (h : ErX W ea) (hB : W.heap.size ≤ B) (hb : Below B W W') : ErX W' ea :=
  ⟨h.er.below hb hB, h.apart, fun i hi => by
    obtain ⟨c, t, hc⟩ := h.row i hi
    exact ⟨c, t, (hb.block _ (Nat.lt_of_lt_of_le (Array.getElem?_eq_some_iff.1 hc).1 hB)).trans hc⟩⟩
theorem infoE1 : ∃ i, Tryz.prog.info? 368 = some i ∧ i.comparable = true := by
  have h : (Tryz.prog.info? 368).map (·.comparable) = some true := by kernel_rfl
  obtain ⟨i, hi, hc⟩ := Option.map_eq_some_iff.1 h
  exact ⟨i, hi, hc⟩
theorem infoE2 : ∃ i, Tryz.prog.info? 383 = some i ∧ i.size ≠ 0 := by
  have h : (Tryz.prog.info? 383).map (·.size) = some 1 := by kernel_rfl
  obtain ⟨i, hi, hc⟩ := Option.map_eq_some_iff.1 h
  exact ⟨i, hi, by rw [hc]; decide⟩
theorem err_same (a : Addr) (w : World) : (binOp .eql 51 (errV a) (errV a)).run Tryz.prog w = .ok (.bool true) w := by
  obtain ⟨i, hi, hc⟩ := infoE1
  obtain ⟨j, hj, _⟩ := infoE2
  exact run_eql_iface_ptr_same w a Tryz.underlying51 Tryz.underlying368 hi hc hj
theorem err_other (hE : ErX W ea) (i j : Nat) (hi : i < 11 ∧ i ≠ 3) (hj : j < 11 ∧ j ≠ 3) (h : i ≠ j) : (binOp .eql 51 (errV (ea i)) (errV (ea j))).run Tryz.prog W = .ok (.bool false) W := by
  obtain ⟨i0, hi0, hc⟩ := infoE1
  obtain ⟨j0, hj0, hz⟩ := infoE2
  obtain ⟨c1, t1, h1⟩ := hE.row i hi
  obtain ⟨c2, t2, h2⟩ := hE.row j hj
  exact run_eql_iface_ptr_other W Tryz.underlying51 Tryz.underlying368 hi0 hc hj0 hz (fun e => h (hE.apart i j hi hj e)) h1 h2
theorem row_below {B e k n : Nat} {v : Value} {xs : List Value} (h : W.ownsRow B e k v n xs) (hb : Below W.heap.size W W') : W'.ownsRow B e k v n xs := owns_turn h (Turn.ofBelow (S := fun _ => False) hb) (fun _ _ h => h)
theorem EvOwn.turnB {B : Nat} {v : Value} {X : List (Ev × Value)} {S : Nat → Prop} (h : EvOwn W B v X) (hT : Turn S W W') (hS : ∀ i, S i → i < B) : EvOwn W' B v X :=
  ⟨owns_turn h.1 hT (fun b hb hs => by have := (h.1.lt b hb).1; have := hS b hs; omega), fun p hp => (h.2 p hp).turn hT (fun b hb hs => by have := (h.2 p hp).2 b hb; have := hS b hs; omega)⟩
theorem EvOwn.low {B B' : Nat} {v : Value} {X : List (Ev × Value)} (h : EvOwn W B v X) (hB : B' ≤ B) : EvOwn W B' v X := ⟨owns_lower h.1 hB, fun p hp => (h.2 p hp).mono (fun _ hi => Nat.le_trans hB hi)⟩
theorem VaOwn.turnB {B : Nat} {v : Value} {Y : Vrs} {S : Nat → Prop} (h : VaOwn W B v Y) (hT : Turn S W W') (hS : ∀ i, S i → i < B) : VaOwn W' B v Y :=
  ⟨owns_turn h.1 hT (fun b hb hs => by have := (h.1.lt b hb).1; have := hS b hs; omega), fun p hp => owns_turn (h.2 p hp) hT (fun b hb hs => by have := ((h.2 p hp).lt b hb).1; have := hS b hs; omega)⟩
theorem VaOwn.low {B B' : Nat} {v : Value} {Y : Vrs} (h : VaOwn W B v Y) (hB : B' ≤ B) : VaOwn W B' v Y := ⟨owns_lower h.1 hB, fun p hp => owns_lower (h.2 p hp) hB⟩
abbrev wfW (w4 : World) (b : Nat) (v0 v1 v2 v3 v4 v5 : Value) : World := (((((w4.setCell ⟨b, 0, none⟩ v0).setCell ⟨b, 1, none⟩ v1).setCell ⟨b, 2, none⟩ v2).setCell ⟨b, 3, none⟩ v3).setCell ⟨b, 4, none⟩ v4).setCell ⟨b, 5, none⟩ v5
theorem res_fin {W1 w2 w3 w4 : World} {st' : Int} {x' : Xr} {ev' tv vv fv : Value} {X : List (Ev × Value)} {Y : Vrs} (hB1 : Below W.heap.size W W1) (hsz : W1.heap.size = W.heap.size + 1) (hbx : Cel w4 W.heap.size 54 #[.int .i64 0, .nilIface, .slice none 0 0, .slice none 0 0, .slice none 0 0, .int .i64 0])
    (e2 : EvOwn w2 W1.heap.size tv X) (hX : X.map Prod.fst = s.E) (b23 : Below w2.heap.size w2 w3) (v3 : VaOwn w3 W1.heap.size vv Y) (hY : cont Y = noStar s.F) (b34 : Below w3.heap.size w3 w4) (f4 : w4.ownsRow W1.heap.size 68 2 fv s.D.length (flCs s.D)) (b14 : Below W1.heap.size W1 w4) (hev : xrV ea x' = ev') :
    Cel (wfW w4 W.heap.size (.int .i64 st') ev' tv vv fv (.int .i64 (s.st : Nat))) W.heap.size 54 #[.int .i64 st', ev', tv, vv, fv, .int .i64 (s.st : Nat)] ∧
    Res ea W.heap.size (wfW w4 W.heap.size (.int .i64 st') ev' tv vv fv (.int .i64 (s.st : Nat))) (.agg #[.int .i64 st', ev', tv, vv, fv, .int .i64 (s.st : Nat)]) st' x' s ∧
    Below W.heap.size W (wfW w4 W.heap.size (.int .i64 st') ev' tv vv fv (.int .i64 (s.st : Nat))) := by
  have hT : Turn (fun i => i = W.heap.size) w4 (wfW w4 W.heap.size (.int .i64 st') ev' tv vv fv (.int .i64 (s.st : Nat))) :=
    ((((((Turn.refl (fun i => i = W.heap.size) w4).setCell (p := ⟨W.heap.size, 0, none⟩) (fun _ => rfl) _).setCell (p := ⟨W.heap.size, 1, none⟩) (fun _ => rfl) _).setCell (p := ⟨W.heap.size, 2, none⟩) (fun _ => rfl) _).setCell (p := ⟨W.heap.size, 3, none⟩) (fun _ => rfl) _).setCell (p := ⟨W.heap.size, 4, none⟩) (fun _ => rfl) _).setCell (p := ⟨W.heap.size, 5, none⟩) (fun _ => rfl) _
  have hS : ∀ i, i = W.heap.size → i < W1.heap.size := fun i e => by omega
  refine ⟨?_, ⟨tv, vv, fv, X, Y, by rw [hev], ((((e2.below b23).below b34).turnB hT hS).low (by omega)), hX, (((v3.below b34).turnB hT hS).low (by omega)), hY, owns_lower (owns_turn f4 hT (fun b hb e => by have := (f4.lt b hb).1; omega)) (by omega)⟩, ?_⟩
  · exact (((((hbx.set (j := 0) _).set (j := 1) _).set (j := 2) _).set (j := 3) _).set (j := 4) _).set (j := 5) _
  · exact (hB1.trans (b14.mono (by omega))).trans (hT.below (fun i e => by omega) (by have := b14.size; omega))
set_option maxRecDepth 100000 in
set_option maxHeartbeats 8000000 in
theorem result_any (st : Int) (x : Xr) (hE : ErX W ea) (h : Rn W K rb cb sb kb s) (hk : Okr s) :
    Calls Tryz.prog 41 #[rP rb, .int .i64 st, xrV ea x] W fun e w' => ∃ v, e = .returned v ∧ Res ea W.heap.size w' v (finR s st x).1 (finR s st x).2 s ∧ Below W.heap.size W w' := by
  obtain ⟨W1, hW1⟩ : ∃ W1, W.alloc (.cells #[.int .i64 0, .nilIface, .slice none 0 0, .slice none 0 0, .slice none 0 0, .int .i64 0] 54) = W1 := ⟨_, rfl⟩
  have hb1 : Below W.heap.size W W1 := by rw [← hW1]; exact below_new _ _
  have hR1 := h.below hb1
  have hE1 : ErX W1 ea := hE.below (Nat.le_refl _) hb1
  have c7 := (hE1.er 7 (by omega)).1
  have hsame := err_same (ea 7) W1
  have hnil := run_eql_iface_nil_left (P := Tryz.prog) W1 368 (.pointer (some (ea 7))) Tryz.underlying51
  have c10 : W1.cell? ⟨rb, 10, none⟩ = some (.int .i64 s.en) := hR1.rc.cell 10
  have HRN : Hid (∀ w1, Below W1.heap.size W1 w1 → Rn w1 K rb cb sb kb s ∧ (w1.cell? ⟨rb, 0, none⟩ = some (sP sb) ∧ w1.cell? ⟨rb, 1, none⟩ = some (kP kb) ∧ w1.cell? ⟨rb, 3, none⟩ = some (.int .i64 (s.st : Nat)))) := fun w1 hb => ⟨hR1.below hb, (hR1.below hb).rc.cell 0, (hR1.below hb).rc.cell 1, (hR1.below hb).rc.cell 3⟩
  have HK : Hid (Okr s) := hk
  have hrw : rb ≠ W.heap.size := by have := h.lt rb h.Kr; omega
  have hrw' : W.heap.size ≠ rb := fun e => hrw e.symm
  have hbx : Cel W1 W.heap.size 54 #[.int .i64 0, .nilIface, .slice none 0 0, .slice none 0 0, .slice none 0 0, .int .i64 0] := by rw [← hW1]; exact Cel.new _ _ _
  have HW1 : True := trivial
  obtain ⟨e0, e1, e3⟩ := (HRN.out W1 (Below.refl _ _)).2
  have HBX : Hid (Cel W1 W.heap.size 54 #[.int .i64 0, .nilIface, .slice none 0 0, .slice none 0 0, .slice none 0 0, .int .i64 0]) := hbx
  have HB1 : Hid (Below W.heap.size W W1) := hb1
  have HSZ : Hid (W1.heap.size = W.heap.size + 1) := by unfold Hid; rw [← hW1]; simp
  obtain ⟨st', x', ev', hcs, hfin⟩ : ∃ st' x' ev', ((x = .fin ∧ st' = s.en ∧ x' = .ok ∧ ev' = .nilIface) ∨ (x = .ok ∧ st' = st ∧ x' = .ok ∧ ev' = .nilIface) ∨ (∃ a, x' = x ∧ st' = st ∧ xrV ea x = errV a ∧ ev' = errV a ∧ (binOp .eql 51 (errV a) (errV (ea 7))).run Tryz.prog W1 = .ok (.bool false) W1)) ∧ (finR s st x = (st', x') ∧ xrV ea x' = ev') := by
    cases x
    · exact ⟨st, .ok, _, .inr (.inl ⟨rfl, rfl, rfl, rfl⟩), rfl, rfl⟩
    · exact ⟨st, .fuel, _, .inr (.inr ⟨ea 2, rfl, rfl, rfl, rfl, err_other hE1 2 7 (by omega) (by omega) (by omega)⟩), rfl, rfl⟩
    · exact ⟨st, .deep, _, .inr (.inr ⟨ea 0, rfl, rfl, rfl, rfl, err_other hE1 0 7 (by omega) (by omega) (by omega)⟩), rfl, rfl⟩
    · exact ⟨st, .big, _, .inr (.inr ⟨ea 1, rfl, rfl, rfl, rfl, err_other hE1 1 7 (by omega) (by omega) (by omega)⟩), rfl, rfl⟩
    · exact ⟨s.en, .ok, _, .inl ⟨rfl, rfl, rfl, rfl⟩, rfl, rfl⟩
  rw [hfin.1]
  have HXV : Hid (xrV ea x' = ev') := hfin.2
  obtain ⟨xv, hxv⟩ : ∃ xv, xrV ea x = xv := ⟨_, rfl⟩
  have hcs' : (xv = errV (ea 7) ∧ st' = s.en ∧ ev' = .nilIface) ∨ (xv = .nilIface ∧ st' = st ∧ ev' = .nilIface) ∨ (∃ a, xv = errV a ∧ st' = st ∧ ev' = errV a ∧ (binOp .eql 51 (errV a) (errV (ea 7))).run Tryz.prog W1 = .ok (.bool false) W1) := by
    rcases hcs with ⟨h1, h2, h3, h4⟩ | ⟨h1, h2, h3, h4⟩ | ⟨a, h1, h2, h3, h4, h5⟩
    · exact .inl ⟨by rw [← hxv, h1]; rfl, h2, h4⟩
    · exact .inr (.inl ⟨by rw [← hxv, h1]; rfl, h2, h4⟩)
    · exact .inr (.inr ⟨a, by rw [← hxv, h3], h2, h4, h5⟩)
  rw [hxv]
  clear h hE hk hb1 hR1 hE1 hbx hcs hfin hxv HW1
  have HS0 : Hid (W1.drew.cell? ⟨rb, 0, none⟩ = some (sP sb) ∧ W1.drew.cell? ⟨rb, 1, none⟩ = some (kP kb) ∧ W1.drew.cell? ⟨rb, 3, none⟩ = some (.int .i64 (s.st : Nat))) := ⟨e0, e1, e3⟩
  have HTR : Hid (Calls Tryz.prog 81 #[kP kb] W1.drew fun e w2 => ∃ ta tc X, e = .returned (.slice ta X.length tc) ∧ Hid (w2.cell? ⟨rb, 0, none⟩ = some (sP sb) ∧ w2.cell? ⟨rb, 1, none⟩ = some (kP kb) ∧ w2.cell? ⟨rb, 3, none⟩ = some (.int .i64 (s.st : Nat))) ∧ Hid (EvOwn w2 W1.heap.size (.slice ta X.length tc) X ∧ X.map Prod.fst = s.E ∧ Below W1.heap.size W1 w2)) := by
    have hbd := (Below.refl W1.heap.size W1).drew
    refine Calls.mono (trace_rn (HRN.out _ hbd).1 HK.out) ?_
    rintro e w2 ⟨tv, X, h1, h2, h3, h4⟩
    have h5 := hbd.trans h4
    obtain ⟨ta, tc, rfl⟩ := owns_slice h2.1
    exact ⟨ta, tc, X, h1, (HRN.out _ h5).2, h2, h3, h5⟩
  have HVR : Hid (∀ w2, Below W1.heap.size W1 w2 → Calls Tryz.prog 82 #[sP sb] w2 fun e w3 => ∃ va vc Y, e = .returned (.slice va Y.length vc) ∧ Hid (w3.cell? ⟨rb, 0, none⟩ = some (sP sb) ∧ w3.cell? ⟨rb, 1, none⟩ = some (kP kb) ∧ w3.cell? ⟨rb, 3, none⟩ = some (.int .i64 (s.st : Nat))) ∧ Hid (VaOwn w3 W1.heap.size (.slice va Y.length vc) Y ∧ cont Y = noStar s.F ∧ Below W1.heap.size W1 w3 ∧ Below w2.heap.size w2 w3)) := fun w2 hb => by
    refine Calls.mono (vars_rn (HRN.out _ hb).1 HK.out) ?_
    rintro e w3 ⟨vv, Y, h1, h2, h3, h4⟩
    have h5 := hb.trans (h4.mono hb.size)
    obtain ⟨va, vc, rfl⟩ := owns_slice h2.1
    exact ⟨va, vc, Y, h1, (HRN.out _ h5).2, ⟨owns_lower h2.1 hb.size, fun p hp => owns_lower (h2.2 p hp) hb.size⟩, h3, h5, h4⟩
  have HFR : Hid (∀ w3, Below W1.heap.size W1 w3 → Calls Tryz.prog 83 #[kP kb] w3 fun e w4 => ∃ fa fc, e = .returned (.slice fa s.D.length fc) ∧ Hid (w4.cell? ⟨rb, 0, none⟩ = some (sP sb) ∧ w4.cell? ⟨rb, 1, none⟩ = some (kP kb) ∧ w4.cell? ⟨rb, 3, none⟩ = some (.int .i64 (s.st : Nat))) ∧ Hid (w4.ownsRow W1.heap.size 68 2 (.slice fa s.D.length fc) s.D.length (flCs s.D) ∧ Below W1.heap.size W1 w4 ∧ Below w3.heap.size w3 w4)) := fun w3 hb => by
    refine Calls.mono (files_rn (HRN.out _ hb).1 HK.out) ?_
    rintro e w4 ⟨fv, h1, h2, h4⟩
    have h5 := hb.trans (h4.mono hb.size)
    obtain ⟨fa, fc, rfl⟩ := owns_slice h2
    exact ⟨fa, fc, h1, (HRN.out _ h5).2, owns_lower h2 hb.size, h5, h4⟩
  have HFX : Hid (∀ w4, Below W1.heap.size W1 w4 → Cel w4 W.heap.size 54 #[.int .i64 0, .nilIface, .slice none 0 0, .slice none 0 0, .slice none 0 0, .int .i64 0]) := fun w4 hb => Cel.below HBX.out hb (Cel.lt HBX.out)
  rcases hcs' with ⟨rfl, rfl, rfl⟩ | ⟨rfl, rfl, rfl⟩ | ⟨a, rfl, rfl, rfl, hne⟩
  · go_enter Tryz.func41, Tryz.ntmps41
    go_wp2_with fail
    clear hW1 hsame hnil
    go_region_held3 (fun w' => w'.cell? ⟨rb, 0, none⟩ = some (sP sb) ∧ w'.cell? ⟨rb, 1, none⟩ = some (kP kb) ∧ w'.cell? ⟨rb, 3, none⟩ = some (.int .i64 (s.st : Nat))) (first | with_reducible exact HS0.out | with_reducible exact HS1.out | with_reducible exact HS2.out | with_reducible exact HS3.out | go_keep)
      (first
        | (go_at_call 81; refine Calls.mono HTR.out ?_; rintro e w2 ⟨ta, tc, X, rfl, HS1, HN1⟩)
        | (go_at_call 82; refine Calls.mono (HVR.out _ HN1.out.2.2) ?_; rintro e w3 ⟨va, vc, Y, rfl, HS2, HN2⟩)
        | (go_at_call 83; refine Calls.mono (HFR.out _ HN2.out.2.2.1) ?_; rintro e w4 ⟨fa, fc, rfl, HS3, HN3⟩; have q0 := (HFX.out _ HN3.out.2.1).cell 0; have q1 := (HFX.out _ HN3.out.2.1).cell 1; have q2 := (HFX.out _ HN3.out.2.1).cell 2; have q3 := (HFX.out _ HN3.out.2.1).cell 3; have q4 := (HFX.out _ HN3.out.2.1).cell 4; have q5 := (HFX.out _ HN3.out.2.1).cell 5; have z0 := (HFX.out _ HN3.out.2.1).frozen 0; have z1 := (HFX.out _ HN3.out.2.1).frozen 1; have z2 := (HFX.out _ HN3.out.2.1).frozen 2; have z3 := (HFX.out _ HN3.out.2.1).frozen 3; have z4 := (HFX.out _ HN3.out.2.1).frozen 4; have z5 := (HFX.out _ HN3.out.2.1).frozen 5))
    obtain ⟨f1, f2, f3⟩ := res_fin (ea := ea) (st' := s.en) (x' := x') (ev' := .nilIface) HB1.out HSZ.out (HFX.out _ HN3.out.2.1) HN1.out.1 HN1.out.2.1 HN2.out.2.2.2 HN2.out.1 HN2.out.2.1 HN3.out.2.2 HN3.out.1 HN3.out.2.1 HXV.out
    have k0 := f1.cell 0
    have k1 := f1.cell 1
    have k2 := f1.cell 2
    have k3 := f1.cell 3
    have k4 := f1.cell 4
    have k5 := f1.cell 5
    have HF2 : Hid _ := f2
    have HF3 : Hid _ := f3
    clear f1 f2 f3 q0 q1 q2 q3 q4 q5 z0 z1 z2 z3 z4 z5 HS1 HN1 HS2 HN2 HS3 HN3
    unfold wfW at k0 k1 k2 k3 k4 k5 HF2 HF3
    go_wp2_with fail
    refine bodyPost_ret (v := .agg #[.int .i64 (s.en), .nilIface, .slice ta X.length tc, .slice va (List.length Y) vc, .slice fa (List.length s.D) fc, .int .i64 (s.st : Nat)]) ?_ rfl ?_
    · simp [results, Tryz.results41, go_sem, k0, k1, k2, k3, k4, k5]
    · exact ⟨_, rfl, HF2.out, HF3.out⟩
  · go_enter Tryz.func41, Tryz.ntmps41
    go_wp2_with fail
    clear hW1 hsame hnil
    go_region_held3 (fun w' => w'.cell? ⟨rb, 0, none⟩ = some (sP sb) ∧ w'.cell? ⟨rb, 1, none⟩ = some (kP kb) ∧ w'.cell? ⟨rb, 3, none⟩ = some (.int .i64 (s.st : Nat))) (first | with_reducible exact HS0.out | with_reducible exact HS1.out | with_reducible exact HS2.out | with_reducible exact HS3.out | go_keep)
      (first
        | (go_at_call 81; refine Calls.mono HTR.out ?_; rintro e w2 ⟨ta, tc, X, rfl, HS1, HN1⟩)
        | (go_at_call 82; refine Calls.mono (HVR.out _ HN1.out.2.2) ?_; rintro e w3 ⟨va, vc, Y, rfl, HS2, HN2⟩)
        | (go_at_call 83; refine Calls.mono (HFR.out _ HN2.out.2.2.1) ?_; rintro e w4 ⟨fa, fc, rfl, HS3, HN3⟩; have q0 := (HFX.out _ HN3.out.2.1).cell 0; have q1 := (HFX.out _ HN3.out.2.1).cell 1; have q2 := (HFX.out _ HN3.out.2.1).cell 2; have q3 := (HFX.out _ HN3.out.2.1).cell 3; have q4 := (HFX.out _ HN3.out.2.1).cell 4; have q5 := (HFX.out _ HN3.out.2.1).cell 5; have z0 := (HFX.out _ HN3.out.2.1).frozen 0; have z1 := (HFX.out _ HN3.out.2.1).frozen 1; have z2 := (HFX.out _ HN3.out.2.1).frozen 2; have z3 := (HFX.out _ HN3.out.2.1).frozen 3; have z4 := (HFX.out _ HN3.out.2.1).frozen 4; have z5 := (HFX.out _ HN3.out.2.1).frozen 5))
    obtain ⟨f1, f2, f3⟩ := res_fin (ea := ea) (st' := st') (x' := x') (ev' := .nilIface) HB1.out HSZ.out (HFX.out _ HN3.out.2.1) HN1.out.1 HN1.out.2.1 HN2.out.2.2.2 HN2.out.1 HN2.out.2.1 HN3.out.2.2 HN3.out.1 HN3.out.2.1 HXV.out
    have k0 := f1.cell 0
    have k1 := f1.cell 1
    have k2 := f1.cell 2
    have k3 := f1.cell 3
    have k4 := f1.cell 4
    have k5 := f1.cell 5
    have HF2 : Hid _ := f2
    have HF3 : Hid _ := f3
    clear f1 f2 f3 q0 q1 q2 q3 q4 q5 z0 z1 z2 z3 z4 z5 HS1 HN1 HS2 HN2 HS3 HN3
    unfold wfW at k0 k1 k2 k3 k4 k5 HF2 HF3
    go_wp2_with fail
    refine bodyPost_ret (v := .agg #[.int .i64 (st'), .nilIface, .slice ta X.length tc, .slice va (List.length Y) vc, .slice fa (List.length s.D) fc, .int .i64 (s.st : Nat)]) ?_ rfl ?_
    · simp [results, Tryz.results41, go_sem, k0, k1, k2, k3, k4, k5]
    · exact ⟨_, rfl, HF2.out, HF3.out⟩
  · go_enter Tryz.func41, Tryz.ntmps41
    go_wp2_with fail
    clear hW1 hsame hnil
    go_region_held3 (fun w' => w'.cell? ⟨rb, 0, none⟩ = some (sP sb) ∧ w'.cell? ⟨rb, 1, none⟩ = some (kP kb) ∧ w'.cell? ⟨rb, 3, none⟩ = some (.int .i64 (s.st : Nat))) (first | with_reducible exact HS0.out | with_reducible exact HS1.out | with_reducible exact HS2.out | with_reducible exact HS3.out | go_keep)
      (first
        | (go_at_call 81; refine Calls.mono HTR.out ?_; rintro e w2 ⟨ta, tc, X, rfl, HS1, HN1⟩)
        | (go_at_call 82; refine Calls.mono (HVR.out _ HN1.out.2.2) ?_; rintro e w3 ⟨va, vc, Y, rfl, HS2, HN2⟩)
        | (go_at_call 83; refine Calls.mono (HFR.out _ HN2.out.2.2.1) ?_; rintro e w4 ⟨fa, fc, rfl, HS3, HN3⟩; have q0 := (HFX.out _ HN3.out.2.1).cell 0; have q1 := (HFX.out _ HN3.out.2.1).cell 1; have q2 := (HFX.out _ HN3.out.2.1).cell 2; have q3 := (HFX.out _ HN3.out.2.1).cell 3; have q4 := (HFX.out _ HN3.out.2.1).cell 4; have q5 := (HFX.out _ HN3.out.2.1).cell 5; have z0 := (HFX.out _ HN3.out.2.1).frozen 0; have z1 := (HFX.out _ HN3.out.2.1).frozen 1; have z2 := (HFX.out _ HN3.out.2.1).frozen 2; have z3 := (HFX.out _ HN3.out.2.1).frozen 3; have z4 := (HFX.out _ HN3.out.2.1).frozen 4; have z5 := (HFX.out _ HN3.out.2.1).frozen 5))
    obtain ⟨f1, f2, f3⟩ := res_fin (ea := ea) (st' := st') (x' := x') (ev' := errV a) HB1.out HSZ.out (HFX.out _ HN3.out.2.1) HN1.out.1 HN1.out.2.1 HN2.out.2.2.2 HN2.out.1 HN2.out.2.1 HN3.out.2.2 HN3.out.1 HN3.out.2.1 HXV.out
    have k0 := f1.cell 0
    have k1 := f1.cell 1
    have k2 := f1.cell 2
    have k3 := f1.cell 3
    have k4 := f1.cell 4
    have k5 := f1.cell 5
    have HF2 : Hid _ := f2
    have HF3 : Hid _ := f3
    clear f1 f2 f3 q0 q1 q2 q3 q4 q5 z0 z1 z2 z3 z4 z5 HS1 HN1 HS2 HN2 HS3 HN3
    unfold wfW at k0 k1 k2 k3 k4 k5 HF2 HF3
    go_wp2_with fail
    refine bodyPost_ret (v := .agg #[.int .i64 (st'), errV a, .slice ta X.length tc, .slice va (List.length Y) vc, .slice fa (List.length s.D) fc, .int .i64 (s.st : Nat)]) ?_ rfl ?_
    · simp [results, Tryz.results41, go_sem, k0, k1, k2, k3, k4, k5]
    · exact ⟨_, rfl, HF2.out, HF3.out⟩
end Go.Proofs.YtfafhjglcaikoaaGreatDoor
