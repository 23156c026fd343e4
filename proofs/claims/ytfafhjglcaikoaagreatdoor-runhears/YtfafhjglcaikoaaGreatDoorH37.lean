/- A statement whose parts may come in any order: what each of them makes is told by itself, whatever came ahead of it. -/
import Derived.Test.YtfafhjglcaikoaaGreatDoorH35
import Derived.Test.YtfafhjglcaikoaaGreatDoorH36
import Derived.Test.YtfafhjglcaikoaaGreatDoorH11
import Derived.Test.YtfafhjglcaikoaaGreatDoorH1
import Derived.Orders
/-! The options that are taken where none are given; a call of texts. -/
namespace Go.Proofs.YtfafhjglcaikoaaGreatDoor
open Go.RowKit
attribute [local go_sem] Oper.semAt_some

variable {W W' : World}
theorem run_store_nilFunc (P : Program) (w : World) (a : Addr) (m : Mode) : (store a .nilFunc m).run P w = stored P w a .nilFunc m := run_store P w a _ m rfl
attribute [local go_sem] run_store_nilFunc
theorem defaults_any (W : World) : Calls Tryz.prog 23 #[] W fun e w' => e = .returned (oV 1500 25 []) ∧ Below W.heap.size W w' := by
  have hb := below_new W (.cells #[.nilFunc, .int .i64 1500, .int .i64 25, .slice none 0 0, .slice none 0 0, .string ⟨#[]⟩] 44)
  have HB : Hid _ := hb
  clear hb
  go_enter Tryz.func23, Tryz.ntmps23
  go_wp2_with fail
  refine bodyPost_ret (v := oV 1500 25 []) ?_ rfl ?_
  · simp [results, Tryz.results23, go_sem]
  · exact ⟨rfl, HB.out⟩
theorem lits_len : ∀ l : List Txt, ((l.map lN9).flatten).length = l.length
  | [] => rfl
  | t :: l => by
    have h1 : (lN9 t).length = 1 := rfl
    rw [List.map_cons, List.flatten_cons, List.length_append, lits_len l, h1, List.length_cons]
    omega
set_option maxRecDepth 100000 in
set_option maxHeartbeats 8000000 in
theorem callL_any (v : Value) (l : List Txt) (W : World) (h : Tx W v l) (hl : l.length < 100000) :
    Calls Tryz.prog 22 #[v] W fun e w' => ∃ v', e = .returned v' ∧ NdOwn w' W.heap.size v' (callN l) ∧ Below W.heap.size W w' := by
  obtain ⟨i0, hi0, hz0, hz1, hz2⟩ := info_parts info25
  have HT : Hid (∀ wr, Below W.heap.size W wr → Tx wr v l) := fun wr hb => h.below hb (Nat.le_refl _)
  obtain ⟨ad, cap, rfl⟩ := h.form
  clear h
  go_enter Tryz.func22, Tryz.ntmps22
  go_wp2_with fail
  go_loopw [3, 4] (fun v3 v4 wr => ∃ (k : Nat) (L : List (Value × List Nd)), v4 = .int .i64 k ∧ k ≤ l.length ∧ L.length = k ∧ Hid (L.map Prod.snd = (l.take k).map lN9) ∧ Hid (KdOwn wr W.heap.size v3 L) ∧ Below W.heap.size W wr) (fun _ v4 _ => l.length - (intOf v4).toNat)
  case atStart => exact ⟨0, [], rfl, by omega, rfl, by simp [Hid], KdOwn.nil _ _, Below.refl _ _⟩
  case round =>
    obtain ⟨k, L, rfl, hk, hL, HM, HO, hbr⟩ := hrel
    by_cases hkl : k < l.length
    · obtain ⟨x, hx⟩ : ∃ x, l[k]? = some x := ⟨_, List.getElem?_eq_getElem hkl⟩
      obtain ⟨g9, o9, cap9, hv9, _, _, hcl⟩ := (HT.out _ hbr).inRow (fun e => by rw [e] at hkl; simp at hkl)
      cases hv9
      have c9 := hcl k x hx
      have HLI : Hid _ := lit_any ⟨x.toArray⟩ wr
      have HSN : Hid ((l.take (k + 1)).map lN9 = (l.take k).map lN9 ++ [lN9 x]) := by
        unfold Hid
        rw [List.take_add_one, hx]
        simp
      have hws := hbr.size
      clear hcl hx
      go_wp2_with fail
      refine Calls.mono HLI.out ?_
      rintro e w2 ⟨pv, rfl, hnd, hb2⟩
      obtain ⟨pa, pc, rfl⟩ : ∃ pa pc, pv = .slice pa 1 pc := hnd.at.form
      have ho2 := (HO.out.below hb2).1.alloc (.cells #[.slice pa 1 pc] 22)
      rw [hL] at ho2
      have hw2 := hb2.size
      have HND : Hid (NdOwn w2 wr.heap.size (.slice pa 1 pc) [litN x]) := hnd
      have HB2 : Hid (Below wr.heap.size wr w2) := hb2
      clear hnd hb2 HLI
      go_wp2_with (at_builtin; refine wpList_append_own _ rfl _ _ 46 rfl W.heap.size 22 i0 _ 1 24 Tryz.underlying46 hi0 hz0 hz1 hz2 rfl (by decide) _ _ _ rfl ho2 ⟨w2.heap.size, 0, none⟩ 1 1 [.slice pa 1 pc] rfl rfl (cells_new _ [.slice pa 1 pc] _) (by simp [Value.oneCell']) (by have := maxLen_big; omega) (by omega) (by simp; omega) ?_; intro v4 w4 hown hgrow _)
      obtain ⟨f1, f2⟩ := KdOwn.snoc HO.out HB2.out hws hws HND.out (by rw [hL]; exact hown) hgrow
      have HF1 : Hid (KdOwn w4 W.heap.size v4 (L ++ [(.slice pa 1 pc, [litN x])])) := f1
      refine ⟨⟨k + 1, L ++ [(.slice pa 1 pc, [litN x])], by simp, by omega, by simp [hL], ?_, HF1, hbr.trans f2⟩, by simp [intOf]; omega⟩
      unfold Hid
      rw [HSN.out, List.map_append, HM.out]
      rfl
    · have hkz : k = l.length := by omega
      subst hkz
      have hm := HM.out
      rw [List.take_length] at hm
      have hkl2 : (kidL L).length < 4294967296 := by
        unfold kidL
        rw [hm]
        have := lits_len l
        omega
      have HNW : Hid (Calls Tryz.prog 16 #[.int .i64 21, .int .i64 0, str [], u3] wr fun e w' => ∃ v', e = .returned v' ∧ Hid (NdOwn w' W.heap.size v' (callN l)) ∧ Hid (Below W.heap.size W w')) := by
        refine Calls.mono (new_own 21 0 [] u3 L wr HO.out.at (by omega) hkl2) ?_
        rintro e w' ⟨v', p1, p2, p3⟩
        rw [hm] at p2
        exact ⟨v', p1, owns_lower p2 hbr.size, hbr.trans (p3.mono hbr.size)⟩
      obtain ⟨la, lc, rfl⟩ := owns_slice HO.out.1
      rw [hL] at HNW
      clear hm hkl2 HM HO hbr HT
      go_wp2_with fail
      refine Calls.mono HNW.out ?_
      rintro e w2 ⟨v', rfl, HND, HB2⟩
      clear HNW
      go_wp2_with fail
      go_ret
      exact ⟨v', rfl, HND.out, HB2.out⟩
end Go.Proofs.YtfafhjglcaikoaaGreatDoor
/-! A run that is to end well. -/
namespace Go.Proofs.YtfafhjglcaikoaaGreatDoor
open Go.RowKit
attribute [local go_sem] Oper.semAt_some
attribute [local go_sem] run_store_nilFunc

variable {W W' : World} {ea : Nat → Addr}
theorem Cel.drew9 {b t : Nat} {cs : Array Value} (h : Cel W b t cs) : Cel W.drew b t cs := h
/-- Its parts. -/
theorem Res.parts {B : Nat} {v : Value} {st : Int} {x : Xr} {s : Sh} (h : Res ea B W v st x s) : ∃ ta tn tc va vn vc fa fn fc xv, (xv = .nilIface ∨ ∃ a, xv = errV a) ∧ xrV ea x = xv ∧ v = .agg #[.int .i64 st, xv, .slice ta tn tc, .slice va vn vc, .slice fa fn fc, .int .i64 (s.st : Nat)] := by
  obtain ⟨tv, vv, fv, X, Y, h1, h2, h3, h4, h5, h6⟩ := h
  obtain ⟨ta, tc, rfl⟩ := owns_slice h2.1
  obtain ⟨va, vc, rfl⟩ := owns_slice h4.1
  obtain ⟨fa, fc, rfl⟩ := owns_slice h6
  refine ⟨ta, _, tc, va, _, vc, fa, _, fc, xrV ea x, ?_, rfl, h1⟩
  rcases xr_cases ea x with ⟨_, h⟩ | ⟨_, h⟩
  · exact .inl h
  · exact .inr h
set_option maxRecDepth 100000 in
set_option maxHeartbeats 8000000 in
theorem plain9_any (v fv : Value) (st9 : Int) (x9 : Xr) (s9 : Sh) (st dp : Nat) (inp : Txt) (fvf : ∃ a n c, fv = .slice a n c) (vf : ∃ a n c, v = .slice a n c)
    (hrun : ∀ w, Below W.heap.size W w → Calls Tryz.prog 26 #[v, wV fv (.slice none 0 0), oV st dp inp] w fun e w' => ∃ u, e = .returned (.tuple #[u, .nilIface]) ∧ Res ea w.heap.size w' u st9 x9 s9 ∧ Below w.heap.size w w') :
    Calls Tryz.prog 18 #[v, wV fv (.slice none 0 0), oV st dp inp] W fun e w' => ∃ u, e = .returned (.tuple #[u, .bool (x9 == .ok)]) ∧ Res ea W.heap.size w' u st9 x9 s9 ∧ Below W.heap.size W w' := by
  obtain ⟨W3, hW3⟩ : ∃ W3, ((W.alloc (.cells #[fv, .slice none 0 0] 27)).alloc (.cells #[.nilFunc, .int .i64 (st : Nat), .int .i64 (dp : Nat), .slice none 0 0, .slice none 0 0, str inp] 44)).alloc (.cells zero54 54) = W3 := ⟨_, rfl⟩
  obtain ⟨q0, q1, q2, -, -, -, hb3⟩ := boxes3 (K := fun _ => False) W #[fv, .slice none 0 0] #[.nilFunc, .int .i64 (st : Nat), .int .i64 (dp : Nat), .slice none 0 0, .slice none 0 0, str inp] zero54 27 44 54 (fun _ h => h.elim)
  rw [hW3] at q0 q1 q2 hb3
  obtain ⟨va, vn, vc, rfl⟩ := vf
  obtain ⟨fa, fn, fc, rfl⟩ := fvf
  have HRU : Hid (Calls Tryz.prog 26 #[.slice va vn vc, wV (.slice fa fn fc) (.slice none 0 0), oV st dp inp] W3 fun e w' => ∃ ta tn tc va vn vc fa fn fc xv, (xv = .nilIface ∨ ∃ a, xv = errV a) ∧ xrV ea x9 = xv ∧ e = .returned (.tuple #[.agg #[.int .i64 st9, xv, .slice ta tn tc, .slice va vn vc, .slice fa fn fc, .int .i64 (s9.st : Nat)], .nilIface]) ∧ Hid (Res ea W3.heap.size w' (.agg #[.int .i64 st9, xv, .slice ta tn tc, .slice va vn vc, .slice fa fn fc, .int .i64 (s9.st : Nat)]) st9 x9 s9) ∧ Hid (Below W3.heap.size W3 w')) := by
    refine Calls.mono (hrun W3 hb3) ?_
    rintro e w' ⟨u, p1, p2, p3⟩
    obtain ⟨ta, tn, tc, va, vn, vc, fa, fn, fc, xv, g1, g2, rfl⟩ := p2.parts
    exact ⟨ta, tn, tc, va, vn, vc, fa, fn, fc, xv, g1, g2, p1, p2, p3⟩
  have d0 := q0.cell 0
  have d1 := q0.cell 1
  have t0 := q1.cell 0
  have t1 := q1.cell 1
  have t2 := q1.cell 2
  have t3 := q1.cell 3
  have t4 := q1.cell 4
  have t5 := q1.cell 5
  have HQ2 : Hid (∀ w, Below W3.heap.size W3 w → Cel w (W.heap.size + 1 + 1) 54 zero54) := fun w hb => q2.below hb q2.lt
  have HB3 : Hid (Below W.heap.size W W3) := hb3
  have HSZ : Hid (W3.heap.size = W.heap.size + 3) := by unfold Hid; rw [← hW3]; simp
  clear hrun q0 q1 q2 hb3
  go_enter Tryz.func18, Tryz.ntmps18
  go_wp2_with fail
  clear hW3 d0 d1 t0 t1 t2 t3 t4 t5
  refine Calls.mono HRU.out ?_
  rintro e w4 ⟨ta, tn, tc, va', vn', vc', fa', fn', fc', xv, hxc, hxv, rfl, HR4, HB4⟩
  obtain ⟨w5, hw5⟩ : ∃ w5, w4.alloc (.cells #[.int .i64 st9, xv, .slice ta tn tc, .slice va' vn' vc', .slice fa' fn' fc', .int .i64 (s9.st : Nat)] 54) = w5 := ⟨_, rfl⟩
  have hb5 : Below w4.heap.size w4 w5 := by rw [← hw5]; exact below_new _ _
  have hc5 : Cel w5 w4.heap.size 54 #[.int .i64 st9, xv, .slice ta tn tc, .slice va' vn' vc', .slice fa' fn' fc', .int .i64 (s9.st : Nat)] := by rw [← hw5]; exact Cel.new _ _ _
  have hb35 : Below W3.heap.size W3 w5 := Below.trans HB4.out (hb5.mono HB4.out.size)
  have hq := HQ2.out _ hb35
  have c0 := hc5.cell 0
  have c1 := hc5.cell 1
  have c2 := hc5.cell 2
  have c3 := hc5.cell 3
  have c4 := hc5.cell 4
  have c5 := hc5.cell 5
  have hsz := HSZ.out
  have h45 := HB4.out.size
  have hne : W.heap.size + 1 + 1 ≠ w4.heap.size := by omega
  have hne' : w4.heap.size ≠ W.heap.size + 1 + 1 := by omega
  have q0 := hq.cell 0
  have q1 := hq.cell 1
  have q2 := hq.cell 2
  have q3 := hq.cell 3
  have q4 := hq.cell 4
  have q5 := hq.cell 5
  have z0 := hq.frozen 0
  have z1 := hq.frozen 1
  have z2 := hq.frozen 2
  have z3 := hq.frozen 3
  have z4 := hq.frozen 4
  have z5 := hq.frozen 5
  have HFIN : Hid (Cel (World.drew (wfW w5 (W.heap.size + 1 + 1) (.int .i64 st9) xv (.slice ta tn tc) (.slice va' vn' vc') (.slice fa' fn' fc') (.int .i64 (s9.st : Nat)))) (W.heap.size + 1 + 1) 54 #[.int .i64 st9, xv, .slice ta tn tc, .slice va' vn' vc', .slice fa' fn' fc', .int .i64 (s9.st : Nat)] ∧
      Res ea W.heap.size (World.drew (wfW w5 (W.heap.size + 1 + 1) (.int .i64 st9) xv (.slice ta tn tc) (.slice va' vn' vc') (.slice fa' fn' fc') (.int .i64 (s9.st : Nat)))) (.agg #[.int .i64 st9, xv, .slice ta tn tc, .slice va' vn' vc', .slice fa' fn' fc', .int .i64 (s9.st : Nat)]) st9 x9 s9 ∧
      Below W.heap.size W (World.drew (wfW w5 (W.heap.size + 1 + 1) (.int .i64 st9) xv (.slice ta tn tc) (.slice va' vn' vc') (.slice fa' fn' fc') (.int .i64 (s9.st : Nat)))) ∧ Cel (World.drew (wfW w5 (W.heap.size + 1 + 1) (.int .i64 st9) xv (.slice ta tn tc) (.slice va' vn' vc') (.slice fa' fn' fc') (.int .i64 (s9.st : Nat)))) w4.heap.size 54 #[.int .i64 st9, xv, .slice ta tn tc, .slice va' vn' vc', .slice fa' fn' fc', .int .i64 (s9.st : Nat)]) := by
    have hT : Turn (fun i => i = W.heap.size + 1 + 1) w5 (World.drew (wfW w5 (W.heap.size + 1 + 1) (.int .i64 st9) xv (.slice ta tn tc) (.slice va' vn' vc') (.slice fa' fn' fc') (.int .i64 (s9.st : Nat)))) :=
      (((((((Turn.refl (fun i => i = W.heap.size + 1 + 1) w5).setCell (p := ⟨W.heap.size + 1 + 1, 0, none⟩) (fun _ => rfl) _).setCell (p := ⟨W.heap.size + 1 + 1, 1, none⟩) (fun _ => rfl) _).setCell (p := ⟨W.heap.size + 1 + 1, 2, none⟩) (fun _ => rfl) _).setCell (p := ⟨W.heap.size + 1 + 1, 3, none⟩) (fun _ => rfl) _).setCell (p := ⟨W.heap.size + 1 + 1, 4, none⟩) (fun _ => rfl) _).setCell (p := ⟨W.heap.size + 1 + 1, 5, none⟩) (fun _ => rfl) _).drew
    refine ⟨?_, ?_, ?_, hc5.turn hT hne'⟩
    · exact Cel.drew9 ((((((hq.set (j := 0) _).set (j := 1) _).set (j := 2) _).set (j := 3) _).set (j := 4) _).set (j := 5) _)
    · exact Res.low (Res.turnB (Res.below HR4.out hb5) hT (fun i e => by omega)) (by omega)
    · exact (Below.trans HB3.out (hb35.mono (by omega))).trans (hT.below (fun i e => by omega) (by have := hb35.size; omega))
  obtain ⟨wf, hwf⟩ : ∃ wf, World.drew (wfW w5 (W.heap.size + 1 + 1) (.int .i64 st9) xv (.slice ta tn tc) (.slice va' vn' vc') (.slice fa' fn' fc') (.int .i64 (s9.st : Nat))) = wf := ⟨_, rfl⟩
  rw [hwf] at HFIN
  have k0 := HFIN.out.1.cell 0
  have k1 := HFIN.out.1.cell 1
  have k2 := HFIN.out.1.cell 2
  have k3 := HFIN.out.1.cell 3
  have k4 := HFIN.out.1.cell 4
  have k5 := HFIN.out.1.cell 5
  have HSF : Hid (wf.cell? ⟨w4.heap.size, 0, none⟩ = some (.int .i64 st9) ∧ wf.cell? ⟨w4.heap.size, 1, none⟩ = some xv ∧ wf.cell? ⟨w4.heap.size, 2, none⟩ = some (.slice ta tn tc) ∧ wf.cell? ⟨w4.heap.size, 3, none⟩ = some (.slice va' vn' vc') ∧ wf.cell? ⟨w4.heap.size, 4, none⟩ = some (.slice fa' fn' fc') ∧ wf.cell? ⟨w4.heap.size, 5, none⟩ = some (.int .i64 (s9.st : Nat))) := ⟨HFIN.out.2.2.2.cell 0, HFIN.out.2.2.2.cell 1, HFIN.out.2.2.2.cell 2, HFIN.out.2.2.2.cell 3, HFIN.out.2.2.2.cell 4, HFIN.out.2.2.2.cell 5⟩
  unfold wfW at hwf
  have HS0 : Hid (w5.drew.cell? ⟨w4.heap.size, 0, none⟩ = some (.int .i64 st9) ∧ w5.drew.cell? ⟨w4.heap.size, 1, none⟩ = some xv ∧ w5.drew.cell? ⟨w4.heap.size, 2, none⟩ = some (.slice ta tn tc) ∧ w5.drew.cell? ⟨w4.heap.size, 3, none⟩ = some (.slice va' vn' vc') ∧ w5.drew.cell? ⟨w4.heap.size, 4, none⟩ = some (.slice fa' fn' fc') ∧ w5.drew.cell? ⟨w4.heap.size, 5, none⟩ = some (.int .i64 (s9.st : Nat))) := ⟨c0, c1, c2, c3, c4, c5⟩
  have HXV : Hid (xrV ea x9 = xv) := hxv
  clear hb5 hc5 hb35 hq hsz h45 HR4 HB4 HRU HQ2 hxv
  rcases hxc with rfl | ⟨a9, rfl⟩
  · go_wp2_with fail
    clear hw5
    go_region_held3 (fun w' => w'.cell? ⟨w4.heap.size, 0, none⟩ = some (.int .i64 st9) ∧ w'.cell? ⟨w4.heap.size, 1, none⟩ = some .nilIface ∧ w'.cell? ⟨w4.heap.size, 2, none⟩ = some (.slice ta tn tc) ∧ w'.cell? ⟨w4.heap.size, 3, none⟩ = some (.slice va' vn' vc') ∧ w'.cell? ⟨w4.heap.size, 4, none⟩ = some (.slice fa' fn' fc') ∧ w'.cell? ⟨w4.heap.size, 5, none⟩ = some (.int .i64 (s9.st : Nat))) (first | with_reducible exact HS0.out | with_reducible exact HSF.out | go_keep) (fail)
    all_goals
      go_wp2_with fail
      refine bodyPost_ret (v := .tuple #[.agg #[.int .i64 st9, .nilIface, .slice ta tn tc, .slice va' vn' vc', .slice fa' fn' fc', .int .i64 (s9.st : Nat)], .bool true]) ?_ rfl ?_
      · simp [results, Tryz.results18, go_sem, k0, k1, k2, k3, k4, k5]
      · refine ⟨_, ?_, HFIN.out.2.1, HFIN.out.2.2.1⟩
        have hxo : (x9 == .ok) = true := by
          have := HXV.out
          cases x9 <;> simp_all [xrV, errV]
        rw [hxo]
  · go_wp2_with fail
    clear hw5
    go_region_held3 (fun w' => w'.cell? ⟨w4.heap.size, 0, none⟩ = some (.int .i64 st9) ∧ w'.cell? ⟨w4.heap.size, 1, none⟩ = some (errV a9) ∧ w'.cell? ⟨w4.heap.size, 2, none⟩ = some (.slice ta tn tc) ∧ w'.cell? ⟨w4.heap.size, 3, none⟩ = some (.slice va' vn' vc') ∧ w'.cell? ⟨w4.heap.size, 4, none⟩ = some (.slice fa' fn' fc') ∧ w'.cell? ⟨w4.heap.size, 5, none⟩ = some (.int .i64 (s9.st : Nat))) (first | with_reducible exact HS0.out | with_reducible exact HSF.out | go_keep) (fail)
    all_goals
      go_wp2_with fail
      refine bodyPost_ret (v := .tuple #[.agg #[.int .i64 st9, errV a9, .slice ta tn tc, .slice va' vn' vc', .slice fa' fn' fc', .int .i64 (s9.st : Nat)], .bool false]) ?_ rfl ?_
      · simp [results, Tryz.results18, go_sem, k0, k1, k2, k3, k4, k5]
      · refine ⟨_, ?_, HFIN.out.2.1, HFIN.out.2.2.1⟩
        have hxo : (x9 == .ok) = false := by
          have := HXV.out
          cases x9 <;> simp_all [xrV, errV]
        rw [hxo]
end Go.Proofs.YtfafhjglcaikoaaGreatDoor
/-! What first asks of a run. -/
namespace Go.Proofs.YtfafhjglcaikoaaGreatDoor
open Go.RowKit
attribute [local go_sem] Oper.semAt_some
attribute [local go_sem] run_store_nilFunc

variable {W W' : World} {ea : Nat → Addr}
theorem tx_two (W : World) (a b : Txt) : Tx (W.alloc (.cells #[str a, str b] 9)) (.slice (some ⟨W.heap.size, 0, none⟩) 2 2) [a, b] :=
  tx_own (B := 0) ⟨rfl, .inr ⟨W.heap.size, 2, #[str a, str b], rfl, Nat.zero_le _, Cel.new W 9 #[str a, str b], Nat.le_refl _, by decide, rfl, rfl⟩⟩
theorem NdAt.more {v : Value} {X : List Nd} (h : NdAt W v X) (o : Obj) : NdAt (W.alloc o) v X := h.below (below_new W o) (Nat.le_refl _)
theorem okA : ∀ x ∈ progA, NdOk x := by
  intro x hx
  simp [progA, newN] at hx
  rcases hx with rfl | rfl | rfl <;> exact ok_small _ (by simp) (by simp)
/-- How a run comes back, its parts told. -/
def RunC (ea : Nat → Addr) (w : World) (st : Int) (x : Xr) (s : Sh) (e : Ending) (w' : World) : Prop :=
  ∃ ta tn tc va vn vc fa fn fc xv, (xv = .nilIface ∨ ∃ a, xv = errV a) ∧ xrV ea x = xv ∧ e = .returned (.tuple #[.agg #[.int .i64 st, xv, .slice ta tn tc, .slice va vn vc, .slice fa fn fc, .int .i64 (s.st : Nat)], .nilIface]) ∧ Hid (Res ea w.heap.size w' (.agg #[.int .i64 st, xv, .slice ta tn tc, .slice va vn vc, .slice fa fn fc, .int .i64 (s.st : Nat)]) st x s) ∧ Hid (Below w.heap.size w w')
theorem okr_small {s : Sh} (h1 : s.E.length ≤ 10) (h2 : ∀ q ∈ s.E, q.l.length ≤ 10) (h3 : s.F.length ≤ 10) (h4 : ∀ p ∈ s.F, p.1.length ≤ 10) (h5 : s.D = []) : Okr s :=
  ⟨by omega, fun q hq => by have := h2 q hq; omega, by omega, fun p hp => by have := h4 p hp; have := maxLen_big; omega, by rw [h5]; simp, fun p hp => by rw [h5] at hp; simp at hp⟩
theorem fl_nil (W : World) : FlAt W (.slice none 0 0) [] := .inl ⟨rfl, none, 0, rfl⟩
theorem may_nil : mayR [] [] = none := by kernel_rfl
theorem runA_mem (v : Value) (w : World) (hE : ErX w ea) (h17 : 17 ≤ w.heap.size) (hn : NdAt w v progA) : Calls Tryz.prog 26 #[v, wV (.slice none 0 0) (.slice none 0 0), oV 1500 25 []] w (RunC ea w 0 .ok { st0 with st := 1, E := [⟨3, 0, [], [97, 10], []⟩] }) := by
  refine Calls.mono (run_any (ea := ea) v (.slice none 0 0) progA [] 1500 25 6 [] _ hE h17 hn (by simp [progA, newN]) okA chkA (fl_nil w) (by simp) (fun p hp => by simp at hp) may_nil (by omega) (by omega) (by simp) runA (okr_small (by simp) (by simp) (by show (putM (newM []) star []).length ≤ 10; decide) (by decide) rfl)) ?_
  rintro e w' ⟨u, p1, p2, p3⟩
  obtain ⟨ta, tn, tc, va, vn, vc, fa, fn, fc, xv, g1, g2, rfl⟩ := p2.parts
  exact ⟨ta, tn, tc, va, vn, vc, fa, fn, fc, xv, g1, g2, p1, p2, p3⟩
theorem okPB : ∀ x ∈ progB, NdOk x := by
  have h : ∀ x ∈ progB, x.s.length ≤ 300 ∧ x.k ≤ 4294967296 := by decide
  exact fun x hx => ok_small x (h x hx).1 (h x hx).2
theorem runB_mem (v : Value) (w : World) (hE : ErX w ea) (h17 : 17 ≤ w.heap.size) (hn : NdAt w v progB) : Calls Tryz.prog 26 #[v, wV (.slice none 0 0) (.slice none 0 0), oV 1500 25 []] w (RunC ea w 0 .ok { st0 with st := 3, E := [⟨4, 2, [], [], []⟩, ⟨3, 0, [], [97, 10], []⟩, ⟨6, 2, [], [], []⟩] }) := by
  refine Calls.mono (run_any (ea := ea) v (.slice none 0 0) progB [] 1500 25 8 [] _ hE h17 hn (by simp [progB, newN]) okPB chkB (fl_nil w) (by simp) (fun p hp => by simp at hp) may_nil (by omega) (by omega) (by simp) runB (okr_small (by simp) (by simp) (by show (putM (newM []) star []).length ≤ 10; decide) (by decide) rfl)) ?_
  rintro e w' ⟨u, p1, p2, p3⟩
  obtain ⟨ta, tn, tc, va, vn, vc, fa, fn, fc, xv, g1, g2, rfl⟩ := p2.parts
  exact ⟨ta, tn, tc, va, vn, vc, fa, fn, fc, xv, g1, g2, p1, p2, p3⟩
theorem okPC : ∀ x ∈ progC, NdOk x := by
  have h : ∀ x ∈ progC, x.s.length ≤ 300 ∧ x.k ≤ 4294967296 := by decide
  exact fun x hx => ok_small x (h x hx).1 (h x hx).2
theorem runC_mem (v : Value) (w : World) (hE : ErX w ea) (h17 : 17 ≤ w.heap.size) (hn : NdAt w v progC) : Calls Tryz.prog 26 #[v, wV (.slice none 0 0) (.slice none 0 0), oV 1500 25 []] w (RunC ea w 0 .fuel { st0 with st := 1500 }) := by
  refine Calls.mono (run_any (ea := ea) v (.slice none 0 0) progC [] 1500 25 800 [] _ hE h17 hn (by simp [progC, newN]) okPC chkC (fl_nil w) (by simp) (fun p hp => by simp at hp) may_nil (by omega) (by omega) (by simp) runC (okr_small (by simp [start, start0]) (by simp [start, start0]) (by show (putM (newM []) star []).length ≤ 10; decide) (by decide) rfl)) ?_
  rintro e w' ⟨u, p1, p2, p3⟩
  obtain ⟨ta, tn, tc, va, vn, vc, fa, fn, fc, xv, g1, g2, rfl⟩ := p2.parts
  exact ⟨ta, tn, tc, va, vn, vc, fa, fn, fc, xv, g1, g2, p1, p2, p3⟩
theorem okPD : ∀ x ∈ progD, NdOk x := by
  have h : ∀ x ∈ progD, x.s.length ≤ 300 ∧ x.k ≤ 4294967296 := by decide
  exact fun x hx => ok_small x (h x hx).1 (h x hx).2
theorem runD_mem (v : Value) (w : World) (hE : ErX w ea) (h17 : 17 ≤ w.heap.size) (hn : NdAt w v progD) : Calls Tryz.prog 26 #[v, wV (.slice none 0 0) (.slice none 0 0), oV 1500 25 []] w (RunC ea w 0 .deep { st0 with st := 27, dp := 25, H := [([102], callN [[102]])] }) := by
  refine Calls.mono (run_any (ea := ea) v (.slice none 0 0) progD [] 1500 25 120 [] _ hE h17 hn (by simp [progD, newN]) okPD chkD (fl_nil w) (by simp) (fun p hp => by simp at hp) may_nil (by omega) (by omega) (by simp) runD (okr_small (by simp [start, start0]) (by simp [start, start0]) (by show (putM (newM []) star []).length ≤ 10; decide) (by decide) rfl)) ?_
  rintro e w' ⟨u, p1, p2, p3⟩
  obtain ⟨ta, tn, tc, va, vn, vc, fa, fn, fc, xv, g1, g2, rfl⟩ := p2.parts
  exact ⟨ta, tn, tc, va, vn, vc, fa, fn, fc, xv, g1, g2, p1, p2, p3⟩
end Go.Proofs.YtfafhjglcaikoaaGreatDoor
namespace Go.Proofs.YtfafhjglcaikoaaGreatDoor
open Go.RowKit

section
variable {P : Program} {ops : Array Oper} {Q : Exit → Act → World → Prop} {md : Region.Mode}

/-- How many parts are left. -/
def unl (l : Array Bool) : Nat := l.toList.count false
theorem getD_lt {l : Array Bool} {i : Nat} (h : l.getD i true = false) : i < l.size := by
  rcases Nat.lt_or_ge i l.size with h' | h'
  · exact h'
  · rw [Array.getD_eq_getD_getElem?, Array.getElem?_eq_none h'] at h
    cases h
theorem getD_two {l : Array Bool} {i : Nat} (hi : i < l.size) : l.getD i true = l.getD i false := by
  rw [Array.getD_eq_getD_getElem?, Array.getD_eq_getD_getElem?, Array.getElem?_eq_getElem hi]
  rfl
theorem unl_set {l : Array Bool} {i : Nat} (h : l.getD i true = false) : unl (l.setIfInBounds i true) + 1 = unl l := by
  have hi := getD_lt h
  have hv : l.toList[i]'(by simpa using hi) = false := by
    rw [Array.getD_eq_getD_getElem?, Array.getElem?_eq_getElem hi] at h
    simpa using h
  unfold unl
  rw [Array.toList_setIfInBounds, List.count_set (by simpa using hi), hv]
  have hp : 0 < l.toList.count false := List.count_pos_iff.2 (by rw [← hv]; exact List.getElem_mem _)
  have h1 : (true == false) = false := rfl
  have h2 : (false == false) = true := rfl
  rw [h1, h2, if_pos rfl, if_neg (by decide)]
  omega
theorem unl_rep (n : Nat) : unl (Array.replicate n false) = n := by
  unfold unl
  rw [Array.toList_replicate, List.count_replicate]
  simp
/-- A value told anew. -/
def upd (x : Nat → Value) (i : Nat) (v : Value) : Nat → Value := fun j => if j = i then v else x j
theorem upd_self (x : Nat → Value) (i : Nat) (v : Value) : upd x i v i = v := if_pos rfl
theorem upd_ne (x : Nat → Value) {i j : Nat} (v : Value) (h : j ≠ i) : upd x i v j = x j := if_neg h
/-- Is j one of those that i waits for? -/
def waits (md : Region.Mode) (ops : Array Oper) (i j : Nat) : Bool := match ops[i]? with
  | none => false
  | some o => o.after.toList.any fun e => Region.binds md e && e.on == j
/-- The first m parts grow; M are those of them that all the others wait for. -/
def flowOk (md : Region.Mode) (ops : Array Oper) (m : Nat) (M : List Nat) : Bool :=
  M.all (fun j => decide (j < m)) && decide (m ≤ ops.size) &&
  (List.range ops.size).all (fun i => (ops[i]?.map (fun o => o.after.toList.all fun e => !Region.binds md e || decide (e.on < i))).getD true) &&
  (List.range ops.size).all (fun i => decide (i < m) || M.all (fun j => waits md ops i j))
theorem of_waits {i j : Nat} {o : Oper} (ho : ops[i]? = some o) (h : waits md ops i j = true) : ∃ e ∈ o.after, Region.binds md e = true ∧ e.on = j := by
  unfold waits at h
  rw [ho] at h
  simp only [List.any_eq_true, Bool.and_eq_true, beq_iff_eq] at h
  obtain ⟨e, he, hb, hj⟩ := h
  exact ⟨e, by simpa using he, hb, hj⟩
/-- What holds of the parts that came. -/
def Came (F : Nat → Value → World → Prop) (l : Array Bool) (x : Nat → Value) (w : World) : Prop := ∀ j, l.getD j false = true → F j (x j) w
/-- One part came. -/
def Grew (fr : (Nat → Value) → Act) (F : Nat → Value → World → Prop) (x : Nat → Value) (i : Nat) (w : World) (a' : Act) (w' : World) : Prop := ∃ v, a' = fr (upd x i v) ∧ F i v w' ∧ Below w.heap.size w w'
theorem wpAny_flow {m : Nat} {M : List Nat} (fr : (Nat → Value) → Act) (F : Nat → Value → World → Prop) (G : World → Prop) (hok : flowOk md ops m M = true)
    (hF : ∀ j u w w', F j u w → Below w.heap.size w w' → F j u w') (hG : ∀ w w', G w → Below w.heap.size w w' → G w')
    (hstep : ∀ i, i < m → ∀ x w, G w → (∀ j, waits md ops i j = true → F j (x j) w) → wpOp P ops Q i (Grew fr F x i w) (fr x) w)
    (hstop : ∀ l x w fuel, G w → Came F l x w → l.size = ops.size → (∀ j ∈ M, l.getD j false = true) → (∀ j, m ≤ j → j < ops.size → l.getD j false = false) → unl l ≤ fuel → wpAny P md ops Q fuel l (fr x) w) :
    ∀ fuel l x w, G w → Came F l x w → l.size = ops.size → (∀ j, m ≤ j → j < ops.size → l.getD j false = false) → unl l ≤ fuel → wpAny P md ops Q fuel l (fr x) w := by
  simp only [flowOk, Bool.and_eq_true, List.all_eq_true, List.mem_range, decide_eq_true_eq, Bool.or_eq_true] at hok
  obtain ⟨⟨⟨hM, hm⟩, hlt⟩, hlate⟩ := hok
  intro fuel
  induction fuel with
  | zero =>
    intro l x w g c hs hl hu
    refine hstop l x w 0 g c hs ?_ hl hu
    intro j hj
    have hjs : j < l.size := by have := hM j hj; omega
    rcases hb : l.getD j false with _ | _
    · have := unl_set (i := j) (l := l) (by rw [getD_two hjs, hb])
      omega
    · rfl
  | succ fuel ih =>
    intro l x w g c hs hl hu
    by_cases hst : ∀ j ∈ M, l.getD j false = true
    · exact hstop l x w (fuel + 1) g c hs hst hl hu
    · refine ⟨fun h0 => ?_, fun i hi => ?_⟩
      · exfalso
        obtain ⟨j, hjM, hj⟩ : ∃ j, j ∈ M ∧ l.getD j false = false := by
          refine Classical.byContradiction fun hn => hst fun j hj => ?_
          rcases hb : l.getD j false with _ | _
          · exact absurd ⟨j, hj, hb⟩ hn
          · rfl
        have key : ∀ n j, j ≤ n → j < ops.size → l.getD j false = false → False := by
          intro n
          induction n with
          | zero =>
            intro j hn hjs hj
            have : j ∈ Region.ready md ops l := mem_ready.2 ⟨by rw [getD_two (by omega)]; exact hj, ops[j], Array.getElem?_eq_getElem hjs, fun e he hb => by
              have := hlt j hjs
              rw [Array.getElem?_eq_getElem hjs] at this
              simp only [Option.map_some, Option.getD_some, List.all_eq_true, decide_eq_true_eq, Bool.or_eq_true, Bool.not_eq_true'] at this
              have := (this e (by simpa using he)).resolve_left (by rw [hb]; simp)
              omega⟩
            rw [h0] at this
            cases this
          | succ n ihn =>
            intro j hn hjs hj
            have : j ∈ Region.ready md ops l := mem_ready.2 ⟨by rw [getD_two (by omega)]; exact hj, ops[j], Array.getElem?_eq_getElem hjs, fun e he hbb => by
              have := hlt j hjs
              rw [Array.getElem?_eq_getElem hjs] at this
              simp only [Option.map_some, Option.getD_some, List.all_eq_true, decide_eq_true_eq, Bool.or_eq_true, Bool.not_eq_true'] at this
              have h1 := (this e (by simpa using he)).resolve_left (by rw [hbb]; simp)
              rcases hb : l.getD e.on false with _ | _
              · exact (ihn e.on (by omega) (by omega) hb).elim
              · rfl⟩
            rw [h0] at this
            cases this
        exact key j j (Nat.le_refl _) (by have := hM j hjM; omega) hj
      · obtain ⟨hjun, o, ho, hall⟩ := mem_ready.1 hi
        have his : i < ops.size := (Array.getElem?_eq_some_iff.1 ho).1
        have him : i < m := by
          rcases Nat.lt_or_ge i m with h | h
          · exact h
          · exfalso
            refine hst fun j hj => ?_
            rcases hlate i his with h2 | h2
            · omega
            · obtain ⟨e, he, hb, hon⟩ := of_waits ho (h2 j hj)
              rw [← hon]
              exact hall e he hb
        refine wpOp_mono ?_ (hstep i him x w g fun j hj => ?_)
        · rintro a' w' ⟨v, rfl, hf, hb⟩
          refine ih (l.setIfInBounds i true) (upd x i v) w' (hG w w' g hb) ?_ (by rw [Array.size_setIfInBounds]; exact hs) ?_ (by have := unl_set hjun; omega)
          · intro j hj
            by_cases hji : j = i
            · subst hji
              rw [upd_self]
              exact hf
            · rw [getD_set_ne false (Ne.symm hji)] at hj
              rw [upd_ne _ _ hji]
              exact hF j _ w w' (c j hj) hb
          · intro j h1 h2
            rw [getD_set_ne false (by omega)]
            exact hl j h1 h2
        · obtain ⟨e, he, hb, hon⟩ := of_waits ho hj
          exact c j (by rw [← hon]; exact hall e he hb)
/-- The beginning. -/
theorem wp_flow {id m : Nat} {M : List Nat} (hmx : P.follows .mixedOrders = true) (fr : (Nat → Value) → Act) (F : Nat → Value → World → Prop) (G : World → Prop) (x : Nat → Value) {a : Act} {w : World} (ha : a = fr x) (hok : flowOk .any ops m M = true)
    (hF : ∀ j u w w', F j u w → Below w.heap.size w w' → F j u w') (hG : ∀ w w', G w → Below w.heap.size w w' → G w') (hg : G w)
    (hstep : ∀ i, i < m → ∀ x w, G w → (∀ j, waits .any ops i j = true → F j (x j) w) → wpOp P ops Q i (Grew fr F x i w) (fr x) w)
    (hstop : ∀ l x w fuel, G w → Came F l x w → l.size = ops.size → (∀ j ∈ M, l.getD j false = true) → (∀ j, m ≤ j → j < ops.size → l.getD j false = false) → unl l ≤ fuel → wpAny P .any ops Q fuel l (fr x) w) :
    (Code.region id ops true).wp P Q a w := by
  refine wp_region_any hmx ?_
  rw [ha]
  have hrep : ∀ j d, (Array.replicate ops.size false).getD j d = if j < ops.size then false else d := by
    intro j d
    rw [Array.getD_eq_getD_getElem?, Array.getElem?_replicate]
    split <;> rfl
  refine wpAny_flow fr F G hok hF hG hstep hstop _ _ x _ (hG w _ hg (Below.refl _ w).drew) (fun j hj => ?_) (by simp) (fun j _ h2 => ?_) (by rw [unl_rep]; exact Nat.le_refl _)
  · rw [hrep] at hj
    split at hj <;> cases hj
  · rw [hrep, if_pos h2]
theorem wpOp_now {i : Nat} {o : Oper} {K : Act → World → Prop} {a : Act} {w : World} (ho : ops[i]? = some o) (hw : Region.wanted o (yielded ops a.tmps) = true) (h : Oper.wp P o a w K Q) : wpOp P ops Q i K a w := by
  unfold wpOp
  rw [ho]
  show if Region.wanted o (yielded ops a.tmps) = true then _ else _
  rw [if_pos hw]
  exact .inl h
/-- Which parts came, one by one. -/
theorem arr_ext {l k : Array Bool} (hs : l.size = k.size) (h : ∀ i, i < k.size → l.getD i false = k.getD i false) : l = k := by
  refine Array.ext hs fun i h1 h2 => ?_
  have := h i h2
  rw [Array.getD_eq_getD_getElem?, Array.getD_eq_getD_getElem?, Array.getElem?_eq_getElem h1, Array.getElem?_eq_getElem h2] at this
  simpa using this
end
end Go.Proofs.YtfafhjglcaikoaaGreatDoor
