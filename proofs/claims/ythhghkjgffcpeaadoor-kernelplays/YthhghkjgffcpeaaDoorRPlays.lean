/- KernelPlays: both kernels are told the same, and answer the same. -/
import Derived.Test.YthhghkjgffcpeaaDoorRDuo
import Derived.Test.YthhghkjgffcpeaaDoorRNew
import Derived.Test.YthhghkjgffcpeaaDoorRMay
import Derived.Test.YthhghkjgffcpeaaDoorFirst
import Derived.Test.YthhghkjgffcpeaaDoorOpen5
import Derived.Deep.RegionHeld
import Derived.OrdersHeld
namespace Go.Proofs.YthhghkjgffcpeaaDoor
open Go.RowKit Go.Shelf

/-- The thing's cells, and the document's events, as they are read. -/
def Seen6 (bd : Nat) (n m : Int) (s : Txt) (lv : Value) (w : World) : Prop := w.cell? ⟨bd, 1, none⟩ = some (.int .i64 n) ∧ w.cell? ⟨bd, 2, none⟩ = some (.int .i64 m) ∧ w.cell? ⟨bd, 3, none⟩ = some (str s) ∧ w.cell? ⟨bd, 5, none⟩ = some lv
theorem Sit.seen {W w : World} {bd kb xb : Nat} {rv : Value} {R : List Rw} {F1 F2 : Fls} {E1 E2 : List Ev} {k n m : Int} {s t : Txt} {lv : Value} (h : Sit W w bd #[.int .i64 k, .int .i64 n, .int .i64 m, str s, str t, lv] kb xb rv R F1 E1 F2 E2) : Seen6 bd n m s lv w := ⟨h.2.1.cell 1, h.2.1.cell 2, h.2.1.cell 3, h.2.1.cell 5⟩
def SeenX (xb : Nat) (fv tv : Value) (w : World) : Prop := w.cell? ⟨xb, 0, none⟩ = some fv ∧ w.cell? ⟨xb, 2, none⟩ = some tv
/-- What is known of the world that came in. -/
def RowsOk (R : List Rw) : Prop := R.length < 60000 ∧ ∀ r ∈ R, r.args.length < 60000 ∧ r.out.length < 60001
theorem Lite.rows {Fl : Fls} {Y : List (Rw × Value)} (h : Lite Fl Y) : RowsOk (Y.map Prod.fst) := by
  refine ⟨by rw [List.length_map]; have := h.y; omega, fun r hr => ?_⟩
  obtain ⟨p, hp, rfl⟩ := List.mem_map.1 hr
  obtain ⟨h1, _, h3, _⟩ := h.rw p hp
  exact ⟨by omega, by omega⟩
theorem mem_putAll (p : Txt × Txt) : ∀ (Fl F : Fls), p ∈ Fl.foldl (fun F p => putF F p.1 p.2) F → p ∈ F ∨ p ∈ Fl
  | [], _, h => .inl h
  | x :: Fl, F, h => by
    rcases mem_putAll p Fl _ h with h | h
    · rcases mem_put h with h | h
      · exact .inr (by rw [h]; exact List.mem_cons_self ..)
      · exact .inl h
    · exact .inr (List.mem_cons_of_mem _ h)
theorem sm_start {Fl : Fls} {Y : List (Rw × Value)} (h : Lite Fl Y) (h50 : Fl.length ≤ 50) : Sm (putAll Fl) [] 0 := {
  f := by have := putAll_length Fl Fl.length; rw [List.take_length] at this; omega
  fn := fun p hp => by
    rcases mem_putAll p Fl [] hp with hp | hp
    · simp at hp
    · exact h.fn p hp
  e := by simp
  el := fun e he => by simp at he }
theorem err_neq (a : Addr) (w : World) : (binOp .neq 32 (errV a) (errV a)).run Tryd.prog w = .ok (.bool false) w := by
  obtain ⟨i, hi, hc⟩ := info153
  obtain ⟨j, hj, _⟩ := info169
  simp only [binOp]
  simp [Op.equal, Op.maxDepth, run_equalIn_iface_ptr_same w 9998 a Tryd.underlying32 Tryd.underlying153 hi hc hj]

set_option maxRecDepth 100000 in
set_option maxHeartbeats 40000000 in
theorem plays_main (fv rv vd : Value) (Fl : Fls) (Y : List (Rw × Value)) (D : List Dx) (ea : Nat → Addr) (W : World) (hf : FlAt W fv Fl) (hr : RwAt W rv Y) (hn : Fl.length ≤ 140737488355328 ∧ Y.length ≤ 140737488355328) (hF : ∀ p ∈ Fl, p.1.length ≤ 140737488355328 ∧ p.2.length ≤ 140737488355328) (hY : ∀ q ∈ Y, RwGood W q) (hd : DxAt W vd D) (hDl : D.length ≤ 140737488355328) (hDg : ∀ q ∈ D, DxGood W q) (hE : Er17 W ea) :
    Calls Tryd.prog 3 #[wV fv rv, vd] W fun e w' => e = .returned (.bool true) ∧ Below W.heap.size W w' := by
  have HF : Hid (∀ W', Below W.heap.size W W' → FlAt W' fv Fl) := fun W' hb => hf.below hb (Nat.le_refl _)
  have HR : Hid (∀ W', Below W.heap.size W W' → RwAt W' rv Y) := fun W' hb => hr.below hb (Nat.le_refl _)
  have HD : Hid (∀ W', Below W.heap.size W W' → DxAt W' vd D) := fun W' hb => hd.below hb (Nat.le_refl _)
  have HE : Hid (∀ W', Below W.heap.size W W' → Er17 W' ea) := fun W' hb => hE.below hb
  have HFB : Hid (∀ p ∈ Fl, p.1.length ≤ 140737488355328 ∧ p.2.length ≤ 140737488355328) := hF
  have HYB : Hid (∀ p ∈ Y, p.1.args.length < 140737488355328 ∧ (∀ s ∈ p.1.args, s.length ≤ 140737488355328) ∧ p.1.name.length ≤ 140737488355328 ∧ p.1.out.length ≤ 140737488355328) := fun p hp => (hY p hp).2
  have HDG : Hid (∀ q ∈ D, q.l.length < 140737488355328 ∧ q.s.length ≤ 140737488355328 ∧ q.t.length ≤ 140737488355328) := fun q hq => ⟨(hDg q hq).2.1, (hDg q hq).2.2.2.1, (hDg q hq).2.2.2.2⟩
  have HNL : Hid (Fl.length < 4611686018427387904 ∧ Y.length < 4611686018427387904) := ⟨by omega, by omega⟩
  obtain ⟨adf, capf, rfl⟩ := hf.form
  obtain ⟨adr, capr, rfl⟩ := hr.form
  obtain ⟨add, capd, rfl⟩ := hd.form
  have hb0 := below_new W (.cells #[.slice adf Fl.length capf, .slice adr Y.length capr] 25)
  have HP0 : Hid (Pot W (.slice adf Fl.length capf) (.slice adr Y.length capr) (W.alloc (.cells #[.slice adf Fl.length capf, .slice adr Y.length capr] 25))) := ⟨hb0, Cel.new W 25 _⟩
  obtain ⟨R, hR⟩ : ∃ R, R = Y.map Prod.fst := ⟨_, rfl⟩
  have HRE : Hid (R = Y.map Prod.fst) := hR
  clear hf hr hd hE hF hY hDg hR hb0
  have hpot : ∀ w w', Pot W (.slice adf Fl.length capf) (.slice adr Y.length capr) w → Below w.heap.size w w' → Pot W (.slice adf Fl.length capf) (.slice adr Y.length capr) w' := fun w w' h hb => ⟨h.1.trans (hb.mono h.1.size), h.2.below hb h.2.lt⟩
  have HPS : Hid (∀ w w', Pot W (.slice adf Fl.length capf) (.slice adr Y.length capr) w → Below w.heap.size w w' → Pot W (.slice adf Fl.length capf) (.slice adr Y.length capr) w') := hpot
  clear hpot
  go_enter Tryd.func3, Tryd.ntmps3
  go_wp2_with fail
  refine (first_any ea _ (HE.out _ HP0.out.1).ers).mono ?_
  rintro e w1 ⟨rfl, hb'⟩
  have HP1 : Hid (Pot W (.slice adf Fl.length capf) (.slice adr Y.length capr) w1) := HPS.out _ _ HP0.out hb'
  clear hb' HP0
  have d0 := HP1.out.2.cell 0
  have d1 := HP1.out.2.cell 1
  go_wp2_with fail
  refine (light_any _ _ Fl Y _ (HF.out _ HP1.out.1) (HR.out _ HP1.out.1) HFB.out HYB.out HNL.out.1 HNL.out.2).mono ?_
  rintro e w2 ⟨⟨b, rfl, hbl⟩, hb'⟩
  have HP2 : Hid (Pot W (.slice adf Fl.length capf) (.slice adr Y.length capr) w2) := HPS.out _ _ HP1.out hb'
  clear hb' HP1 d0 d1
  have d0 := HP2.out.2.cell 0
  have d1 := HP2.out.2.cell 1
  cases b
  · clear hbl
    go_wp2_with fail
    go_ret
    exact ⟨rfl, HP2.out.1⟩
  have HL : Hid (Lite Fl Y) := hbl rfl
  clear hbl
  by_cases h40 : 40 < D.length
  · go_wp2_with fail
    go_ret
    exact ⟨rfl, HP2.out.1⟩
  go_wp2_with fail
  refine (rmay_any _ _ Fl Y _ (HF.out _ HP2.out.1) (HR.out _ HP2.out.1) HL.out).mono ?_
  rintro e w3 ⟨rfl, hb'⟩
  have HP3 : Hid (Pot W (.slice adf Fl.length capf) (.slice adr Y.length capr) w3) := HPS.out _ _ HP2.out hb'
  clear hb' HP2 d0 d1
  have d0 := HP3.out.2.cell 0
  have d1 := HP3.out.2.cell 1
  have HB60 : Hid (Fl.length < 4294967296 ∧ Y.length < 4294967296 ∧ (∀ p ∈ Y, p.1.args.length < 4294967296) ∧ ∀ p ∈ Fl, p.1.length < 4294967296) := ⟨by have := HL.out.f; omega, by have := HL.out.y; omega, fun p hp => by have := (HL.out.rw p hp).1; omega, fun p hp => by have := (HL.out.fn p hp).1; omega⟩
  rcases hmr : mayR Fl (Y.map Prod.fst) with _ | i
  · have HMR : Hid (mayR Fl (Y.map Prod.fst) = none) := hmr
    clear hmr
    rw [show codeR none = 0 from rfl]
    go_wp2_with fail
    refine (new_any _ _ Fl Y ea _ (HF.out _ HP3.out.1) (HR.out _ HP3.out.1) HB60.out.1 HB60.out.2.1 HB60.out.2.2.1 HB60.out.2.2.2 (HE.out _ HP3.out.1).ers HMR.out).mono ?_
    rintro e w4 ⟨kb, mb, rv', Y', K1, rfl, hk, hy', hk1, hb'⟩
    have HP4 : Hid (Pot W (.slice adf Fl.length capf) (.slice adr Y.length capr) w4) := HPS.out _ _ HP3.out hb'
    have HK4 : Hid (∀ w, Below w4.heap.size w4 w → Kern w K1 kb mb (.slice none 0 0) rv' (putAll Fl) Y' [] ∧ Y'.map Prod.fst = R ∧ ∀ i, K1 i → W.heap.size ≤ i) := fun w hb => ⟨hk.below hb, by rw [hy', HRE.out], fun i hi => Nat.le_trans HP3.out.1.size (hk1 i hi)⟩
    clear hb' HP3 d0 d1 hk hy' hk1
    have d0 := HP4.out.2.cell 0
    have d1 := HP4.out.2.cell 1
    go_wp2_with fail
    refine (may_any _ _ Fl Y ea _ (HF.out _ HP4.out.1) (HR.out _ HP4.out.1) HB60.out.1 HB60.out.2.1 HB60.out.2.2.1 (HE.out _ HP4.out.1).ers).mono ?_
    rintro e w5 ⟨rfl, hb5⟩
    have HP5 : Hid (Pot W (.slice adf Fl.length capf) (.slice adr Y.length capr) w5) := HPS.out _ _ HP4.out hb5
    rw [HMR.out, show errO ea none = .nilIface from rfl]
    have HI5 : Hid (∀ w, Below W.heap.size W w → Calls Tryd.prog 13 #[.nilIface, .int .i64 0] w fun e w' => e = .returned (.bool true) ∧ Below w.heap.size w w') := fun w hb => is_few w ea (HE.out _ hb) none (.inl rfl)
    clear d0 d1
    go_wp2_with fail
    refine Calls.mono (HI5.out _ HP5.out.1) ?_
    rintro e w6 ⟨rfl, hb6⟩
    have HP6 : Hid (Pot W (.slice adf Fl.length capf) (.slice adr Y.length capr) w6) := HPS.out _ _ HP5.out hb6
    go_wp2_with fail
    refine Calls.mono (HI5.out _ HP6.out.1) ?_
    rintro e w7 ⟨rfl, hb7⟩
    have HP7 : Hid (Pot W (.slice adf Fl.length capf) (.slice adr Y.length capr) w7) := HPS.out _ _ HP6.out hb7
    have HB47 : Hid (Below w4.heap.size w4 w7) := (hb5.trans (hb6.mono hb5.size)).trans (hb7.mono (Nat.le_trans hb5.size hb6.size))
    clear hb5 hb6 hb7 HP4 HP5 HP6 HI5
    have d0 := HP7.out.2.cell 0
    have d1 := HP7.out.2.cell 1
    go_wp2_with fail
    have h50 := (mayR_small HMR.out).1
    refine (rnew_any _ _ Fl Y.length _ (HF.out _ HP7.out.1) ⟨adr, capr, rfl⟩ h50).mono ?_
    rintro e w8 ⟨xb, fv8, K2, rfl, hx, hx1, hb8⟩
    have HT8 : Hid (Top W w8 kb xb (.slice adr Y.length capr) R (putAll Fl) []) := top_made (HK4.out _ HB47.out).1 (HK4.out _ HB47.out).2.1 (HK4.out _ HB47.out).2.2 HP7.out.1 hx hx1 hb8
    have HM8 : Hid (Sm (putAll Fl) [] 0) := sm_start HL.out h50
    have HRO : Hid (RowsOk R) := by unfold Hid; rw [HRE.out]; exact HL.out.rows
    clear hx hx1 hb8 HB47 HK4 HP7 d0 d1 h50 HL HB60 HMR
    go_wp2_with fail
    go_loopw [10] (fun v10 wr => ∃ (k : Nat) (F : Fls) (E : List Ev), v10 = .int .i64 k ∧ k ≤ D.length ∧ Hid (Top W wr kb xb (.slice adr Y.length capr) R F E) ∧ Hid (Sm F E k)) (fun v10 _ => D.length - (intOf v10).toNat)
    case atStart => exact ⟨0, putAll Fl, [], rfl, Nat.zero_le _, HT8.out, HM8.out⟩
    case round =>
      clear HT8 HM8
      obtain ⟨k, F, E, rfl, hk, HT, HM⟩ := hrel
      by_cases hkl : k < D.length
      · obtain ⟨d, hdk⟩ : ∃ d, D[k]? = some d := ⟨_, List.getElem?_eq_getElem hkl⟩
        obtain ⟨g, od, cap', hv, _, _, hcs⟩ := (HD.out _ HT.out.2).at hdk
        cases hv
        obtain ⟨z1, z2, z3⟩ := HDG.out d (List.mem_of_getElem? hdk)
        have HTX0 : ∀ W', Below W.heap.size W W' → Tx W' d.lv d.l := fun W' hb => (HD.out _ hb).2 d (List.mem_of_getElem? hdk)
        obtain ⟨adl, capl, hlv⟩ := (HTX0 _ HT.out.2).form
        obtain ⟨kd, n, m, s, t, lv, l⟩ := d
        dsimp only at hlv z1 z2 z3 HTX0
        subst hlv
        have HTX : Hid (∀ W', Below W.heap.size W W' → Tx W' (.slice adl l.length capl) l) := HTX0
        have x0 := hcs 0 _ rfl
        have x1 := hcs 1 _ rfl
        have x2 := hcs 2 _ rfl
        have x3 := hcs 3 _ rfl
        have x4 := hcs 4 _ rfl
        have x5 := hcs 5 _ rfl
        simp only [Nat.add_zero] at x0
        obtain ⟨wo, hwo⟩ : ∃ wo, wo = wr := ⟨_, rfl⟩
        subst hwo
        have HS : Hid (Sit W (wo.alloc (.cells #[.int .i64 kd, .int .i64 n, .int .i64 m, str s, str t, .slice adl l.length capl] 41)) wo.heap.size #[.int .i64 kd, .int .i64 n, .int .i64 m, str s, str t, .slice adl l.length capl] kb xb (.slice adr Y.length capr) R F E F E) := HT.out.sit _
        have hks : (⟨s.toArray⟩ : ByteArray).size = s.length := str_size s
        have hkt : (⟨t.toArray⟩ : ByteArray).size = t.length := str_size t
        have hki : (k : Int) < (D.length : Int) := by omega
        clear HTX0 hcs hdk HT
        by_cases h20 : 20 < l.length
        · go_wp2_with fail
          go_ret
          exact ⟨rfl, HS.out.2.2⟩
        by_cases h20k : 20000 < t.length
        · go_wp2_with fail
          go_ret
          exact ⟨rfl, HS.out.2.2⟩
        by_cases h3k : 3000 < s.length
        · go_wp2_with fail
          go_ret
          exact ⟨rfl, HS.out.2.2⟩
        obtain ⟨wc, hwc⟩ : ∃ wc, wc = wo.alloc (.cells #[.int .i64 kd, .int .i64 n, .int .i64 m, str s, str t, .slice adl l.length capl] 41) := ⟨_, rfl⟩
        by_cases hk1 : kd = 1
        · as_aux_lemma =>
            subst hk1
            go_upto_region 17 with fail
            rw [← hwc] at HS ⊢
            clear x0 x1 x2 x3 x4 x5 hwc
            have c0 : _ = some (Value.int .i64 1) := HS.out.2.1.cell 0
            have c1 : _ = some (Value.int .i64 n) := HS.out.2.1.cell 1
            have c2 : _ = some (Value.int .i64 m) := HS.out.2.1.cell 2
            have c3 : _ = some (str s) := HS.out.2.1.cell 3
            have c4 : _ = some (str t) := HS.out.2.1.cell 4
            have c5 : _ = some (Value.slice adl l.length capl) := HS.out.2.1.cell 5
            obtain ⟨o, ho⟩ : ∃ o, rowOf R s l = o := ⟨_, rfl⟩
            have HO : Hid (rowOf R s l = o) := ho
            clear ho
            obtain ⟨ot, hot⟩ : ∃ ot, outOf o t = ot := ⟨_, rfl⟩
            obtain ⟨st, hst⟩ : ∃ st, statOf o = st := ⟨_, rfl⟩
            obtain ⟨sb, hsb⟩ : ∃ sb, o.isSome = sb := ⟨_, rfl⟩
            obtain ⟨rb, hrb⟩ : ∃ rb, readsB o = rb := ⟨_, rfl⟩
            have HX1 : Hid (Calls Tryd.prog 16 #[kP kb, str s, str t, .slice adl l.length capl] wc fun r w' => r = .returned (.tuple #[str ot, .int .i64 st, .bool sb]) ∧ Sit W w' wo.heap.size #[.int .i64 1, .int .i64 n, .int .i64 m, str s, str t, .slice adl l.length capl] kb xb (.slice adr Y.length capr) R (F) (E ++ [(⟨1, st, s, heardOf o t, l⟩ : Ev)]) (F) (E)) := by
              rw [← hot, ← hst, ← hsb]
              refine (HS.out.1.exec1 s t l _ o HO.out (by have := HM.out.e; omega) HRO.out.1 HRO.out.2 (HTX.out _ HS.out.2.2) (by omega) (by omega)).mono ?_
              exact fun e w' h => ⟨h.1, HS.out.next h.2⟩
            have HX2 : Hid (∀ w2, Sit W w2 wo.heap.size #[.int .i64 1, .int .i64 n, .int .i64 m, str s, str t, .slice adl l.length capl] kb xb (.slice adr Y.length capr) R (F) (E ++ [(⟨1, st, s, heardOf o t, l⟩ : Ev)]) (F) (E) → Calls Tryd.prog 17 #[xP xb, str s, str t, .slice adl l.length capl] w2 fun r w' => r = .returned (.tuple #[str ot, .int .i64 st, .bool sb]) ∧ Sit W w' wo.heap.size #[.int .i64 1, .int .i64 n, .int .i64 m, str s, str t, .slice adl l.length capl] kb xb (.slice adr Y.length capr) R (F) (E ++ [(⟨1, st, s, heardOf o t, l⟩ : Ev)]) (F) (E ++ [(⟨1, st, s, heardOf o t, l⟩ : Ev)])) := fun w2 h2 => by
              rw [← hot, ← hsb]
              rw [← hst] at h2 ⊢
              refine (h2.1.exec2 (HR.out _ h2.2.2) HRE.out.symm s t l _ o HO.out (by have := HM.out.e; omega) HRO.out.1 HRO.out.2 (HTX.out _ h2.2.2) (by omega) (by omega)).mono ?_
              exact fun e w' h => ⟨h.1, h2.next h.2⟩
            have HX3 : Hid (∀ w2, Sit W w2 wo.heap.size #[.int .i64 1, .int .i64 n, .int .i64 m, str s, str t, .slice adl l.length capl] kb xb (.slice adr Y.length capr) R (F) (E ++ [(⟨1, st, s, heardOf o t, l⟩ : Ev)]) (F) (E ++ [(⟨1, st, s, heardOf o t, l⟩ : Ev)]) → Calls Tryd.prog 18 #[kP kb, str s, .slice adl l.length capl] w2 fun r w' => r = .returned (.bool rb) ∧ Sit W w' wo.heap.size #[.int .i64 1, .int .i64 n, .int .i64 m, str s, str t, .slice adl l.length capl] kb xb (.slice adr Y.length capr) R (F) (E ++ [(⟨1, st, s, heardOf o t, l⟩ : Ev)]) (F) (E ++ [(⟨1, st, s, heardOf o t, l⟩ : Ev)])) := fun w2 h2 => by
              rw [← hrb]
              refine (h2.1.reads1 s l _ o HO.out HRO.out.1 HRO.out.2 (HTX.out _ h2.2.2) (by omega)).mono ?_
              exact fun e w' h => ⟨h.1, h2.below h.2⟩
            have HX4 : Hid (∀ w2, Sit W w2 wo.heap.size #[.int .i64 1, .int .i64 n, .int .i64 m, str s, str t, .slice adl l.length capl] kb xb (.slice adr Y.length capr) R (F) (E ++ [(⟨1, st, s, heardOf o t, l⟩ : Ev)]) (F) (E ++ [(⟨1, st, s, heardOf o t, l⟩ : Ev)]) → Calls Tryd.prog 19 #[xP xb, str s, .slice adl l.length capl] w2 fun r w' => r = .returned (.bool rb) ∧ Sit W w' wo.heap.size #[.int .i64 1, .int .i64 n, .int .i64 m, str s, str t, .slice adl l.length capl] kb xb (.slice adr Y.length capr) R (F) (E ++ [(⟨1, st, s, heardOf o t, l⟩ : Ev)]) (F) (E ++ [(⟨1, st, s, heardOf o t, l⟩ : Ev)])) := fun w2 h2 => by
              rw [← hrb]
              refine (h2.1.reads2 (HR.out _ h2.2.2) HRE.out.symm s l _ o HO.out HRO.out.1 HRO.out.2 (HTX.out _ h2.2.2) (by omega)).mono ?_
              exact fun e w' h => ⟨h.1, h2.below h.2⟩
            have HM2 : Hid (Sm F (E ++ [(⟨1, st, s, heardOf o t, l⟩ : Ev)]) (k + 1)) := HM.out.more (by simp) (fun e he => by simp at he; subst he; simpa using Nat.le_of_not_lt h20)
            clear HM
            have HM := HM2
            clear HM2
            clear hot hst hsb hrb
            go_wp2_with fail
            refine Calls.mono HX1.out ?_
            rintro e w5 ⟨rfl, h5⟩
            clear c0 c1 c2 c3 c4 c5
            have HS5 : Hid (Sit W w5 wo.heap.size #[.int .i64 1, .int .i64 n, .int .i64 m, str s, str t, .slice adl l.length capl] kb xb (.slice adr Y.length capr) R (F) (E ++ [(⟨1, st, s, heardOf o t, l⟩ : Ev)]) (F) (E)) := h5
            clear h5 HS HX1
            have c0 : _ = some (Value.int .i64 1) := HS5.out.2.1.cell 0
            have c1 : _ = some (Value.int .i64 n) := HS5.out.2.1.cell 1
            have c2 : _ = some (Value.int .i64 m) := HS5.out.2.1.cell 2
            have c3 : _ = some (str s) := HS5.out.2.1.cell 3
            have c4 : _ = some (str t) := HS5.out.2.1.cell 4
            have c5 : _ = some (Value.slice adl l.length capl) := HS5.out.2.1.cell 5
            go_wp2_with fail
            refine Calls.mono (HX2.out _ HS5.out) ?_
            rintro e w6 ⟨rfl, h6⟩
            clear c0 c1 c2 c3 c4 c5
            have HS6 : Hid (Sit W w6 wo.heap.size #[.int .i64 1, .int .i64 n, .int .i64 m, str s, str t, .slice adl l.length capl] kb xb (.slice adr Y.length capr) R (F) (E ++ [(⟨1, st, s, heardOf o t, l⟩ : Ev)]) (F) (E ++ [(⟨1, st, s, heardOf o t, l⟩ : Ev)])) := h6
            clear h6 HS5 HX2
            go_wp2_with fail
            refine wp_region_held (S := Seen6 wo.heap.size n m s (.slice adl l.length capl)) (by kernel_rfl) ?_
            change wpAnyH _ _ _ _ _ _ _ _ (World.drew _)
            have hS0 : (Seen6 wo.heap.size n m s (.slice adl l.length capl)) (World.drew _) := HS6.out.drew.seen
            refine wpAnyH_take (i := 0) (v := str ot) rfl (by kernel_rfl) (by kernel_rfl) (by kernel_rfl) (fun _ _ _ h => h) (Yields.yieldsIf (Or.inl ⟨by rfl, by intro wz; go_simp⟩)) hS0 ?_
            try simp only [Act.put, List.getElem_toArray, List.getElem_cons_zero, List.setIfInBounds_toArray, List.set_cons_zero, List.set_cons_succ]
            refine wpAnyH_take (i := 1) (v := str ot) rfl (by kernel_rfl) (by kernel_rfl) (by kernel_rfl) (fun _ _ _ h => h) (Yields.yieldsIf (Or.inl ⟨by rfl, by intro wz; go_simp⟩)) hS0 ?_
            try simp only [Act.put, List.getElem_toArray, List.getElem_cons_succ, List.getElem_cons_zero, List.setIfInBounds_toArray, List.set_cons_zero, List.set_cons_succ]
            refine wpAnyH_take (i := 2) (v := .bool false) rfl (by kernel_rfl) (by kernel_rfl) (by kernel_rfl) (fun _ _ _ h => h) (Yields.yieldsIf (Or.inl ⟨by rfl, by intro wz; go_simp⟩)) hS0 ?_
            try simp only [Act.put, List.getElem_toArray, List.getElem_cons_succ, List.getElem_cons_zero, List.setIfInBounds_toArray, List.set_cons_zero, List.set_cons_succ]
            refine wpAnyH_take (i := 3) (v := .bool false) rfl (by kernel_rfl) (by kernel_rfl) (by kernel_rfl) (fun _ _ _ h => h) (Yields.yieldsIf (Or.inl ⟨by rfl, by intro wz; go_simp⟩)) hS0 ?_
            try simp only [Act.put, List.getElem_toArray, List.getElem_cons_succ, List.getElem_cons_zero, List.setIfInBounds_toArray, List.set_cons_zero, List.set_cons_succ]
            refine wpAnyH_take (i := 4) (v := .int .i64 st) rfl (by kernel_rfl) (by kernel_rfl) (by kernel_rfl) (fun _ _ _ h => h) (Yields.yieldsIf (Or.inl ⟨by rfl, by intro wz; go_simp⟩)) hS0 ?_
            try simp only [Act.put, List.getElem_toArray, List.getElem_cons_succ, List.getElem_cons_zero, List.setIfInBounds_toArray, List.set_cons_zero, List.set_cons_succ]
            refine wpAnyH_take (i := 5) (v := .int .i64 st) rfl (by kernel_rfl) (by kernel_rfl) (by kernel_rfl) (fun _ _ _ h => h) (Yields.yieldsIf (Or.inl ⟨by rfl, by intro wz; go_simp⟩)) hS0 ?_
            try simp only [Act.put, List.getElem_toArray, List.getElem_cons_succ, List.getElem_cons_zero, List.setIfInBounds_toArray, List.set_cons_zero, List.set_cons_succ]
            refine wpAnyH_take (i := 6) (v := .bool false) rfl (by kernel_rfl) (by kernel_rfl) (by kernel_rfl) (fun _ _ _ h => h) (Yields.yieldsIf (Or.inl ⟨by rfl, by intro wz; go_simp⟩)) hS0 ?_
            try simp only [Act.put, List.getElem_toArray, List.getElem_cons_succ, List.getElem_cons_zero, List.setIfInBounds_toArray, List.set_cons_zero, List.set_cons_succ]
            refine wpAnyH_take (i := 7) (v := .bool false) rfl (by kernel_rfl) (by kernel_rfl) (by kernel_rfl) (fun _ _ _ h => h) (Yields.yieldsIf (Or.inl ⟨by rfl, by intro wz; go_simp⟩)) hS0 ?_
            try simp only [Act.put, List.getElem_toArray, List.getElem_cons_succ, List.getElem_cons_zero, List.setIfInBounds_toArray, List.set_cons_zero, List.set_cons_succ]
            refine wpAnyH_take (i := 8) (v := .bool false) rfl (by kernel_rfl) (by kernel_rfl) (by kernel_rfl) (fun _ _ _ h => h) (Yields.yieldsIf (Or.inl ⟨by rfl, by intro wz; go_simp⟩)) hS0 ?_
            try simp only [Act.put, List.getElem_toArray, List.getElem_cons_succ, List.getElem_cons_zero, List.setIfInBounds_toArray, List.set_cons_zero, List.set_cons_succ]
            refine wpAnyH_take (i := 9) (v := .bool sb) rfl (by kernel_rfl) (by kernel_rfl) (by kernel_rfl) (fun _ _ _ h => h) (Yields.yieldsIf (Or.inl ⟨by rfl, by intro wz; go_simp⟩)) hS0 ?_
            try simp only [Act.put, List.getElem_toArray, List.getElem_cons_succ, List.getElem_cons_zero, List.setIfInBounds_toArray, List.set_cons_zero, List.set_cons_succ]
            refine wpAnyH_take (i := 10) (v := .bool sb) rfl (by kernel_rfl) (by kernel_rfl) (by kernel_rfl) (fun _ _ _ h => h) (Yields.yieldsIf (Or.inl ⟨by rfl, by intro wz; go_simp⟩)) hS0 ?_
            try simp only [Act.put, List.getElem_toArray, List.getElem_cons_succ, List.getElem_cons_zero, List.setIfInBounds_toArray, List.set_cons_zero, List.set_cons_succ]
            refine wpAnyH_take (i := 11) (v := .bool false) rfl (by kernel_rfl) (by kernel_rfl) (by kernel_rfl) (fun _ _ _ h => h) (Yields.yieldsIf (Or.inl ⟨by rfl, by intro wz; go_simp⟩)) hS0 ?_
            try simp only [Act.put, List.getElem_toArray, List.getElem_cons_succ, List.getElem_cons_zero, List.setIfInBounds_toArray, List.set_cons_zero, List.set_cons_succ]
            refine wpAnyH_take (i := 12) (v := .bool false) rfl (by kernel_rfl) (by kernel_rfl) (by kernel_rfl) (fun _ _ _ h => h) (Yields.yieldsIf (Or.inl ⟨by rfl, by intro wz; go_simp⟩)) hS0 ?_
            try simp only [Act.put, List.getElem_toArray, List.getElem_cons_succ, List.getElem_cons_zero, List.setIfInBounds_toArray, List.set_cons_zero, List.set_cons_succ]
            refine wpAnyH_take (i := 13) (v := .bool false) rfl (by kernel_rfl) (by kernel_rfl) (by kernel_rfl) (fun _ _ _ h => h) (Yields.yieldsIf (Or.inl ⟨by rfl, by intro wz; go_simp⟩)) hS0 ?_
            try simp only [Act.put, List.getElem_toArray, List.getElem_cons_succ, List.getElem_cons_zero, List.setIfInBounds_toArray, List.set_cons_zero, List.set_cons_succ]
            refine wpAnyH_take (i := 14) (v := kP kb) rfl (by kernel_rfl) (by kernel_rfl) (by kernel_rfl) (fun _ _ _ h => h) (Yields.yieldsIf (Or.inl ⟨by rfl, by intro wz; go_simp⟩)) hS0 ?_
            try simp only [Act.put, List.getElem_toArray, List.getElem_cons_succ, List.getElem_cons_zero, List.setIfInBounds_toArray, List.set_cons_zero, List.set_cons_succ]
            refine wpAnyH_take (i := 15) (v := .pointer (some ⟨wo.heap.size, 3, none⟩)) rfl (by kernel_rfl) (by kernel_rfl) (by kernel_rfl) (fun _ _ _ h => h) (Yields.yieldsIf (Or.inl ⟨by rfl, by intro wz; go_simp⟩)) hS0 ?_
            try simp only [Act.put, List.getElem_toArray, List.getElem_cons_succ, List.getElem_cons_zero, List.setIfInBounds_toArray, List.set_cons_zero, List.set_cons_succ]
            refine wpAnyH_take (i := 16) (v := str s) rfl (by kernel_rfl) (by kernel_rfl) (by kernel_rfl) (fun _ _ _ h => h) (Or.inl ⟨by rfl, fun wz hS => by obtain ⟨s1, s2, s3, s5⟩ := hS; go_simp⟩) hS0 ?_
            try simp only [Act.put, List.getElem_toArray, List.getElem_cons_succ, List.getElem_cons_zero, List.setIfInBounds_toArray, List.set_cons_zero, List.set_cons_succ]
            refine wpAnyH_take (i := 17) (v := .pointer (some ⟨wo.heap.size, 5, none⟩)) rfl (by kernel_rfl) (by kernel_rfl) (by kernel_rfl) (fun _ _ _ h => h) (Yields.yieldsIf (Or.inl ⟨by rfl, by intro wz; go_simp⟩)) hS0 ?_
            try simp only [Act.put, List.getElem_toArray, List.getElem_cons_succ, List.getElem_cons_zero, List.setIfInBounds_toArray, List.set_cons_zero, List.set_cons_succ]
            refine wpAnyH_take (i := 18) (v := .slice adl l.length capl) rfl (by kernel_rfl) (by kernel_rfl) (by kernel_rfl) (fun _ _ _ h => h) (Or.inl ⟨by rfl, fun wz hS => by obtain ⟨s1, s2, s3, s5⟩ := hS; go_simp⟩) hS0 ?_
            try simp only [Act.put, List.getElem_toArray, List.getElem_cons_succ, List.getElem_cons_zero, List.setIfInBounds_toArray, List.set_cons_zero, List.set_cons_succ]
            refine wpAnyH_take (i := 20) (v := xP xb) rfl (by kernel_rfl) (by kernel_rfl) (by kernel_rfl) (fun _ _ _ h => h) (Yields.yieldsIf (Or.inl ⟨by rfl, by intro wz; go_simp⟩)) hS0 ?_
            try simp only [Act.put, List.getElem_toArray, List.getElem_cons_succ, List.getElem_cons_zero, List.setIfInBounds_toArray, List.set_cons_zero, List.set_cons_succ]
            refine wpAnyH_take (i := 21) (v := .pointer (some ⟨wo.heap.size, 3, none⟩)) rfl (by kernel_rfl) (by kernel_rfl) (by kernel_rfl) (fun _ _ _ h => h) (Yields.yieldsIf (Or.inl ⟨by rfl, by intro wz; go_simp⟩)) hS0 ?_
            try simp only [Act.put, List.getElem_toArray, List.getElem_cons_succ, List.getElem_cons_zero, List.setIfInBounds_toArray, List.set_cons_zero, List.set_cons_succ]
            refine wpAnyH_take (i := 22) (v := str s) rfl (by kernel_rfl) (by kernel_rfl) (by kernel_rfl) (fun _ _ _ h => h) (Or.inl ⟨by rfl, fun wz hS => by obtain ⟨s1, s2, s3, s5⟩ := hS; go_simp⟩) hS0 ?_
            try simp only [Act.put, List.getElem_toArray, List.getElem_cons_succ, List.getElem_cons_zero, List.setIfInBounds_toArray, List.set_cons_zero, List.set_cons_succ]
            refine wpAnyH_take (i := 23) (v := .pointer (some ⟨wo.heap.size, 5, none⟩)) rfl (by kernel_rfl) (by kernel_rfl) (by kernel_rfl) (fun _ _ _ h => h) (Yields.yieldsIf (Or.inl ⟨by rfl, by intro wz; go_simp⟩)) hS0 ?_
            try simp only [Act.put, List.getElem_toArray, List.getElem_cons_succ, List.getElem_cons_zero, List.setIfInBounds_toArray, List.set_cons_zero, List.set_cons_succ]
            refine wpAnyH_take (i := 24) (v := .slice adl l.length capl) rfl (by kernel_rfl) (by kernel_rfl) (by kernel_rfl) (fun _ _ _ h => h) (Or.inl ⟨by rfl, fun wz hS => by obtain ⟨s1, s2, s3, s5⟩ := hS; go_simp⟩) hS0 ?_
            try simp only [Act.put, List.getElem_toArray, List.getElem_cons_succ, List.getElem_cons_zero, List.setIfInBounds_toArray, List.set_cons_zero, List.set_cons_succ]
            refine wpAnyH_ready (rs := [19]) (by kernel_rfl) (by simp) ?_
            refine AllReadyH.cons rfl (fun K' hK => ?_) AllReadyH.nil
            go_simp
            refine (HX3.out _ HS6.out.drew).mono ?_
            rintro e w7 ⟨rfl, h7⟩
            have HS7 : Hid (Sit W w7 wo.heap.size #[.int .i64 1, .int .i64 n, .int .i64 m, str s, str t, .slice adl l.length capl] kb xb (.slice adr Y.length capr) R (F) (E ++ [(⟨1, st, s, heardOf o t, l⟩ : Ev)]) (F) (E ++ [(⟨1, st, s, heardOf o t, l⟩ : Ev)])) := h7
            clear h7
            have hSn := HS7.out.seen
            refine hK.out _ _ hSn (fun _ => ?_)
            clear hK K' hS0
            have hS0 := hSn
            clear hSn
            try simp only [Act.put, List.getElem_toArray, List.getElem_cons_succ, List.getElem_cons_zero, List.setIfInBounds_toArray, List.set_cons_zero, List.set_cons_succ]
            refine wpAnyH_ready (rs := [25]) (by kernel_rfl) (by simp) ?_
            refine AllReadyH.cons rfl (fun K' hK => ?_) AllReadyH.nil
            go_simp
            refine (HX4.out _ HS7.out).mono ?_
            rintro e w8 ⟨rfl, h8⟩
            have HS8 : Hid (Sit W w8 wo.heap.size #[.int .i64 1, .int .i64 n, .int .i64 m, str s, str t, .slice adl l.length capl] kb xb (.slice adr Y.length capr) R (F) (E ++ [(⟨1, st, s, heardOf o t, l⟩ : Ev)]) (F) (E ++ [(⟨1, st, s, heardOf o t, l⟩ : Ev)])) := h8
            clear h8 HS7
            have hSn := HS8.out.seen
            refine hK.out _ _ hSn (fun _ => ?_)
            clear hK K' hS0
            have hS0 := hSn
            clear hSn
            try simp only [Act.put, List.getElem_toArray, List.getElem_cons_succ, List.getElem_cons_zero, List.setIfInBounds_toArray, List.set_cons_zero, List.set_cons_succ]
            refine wpAnyH_take (i := 26) (v := .bool false) rfl (by kernel_rfl) (by kernel_rfl) (by kernel_rfl) (fun _ _ _ h => h) (Yields.yieldsIf (Or.inl ⟨by rfl, by intro wz; go_simp⟩)) hS0 ?_
            try simp only [Act.put, List.getElem_toArray, List.getElem_cons_succ, List.getElem_cons_zero, List.setIfInBounds_toArray, List.set_cons_zero, List.set_cons_succ]
            refine wpAnyH_take (i := 27) (v := .bool false) rfl (by kernel_rfl) (by kernel_rfl) (by kernel_rfl) (fun _ _ _ h => h) (Yields.yieldsIf (Or.inl ⟨by rfl, by intro wz; go_simp⟩)) hS0 ?_
            try simp only [Act.put, List.getElem_toArray, List.getElem_cons_succ, List.getElem_cons_zero, List.setIfInBounds_toArray, List.set_cons_zero, List.set_cons_succ]
            refine wpAnyH_done (by kernel_rfl) ?_ _
            clear hS0
            clear HX3 HX4
            have HS := HS8
            clear HS8
            obtain ⟨fv5, tv5, q0, q2, _, X5, hX5, hX5'⟩ := HS.out.1.cells2
            obtain ⟨adt, capt, htv⟩ := hX5.form
            rw [len_of hX5'] at htv
            subst htv
            obtain ⟨nE, hnE⟩ : ∃ nE, nE = (E ++ [(⟨1, st, s, heardOf o t, l⟩ : Ev)]).length := ⟨_, rfl⟩
            have HLE : Hid (∀ w', Below (w8).heap.size (w8) w' → Calls Tryd.prog 26 #[kP kb] w' fun e w'' => e = .returned (.int .i64 (nE : Nat)) ∧ w'' = w') := fun w' hb => by rw [hnE]; exact (HS.out.below hb).1.len1
            have hnb : nE ≤ 100 := by rw [hnE]; have := HM.out.e; omega
            rw [← hnE] at q2
            have HQ : Hid (SeenX xb fv5 (.slice adt nE capt) w8) := ⟨q0, q2⟩
            have HTT : Hid (Top W (w8).drew kb xb (.slice adr Y.length capr) R (F) (E ++ [(⟨1, st, s, heardOf o t, l⟩ : Ev)])) := HS.out.drew.top
            clear hX5 hX5' hnE q0 q2
            go_wp2_with fail
            refine wp_region_held (S := SeenX xb fv5 (.slice adt nE capt)) (by kernel_rfl) ?_
            change wpAnyH _ _ _ _ _ _ _ _ (World.drew _)
            have hS0 : (SeenX xb fv5 (.slice adt nE capt)) (World.drew _) := HQ.out
            refine wpAnyH_take (i := 0) (v := kP kb) rfl (by kernel_rfl) (by kernel_rfl) (by kernel_rfl) (fun _ _ _ h => h) (Yields.yieldsIf (Or.inl ⟨by rfl, by intro wz; go_simp⟩)) hS0 ?_
            try simp only [Act.put, List.getElem_toArray, List.getElem_cons_zero, List.setIfInBounds_toArray, List.set_cons_zero, List.set_cons_succ]
            refine wpAnyH_take (i := 1) (v := kP kb) rfl (by kernel_rfl) (by kernel_rfl) (by kernel_rfl) (fun _ _ _ h => h) (Yields.yieldsIf (Or.inl ⟨by rfl, by intro wz; go_simp⟩)) hS0 ?_
            try simp only [Act.put, List.getElem_toArray, List.getElem_cons_succ, List.getElem_cons_zero, List.setIfInBounds_toArray, List.set_cons_zero, List.set_cons_succ]
            refine wpAnyH_take (i := 2) (v := kP kb) rfl (by kernel_rfl) (by kernel_rfl) (by kernel_rfl) (fun _ _ _ h => h) (Yields.yieldsIf (Or.inl ⟨by rfl, by intro wz; go_simp⟩)) hS0 ?_
            try simp only [Act.put, List.getElem_toArray, List.getElem_cons_succ, List.getElem_cons_zero, List.setIfInBounds_toArray, List.set_cons_zero, List.set_cons_succ]
            refine wpAnyH_take (i := 4) (v := xP xb) rfl (by kernel_rfl) (by kernel_rfl) (by kernel_rfl) (fun _ _ _ h => h) (Yields.yieldsIf (Or.inl ⟨by rfl, by intro wz; go_simp⟩)) hS0 ?_
            try simp only [Act.put, List.getElem_toArray, List.getElem_cons_succ, List.getElem_cons_zero, List.setIfInBounds_toArray, List.set_cons_zero, List.set_cons_succ]
            refine wpAnyH_take (i := 5) (v := xP xb) rfl (by kernel_rfl) (by kernel_rfl) (by kernel_rfl) (fun _ _ _ h => h) (Yields.yieldsIf (Or.inl ⟨by rfl, by intro wz; go_simp⟩)) hS0 ?_
            try simp only [Act.put, List.getElem_toArray, List.getElem_cons_succ, List.getElem_cons_zero, List.setIfInBounds_toArray, List.set_cons_zero, List.set_cons_succ]
            refine wpAnyH_take (i := 6) (v := .pointer (some ⟨xb, 2, none⟩)) rfl (by kernel_rfl) (by kernel_rfl) (by kernel_rfl) (fun _ _ _ h => h) (Yields.yieldsIf (Or.inl ⟨by rfl, by intro wz; go_simp⟩)) hS0 ?_
            try simp only [Act.put, List.getElem_toArray, List.getElem_cons_succ, List.getElem_cons_zero, List.setIfInBounds_toArray, List.set_cons_zero, List.set_cons_succ]
            refine wpAnyH_take (i := 7) (v := .slice adt nE capt) rfl (by kernel_rfl) (by kernel_rfl) (by kernel_rfl) (fun _ _ _ h => h) (Or.inl ⟨by rfl, fun wz hS => by obtain ⟨s1, s2⟩ := hS; go_simp⟩) hS0 ?_
            try simp only [Act.put, List.getElem_toArray, List.getElem_cons_succ, List.getElem_cons_zero, List.setIfInBounds_toArray, List.set_cons_zero, List.set_cons_succ]
            refine wpAnyH_take (i := 8) (v := .int .i64 (nE : Nat)) rfl (by kernel_rfl) (by kernel_rfl) (by kernel_rfl) (fun _ _ _ h => h) (Yields.yieldsIf (Or.inl ⟨by rfl, by intro wz; go_simp⟩)) hS0 ?_
            try simp only [Act.put, List.getElem_toArray, List.getElem_cons_succ, List.getElem_cons_zero, List.setIfInBounds_toArray, List.set_cons_zero, List.set_cons_succ]
            refine wpAnyH_ready (rs := [3]) (by kernel_rfl) (by simp) ?_
            refine AllReadyH.cons rfl (fun K' hK => ?_) AllReadyH.nil
            go_simp
            refine (HLE.out _ (Below.refl _ _).drew).mono ?_
            rintro e w9 ⟨rfl, hw9⟩
            subst hw9
            have hSn := hS0
            refine hK.out _ _ hSn (fun _ => ?_)
            clear hK K' hS0
            have hS0 := hSn
            clear hSn
            try simp only [Act.put, List.getElem_toArray, List.getElem_cons_succ, List.getElem_cons_zero, List.setIfInBounds_toArray, List.set_cons_zero, List.set_cons_succ]
            refine wpAnyH_take (i := 9) (v := .bool false) rfl (by kernel_rfl) (by kernel_rfl) (by kernel_rfl) (fun _ _ _ h => h) (Yields.yieldsIf (Or.inl ⟨by rfl, by intro wz; go_simp⟩)) hS0 ?_
            try simp only [Act.put, List.getElem_toArray, List.getElem_cons_succ, List.getElem_cons_zero, List.setIfInBounds_toArray, List.set_cons_zero, List.set_cons_succ]
            refine wpAnyH_done (by kernel_rfl) ?_ _
            clear hS0
            go_wp2_with fail
            exact ⟨⟨k + 1, _, _, by simp, by omega, HTT.out, HM.out⟩, by simp [intOf]; omega⟩
        have hkk1 : (kd == 1) = false := by simpa using hk1
        by_cases hk2 : kd = 2
        · as_aux_lemma =>
            subst hk2
            go_upto_region 17 with fail
            rw [← hwc] at HS ⊢
            clear x0 x1 x2 x3 x4 x5 hwc
            have c0 : _ = some (Value.int .i64 2) := HS.out.2.1.cell 0
            have c1 : _ = some (Value.int .i64 n) := HS.out.2.1.cell 1
            have c2 : _ = some (Value.int .i64 m) := HS.out.2.1.cell 2
            have c3 : _ = some (str s) := HS.out.2.1.cell 3
            have c4 : _ = some (str t) := HS.out.2.1.cell 4
            have c5 : _ = some (Value.slice adl l.length capl) := HS.out.2.1.cell 5
            obtain ⟨od, hod⟩ : ∃ od, openD F s n = od := ⟨_, rfl⟩
            obtain ⟨ob, hob⟩ : ∃ ob, openB F s n = ob := ⟨_, rfl⟩
            have HX1 : Hid (Calls Tryd.prog 20 #[kP kb, str s, .int .i64 n] wc fun r w' => r = .returned (.tuple #[str od, .bool ob]) ∧ Sit W w' wo.heap.size #[.int .i64 2, .int .i64 n, .int .i64 m, str s, str t, .slice adl l.length capl] kb xb (.slice adr Y.length capr) R (openF F s n) (E ++ openE F s n) (F) (E)) := by
              rw [← hod, ← hob]
              refine (HS.out.1.open1 s n (by have := HM.out.e; omega) (by have := HM.out.f; omega) (by omega)).mono ?_
              exact fun e w' h => ⟨h.1, HS.out.next h.2⟩
            have HRS : Hid (Ris F) := HS.out.1.ris
            have HX2 : Hid (∀ w2, Sit W w2 wo.heap.size #[.int .i64 2, .int .i64 n, .int .i64 m, str s, str t, .slice adl l.length capl] kb xb (.slice adr Y.length capr) R (openF F s n) (E ++ openE F s n) (F) (E) → Calls Tryd.prog 21 #[xP xb, str s, .int .i64 n] w2 fun r w' => r = .returned (.tuple #[str od, .bool ob]) ∧ Sit W w' wo.heap.size #[.int .i64 2, .int .i64 n, .int .i64 m, str s, str t, .slice adl l.length capl] kb xb (.slice adr Y.length capr) R (openF F s n) (E ++ openE F s n) (openF F s n) (E ++ openE F s n)) := fun w2 h2 => by
              rw [← hod, ← hob]
              refine (h2.1.open2 s n (by have := HM.out.e; omega) (by have := HM.out.f; omega) HRS.out).mono ?_
              exact fun e w' h => ⟨h.1, h2.next h.2⟩
            have HM2 : Hid (Sm (openF F s n) (E ++ openE F s n) (k + 1)) := HM.out.opened s n (Nat.le_of_not_lt h3k)
            clear HM
            have HM := HM2
            clear HM2 hod hob
            go_wp2_with fail
            refine Calls.mono HX1.out ?_
            rintro e w5 ⟨rfl, h5⟩
            clear c0 c1 c2 c3 c4 c5
            have HS5 : Hid (Sit W w5 wo.heap.size #[.int .i64 2, .int .i64 n, .int .i64 m, str s, str t, .slice adl l.length capl] kb xb (.slice adr Y.length capr) R (openF F s n) (E ++ openE F s n) (F) (E)) := h5
            clear h5 HS HX1
            have c0 : _ = some (Value.int .i64 2) := HS5.out.2.1.cell 0
            have c1 : _ = some (Value.int .i64 n) := HS5.out.2.1.cell 1
            have c2 : _ = some (Value.int .i64 m) := HS5.out.2.1.cell 2
            have c3 : _ = some (str s) := HS5.out.2.1.cell 3
            have c4 : _ = some (str t) := HS5.out.2.1.cell 4
            have c5 : _ = some (Value.slice adl l.length capl) := HS5.out.2.1.cell 5
            go_wp2_with fail
            refine Calls.mono (HX2.out _ HS5.out) ?_
            rintro e w6 ⟨rfl, h6⟩
            clear c0 c1 c2 c3 c4 c5
            have HS : Hid (Sit W w6 wo.heap.size #[.int .i64 2, .int .i64 n, .int .i64 m, str s, str t, .slice adl l.length capl] kb xb (.slice adr Y.length capr) R (openF F s n) (E ++ openE F s n) (openF F s n) (E ++ openE F s n)) := h6
            clear h6 HS5 HX2 HRS
            obtain ⟨fv5, tv5, q0, q2, _, X5, hX5, hX5'⟩ := HS.out.1.cells2
            obtain ⟨adt, capt, htv⟩ := hX5.form
            rw [len_of hX5'] at htv
            subst htv
            obtain ⟨nE, hnE⟩ : ∃ nE, nE = (E ++ openE F s n).length := ⟨_, rfl⟩
            have HLE : Hid (∀ w', Below (w6).heap.size (w6) w' → Calls Tryd.prog 26 #[kP kb] w' fun e w'' => e = .returned (.int .i64 (nE : Nat)) ∧ w'' = w') := fun w' hb => by rw [hnE]; exact (HS.out.below hb).1.len1
            have hnb : nE ≤ 100 := by rw [hnE]; have := HM.out.e; omega
            rw [← hnE] at q2
            have HQ : Hid (SeenX xb fv5 (.slice adt nE capt) w6) := ⟨q0, q2⟩
            have HTT : Hid (Top W (w6).drew kb xb (.slice adr Y.length capr) R (openF F s n) (E ++ openE F s n)) := HS.out.drew.top
            clear hX5 hX5' hnE q0 q2
            go_wp2_with fail
            refine wp_region_held (S := SeenX xb fv5 (.slice adt nE capt)) (by kernel_rfl) ?_
            change wpAnyH _ _ _ _ _ _ _ _ (World.drew _)
            have hS0 : (SeenX xb fv5 (.slice adt nE capt)) (World.drew _) := HQ.out
            refine wpAnyH_take (i := 0) (v := kP kb) rfl (by kernel_rfl) (by kernel_rfl) (by kernel_rfl) (fun _ _ _ h => h) (Yields.yieldsIf (Or.inl ⟨by rfl, by intro wz; go_simp⟩)) hS0 ?_
            try simp only [Act.put, List.getElem_toArray, List.getElem_cons_zero, List.setIfInBounds_toArray, List.set_cons_zero, List.set_cons_succ]
            refine wpAnyH_take (i := 1) (v := kP kb) rfl (by kernel_rfl) (by kernel_rfl) (by kernel_rfl) (fun _ _ _ h => h) (Yields.yieldsIf (Or.inl ⟨by rfl, by intro wz; go_simp⟩)) hS0 ?_
            try simp only [Act.put, List.getElem_toArray, List.getElem_cons_succ, List.getElem_cons_zero, List.setIfInBounds_toArray, List.set_cons_zero, List.set_cons_succ]
            refine wpAnyH_take (i := 2) (v := kP kb) rfl (by kernel_rfl) (by kernel_rfl) (by kernel_rfl) (fun _ _ _ h => h) (Yields.yieldsIf (Or.inl ⟨by rfl, by intro wz; go_simp⟩)) hS0 ?_
            try simp only [Act.put, List.getElem_toArray, List.getElem_cons_succ, List.getElem_cons_zero, List.setIfInBounds_toArray, List.set_cons_zero, List.set_cons_succ]
            refine wpAnyH_take (i := 4) (v := xP xb) rfl (by kernel_rfl) (by kernel_rfl) (by kernel_rfl) (fun _ _ _ h => h) (Yields.yieldsIf (Or.inl ⟨by rfl, by intro wz; go_simp⟩)) hS0 ?_
            try simp only [Act.put, List.getElem_toArray, List.getElem_cons_succ, List.getElem_cons_zero, List.setIfInBounds_toArray, List.set_cons_zero, List.set_cons_succ]
            refine wpAnyH_take (i := 5) (v := xP xb) rfl (by kernel_rfl) (by kernel_rfl) (by kernel_rfl) (fun _ _ _ h => h) (Yields.yieldsIf (Or.inl ⟨by rfl, by intro wz; go_simp⟩)) hS0 ?_
            try simp only [Act.put, List.getElem_toArray, List.getElem_cons_succ, List.getElem_cons_zero, List.setIfInBounds_toArray, List.set_cons_zero, List.set_cons_succ]
            refine wpAnyH_take (i := 6) (v := .pointer (some ⟨xb, 2, none⟩)) rfl (by kernel_rfl) (by kernel_rfl) (by kernel_rfl) (fun _ _ _ h => h) (Yields.yieldsIf (Or.inl ⟨by rfl, by intro wz; go_simp⟩)) hS0 ?_
            try simp only [Act.put, List.getElem_toArray, List.getElem_cons_succ, List.getElem_cons_zero, List.setIfInBounds_toArray, List.set_cons_zero, List.set_cons_succ]
            refine wpAnyH_take (i := 7) (v := .slice adt nE capt) rfl (by kernel_rfl) (by kernel_rfl) (by kernel_rfl) (fun _ _ _ h => h) (Or.inl ⟨by rfl, fun wz hS => by obtain ⟨s1, s2⟩ := hS; go_simp⟩) hS0 ?_
            try simp only [Act.put, List.getElem_toArray, List.getElem_cons_succ, List.getElem_cons_zero, List.setIfInBounds_toArray, List.set_cons_zero, List.set_cons_succ]
            refine wpAnyH_take (i := 8) (v := .int .i64 (nE : Nat)) rfl (by kernel_rfl) (by kernel_rfl) (by kernel_rfl) (fun _ _ _ h => h) (Yields.yieldsIf (Or.inl ⟨by rfl, by intro wz; go_simp⟩)) hS0 ?_
            try simp only [Act.put, List.getElem_toArray, List.getElem_cons_succ, List.getElem_cons_zero, List.setIfInBounds_toArray, List.set_cons_zero, List.set_cons_succ]
            refine wpAnyH_ready (rs := [3]) (by kernel_rfl) (by simp) ?_
            refine AllReadyH.cons rfl (fun K' hK => ?_) AllReadyH.nil
            go_simp
            refine (HLE.out _ (Below.refl _ _).drew).mono ?_
            rintro e w9 ⟨rfl, hw9⟩
            subst hw9
            have hSn := hS0
            refine hK.out _ _ hSn (fun _ => ?_)
            clear hK K' hS0
            have hS0 := hSn
            clear hSn
            try simp only [Act.put, List.getElem_toArray, List.getElem_cons_succ, List.getElem_cons_zero, List.setIfInBounds_toArray, List.set_cons_zero, List.set_cons_succ]
            refine wpAnyH_take (i := 9) (v := .bool false) rfl (by kernel_rfl) (by kernel_rfl) (by kernel_rfl) (fun _ _ _ h => h) (Yields.yieldsIf (Or.inl ⟨by rfl, by intro wz; go_simp⟩)) hS0 ?_
            try simp only [Act.put, List.getElem_toArray, List.getElem_cons_succ, List.getElem_cons_zero, List.setIfInBounds_toArray, List.set_cons_zero, List.set_cons_succ]
            refine wpAnyH_done (by kernel_rfl) ?_ _
            clear hS0
            go_wp2_with fail
            exact ⟨⟨k + 1, _, _, by simp, by omega, HTT.out, HM.out⟩, by simp [intOf]; omega⟩
        have hkk2 : (kd == 2) = false := by simpa using hk2
        by_cases hk3 : kd = 3
        · as_aux_lemma =>
            subst hk3
            go_upto_region 17 with fail
            rw [← hwc] at HS ⊢
            clear x0 x1 x2 x3 x4 x5 hwc
            have c0 : _ = some (Value.int .i64 3) := HS.out.2.1.cell 0
            have c1 : _ = some (Value.int .i64 n) := HS.out.2.1.cell 1
            have c2 : _ = some (Value.int .i64 m) := HS.out.2.1.cell 2
            have c3 : _ = some (str s) := HS.out.2.1.cell 3
            have c4 : _ = some (str t) := HS.out.2.1.cell 4
            have c5 : _ = some (Value.slice adl l.length capl) := HS.out.2.1.cell 5
            obtain ⟨wb, hwb⟩ : ∃ wb, writeB F s t = wb := ⟨_, rfl⟩
            have HX1 : Hid (Calls Tryd.prog 22 #[kP kb, str s, str t] wc fun r w' => r = .returned (errR wb (ea 0)) ∧ Sit W w' wo.heap.size #[.int .i64 3, .int .i64 n, .int .i64 m, str s, str t, .slice adl l.length capl] kb xb (.slice adr Y.length capr) R (writeF F s t) (E ++ writeE F s t) (F) (E)) := by
              rw [← hwb]
              refine (HS.out.1.write1 s t (ea 0) (by have := HM.out.e; omega) (by have := HM.out.f; omega) (by omega) (by omega) (by have := dat_bound HM.out.fn s; omega) ((HE.out _ HS.out.2.2).ers 0 (by decide))).mono ?_
              exact fun e w' h => ⟨h.1, HS.out.next h.2⟩
            have HRS : Hid (Ris F) := HS.out.1.ris
            have HX2 : Hid (∀ w2, Sit W w2 wo.heap.size #[.int .i64 3, .int .i64 n, .int .i64 m, str s, str t, .slice adl l.length capl] kb xb (.slice adr Y.length capr) R (writeF F s t) (E ++ writeE F s t) (F) (E) → Calls Tryd.prog 23 #[xP xb, str s, str t] w2 fun r w' => r = .returned (.bool wb) ∧ Sit W w' wo.heap.size #[.int .i64 3, .int .i64 n, .int .i64 m, str s, str t, .slice adl l.length capl] kb xb (.slice adr Y.length capr) R (writeF F s t) (E ++ writeE F s t) (writeF F s t) (E ++ writeE F s t)) := fun w2 h2 => by
              rw [← hwb]
              refine (h2.1.write2 s t (by have := HM.out.e; omega) (by have := HM.out.f; omega) HRS.out (by omega) (by have := dat_bound HM.out.fn s; omega)).mono ?_
              exact fun e w' h => ⟨h.1, h2.next h.2⟩
            have HM2 : Hid (Sm (writeF F s t) (E ++ writeE F s t) (k + 1)) := HM.out.written s t (Nat.le_of_not_lt h3k)
            clear HM
            have HM := HM2
            clear HM2 hwb
            go_wp2_with fail
            refine Calls.mono HX1.out ?_
            rintro e w5 ⟨rfl, h5⟩
            clear c0 c1 c2 c3 c4 c5
            have HS5 : Hid (Sit W w5 wo.heap.size #[.int .i64 3, .int .i64 n, .int .i64 m, str s, str t, .slice adl l.length capl] kb xb (.slice adr Y.length capr) R (writeF F s t) (E ++ writeE F s t) (F) (E)) := h5
            clear h5 HS HX1
            have c0 : _ = some (Value.int .i64 3) := HS5.out.2.1.cell 0
            have c1 : _ = some (Value.int .i64 n) := HS5.out.2.1.cell 1
            have c2 : _ = some (Value.int .i64 m) := HS5.out.2.1.cell 2
            have c3 : _ = some (str s) := HS5.out.2.1.cell 3
            have c4 : _ = some (str t) := HS5.out.2.1.cell 4
            have c5 : _ = some (Value.slice adl l.length capl) := HS5.out.2.1.cell 5
            go_wp2_with fail
            refine Calls.mono (HX2.out _ HS5.out) ?_
            rintro e w6 ⟨rfl, h6⟩
            clear c0 c1 c2 c3 c4 c5
            have HS : Hid (Sit W w6 wo.heap.size #[.int .i64 3, .int .i64 n, .int .i64 m, str s, str t, .slice adl l.length capl] kb xb (.slice adr Y.length capr) R (writeF F s t) (E ++ writeE F s t) (writeF F s t) (E ++ writeE F s t)) := h6
            have g0 : w6.cell? ⟨0, 0, none⟩ = some (errV (ea 0)) := (HE.out _ h6.2.2).cell 0 (by decide)
            have hsame := err_neq (ea 0) w6
            clear h6 HS5 HX2 HRS
            cases wb
            · rw [show errR false (ea 0) = errV (ea 0) from rfl]
              obtain ⟨fv5, tv5, q0, q2, _, X5, hX5, hX5'⟩ := HS.out.1.cells2
              obtain ⟨adt, capt, htv⟩ := hX5.form
              rw [len_of hX5'] at htv
              subst htv
              obtain ⟨nE, hnE⟩ : ∃ nE, nE = (E ++ writeE F s t).length := ⟨_, rfl⟩
              have HLE : Hid (∀ w', Below (w6).heap.size (w6) w' → Calls Tryd.prog 26 #[kP kb] w' fun e w'' => e = .returned (.int .i64 (nE : Nat)) ∧ w'' = w') := fun w' hb => by rw [hnE]; exact (HS.out.below hb).1.len1
              have hnb : nE ≤ 100 := by rw [hnE]; have := HM.out.e; omega
              rw [← hnE] at q2
              have HQ : Hid (SeenX xb fv5 (.slice adt nE capt) w6) := ⟨q0, q2⟩
              have HTT : Hid (Top W (w6).drew kb xb (.slice adr Y.length capr) R (writeF F s t) (E ++ writeE F s t)) := HS.out.drew.top
              clear hX5 hX5' hnE q0 q2
              go_wp2_with fail
              refine wp_region_held (S := SeenX xb fv5 (.slice adt nE capt)) (by kernel_rfl) ?_
              change wpAnyH _ _ _ _ _ _ _ _ (World.drew _)
              have hS0 : (SeenX xb fv5 (.slice adt nE capt)) (World.drew _) := HQ.out
              refine wpAnyH_take (i := 0) (v := kP kb) rfl (by kernel_rfl) (by kernel_rfl) (by kernel_rfl) (fun _ _ _ h => h) (Yields.yieldsIf (Or.inl ⟨by rfl, by intro wz; go_simp⟩)) hS0 ?_
              try simp only [Act.put, List.getElem_toArray, List.getElem_cons_zero, List.setIfInBounds_toArray, List.set_cons_zero, List.set_cons_succ]
              refine wpAnyH_take (i := 1) (v := kP kb) rfl (by kernel_rfl) (by kernel_rfl) (by kernel_rfl) (fun _ _ _ h => h) (Yields.yieldsIf (Or.inl ⟨by rfl, by intro wz; go_simp⟩)) hS0 ?_
              try simp only [Act.put, List.getElem_toArray, List.getElem_cons_succ, List.getElem_cons_zero, List.setIfInBounds_toArray, List.set_cons_zero, List.set_cons_succ]
              refine wpAnyH_take (i := 2) (v := kP kb) rfl (by kernel_rfl) (by kernel_rfl) (by kernel_rfl) (fun _ _ _ h => h) (Yields.yieldsIf (Or.inl ⟨by rfl, by intro wz; go_simp⟩)) hS0 ?_
              try simp only [Act.put, List.getElem_toArray, List.getElem_cons_succ, List.getElem_cons_zero, List.setIfInBounds_toArray, List.set_cons_zero, List.set_cons_succ]
              refine wpAnyH_take (i := 4) (v := xP xb) rfl (by kernel_rfl) (by kernel_rfl) (by kernel_rfl) (fun _ _ _ h => h) (Yields.yieldsIf (Or.inl ⟨by rfl, by intro wz; go_simp⟩)) hS0 ?_
              try simp only [Act.put, List.getElem_toArray, List.getElem_cons_succ, List.getElem_cons_zero, List.setIfInBounds_toArray, List.set_cons_zero, List.set_cons_succ]
              refine wpAnyH_take (i := 5) (v := xP xb) rfl (by kernel_rfl) (by kernel_rfl) (by kernel_rfl) (fun _ _ _ h => h) (Yields.yieldsIf (Or.inl ⟨by rfl, by intro wz; go_simp⟩)) hS0 ?_
              try simp only [Act.put, List.getElem_toArray, List.getElem_cons_succ, List.getElem_cons_zero, List.setIfInBounds_toArray, List.set_cons_zero, List.set_cons_succ]
              refine wpAnyH_take (i := 6) (v := .pointer (some ⟨xb, 2, none⟩)) rfl (by kernel_rfl) (by kernel_rfl) (by kernel_rfl) (fun _ _ _ h => h) (Yields.yieldsIf (Or.inl ⟨by rfl, by intro wz; go_simp⟩)) hS0 ?_
              try simp only [Act.put, List.getElem_toArray, List.getElem_cons_succ, List.getElem_cons_zero, List.setIfInBounds_toArray, List.set_cons_zero, List.set_cons_succ]
              refine wpAnyH_take (i := 7) (v := .slice adt nE capt) rfl (by kernel_rfl) (by kernel_rfl) (by kernel_rfl) (fun _ _ _ h => h) (Or.inl ⟨by rfl, fun wz hS => by obtain ⟨s1, s2⟩ := hS; go_simp⟩) hS0 ?_
              try simp only [Act.put, List.getElem_toArray, List.getElem_cons_succ, List.getElem_cons_zero, List.setIfInBounds_toArray, List.set_cons_zero, List.set_cons_succ]
              refine wpAnyH_take (i := 8) (v := .int .i64 (nE : Nat)) rfl (by kernel_rfl) (by kernel_rfl) (by kernel_rfl) (fun _ _ _ h => h) (Yields.yieldsIf (Or.inl ⟨by rfl, by intro wz; go_simp⟩)) hS0 ?_
              try simp only [Act.put, List.getElem_toArray, List.getElem_cons_succ, List.getElem_cons_zero, List.setIfInBounds_toArray, List.set_cons_zero, List.set_cons_succ]
              refine wpAnyH_ready (rs := [3]) (by kernel_rfl) (by simp) ?_
              refine AllReadyH.cons rfl (fun K' hK => ?_) AllReadyH.nil
              go_simp
              refine (HLE.out _ (Below.refl _ _).drew).mono ?_
              rintro e w9 ⟨rfl, hw9⟩
              subst hw9
              have hSn := hS0
              refine hK.out _ _ hSn (fun _ => ?_)
              clear hK K' hS0
              have hS0 := hSn
              clear hSn
              try simp only [Act.put, List.getElem_toArray, List.getElem_cons_succ, List.getElem_cons_zero, List.setIfInBounds_toArray, List.set_cons_zero, List.set_cons_succ]
              refine wpAnyH_take (i := 9) (v := .bool false) rfl (by kernel_rfl) (by kernel_rfl) (by kernel_rfl) (fun _ _ _ h => h) (Yields.yieldsIf (Or.inl ⟨by rfl, by intro wz; go_simp⟩)) hS0 ?_
              try simp only [Act.put, List.getElem_toArray, List.getElem_cons_succ, List.getElem_cons_zero, List.setIfInBounds_toArray, List.set_cons_zero, List.set_cons_succ]
              refine wpAnyH_done (by kernel_rfl) ?_ _
              clear hS0
              go_wp2_with fail
              exact ⟨⟨k + 1, _, _, by simp, by omega, HTT.out, HM.out⟩, by simp [intOf]; omega⟩
            · rw [show errR true (ea 0) = .nilIface from rfl]
              obtain ⟨fv5, tv5, q0, q2, _, X5, hX5, hX5'⟩ := HS.out.1.cells2
              obtain ⟨adt, capt, htv⟩ := hX5.form
              rw [len_of hX5'] at htv
              subst htv
              obtain ⟨nE, hnE⟩ : ∃ nE, nE = (E ++ writeE F s t).length := ⟨_, rfl⟩
              have HLE : Hid (∀ w', Below (w6).heap.size (w6) w' → Calls Tryd.prog 26 #[kP kb] w' fun e w'' => e = .returned (.int .i64 (nE : Nat)) ∧ w'' = w') := fun w' hb => by rw [hnE]; exact (HS.out.below hb).1.len1
              have hnb : nE ≤ 100 := by rw [hnE]; have := HM.out.e; omega
              rw [← hnE] at q2
              have HQ : Hid (SeenX xb fv5 (.slice adt nE capt) w6) := ⟨q0, q2⟩
              have HTT : Hid (Top W (w6).drew kb xb (.slice adr Y.length capr) R (writeF F s t) (E ++ writeE F s t)) := HS.out.drew.top
              clear hX5 hX5' hnE q0 q2
              go_wp2_with fail
              refine wp_region_held (S := SeenX xb fv5 (.slice adt nE capt)) (by kernel_rfl) ?_
              change wpAnyH _ _ _ _ _ _ _ _ (World.drew _)
              have hS0 : (SeenX xb fv5 (.slice adt nE capt)) (World.drew _) := HQ.out
              refine wpAnyH_take (i := 0) (v := kP kb) rfl (by kernel_rfl) (by kernel_rfl) (by kernel_rfl) (fun _ _ _ h => h) (Yields.yieldsIf (Or.inl ⟨by rfl, by intro wz; go_simp⟩)) hS0 ?_
              try simp only [Act.put, List.getElem_toArray, List.getElem_cons_zero, List.setIfInBounds_toArray, List.set_cons_zero, List.set_cons_succ]
              refine wpAnyH_take (i := 1) (v := kP kb) rfl (by kernel_rfl) (by kernel_rfl) (by kernel_rfl) (fun _ _ _ h => h) (Yields.yieldsIf (Or.inl ⟨by rfl, by intro wz; go_simp⟩)) hS0 ?_
              try simp only [Act.put, List.getElem_toArray, List.getElem_cons_succ, List.getElem_cons_zero, List.setIfInBounds_toArray, List.set_cons_zero, List.set_cons_succ]
              refine wpAnyH_take (i := 2) (v := kP kb) rfl (by kernel_rfl) (by kernel_rfl) (by kernel_rfl) (fun _ _ _ h => h) (Yields.yieldsIf (Or.inl ⟨by rfl, by intro wz; go_simp⟩)) hS0 ?_
              try simp only [Act.put, List.getElem_toArray, List.getElem_cons_succ, List.getElem_cons_zero, List.setIfInBounds_toArray, List.set_cons_zero, List.set_cons_succ]
              refine wpAnyH_take (i := 4) (v := xP xb) rfl (by kernel_rfl) (by kernel_rfl) (by kernel_rfl) (fun _ _ _ h => h) (Yields.yieldsIf (Or.inl ⟨by rfl, by intro wz; go_simp⟩)) hS0 ?_
              try simp only [Act.put, List.getElem_toArray, List.getElem_cons_succ, List.getElem_cons_zero, List.setIfInBounds_toArray, List.set_cons_zero, List.set_cons_succ]
              refine wpAnyH_take (i := 5) (v := xP xb) rfl (by kernel_rfl) (by kernel_rfl) (by kernel_rfl) (fun _ _ _ h => h) (Yields.yieldsIf (Or.inl ⟨by rfl, by intro wz; go_simp⟩)) hS0 ?_
              try simp only [Act.put, List.getElem_toArray, List.getElem_cons_succ, List.getElem_cons_zero, List.setIfInBounds_toArray, List.set_cons_zero, List.set_cons_succ]
              refine wpAnyH_take (i := 6) (v := .pointer (some ⟨xb, 2, none⟩)) rfl (by kernel_rfl) (by kernel_rfl) (by kernel_rfl) (fun _ _ _ h => h) (Yields.yieldsIf (Or.inl ⟨by rfl, by intro wz; go_simp⟩)) hS0 ?_
              try simp only [Act.put, List.getElem_toArray, List.getElem_cons_succ, List.getElem_cons_zero, List.setIfInBounds_toArray, List.set_cons_zero, List.set_cons_succ]
              refine wpAnyH_take (i := 7) (v := .slice adt nE capt) rfl (by kernel_rfl) (by kernel_rfl) (by kernel_rfl) (fun _ _ _ h => h) (Or.inl ⟨by rfl, fun wz hS => by obtain ⟨s1, s2⟩ := hS; go_simp⟩) hS0 ?_
              try simp only [Act.put, List.getElem_toArray, List.getElem_cons_succ, List.getElem_cons_zero, List.setIfInBounds_toArray, List.set_cons_zero, List.set_cons_succ]
              refine wpAnyH_take (i := 8) (v := .int .i64 (nE : Nat)) rfl (by kernel_rfl) (by kernel_rfl) (by kernel_rfl) (fun _ _ _ h => h) (Yields.yieldsIf (Or.inl ⟨by rfl, by intro wz; go_simp⟩)) hS0 ?_
              try simp only [Act.put, List.getElem_toArray, List.getElem_cons_succ, List.getElem_cons_zero, List.setIfInBounds_toArray, List.set_cons_zero, List.set_cons_succ]
              refine wpAnyH_ready (rs := [3]) (by kernel_rfl) (by simp) ?_
              refine AllReadyH.cons rfl (fun K' hK => ?_) AllReadyH.nil
              go_simp
              refine (HLE.out _ (Below.refl _ _).drew).mono ?_
              rintro e w9 ⟨rfl, hw9⟩
              subst hw9
              have hSn := hS0
              refine hK.out _ _ hSn (fun _ => ?_)
              clear hK K' hS0
              have hS0 := hSn
              clear hSn
              try simp only [Act.put, List.getElem_toArray, List.getElem_cons_succ, List.getElem_cons_zero, List.setIfInBounds_toArray, List.set_cons_zero, List.set_cons_succ]
              refine wpAnyH_take (i := 9) (v := .bool false) rfl (by kernel_rfl) (by kernel_rfl) (by kernel_rfl) (fun _ _ _ h => h) (Yields.yieldsIf (Or.inl ⟨by rfl, by intro wz; go_simp⟩)) hS0 ?_
              try simp only [Act.put, List.getElem_toArray, List.getElem_cons_succ, List.getElem_cons_zero, List.setIfInBounds_toArray, List.set_cons_zero, List.set_cons_succ]
              refine wpAnyH_done (by kernel_rfl) ?_ _
              clear hS0
              go_wp2_with fail
              exact ⟨⟨k + 1, _, _, by simp, by omega, HTT.out, HM.out⟩, by simp [intOf]; omega⟩
        have hkk3 : (kd == 3) = false := by simpa using hk3
        as_aux_lemma =>
          go_upto_region 17 with fail
          rw [← hwc] at HS ⊢
          clear x0 x1 x2 x3 x4 x5 hwc
          have c0 : _ = some (Value.int .i64 kd) := HS.out.2.1.cell 0
          have c1 : _ = some (Value.int .i64 n) := HS.out.2.1.cell 1
          have c2 : _ = some (Value.int .i64 m) := HS.out.2.1.cell 2
          have c3 : _ = some (str s) := HS.out.2.1.cell 3
          have c4 : _ = some (str t) := HS.out.2.1.cell 4
          have c5 : _ = some (Value.slice adl l.length capl) := HS.out.2.1.cell 5
          have HX1 : Hid (∀ w2, Sit W w2 wo.heap.size #[.int .i64 kd, .int .i64 n, .int .i64 m, str s, str t, .slice adl l.length capl] kb xb (.slice adr Y.length capr) R (F) (E) (F) (E) → Calls Tryd.prog 24 #[kP kb, .int .i64 n, .int .i64 m] w2 fun r w' => r = .returned (.tuple #[]) ∧ Sit W w' wo.heap.size #[.int .i64 kd, .int .i64 n, .int .i64 m, str s, str t, .slice adl l.length capl] kb xb (.slice adr Y.length capr) R (F) (E ++ marked n m) (F) (E)) := fun w2 h2 => by
            refine (h2.1.mark1 n m (by have := HM.out.e; omega)).mono ?_
            exact fun e w' h => ⟨h.1, h2.next h.2⟩
          have HX2 : Hid (∀ w2, Sit W w2 wo.heap.size #[.int .i64 kd, .int .i64 n, .int .i64 m, str s, str t, .slice adl l.length capl] kb xb (.slice adr Y.length capr) R (F) (E ++ marked n m) (F) (E) → Calls Tryd.prog 25 #[xP xb, .int .i64 n, .int .i64 m] w2 fun r w' => r = .returned (.tuple #[]) ∧ Sit W w' wo.heap.size #[.int .i64 kd, .int .i64 n, .int .i64 m, str s, str t, .slice adl l.length capl] kb xb (.slice adr Y.length capr) R (F) (E ++ marked n m) (F) (E ++ marked n m)) := fun w2 h2 => by
            refine (h2.1.mark2 n m (by have := HM.out.e; omega)).mono ?_
            exact fun e w' h => ⟨h.1, h2.next h.2⟩
          have HM2 : Hid (Sm F (E ++ marked n m) (k + 1)) := HM.out.marked n m
          clear HM
          have HM := HM2
          clear HM2
          go_wp2_with fail
          refine wp_region_held (S := Seen6 wo.heap.size n m s (.slice adl l.length capl)) (by kernel_rfl) ?_
          change wpAnyH _ _ _ _ _ _ _ _ (World.drew _)
          have hS0 : (Seen6 wo.heap.size n m s (.slice adl l.length capl)) (World.drew _) := HS.out.drew.seen
          refine wpAnyH_take (i := 0) (v := kP kb) rfl (by kernel_rfl) (by kernel_rfl) (by kernel_rfl) (fun _ _ _ h => h) (Yields.yieldsIf (Or.inl ⟨by rfl, by intro wz; go_simp⟩)) hS0 ?_
          try simp only [Act.put, List.getElem_toArray, List.getElem_cons_zero, List.setIfInBounds_toArray, List.set_cons_zero, List.set_cons_succ]
          refine wpAnyH_take (i := 1) (v := kP kb) rfl (by kernel_rfl) (by kernel_rfl) (by kernel_rfl) (fun _ _ _ h => h) (Yields.yieldsIf (Or.inl ⟨by rfl, by intro wz; go_simp⟩)) hS0 ?_
          try simp only [Act.put, List.getElem_toArray, List.getElem_cons_succ, List.getElem_cons_zero, List.setIfInBounds_toArray, List.set_cons_zero, List.set_cons_succ]
          refine wpAnyH_take (i := 2) (v := kP kb) rfl (by kernel_rfl) (by kernel_rfl) (by kernel_rfl) (fun _ _ _ h => h) (Yields.yieldsIf (Or.inl ⟨by rfl, by intro wz; go_simp⟩)) hS0 ?_
          try simp only [Act.put, List.getElem_toArray, List.getElem_cons_succ, List.getElem_cons_zero, List.setIfInBounds_toArray, List.set_cons_zero, List.set_cons_succ]
          refine wpAnyH_take (i := 3) (v := .pointer (some ⟨wo.heap.size, 1, none⟩)) rfl (by kernel_rfl) (by kernel_rfl) (by kernel_rfl) (fun _ _ _ h => h) (Yields.yieldsIf (Or.inl ⟨by rfl, by intro wz; go_simp⟩)) hS0 ?_
          try simp only [Act.put, List.getElem_toArray, List.getElem_cons_succ, List.getElem_cons_zero, List.setIfInBounds_toArray, List.set_cons_zero, List.set_cons_succ]
          refine wpAnyH_take (i := 4) (v := .int .i64 n) rfl (by kernel_rfl) (by kernel_rfl) (by kernel_rfl) (fun _ _ _ h => h) (Or.inl ⟨by rfl, fun wz hS => by obtain ⟨s1, s2, s3, s5⟩ := hS; go_simp⟩) hS0 ?_
          try simp only [Act.put, List.getElem_toArray, List.getElem_cons_succ, List.getElem_cons_zero, List.setIfInBounds_toArray, List.set_cons_zero, List.set_cons_succ]
          refine wpAnyH_take (i := 5) (v := .pointer (some ⟨wo.heap.size, 2, none⟩)) rfl (by kernel_rfl) (by kernel_rfl) (by kernel_rfl) (fun _ _ _ h => h) (Yields.yieldsIf (Or.inl ⟨by rfl, by intro wz; go_simp⟩)) hS0 ?_
          try simp only [Act.put, List.getElem_toArray, List.getElem_cons_succ, List.getElem_cons_zero, List.setIfInBounds_toArray, List.set_cons_zero, List.set_cons_succ]
          refine wpAnyH_take (i := 6) (v := .int .i64 m) rfl (by kernel_rfl) (by kernel_rfl) (by kernel_rfl) (fun _ _ _ h => h) (Or.inl ⟨by rfl, fun wz hS => by obtain ⟨s1, s2, s3, s5⟩ := hS; go_simp⟩) hS0 ?_
          try simp only [Act.put, List.getElem_toArray, List.getElem_cons_succ, List.getElem_cons_zero, List.setIfInBounds_toArray, List.set_cons_zero, List.set_cons_succ]
          refine wpAnyH_ready (rs := [7]) (by kernel_rfl) (by simp) ?_
          refine AllReadyH.cons rfl (fun K' hK => ?_) AllReadyH.nil
          go_simp
          refine (HX1.out _ HS.out.drew).mono ?_
          rintro e w5 ⟨rfl, h5⟩
          clear c0 c1 c2 c3 c4 c5
          have HS5 : Hid (Sit W w5 wo.heap.size #[.int .i64 kd, .int .i64 n, .int .i64 m, str s, str t, .slice adl l.length capl] kb xb (.slice adr Y.length capr) R (F) (E ++ marked n m) (F) (E)) := h5
          clear h5 HX1
          have hSn := HS5.out.seen
          refine hK.out _ _ hSn (fun _ => ?_)
          clear hK K' hS0
          have hS0 := hSn
          clear hSn
          try simp only [Act.put, List.getElem_toArray, List.getElem_cons_succ, List.getElem_cons_zero, List.setIfInBounds_toArray, List.set_cons_zero, List.set_cons_succ]
          refine wpAnyH_done (by kernel_rfl) ?_ _
          clear hS0
          clear HS
          have c0 : _ = some (Value.int .i64 kd) := HS5.out.2.1.cell 0
          have c1 : _ = some (Value.int .i64 n) := HS5.out.2.1.cell 1
          have c2 : _ = some (Value.int .i64 m) := HS5.out.2.1.cell 2
          have c3 : _ = some (str s) := HS5.out.2.1.cell 3
          have c4 : _ = some (str t) := HS5.out.2.1.cell 4
          have c5 : _ = some (Value.slice adl l.length capl) := HS5.out.2.1.cell 5
          go_wp2_with fail
          refine Calls.mono (HX2.out _ HS5.out) ?_
          rintro e w6 ⟨rfl, h6⟩
          clear c0 c1 c2 c3 c4 c5
          have HS : Hid (Sit W w6 wo.heap.size #[.int .i64 kd, .int .i64 n, .int .i64 m, str s, str t, .slice adl l.length capl] kb xb (.slice adr Y.length capr) R (F) (E ++ marked n m) (F) (E ++ marked n m)) := h6
          clear h6 HS5 HX2
          obtain ⟨fv5, tv5, q0, q2, _, X5, hX5, hX5'⟩ := HS.out.1.cells2
          obtain ⟨adt, capt, htv⟩ := hX5.form
          rw [len_of hX5'] at htv
          subst htv
          obtain ⟨nE, hnE⟩ : ∃ nE, nE = (E ++ marked n m).length := ⟨_, rfl⟩
          have HLE : Hid (∀ w', Below (w6).heap.size (w6) w' → Calls Tryd.prog 26 #[kP kb] w' fun e w'' => e = .returned (.int .i64 (nE : Nat)) ∧ w'' = w') := fun w' hb => by rw [hnE]; exact (HS.out.below hb).1.len1
          have hnb : nE ≤ 100 := by rw [hnE]; have := HM.out.e; omega
          rw [← hnE] at q2
          have HQ : Hid (SeenX xb fv5 (.slice adt nE capt) w6) := ⟨q0, q2⟩
          have HTT : Hid (Top W (w6).drew kb xb (.slice adr Y.length capr) R (F) (E ++ marked n m)) := HS.out.drew.top
          clear hX5 hX5' hnE q0 q2
          go_wp2_with fail
          refine wp_region_held (S := SeenX xb fv5 (.slice adt nE capt)) (by kernel_rfl) ?_
          change wpAnyH _ _ _ _ _ _ _ _ (World.drew _)
          have hS0 : (SeenX xb fv5 (.slice adt nE capt)) (World.drew _) := HQ.out
          refine wpAnyH_take (i := 0) (v := kP kb) rfl (by kernel_rfl) (by kernel_rfl) (by kernel_rfl) (fun _ _ _ h => h) (Yields.yieldsIf (Or.inl ⟨by rfl, by intro wz; go_simp⟩)) hS0 ?_
          try simp only [Act.put, List.getElem_toArray, List.getElem_cons_zero, List.setIfInBounds_toArray, List.set_cons_zero, List.set_cons_succ]
          refine wpAnyH_take (i := 1) (v := kP kb) rfl (by kernel_rfl) (by kernel_rfl) (by kernel_rfl) (fun _ _ _ h => h) (Yields.yieldsIf (Or.inl ⟨by rfl, by intro wz; go_simp⟩)) hS0 ?_
          try simp only [Act.put, List.getElem_toArray, List.getElem_cons_succ, List.getElem_cons_zero, List.setIfInBounds_toArray, List.set_cons_zero, List.set_cons_succ]
          refine wpAnyH_take (i := 2) (v := kP kb) rfl (by kernel_rfl) (by kernel_rfl) (by kernel_rfl) (fun _ _ _ h => h) (Yields.yieldsIf (Or.inl ⟨by rfl, by intro wz; go_simp⟩)) hS0 ?_
          try simp only [Act.put, List.getElem_toArray, List.getElem_cons_succ, List.getElem_cons_zero, List.setIfInBounds_toArray, List.set_cons_zero, List.set_cons_succ]
          refine wpAnyH_take (i := 4) (v := xP xb) rfl (by kernel_rfl) (by kernel_rfl) (by kernel_rfl) (fun _ _ _ h => h) (Yields.yieldsIf (Or.inl ⟨by rfl, by intro wz; go_simp⟩)) hS0 ?_
          try simp only [Act.put, List.getElem_toArray, List.getElem_cons_succ, List.getElem_cons_zero, List.setIfInBounds_toArray, List.set_cons_zero, List.set_cons_succ]
          refine wpAnyH_take (i := 5) (v := xP xb) rfl (by kernel_rfl) (by kernel_rfl) (by kernel_rfl) (fun _ _ _ h => h) (Yields.yieldsIf (Or.inl ⟨by rfl, by intro wz; go_simp⟩)) hS0 ?_
          try simp only [Act.put, List.getElem_toArray, List.getElem_cons_succ, List.getElem_cons_zero, List.setIfInBounds_toArray, List.set_cons_zero, List.set_cons_succ]
          refine wpAnyH_take (i := 6) (v := .pointer (some ⟨xb, 2, none⟩)) rfl (by kernel_rfl) (by kernel_rfl) (by kernel_rfl) (fun _ _ _ h => h) (Yields.yieldsIf (Or.inl ⟨by rfl, by intro wz; go_simp⟩)) hS0 ?_
          try simp only [Act.put, List.getElem_toArray, List.getElem_cons_succ, List.getElem_cons_zero, List.setIfInBounds_toArray, List.set_cons_zero, List.set_cons_succ]
          refine wpAnyH_take (i := 7) (v := .slice adt nE capt) rfl (by kernel_rfl) (by kernel_rfl) (by kernel_rfl) (fun _ _ _ h => h) (Or.inl ⟨by rfl, fun wz hS => by obtain ⟨s1, s2⟩ := hS; go_simp⟩) hS0 ?_
          try simp only [Act.put, List.getElem_toArray, List.getElem_cons_succ, List.getElem_cons_zero, List.setIfInBounds_toArray, List.set_cons_zero, List.set_cons_succ]
          refine wpAnyH_take (i := 8) (v := .int .i64 (nE : Nat)) rfl (by kernel_rfl) (by kernel_rfl) (by kernel_rfl) (fun _ _ _ h => h) (Yields.yieldsIf (Or.inl ⟨by rfl, by intro wz; go_simp⟩)) hS0 ?_
          try simp only [Act.put, List.getElem_toArray, List.getElem_cons_succ, List.getElem_cons_zero, List.setIfInBounds_toArray, List.set_cons_zero, List.set_cons_succ]
          refine wpAnyH_ready (rs := [3]) (by kernel_rfl) (by simp) ?_
          refine AllReadyH.cons rfl (fun K' hK => ?_) AllReadyH.nil
          go_simp
          refine (HLE.out _ (Below.refl _ _).drew).mono ?_
          rintro e w9 ⟨rfl, hw9⟩
          subst hw9
          have hSn := hS0
          refine hK.out _ _ hSn (fun _ => ?_)
          clear hK K' hS0
          have hS0 := hSn
          clear hSn
          try simp only [Act.put, List.getElem_toArray, List.getElem_cons_succ, List.getElem_cons_zero, List.setIfInBounds_toArray, List.set_cons_zero, List.set_cons_succ]
          refine wpAnyH_take (i := 9) (v := .bool false) rfl (by kernel_rfl) (by kernel_rfl) (by kernel_rfl) (fun _ _ _ h => h) (Yields.yieldsIf (Or.inl ⟨by rfl, by intro wz; go_simp⟩)) hS0 ?_
          try simp only [Act.put, List.getElem_toArray, List.getElem_cons_succ, List.getElem_cons_zero, List.setIfInBounds_toArray, List.set_cons_zero, List.set_cons_succ]
          refine wpAnyH_done (by kernel_rfl) ?_ _
          clear hS0
          go_wp2_with fail
          exact ⟨⟨k + 1, _, _, by simp, by omega, HTT.out, HM.out⟩, by simp [intOf]; omega⟩
      · obtain rfl : k = D.length := by omega
        as_aux_lemma =>
          obtain ⟨fv5, tv5, q0, q2, hfl, X5, hX5, hX5'⟩ := HT.out.drew.1.cells2
          have HQ : Hid (∀ w', Below wr.drew.heap.size wr.drew w' → SeenX xb fv5 tv5 w') := fun w' hb => by
            have hx := HT.out.drew.1.cells2
            exact ⟨(hb.cell (p := ⟨xb, 0, none⟩) (World.block_lt_of_cell? _ _ q0)).trans q0, (hb.cell (p := ⟨xb, 2, none⟩) (World.block_lt_of_cell? _ _ q2)).trans q2⟩
          have HFL : Hid (∀ w', Below wr.drew.heap.size wr.drew w' → FlAt w' fv5 F) := fun w' hb => hfl.below hb (Nat.le_refl _)
          have HEV : Hid (∀ w', Below wr.drew.heap.size wr.drew w' → EvAt w' tv5 X5) := fun w' hb => hX5.below hb (Nat.le_refl _)
          have HXE : Hid (X5.map Prod.fst = E) := hX5'
          have HTB : Hid (∀ w', Below wr.drew.heap.size wr.drew w' → Top W w' kb xb (.slice adr Y.length capr) R F E) := fun w' hb => HT.out.drew.below hb
          have HEL : Hid (∀ X : List (Ev × Value), X.map Prod.fst = E → X.length < 4294967296 ∧ ∀ p ∈ X, p.1.l.length < 4294967296) := fun X hX => ⟨by rw [len_of hX]; have := HM.out.e; omega, all_of hX fun e he => Nat.lt_of_le_of_lt (HM.out.el e he) (by decide)⟩
          have HER : Hid (∀ X : List (Ev × Value), X.map Prod.fst = erased E → X.length < 4294967296 ∧ ∀ p ∈ X, p.1.l.length < 4294967296) := fun X hX => ⟨by
              rw [len_of hX]
              have := HM.out.e
              have := List.length_filter_le (fun e : Ev => !markB e.kind) E
              unfold erased
              omega, all_of hX fun e he => Nat.lt_of_le_of_lt (HM.out.el e (List.mem_filter.1 he).1) (by decide)⟩
          have HFN : Hid (F.length < 60000 ∧ ∀ p ∈ F, p.1.length < 4294967296) := ⟨by have := HM.out.f; omega, fun p hp => by have := (HM.out.fn p hp).1; omega⟩
          have HE6 : Hid (E.length < 60000 ∧ ∀ e ∈ E, e.l.length < 60000) := ⟨by have := HM.out.e; omega, fun e he => by have := HM.out.el e he; omega⟩
          obtain ⟨adt, capt, htv⟩ := hX5.form
          obtain ⟨adq, capq, hfv⟩ := hfl.form
          subst htv hfv
          clear hX5 hX5' hfl q0 q2
          have hbA : Below wr.drew.heap.size wr.drew wr.drew := Below.refl _ _
          go_wp2_with fail
          refine wp_region_held (S := SeenX xb (.slice adq F.length capq) (.slice adt X5.length capt)) (by kernel_rfl) ?_
          change wpAnyH _ _ _ _ _ _ _ _ (World.drew _)
          have hS0 : (SeenX xb (.slice adq F.length capq) (.slice adt X5.length capt)) (World.drew _) := HQ.out _ hbA
          refine wpAnyH_take (i := 0) (v := kP kb) rfl (by kernel_rfl) (by kernel_rfl) (by kernel_rfl) (fun _ _ _ h => h) (Yields.yieldsIf (Or.inl ⟨by rfl, by intro wz; go_simp⟩)) hS0 ?_
          try simp only [Act.put, List.getElem_toArray, List.getElem_cons_zero, List.setIfInBounds_toArray, List.set_cons_zero, List.set_cons_succ]
          refine wpAnyH_take (i := 1) (v := kP kb) rfl (by kernel_rfl) (by kernel_rfl) (by kernel_rfl) (fun _ _ _ h => h) (Yields.yieldsIf (Or.inl ⟨by rfl, by intro wz; go_simp⟩)) hS0 ?_
          try simp only [Act.put, List.getElem_toArray, List.getElem_cons_succ, List.getElem_cons_zero, List.setIfInBounds_toArray, List.set_cons_zero, List.set_cons_succ]
          refine wpAnyH_take (i := 2) (v := kP kb) rfl (by kernel_rfl) (by kernel_rfl) (by kernel_rfl) (fun _ _ _ h => h) (Yields.yieldsIf (Or.inl ⟨by rfl, by intro wz; go_simp⟩)) hS0 ?_
          try simp only [Act.put, List.getElem_toArray, List.getElem_cons_succ, List.getElem_cons_zero, List.setIfInBounds_toArray, List.set_cons_zero, List.set_cons_succ]
          refine wpAnyH_take (i := 4) (v := xP xb) rfl (by kernel_rfl) (by kernel_rfl) (by kernel_rfl) (fun _ _ _ h => h) (Yields.yieldsIf (Or.inl ⟨by rfl, by intro wz; go_simp⟩)) hS0 ?_
          try simp only [Act.put, List.getElem_toArray, List.getElem_cons_succ, List.getElem_cons_zero, List.setIfInBounds_toArray, List.set_cons_zero, List.set_cons_succ]
          refine wpAnyH_take (i := 5) (v := xP xb) rfl (by kernel_rfl) (by kernel_rfl) (by kernel_rfl) (fun _ _ _ h => h) (Yields.yieldsIf (Or.inl ⟨by rfl, by intro wz; go_simp⟩)) hS0 ?_
          try simp only [Act.put, List.getElem_toArray, List.getElem_cons_succ, List.getElem_cons_zero, List.setIfInBounds_toArray, List.set_cons_zero, List.set_cons_succ]
          refine wpAnyH_take (i := 6) (v := .pointer (some ⟨xb, 2, none⟩)) rfl (by kernel_rfl) (by kernel_rfl) (by kernel_rfl) (fun _ _ _ h => h) (Yields.yieldsIf (Or.inl ⟨by rfl, by intro wz; go_simp⟩)) hS0 ?_
          try simp only [Act.put, List.getElem_toArray, List.getElem_cons_succ, List.getElem_cons_zero, List.setIfInBounds_toArray, List.set_cons_zero, List.set_cons_succ]
          refine wpAnyH_take (i := 7) (v := .slice adt X5.length capt) rfl (by kernel_rfl) (by kernel_rfl) (by kernel_rfl) (fun _ _ _ h => h) (Or.inl ⟨by rfl, fun wz hS => by obtain ⟨s1, s2⟩ := hS; go_simp⟩) hS0 ?_
          try simp only [Act.put, List.getElem_toArray, List.getElem_cons_succ, List.getElem_cons_zero, List.setIfInBounds_toArray, List.set_cons_zero, List.set_cons_succ]
          refine wpAnyH_ready (rs := [3]) (by kernel_rfl) (by simp) ?_
          refine AllReadyH.cons rfl (fun K' hK => ?_) AllReadyH.nil
          go_simp
          refine ((HTB.out _ hbA).1.trace1 HE6.out.1 HE6.out.2).mono ?_
          rintro e w1 ⟨v1, X1, rfl, ha, hx, hb'⟩
          have hb1 := hbA.trans (hb'.mono hbA.size)
          have hK1 : Hid (EvAt w1 v1 X1 ∧ X1.map Prod.fst = E) := ⟨ha, hx⟩
          clear ha hx
          clear hb'
          have hSn := HQ.out _ hb1
          refine hK.out _ _ hSn (fun _ => ?_)
          clear hK K' hS0
          have hS0 := hSn
          clear hSn
          try simp only [Act.put, List.getElem_toArray, List.getElem_cons_succ, List.getElem_cons_zero, List.setIfInBounds_toArray, List.set_cons_zero, List.set_cons_succ]
          refine wpAnyH_ready (rs := [8]) (by kernel_rfl) (by simp) ?_
          refine AllReadyH.cons rfl (fun K' hK => ?_) AllReadyH.nil
          go_simp
          refine (sameEvents_any v1 (.slice adt X5.length capt) X1 X5 _ hK1.out.1 (HEV.out _ hb1) (HEL.out X1 hK1.out.2).1 (HEL.out X5 HXE.out).1 (HEL.out X1 hK1.out.2).2 (HEL.out X5 HXE.out).2).mono ?_
          rintro e w2 ⟨rfl, hb'⟩
          have hb2 := hb1.trans (hb'.mono hb1.size)
          rw [show sameEs (X1.map Prod.fst) (X5.map Prod.fst) = true from (sameEs_iff _ _).2 (by rw [hK1.out.2, HXE.out])]
          clear hb'
          have hSn := HQ.out _ hb2
          refine hK.out _ _ hSn (fun _ => ?_)
          clear hK K' hS0
          have hS0 := hSn
          clear hSn
          try simp only [Act.put, List.getElem_toArray, List.getElem_cons_succ, List.getElem_cons_zero, List.setIfInBounds_toArray, List.set_cons_zero, List.set_cons_succ]
          refine wpAnyH_take (i := 9) (v := .bool true) rfl (by kernel_rfl) (by kernel_rfl) (by kernel_rfl) (fun _ _ _ h => h) (Yields.yieldsIf (Or.inl ⟨by rfl, by intro wz; go_simp⟩)) hS0 ?_
          try simp only [Act.put, List.getElem_toArray, List.getElem_cons_succ, List.getElem_cons_zero, List.setIfInBounds_toArray, List.set_cons_zero, List.set_cons_succ]
          refine wpAnyH_take (i := 10) (v := kP kb) rfl (by kernel_rfl) (by kernel_rfl) (by kernel_rfl) (fun _ _ _ h => h) (Yields.yieldsIf (Or.inl ⟨by rfl, by intro wz; go_simp⟩)) hS0 ?_
          try simp only [Act.put, List.getElem_toArray, List.getElem_cons_succ, List.getElem_cons_zero, List.setIfInBounds_toArray, List.set_cons_zero, List.set_cons_succ]
          refine wpAnyH_take (i := 12) (v := xP xb) rfl (by kernel_rfl) (by kernel_rfl) (by kernel_rfl) (fun _ _ _ h => h) (Yields.yieldsIf (Or.inl ⟨by rfl, by intro wz; go_simp⟩)) hS0 ?_
          try simp only [Act.put, List.getElem_toArray, List.getElem_cons_succ, List.getElem_cons_zero, List.setIfInBounds_toArray, List.set_cons_zero, List.set_cons_succ]
          refine wpAnyH_take (i := 13) (v := xP xb) rfl (by kernel_rfl) (by kernel_rfl) (by kernel_rfl) (fun _ _ _ h => h) (Yields.yieldsIf (Or.inl ⟨by rfl, by intro wz; go_simp⟩)) hS0 ?_
          try simp only [Act.put, List.getElem_toArray, List.getElem_cons_succ, List.getElem_cons_zero, List.setIfInBounds_toArray, List.set_cons_zero, List.set_cons_succ]
          refine wpAnyH_take (i := 14) (v := xP xb) rfl (by kernel_rfl) (by kernel_rfl) (by kernel_rfl) (fun _ _ _ h => h) (Yields.yieldsIf (Or.inl ⟨by rfl, by intro wz; go_simp⟩)) hS0 ?_
          try simp only [Act.put, List.getElem_toArray, List.getElem_cons_succ, List.getElem_cons_zero, List.setIfInBounds_toArray, List.set_cons_zero, List.set_cons_succ]
          refine wpAnyH_take (i := 15) (v := .slice adq F.length capq) rfl (by kernel_rfl) (by kernel_rfl) (by kernel_rfl) (fun _ _ _ h => h) (Or.inl ⟨by rfl, fun wz hS => by obtain ⟨s1, s2⟩ := hS; go_simp⟩) hS0 ?_
          try simp only [Act.put, List.getElem_toArray, List.getElem_cons_succ, List.getElem_cons_zero, List.setIfInBounds_toArray, List.set_cons_zero, List.set_cons_succ]
          refine wpAnyH_ready (rs := [11]) (by kernel_rfl) (by simp) ?_
          refine AllReadyH.cons rfl (fun K' hK => ?_) AllReadyH.nil
          go_simp
          refine ((HTB.out _ hb2).1.files1 HFN.out.1 HFN.out.2).mono ?_
          rintro e w3 ⟨v3, rfl, ha, hb'⟩
          have hb3 := hb2.trans (hb'.mono hb2.size)
          have hK3 : Hid (FlAt w3 v3 F) := ha
          clear ha
          clear hb'
          have hSn := HQ.out _ hb3
          refine hK.out _ _ hSn (fun _ => ?_)
          clear hK K' hS0
          have hS0 := hSn
          clear hSn
          try simp only [Act.put, List.getElem_toArray, List.getElem_cons_succ, List.getElem_cons_zero, List.setIfInBounds_toArray, List.set_cons_zero, List.set_cons_succ]
          refine wpAnyH_ready (rs := [16]) (by kernel_rfl) (by simp) ?_
          refine AllReadyH.cons rfl (fun K' hK => ?_) AllReadyH.nil
          go_simp
          refine (sameFiles_any v3 (.slice adq F.length capq) F F _ hK3.out (HFL.out _ hb3) (Nat.lt_trans HFN.out.1 (by decide)) (Nat.lt_trans HFN.out.1 (by decide))).mono ?_
          rintro e w4 ⟨rfl, hb'⟩
          have hb4 := hb3.trans (hb'.mono hb3.size)
          rw [show decide (F = F) = true from decide_eq_true rfl]
          clear hb'
          have hSn := HQ.out _ hb4
          refine hK.out _ _ hSn (fun _ => ?_)
          clear hK K' hS0
          have hS0 := hSn
          clear hSn
          try simp only [Act.put, List.getElem_toArray, List.getElem_cons_succ, List.getElem_cons_zero, List.setIfInBounds_toArray, List.set_cons_zero, List.set_cons_succ]
          refine wpAnyH_take (i := 17) (v := .bool true) rfl (by kernel_rfl) (by kernel_rfl) (by kernel_rfl) (fun _ _ _ h => h) (Yields.yieldsIf (Or.inl ⟨by rfl, by intro wz; go_simp⟩)) hS0 ?_
          try simp only [Act.put, List.getElem_toArray, List.getElem_cons_succ, List.getElem_cons_zero, List.setIfInBounds_toArray, List.set_cons_zero, List.set_cons_succ]
          refine wpAnyH_take (i := 18) (v := .bool true) rfl (by kernel_rfl) (by kernel_rfl) (by kernel_rfl) (fun _ _ _ h => h) (Yields.yieldsIf (Or.inl ⟨by rfl, by intro wz; go_simp⟩)) hS0 ?_
          try simp only [Act.put, List.getElem_toArray, List.getElem_cons_succ, List.getElem_cons_zero, List.setIfInBounds_toArray, List.set_cons_zero, List.set_cons_succ]
          refine wpAnyH_take (i := 19) (v := kP kb) rfl (by kernel_rfl) (by kernel_rfl) (by kernel_rfl) (fun _ _ _ h => h) (Yields.yieldsIf (Or.inl ⟨by rfl, by intro wz; go_simp⟩)) hS0 ?_
          try simp only [Act.put, List.getElem_toArray, List.getElem_cons_succ, List.getElem_cons_zero, List.setIfInBounds_toArray, List.set_cons_zero, List.set_cons_succ]
          refine wpAnyH_take (i := 21) (v := xP xb) rfl (by kernel_rfl) (by kernel_rfl) (by kernel_rfl) (fun _ _ _ h => h) (Yields.yieldsIf (Or.inl ⟨by rfl, by intro wz; go_simp⟩)) hS0 ?_
          try simp only [Act.put, List.getElem_toArray, List.getElem_cons_succ, List.getElem_cons_zero, List.setIfInBounds_toArray, List.set_cons_zero, List.set_cons_succ]
          refine wpAnyH_ready (rs := [20]) (by kernel_rfl) (by simp) ?_
          refine AllReadyH.cons rfl (fun K' hK => ?_) AllReadyH.nil
          go_simp
          refine ((HTB.out _ hb4).1.names1 HFN.out.1).mono ?_
          rintro e w5 ⟨vn1, rfl, ha, hb'⟩
          have hb5 := hb4.trans (hb'.mono hb4.size)
          have hN1 : Hid (∀ w', Below w5.heap.size w5 w' → Tx w' vn1 (F.map Prod.fst)) := fun w' hb => ha.below hb (Nat.le_refl _)
          clear ha
          clear hb'
          have hSn := HQ.out _ hb5
          refine hK.out _ _ hSn (fun _ => ?_)
          clear hK K' hS0
          have hS0 := hSn
          clear hSn
          try simp only [Act.put, List.getElem_toArray, List.getElem_cons_succ, List.getElem_cons_zero, List.setIfInBounds_toArray, List.set_cons_zero, List.set_cons_succ]
          have hz := hb5
          refine wpAnyH_ready (rs := [22]) (by kernel_rfl) (by simp) ?_
          refine AllReadyH.cons rfl (fun K' hK => ?_) AllReadyH.nil
          go_simp
          refine ((HTB.out _ hb5).1.names2 HFN.out.1).mono ?_
          rintro e w6 ⟨vn2, rfl, ha, hb'⟩
          have hb6 := hb5.trans (hb'.mono hb5.size)
          have hN2 : Hid (∀ w', Below w6.heap.size w6 w' → Tx w' vn2 (F.map Prod.fst)) := fun w' hb => ha.below hb (Nat.le_refl _)
          have b56 := hb'
          clear ha
          clear hb'
          have hSn := HQ.out _ hb6
          refine hK.out _ _ hSn (fun _ => ?_)
          clear hK K' hS0
          have hS0 := hSn
          clear hSn
          try simp only [Act.put, List.getElem_toArray, List.getElem_cons_succ, List.getElem_cons_zero, List.setIfInBounds_toArray, List.set_cons_zero, List.set_cons_succ]
          clear hz
          refine wpAnyH_ready (rs := [23]) (by kernel_rfl) (by simp) ?_
          refine AllReadyH.cons rfl (fun K' hK => ?_) AllReadyH.nil
          go_simp
          refine (sameTexts_any vn1 vn2 (F.map Prod.fst) (F.map Prod.fst) _ (hN1.out _ b56) (hN2.out _ (Below.refl _ _)) (by rw [List.length_map]; exact Nat.lt_trans HFN.out.1 (by decide)) (by rw [List.length_map]; exact Nat.lt_trans HFN.out.1 (by decide))).mono ?_
          rintro e w7 ⟨rfl, hb'⟩
          have hb7 := hb6.trans (hb'.mono hb6.size)
          rw [show decide (F.map Prod.fst = F.map Prod.fst) = true from decide_eq_true rfl]
          clear b56 hN1 hN2
          clear hb'
          have hSn := HQ.out _ hb7
          refine hK.out _ _ hSn (fun _ => ?_)
          clear hK K' hS0
          have hS0 := hSn
          clear hSn
          try simp only [Act.put, List.getElem_toArray, List.getElem_cons_succ, List.getElem_cons_zero, List.setIfInBounds_toArray, List.set_cons_zero, List.set_cons_succ]
          refine wpAnyH_take (i := 24) (v := .bool true) rfl (by kernel_rfl) (by kernel_rfl) (by kernel_rfl) (fun _ _ _ h => h) (Yields.yieldsIf (Or.inl ⟨by rfl, by intro wz; go_simp⟩)) hS0 ?_
          try simp only [Act.put, List.getElem_toArray, List.getElem_cons_succ, List.getElem_cons_zero, List.setIfInBounds_toArray, List.set_cons_zero, List.set_cons_succ]
          refine wpAnyH_take (i := 25) (v := .bool true) rfl (by kernel_rfl) (by kernel_rfl) (by kernel_rfl) (fun _ _ _ h => h) (Yields.yieldsIf (Or.inl ⟨by rfl, by intro wz; go_simp⟩)) hS0 ?_
          try simp only [Act.put, List.getElem_toArray, List.getElem_cons_succ, List.getElem_cons_zero, List.setIfInBounds_toArray, List.set_cons_zero, List.set_cons_succ]
          refine wpAnyH_take (i := 26) (v := kP kb) rfl (by kernel_rfl) (by kernel_rfl) (by kernel_rfl) (fun _ _ _ h => h) (Yields.yieldsIf (Or.inl ⟨by rfl, by intro wz; go_simp⟩)) hS0 ?_
          try simp only [Act.put, List.getElem_toArray, List.getElem_cons_succ, List.getElem_cons_zero, List.setIfInBounds_toArray, List.set_cons_zero, List.set_cons_succ]
          refine wpAnyH_take (i := 27) (v := kP kb) rfl (by kernel_rfl) (by kernel_rfl) (by kernel_rfl) (fun _ _ _ h => h) (Yields.yieldsIf (Or.inl ⟨by rfl, by intro wz; go_simp⟩)) hS0 ?_
          try simp only [Act.put, List.getElem_toArray, List.getElem_cons_succ, List.getElem_cons_zero, List.setIfInBounds_toArray, List.set_cons_zero, List.set_cons_succ]
          refine wpAnyH_take (i := 28) (v := kP kb) rfl (by kernel_rfl) (by kernel_rfl) (by kernel_rfl) (fun _ _ _ h => h) (Yields.yieldsIf (Or.inl ⟨by rfl, by intro wz; go_simp⟩)) hS0 ?_
          try simp only [Act.put, List.getElem_toArray, List.getElem_cons_succ, List.getElem_cons_zero, List.setIfInBounds_toArray, List.set_cons_zero, List.set_cons_succ]
          refine wpAnyH_take (i := 31) (v := xP xb) rfl (by kernel_rfl) (by kernel_rfl) (by kernel_rfl) (fun _ _ _ h => h) (Yields.yieldsIf (Or.inl ⟨by rfl, by intro wz; go_simp⟩)) hS0 ?_
          try simp only [Act.put, List.getElem_toArray, List.getElem_cons_succ, List.getElem_cons_zero, List.setIfInBounds_toArray, List.set_cons_zero, List.set_cons_succ]
          refine wpAnyH_take (i := 32) (v := xP xb) rfl (by kernel_rfl) (by kernel_rfl) (by kernel_rfl) (fun _ _ _ h => h) (Yields.yieldsIf (Or.inl ⟨by rfl, by intro wz; go_simp⟩)) hS0 ?_
          try simp only [Act.put, List.getElem_toArray, List.getElem_cons_succ, List.getElem_cons_zero, List.setIfInBounds_toArray, List.set_cons_zero, List.set_cons_succ]
          refine wpAnyH_take (i := 33) (v := .pointer (some ⟨xb, 2, none⟩)) rfl (by kernel_rfl) (by kernel_rfl) (by kernel_rfl) (fun _ _ _ h => h) (Yields.yieldsIf (Or.inl ⟨by rfl, by intro wz; go_simp⟩)) hS0 ?_
          try simp only [Act.put, List.getElem_toArray, List.getElem_cons_succ, List.getElem_cons_zero, List.setIfInBounds_toArray, List.set_cons_zero, List.set_cons_succ]
          refine wpAnyH_take (i := 34) (v := .slice adt X5.length capt) rfl (by kernel_rfl) (by kernel_rfl) (by kernel_rfl) (fun _ _ _ h => h) (Or.inl ⟨by rfl, fun wz hS => by obtain ⟨s1, s2⟩ := hS; go_simp⟩) hS0 ?_
          try simp only [Act.put, List.getElem_toArray, List.getElem_cons_succ, List.getElem_cons_zero, List.setIfInBounds_toArray, List.set_cons_zero, List.set_cons_succ]
          refine wpAnyH_ready (rs := [29]) (by kernel_rfl) (by simp) ?_
          refine AllReadyH.cons rfl (fun K' hK => ?_) AllReadyH.nil
          go_simp
          refine ((HTB.out _ hb7).1.trace1 HE6.out.1 HE6.out.2).mono ?_
          rintro e w8 ⟨v8, X8, rfl, ha, hx, hb'⟩
          have hb8 := hb7.trans (hb'.mono hb7.size)
          have hK8 : Hid (∀ w', Below w8.heap.size w8 w' → EvAt w' v8 X8) := fun w' hb => ha.below hb (Nat.le_refl _)
          have hK8' : Hid (X8.map Prod.fst = E) := hx
          clear ha hx
          clear hb'
          have hSn := HQ.out _ hb8
          refine hK.out _ _ hSn (fun _ => ?_)
          clear hK K' hS0
          have hS0 := hSn
          clear hSn
          try simp only [Act.put, List.getElem_toArray, List.getElem_cons_succ, List.getElem_cons_zero, List.setIfInBounds_toArray, List.set_cons_zero, List.set_cons_succ]
          refine wpAnyH_ready (rs := [30]) (by kernel_rfl) (by simp) ?_
          refine AllReadyH.cons rfl (fun K' hK => ?_) AllReadyH.nil
          go_simp
          refine (erase_any (hK8.out _ (Below.refl _ _)) (HEL.out X8 hK8'.out).1 (HEL.out X8 hK8'.out).2).mono ?_
          rintro e w9 ⟨v9, X9, rfl, ha, hx, hb'⟩
          have hb9 := hb8.trans (hb'.mono hb8.size)
          rw [hK8'.out] at hx
          have hK9 : Hid (∀ w', Below w9.heap.size w9 w' → EvAt w' v9 X9) := fun w' hb => ha.at.below hb (Nat.le_refl _)
          have hK9' : Hid (X9.map Prod.fst = erased E) := hx
          clear ha hx
          clear hb'
          have hSn := HQ.out _ hb9
          refine hK.out _ _ hSn (fun _ => ?_)
          clear hK K' hS0
          have hS0 := hSn
          clear hSn
          try simp only [Act.put, List.getElem_toArray, List.getElem_cons_succ, List.getElem_cons_zero, List.setIfInBounds_toArray, List.set_cons_zero, List.set_cons_succ]
          refine wpAnyH_ready (rs := [35]) (by kernel_rfl) (by simp) ?_
          refine AllReadyH.cons rfl (fun K' hK => ?_) AllReadyH.nil
          go_simp
          refine (rerase_any (HEV.out _ hb9) (HEL.out X5 HXE.out).1).mono ?_
          rintro e w10 ⟨vr, Xr, rfl, ha, _, hx, hb'⟩
          have b910 := hb'
          have hb10 := hb9.trans (hb'.mono hb9.size)
          rw [HXE.out] at hx
          have hKr : Hid (∀ w', Below w10.heap.size w10 w' → EvAt w' vr Xr) := fun w' hb => ha.below hb (Nat.le_refl _)
          have hKr' : Hid (Xr.map Prod.fst = erased E) := hx
          clear ha hx
          clear hb'
          have hSn := HQ.out _ hb10
          refine hK.out _ _ hSn (fun _ => ?_)
          clear hK K' hS0
          have hS0 := hSn
          clear hSn
          try simp only [Act.put, List.getElem_toArray, List.getElem_cons_succ, List.getElem_cons_zero, List.setIfInBounds_toArray, List.set_cons_zero, List.set_cons_succ]
          refine wpAnyH_ready (rs := [36]) (by kernel_rfl) (by simp) ?_
          refine AllReadyH.cons rfl (fun K' hK => ?_) AllReadyH.nil
          go_simp
          refine (sameEvents_any v9 vr X9 Xr _ (hK9.out _ (b910)) (hKr.out _ (Below.refl _ _)) (HER.out X9 hK9'.out).1 (HER.out Xr hKr'.out).1 (HER.out X9 hK9'.out).2 (HER.out Xr hKr'.out).2).mono ?_
          rintro e w11 ⟨rfl, hb'⟩
          have hb11 := hb10.trans (hb'.mono hb10.size)
          rw [show sameEs (X9.map Prod.fst) (Xr.map Prod.fst) = true from (sameEs_iff _ _).2 (by rw [hK9'.out, hKr'.out])]
          clear hb'
          have hSn := HQ.out _ hb11
          refine hK.out _ _ hSn (fun _ => ?_)
          clear hK K' hS0
          have hS0 := hSn
          clear hSn
          try simp only [Act.put, List.getElem_toArray, List.getElem_cons_succ, List.getElem_cons_zero, List.setIfInBounds_toArray, List.set_cons_zero, List.set_cons_succ]
          refine wpAnyH_take (i := 37) (v := .bool true) rfl (by kernel_rfl) (by kernel_rfl) (by kernel_rfl) (fun _ _ _ h => h) (Yields.yieldsIf (Or.inl ⟨by rfl, by intro wz; go_simp⟩)) hS0 ?_
          try simp only [Act.put, List.getElem_toArray, List.getElem_cons_succ, List.getElem_cons_zero, List.setIfInBounds_toArray, List.set_cons_zero, List.set_cons_succ]
          refine wpAnyH_take (i := 38) (v := .bool true) rfl (by kernel_rfl) (by kernel_rfl) (by kernel_rfl) (fun _ _ _ h => h) (Yields.yieldsIf (Or.inl ⟨by rfl, by intro wz; go_simp⟩)) hS0 ?_
          try simp only [Act.put, List.getElem_toArray, List.getElem_cons_succ, List.getElem_cons_zero, List.setIfInBounds_toArray, List.set_cons_zero, List.set_cons_succ]
          refine wpAnyH_done (by kernel_rfl) ?_ _
          clear hS0
          have HFB : Hid (Below W.heap.size W w11) := HT.out.drew.2.trans (hb11.mono HT.out.drew.2.size)
          go_wp2_with fail
          go_ret
          exact ⟨rfl, HFB.out⟩
  · have h4 := may_four Fl (Y.map Prod.fst)
    rw [hmr] at h4
    by_cases hi1 : i = 1
    · as_aux_lemma =>
        subst hi1
        have HMR : Hid (mayR Fl (Y.map Prod.fst) = some 1) := hmr
        have HI5 : Hid (∀ w, Below W.heap.size W w → Calls Tryd.prog 13 #[errV (ea 1), .int .i64 111] w fun e w' => e = .returned (.bool true) ∧ Below w.heap.size w w') := fun w hb => is_few w ea (HE.out _ hb) (some 1) h4
        rw [show codeR (some 1) = 111 from rfl]
        clear hmr h4
        go_wp2_with fail
        refine (new_bad _ _ Fl Y ea _ 1 (HF.out _ HP3.out.1) (HR.out _ HP3.out.1) HB60.out.1 HB60.out.2.1 HB60.out.2.2.1 (HE.out _ HP3.out.1).ers HMR.out).mono ?_
        rintro e w4 ⟨rfl, hb'⟩
        have HP4 : Hid (Pot W (.slice adf Fl.length capf) (.slice adr Y.length capr) w4) := HPS.out _ _ HP3.out hb'
        clear hb' HP3 d0 d1
        have d0 := HP4.out.2.cell 0
        have d1 := HP4.out.2.cell 1
        go_wp2_with fail
        refine (may_any _ _ Fl Y ea _ (HF.out _ HP4.out.1) (HR.out _ HP4.out.1) HB60.out.1 HB60.out.2.1 HB60.out.2.2.1 (HE.out _ HP4.out.1).ers).mono ?_
        rintro e w5 ⟨rfl, hb5⟩
        have HP5 : Hid (Pot W (.slice adf Fl.length capf) (.slice adr Y.length capr) w5) := HPS.out _ _ HP4.out hb5
        rw [HMR.out, show errO ea (some 1) = errV (ea 1) from rfl]
        clear d0 d1
        go_wp2_with fail
        refine Calls.mono (HI5.out _ HP5.out.1) ?_
        rintro e w6 ⟨rfl, hb6⟩
        have HP6 : Hid (Pot W (.slice adf Fl.length capf) (.slice adr Y.length capr) w6) := HPS.out _ _ HP5.out hb6
        go_wp2_with fail
        refine Calls.mono (HI5.out _ HP6.out.1) ?_
        rintro e w7 ⟨rfl, hb7⟩
        have HP7 : Hid (Pot W (.slice adf Fl.length capf) (.slice adr Y.length capr) w7) := HPS.out _ _ HP6.out hb7
        go_wp2_with fail
        go_ret
        exact ⟨rfl, HP7.out.1⟩
    by_cases hi2 : i = 2
    · as_aux_lemma =>
        subst hi2
        have HMR : Hid (mayR Fl (Y.map Prod.fst) = some 2) := hmr
        have HI5 : Hid (∀ w, Below W.heap.size W w → Calls Tryd.prog 13 #[errV (ea 2), .int .i64 106] w fun e w' => e = .returned (.bool true) ∧ Below w.heap.size w w') := fun w hb => is_few w ea (HE.out _ hb) (some 2) h4
        rw [show codeR (some 2) = 106 from rfl]
        clear hmr h4
        go_wp2_with fail
        refine (new_bad _ _ Fl Y ea _ 2 (HF.out _ HP3.out.1) (HR.out _ HP3.out.1) HB60.out.1 HB60.out.2.1 HB60.out.2.2.1 (HE.out _ HP3.out.1).ers HMR.out).mono ?_
        rintro e w4 ⟨rfl, hb'⟩
        have HP4 : Hid (Pot W (.slice adf Fl.length capf) (.slice adr Y.length capr) w4) := HPS.out _ _ HP3.out hb'
        clear hb' HP3 d0 d1
        have d0 := HP4.out.2.cell 0
        have d1 := HP4.out.2.cell 1
        go_wp2_with fail
        refine (may_any _ _ Fl Y ea _ (HF.out _ HP4.out.1) (HR.out _ HP4.out.1) HB60.out.1 HB60.out.2.1 HB60.out.2.2.1 (HE.out _ HP4.out.1).ers).mono ?_
        rintro e w5 ⟨rfl, hb5⟩
        have HP5 : Hid (Pot W (.slice adf Fl.length capf) (.slice adr Y.length capr) w5) := HPS.out _ _ HP4.out hb5
        rw [HMR.out, show errO ea (some 2) = errV (ea 2) from rfl]
        clear d0 d1
        go_wp2_with fail
        refine Calls.mono (HI5.out _ HP5.out.1) ?_
        rintro e w6 ⟨rfl, hb6⟩
        have HP6 : Hid (Pot W (.slice adf Fl.length capf) (.slice adr Y.length capr) w6) := HPS.out _ _ HP5.out hb6
        go_wp2_with fail
        refine Calls.mono (HI5.out _ HP6.out.1) ?_
        rintro e w7 ⟨rfl, hb7⟩
        have HP7 : Hid (Pot W (.slice adf Fl.length capf) (.slice adr Y.length capr) w7) := HPS.out _ _ HP6.out hb7
        go_wp2_with fail
        go_ret
        exact ⟨rfl, HP7.out.1⟩
    by_cases hi3 : i = 3
    · as_aux_lemma =>
        subst hi3
        have HMR : Hid (mayR Fl (Y.map Prod.fst) = some 3) := hmr
        have HI5 : Hid (∀ w, Below W.heap.size W w → Calls Tryd.prog 13 #[errV (ea 3), .int .i64 101] w fun e w' => e = .returned (.bool true) ∧ Below w.heap.size w w') := fun w hb => is_few w ea (HE.out _ hb) (some 3) h4
        rw [show codeR (some 3) = 101 from rfl]
        clear hmr h4
        go_wp2_with fail
        refine (new_bad _ _ Fl Y ea _ 3 (HF.out _ HP3.out.1) (HR.out _ HP3.out.1) HB60.out.1 HB60.out.2.1 HB60.out.2.2.1 (HE.out _ HP3.out.1).ers HMR.out).mono ?_
        rintro e w4 ⟨rfl, hb'⟩
        have HP4 : Hid (Pot W (.slice adf Fl.length capf) (.slice adr Y.length capr) w4) := HPS.out _ _ HP3.out hb'
        clear hb' HP3 d0 d1
        have d0 := HP4.out.2.cell 0
        have d1 := HP4.out.2.cell 1
        go_wp2_with fail
        refine (may_any _ _ Fl Y ea _ (HF.out _ HP4.out.1) (HR.out _ HP4.out.1) HB60.out.1 HB60.out.2.1 HB60.out.2.2.1 (HE.out _ HP4.out.1).ers).mono ?_
        rintro e w5 ⟨rfl, hb5⟩
        have HP5 : Hid (Pot W (.slice adf Fl.length capf) (.slice adr Y.length capr) w5) := HPS.out _ _ HP4.out hb5
        rw [HMR.out, show errO ea (some 3) = errV (ea 3) from rfl]
        clear d0 d1
        go_wp2_with fail
        refine Calls.mono (HI5.out _ HP5.out.1) ?_
        rintro e w6 ⟨rfl, hb6⟩
        have HP6 : Hid (Pot W (.slice adf Fl.length capf) (.slice adr Y.length capr) w6) := HPS.out _ _ HP5.out hb6
        go_wp2_with fail
        refine Calls.mono (HI5.out _ HP6.out.1) ?_
        rintro e w7 ⟨rfl, hb7⟩
        have HP7 : Hid (Pot W (.slice adf Fl.length capf) (.slice adr Y.length capr) w7) := HPS.out _ _ HP6.out hb7
        go_wp2_with fail
        go_ret
        exact ⟨rfl, HP7.out.1⟩
    obtain rfl : i = 4 := by
      rcases h4 with h | h | h | h | h
      · cases h
      · exact absurd (Option.some.inj h) hi1
      · exact absurd (Option.some.inj h) hi2
      · exact absurd (Option.some.inj h) hi3
      · exact Option.some.inj h
    have HMR : Hid (mayR Fl (Y.map Prod.fst) = some 4) := hmr
    have HI5 : Hid (∀ w, Below W.heap.size W w → Calls Tryd.prog 13 #[errV (ea 4), .int .i64 117] w fun e w' => e = .returned (.bool true) ∧ Below w.heap.size w w') := fun w hb => is_few w ea (HE.out _ hb) (some 4) h4
    rw [show codeR (some 4) = 117 from rfl]
    clear hmr h4
    go_wp2_with fail
    refine (new_bad _ _ Fl Y ea _ 4 (HF.out _ HP3.out.1) (HR.out _ HP3.out.1) HB60.out.1 HB60.out.2.1 HB60.out.2.2.1 (HE.out _ HP3.out.1).ers HMR.out).mono ?_
    rintro e w4 ⟨rfl, hb'⟩
    have HP4 : Hid (Pot W (.slice adf Fl.length capf) (.slice adr Y.length capr) w4) := HPS.out _ _ HP3.out hb'
    clear hb' HP3 d0 d1
    have d0 := HP4.out.2.cell 0
    have d1 := HP4.out.2.cell 1
    go_wp2_with fail
    refine (may_any _ _ Fl Y ea _ (HF.out _ HP4.out.1) (HR.out _ HP4.out.1) HB60.out.1 HB60.out.2.1 HB60.out.2.2.1 (HE.out _ HP4.out.1).ers).mono ?_
    rintro e w5 ⟨rfl, hb5⟩
    have HP5 : Hid (Pot W (.slice adf Fl.length capf) (.slice adr Y.length capr) w5) := HPS.out _ _ HP4.out hb5
    rw [HMR.out, show errO ea (some 4) = errV (ea 4) from rfl]
    clear d0 d1
    go_wp2_with fail
    refine Calls.mono (HI5.out _ HP5.out.1) ?_
    rintro e w6 ⟨rfl, hb6⟩
    have HP6 : Hid (Pot W (.slice adf Fl.length capf) (.slice adr Y.length capr) w6) := HPS.out _ _ HP5.out hb6
    go_wp2_with fail
    refine Calls.mono (HI5.out _ HP6.out.1) ?_
    rintro e w7 ⟨rfl, hb7⟩
    have HP7 : Hid (Pot W (.slice adf Fl.length capf) (.slice adr Y.length capr) w7) := HPS.out _ _ HP6.out hb7
    go_wp2_with fail
    go_ret
    exact ⟨rfl, HP7.out.1⟩

end Go.Proofs.YthhghkjgffcpeaaDoor
