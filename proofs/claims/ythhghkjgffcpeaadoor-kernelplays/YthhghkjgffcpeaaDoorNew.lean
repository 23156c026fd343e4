/- A kernel is made. -/
import Derived.Test.YthhghkjgffcpeaaDoorMay3
namespace Go.Proofs.YthhghkjgffcpeaaDoor
open Go.RowKit Go.Shelf

variable {W W' : World} {K : Nat → Prop} {kb mb : Nat} {ev rv : Value} {F : Fls} {Y : List (Rw × Value)} {X : List (Ev × Value)}

/-- A row is added behind. -/
theorem Kern.rowed (h : Kern W K kb mb ev rv F Y X) {W1 : World} {r : Rw} {lv rv' : Value} {Kl : Nat → Prop} (hl : Ot W Kl lv r.args)
    (ho : W1.ownsRow 0 77 7 rv' (Y.length + 1) (rwCs Y ++ rwC r lv)) (hg : W.grownBy W1 rv.ownBlock) (hat : rv'.ownBlock = rv.ownBlock ∨ ∃ b, rv'.ownBlock = some b ∧ W.heap.size ≤ b) :
    W1.cell? ⟨kb, 2, none⟩ = some rv ∧ W1.frozen? ⟨kb, 2, none⟩ = false ∧
    ∃ K', Kern (W1.setCell ⟨kb, 2, none⟩ rv') K' kb mb ev rv' F (Y ++ [(r, lv)]) X ∧ Turn K W (W1.setCell ⟨kb, 2, none⟩ rv') ∧ ∀ i, K' i → K i ∨ (∃ b, lv.ownBlock = some b ∧ i = b) ∨ W.heap.size ≤ i := by
  have hT := Turn.ofGrown hg
  have hkc1 : Cel W1 kb 57 #[ev, .map (some mb), rv] := h.kc.turn hT (fun e => owns_apart h.kc h.rr (by decide) e)
  refine ⟨hkc1.cell 2, hkc1.frozen 2, ?_⟩
  have hsz : W.heap.size ≤ W1.heap.size := hT.size
  have hT2 : Turn (fun i => i = kb) W1 (W1.setCell ⟨kb, 2, none⟩ rv') := (Turn.refl (fun i => i = kb) W1).setCell (p := ⟨kb, 2, none⟩) (fun _ => rfl) rv'
  have hs2 : (W1.setCell ⟨kb, 2, none⟩ rv').heap.size = W1.heap.size := by simp [World.setCell]
  have rowk : ∀ {e k n : Nat} {v : Value} {xs : List Value}, W1.ownsRow 0 e k v n xs → 57 ≠ e → ∀ b, v.ownBlock = some b → ¬ b = kb := fun ho hne b hb e' => owns_apart hkc1 ho hne (by rw [hb, e'])
  have row2 : ∀ {e k n : Nat} {v : Value} {xs : List Value}, W.ownsRow 0 e k v n xs → 57 ≠ e → 77 ≠ e → (W1.setCell ⟨kb, 2, none⟩ rv').ownsRow 0 e k v n xs := fun ho h1 h2 => by
    have o1 := owns_turn ho hT (fun b hb e' => owns_apart2 h.rr ho h2 b e' hb)
    exact owns_turn o1 hT2 (rowk o1 h1)
  refine ⟨fun i => K i ∨ (lv.ownBlock = some i) ∨ (rv'.ownBlock = some i), ⟨?_, ?_, row2 h.er (by decide) (by decide), ?_, ?_, ?_, .inl h.Kk, .inl h.Km, fun b hb => .inl (h.Ke b hb), fun b hb => .inr (.inr hb), ?_⟩, ?_, ?_⟩
  · exact hkc1.set rv'
  · refine map_turn (map_turn h.fm hT (fun e' => map_apart h.fm h.rr e')) hT2 (fun e' => ?_)
    exact map_apart_cel h.fm h.kc e'.symm
  · refine owns_turn ?_ hT2 (rowk ho (by decide))
    rw [rwCs_snoc, List.length_append]
    exact ho
  · exact fun p hp => ⟨row2 (h.xt p hp).1 (by decide) (by decide), fun b hb => .inl ((h.xt p hp).2 b hb)⟩
  · intro p hp
    rcases List.mem_append.1 hp with hp | hp
    · exact ⟨row2 (h.yt p hp).1 (by decide) (by decide), fun b hb => .inl ((h.yt p hp).2 b hb)⟩
    · simp only [List.mem_singleton] at hp
      subst hp
      exact ⟨row2 hl.1 (by decide) (by decide), fun b hb => .inr (.inl hb)⟩
  · intro i hi
    rw [hs2]
    rcases hi with hi | hi | hi
    · exact Nat.lt_of_lt_of_le (h.lt i hi) hsz
    · exact Nat.lt_of_lt_of_le (hl.1.lt i hi).2 hsz
    · exact (ho.lt i hi).2
  · refine (hT.mono (fun i e' => h.Kr i e')).trans hT2 (fun i e' _ => by subst e'; exact h.Kk)
  · intro i hi
    rcases hi with hi | hi | hi
    · exact .inl hi
    · exact .inr (.inl ⟨i, hi, rfl⟩)
    · rcases hat with e' | ⟨b, e', hb⟩
      · exact .inl (h.Kr i (by rw [← e']; exact hi))
      · rw [hi] at e'
        cases e'
        exact .inr (.inr hb)

/-- A new kernel of nothing. -/
theorem Kern.made (w : World) : Kern ((w.alloc (.map #[] 0)).alloc (.cells #[.slice none 0 0, .map (some w.heap.size), .slice none 0 0] 57)) (fun i => i = w.heap.size ∨ i = w.heap.size + 1) (w.heap.size + 1) w.heap.size (.slice none 0 0) (.slice none 0 0) [] [] [] := {
  kc := by
    have := Cel.new (w.alloc (.map #[] 0)) 57 #[.slice none 0 0, .map (some w.heap.size), .slice none 0 0]
    rw [show (w.alloc (.map #[] 0)).heap.size = w.heap.size + 1 by simp] at this
    exact this
  fm := (World.ownsMap_made w Tryd.prog 9 flE).alloc _
  er := World.ownsRow_nil _ _ _ _
  rr := World.ownsRow_nil _ _ _ _
  xt := fun p hp => by simp at hp
  yt := fun p hp => by simp at hp
  Kk := .inr rfl
  Km := .inl rfl
  Ke := fun b hb => by simp [Value.ownBlock] at hb
  Kr := fun b hb => by simp [Value.ownBlock] at hb
  lt := fun i hi => by simp; omega }

def putAll (Fl : Fls) : Fls := Fl.foldl (fun F p => putF F p.1 p.2) []
theorem putAll_snoc (Fl : Fls) (p : Txt × Txt) : putAll (Fl ++ [p]) = putF (putAll Fl) p.1 p.2 := by simp [putAll]
theorem insF_length (x : Txt × Txt) : ∀ F : Fls, (insF x F).length = F.length + 1
  | [] => rfl
  | y :: r => by
    unfold insF
    split
    · rfl
    · simp [insF_length x r]
theorem putF_length (F : Fls) (k d : Txt) : (putF F k d).length ≤ F.length + 1 := by
  unfold putF
  rw [insF_length]
  have := List.length_filter_le (fun p : Txt × Txt => !(p.1 == k)) F
  omega
theorem putAll_length (Fl : Fls) : ∀ k, (putAll (Fl.take k)).length ≤ k
  | 0 => by simp [putAll]
  | k + 1 => by
    have ih := putAll_length Fl k
    rw [List.take_add_one]
    cases h : Fl[k]? with
    | none => simp; omega
    | some p =>
      rw [show (some p).toList = [p] from rfl, putAll_snoc]
      have := putF_length (putAll (Fl.take k)) p.1 p.2
      omega
theorem info77 : (Tryd.prog.info? 77).map (fun i => (i.zero, i.size, i.bytes)) = some (some (.agg #[.string ⟨#[]⟩, .slice none 0 0, .bool false, .bool false, .bool false, .string ⟨#[]⟩, .int .i64 0]), 7, 72) := by kernel_rfl
theorem rwC_one (r : Rw) (ad : Option Addr) (n : Nat) {cap : Nat} : ∀ u ∈ rwC r (.slice ad n cap), u.oneCell' = true := by
  intro u hu
  simp at hu
  rcases hu with rfl | rfl | rfl | rfl | rfl | rfl | rfl <;> rfl
theorem mayR_small {Fl : Fls} {R : List Rw} (h : mayR Fl R = none) : Fl.length ≤ 50 ∧ R.length ≤ 50 := by
  unfold mayR at h
  cases hm : manyW Fl R with
  | true => rw [hm] at h; cases h
  | false =>
    unfold manyW at hm
    simp at hm
    exact hm.1

set_option maxRecDepth 100000 in
set_option maxHeartbeats 4000000 in
theorem new_bad (fv rv : Value) (Fl : Fls) (Y : List (Rw × Value)) (ea : Nat → Addr) (W : World) (i : Nat) (hf : FlAt W fv Fl) (hr : RwAt W rv Y) (hFl : Fl.length < 4294967296) (hY : Y.length < 4294967296) (hl : ∀ p ∈ Y, p.1.args.length < 4294967296) (hE : Ers W ea) (hm : mayR Fl (Y.map Prod.fst) = some i) :
    Calls Tryd.prog 12 #[wV fv rv] W fun e w' => e = .returned (.tuple #[.pointer none, errV (ea i)]) ∧ Below W.heap.size W w' := by
  have hb1 := below_new W (.cells #[fv, rv] 25)
  have HM : Hid _ := may_any fv rv Fl Y ea _ (hf.below hb1 (Nat.le_refl _)) (hr.below hb1 (Nat.le_refl _)) hFl hY hl (hE.below hb1 (Nat.le_refl _))
  rw [hm] at HM
  obtain ⟨adf, capf, rfl⟩ := hf.form
  obtain ⟨adr, capr, rfl⟩ := hr.form
  clear hf hr hE hl hm
  go_enter Tryd.func12, Tryd.ntmps12
  go_wp2_with fail
  refine Calls.mono HM.out ?_
  rintro e w1 ⟨rfl, hb2'⟩
  have hb2 := hb1.trans (hb2'.mono hb1.size)
  clear HM hb2' hb1
  simp only [errO]
  go_wp2_with fail
  go_ret2
  exact ⟨rfl, hb2⟩

set_option maxRecDepth 100000 in
set_option maxHeartbeats 8000000 in
theorem new_any (fv rv : Value) (Fl : Fls) (Y : List (Rw × Value)) (ea : Nat → Addr) (W : World) (hf : FlAt W fv Fl) (hr : RwAt W rv Y) (hFl : Fl.length < 4294967296) (hY : Y.length < 4294967296) (hl : ∀ p ∈ Y, p.1.args.length < 4294967296) (hN : ∀ p ∈ Fl, p.1.length < 4294967296) (hE : Ers W ea) (hm : mayR Fl (Y.map Prod.fst) = none) :
    Calls Tryd.prog 12 #[wV fv rv] W fun e w' => ∃ kb mb rv' Y' K, e = .returned (.tuple #[kP kb, .nilIface]) ∧ Kern w' K kb mb (.slice none 0 0) rv' (putAll Fl) Y' [] ∧ Y'.map Prod.fst = Y.map Prod.fst ∧ (∀ i, K i → W.heap.size ≤ i) ∧ Below W.heap.size W w' := by
  obtain ⟨i0, hi, hz0, hz1, hz2⟩ := info_parts info77
  have hsm := mayR_small hm
  rw [List.length_map] at hsm
  have hb1 := below_new W (.cells #[fv, rv] 25)
  have HM : Hid _ := may_any fv rv Fl Y ea _ (hf.below hb1 (Nat.le_refl _)) (hr.below hb1 (Nat.le_refl _)) hFl hY hl (hE.below hb1 (Nat.le_refl _))
  rw [hm] at HM
  have HF : Hid (∀ W', Below W.heap.size W W' → FlAt W' fv Fl) := fun W' hb => hf.below hb (Nat.le_refl _)
  have HR : Hid (∀ W', Below W.heap.size W W' → RwAt W' rv Y) := fun W' hb => hr.below hb (Nat.le_refl _)
  have HL : Hid (∀ p ∈ Y, p.1.args.length < 4294967296) := hl
  have HN : Hid (∀ p ∈ Fl, p.1.length < 4294967296) := hN
  obtain ⟨adf, capf, rfl⟩ := hf.form
  obtain ⟨adr, capr, rfl⟩ := hr.form
  have HCB : Hid (Cel (W.alloc (.cells #[.slice adf Fl.length capf, .slice adr Y.length capr] 25)) W.heap.size 25 #[.slice adf Fl.length capf, .slice adr Y.length capr]) := Cel.new W 25 _
  clear hf hr hE hl hN hm
  go_enter Tryd.func12, Tryd.ntmps12
  go_wp2_with fail
  refine Calls.mono HM.out ?_
  rintro e w1 ⟨rfl, hb2'⟩
  have hb2 := hb1.trans (hb2'.mono hb1.size)
  have HC1 : Hid (Cel w1 W.heap.size 25 #[.slice adf Fl.length capf, .slice adr Y.length capr]) := HCB.out.turn (Turn.ofBelow (S := fun _ => False) hb2') (fun h => h)
  have HS1 : Hid (W.heap.size < w1.heap.size) := HC1.out.lt
  clear HM hb2' hb1 HCB
  simp only [errO]
  have HKM : Hid _ := Kern.made w1
  have hb3 : Below W.heap.size W ((w1.alloc (.map #[] 0)).alloc (.cells #[.slice none 0 0, .map (some w1.heap.size), .slice none 0 0] 57)) := (hb2.alloc hb2.size _).alloc (Nat.le_trans hb2.size (below_new w1 _).size) _
  have HC2 : Hid (Cel ((w1.alloc (.map #[] 0)).alloc (.cells #[.slice none 0 0, .map (some w1.heap.size), .slice none 0 0] 57)) W.heap.size 25 #[.slice adf Fl.length capf, .slice adr Y.length capr]) := (HC1.out.turn (Turn.ofBelow (S := fun _ => False) (below_new _ _)) (fun h => h)).turn (Turn.ofBelow (S := fun _ => False) (below_new _ _)) (fun h => h)
  have d0 := HC2.out.cell 0
  have HK0 : Hid (∀ i, (i = w1.heap.size ∨ i = w1.heap.size + 1) → W.heap.size < i) := fun i hi => by have := HS1.out; omega
  have hmm := @run_makeMap Tryd.prog
  clear hb2
  go_wp2_with fail
  clear d0 hmm
  go_loopw [21] (fun v21 wr => ∃ k : Nat, v21 = .int .i64 k ∧ k ≤ Fl.length ∧ Hid (Kern wr (fun i => i = w1.heap.size ∨ i = w1.heap.size + 1) (w1.heap.size + 1) w1.heap.size (.slice none 0 0) (.slice none 0 0) (putAll (Fl.take k)) [] []) ∧ Below W.heap.size W wr ∧ Hid (Cel wr W.heap.size 25 #[.slice adf Fl.length capf, .slice adr Y.length capr])) (fun v21 _ => Fl.length - (intOf v21).toNat)
  case atStart => exact ⟨0, rfl, by omega, HKM.out, hb3, HC2.out⟩
  case round =>
    obtain ⟨k, rfl, hk, HK, hbr, HC⟩ := hrel
    by_cases hkl : k < Fl.length
    · obtain ⟨p, hp⟩ : ∃ p, Fl[k]? = some p := ⟨_, List.getElem?_eq_getElem hkl⟩
      obtain ⟨g, o, cap', hv, hcap, hg, x0, x1⟩ := (HF.out _ hbr).at hp
      cases hv
      have HTK : Hid (putAll (Fl.take (k + 1)) = putF (putAll (Fl.take k)) p.1 p.2) := by unfold Hid; rw [List.take_add_one, hp, show (some p).toList = [p] from rfl, putAll_snoc]
      have hpn := HN.out p (List.mem_of_getElem? hp)
      have HLF : Hid ((putAll (Fl.take k)).length < 4294967296) := by
        unfold Hid
        have := putAll_length Fl k
        omega
      obtain ⟨pn, pd⟩ := p
      clear hp hg
      have hba : Below W.heap.size W (wr.alloc (.cells #[str pn, str pd] 73)) := hbr.alloc hbr.size _
      go_wp2_with fail
      refine (keep_any pn pd hpn (HK.out.below (below_new _ _)) HLF.out).mono ?_
      rintro e w3 ⟨rfl, k1, k2⟩
      have hfin := k2.below (B := W.heap.size) (fun i hi => Nat.le_of_lt (HK0.out i hi)) hba.size
      have HC3 := k2.cel (HC.out.turn (Turn.ofBelow (S := fun _ => False) (below_new wr (.cells #[str pn, str pd] 73))) (fun h => h)) (fun hk => Nat.lt_irrefl _ (HK0.out _ hk))
      go_wp2_with fail
      refine ⟨⟨k + 1, by simp, by omega, ?_, hba.trans hfin.1, HC3⟩, by simp [intOf]; omega⟩
      have e1 := HTK.out
      unfold Hid
      rw [e1]
      exact k1
    · have hkz : k = Fl.length := by omega
      subst hkz
      rw [List.take_length] at HK
      have d1 := HC.out.cell 1
      go_wp2_with fail
      clear d1
      go_loopw [35] (fun v35 ws => ∃ (k : Nat) (Y' : List (Rw × Value)) (rv' : Value) (K : Nat → Prop), v35 = .int .i64 k ∧ k ≤ Y.length ∧ Hid (Kern ws K (w1.heap.size + 1) w1.heap.size (.slice none 0 0) rv' (putAll Fl) Y' [] ∧ Y'.map Prod.fst = (Y.map Prod.fst).take k ∧ ∀ i, K i → W.heap.size ≤ i) ∧ Below W.heap.size W ws) (fun v35 _ => Y.length - (intOf v35).toNat)
      case atStart => exact ⟨0, [], _, _, rfl, by omega, ⟨HK.out, rfl, fun i hi => Nat.le_of_lt (HK0.out i hi)⟩, hbr⟩
      case round =>
        obtain ⟨k, Y', rv', K, rfl, hk, HY, hbs⟩ := hrel
        obtain ⟨ws, hws⟩ : ∃ ws, ws = wr := ⟨_, rfl⟩
        subst hws
        obtain ⟨adp, capp, rfl⟩ := owns_slice HY.out.1.rr
        have HYL : Hid (Y'.length = k) := by
          unfold Hid
          have := congrArg List.length HY.out.2.1
          rw [List.length_map, List.length_take, List.length_map] at this
          omega
        by_cases hkl : k < Y.length
        · obtain ⟨q, hq⟩ : ∃ q, Y[k]? = some q := ⟨_, List.getElem?_eq_getElem hkl⟩
          obtain ⟨g, o, cap', hv, hg, c0, c1, c2, c3, c4, c5, c6⟩ := (HR.out _ hbs).at hq
          cases hv
          have hqm := List.mem_of_getElem? hq
          have HT : Hid (∀ W', Below W.heap.size W W' → Tx W' q.2 q.1.args) := fun W' hb => (HR.out W' hb).2 q hqm
          have hql := HL.out q hqm
          have HQ : Hid ((Y.map Prod.fst).take (k + 1) = (Y.map Prod.fst).take k ++ [q.1]) := by unfold Hid; rw [List.take_add_one, List.getElem?_map, hq]; rfl
          obtain ⟨⟨nm, ars, an, re, co, ou, st⟩, lv⟩ := q
          obtain ⟨adl, capl, hlv⟩ := (HT.out _ hbs).form
          obtain rfl : lv = .slice adl ars.length capl := hlv
          have hba : Below W.heap.size W (ws.alloc (.cells #[str nm, .slice adl ars.length capl, .bool an, .bool re, .bool co, str ou, .int .i64 st] 77)) := hbs.alloc hbs.size _
          have HBX : Hid (Cel (ws.alloc (.cells #[str nm, .slice adl ars.length capl, .bool an, .bool re, .bool co, str ou, .int .i64 st] 77)) ws.heap.size 77 #[str nm, .slice adl ars.length capl, .bool an, .bool re, .bool co, str ou, .int .i64 st]) := Cel.new ws 77 _
          clear hq hqm hg
          go_wp2_with fail
          refine (clone_any _ ars _ (HT.out _ hba) hql).mono ?_
          rintro e w4 ⟨v4, rfl, ho4, hb4'⟩
          obtain ⟨ad4, cap4, rfl⟩ := owns_slice ho4
          have HB4 := HBX.out.turn (Turn.ofBelow (S := fun _ => False) hb4') (fun h => h)
          have y0 := HB4.cell 0
          have y1 := HB4.cell 1
          have y2 := HB4.cell 2
          have y3 := HB4.cell 3
          have y4 := HB4.cell 4
          have y5 := HB4.cell 5
          have y6 := HB4.cell 6
          have f1 := HB4.frozen 1
          have hb4 : Below ws.heap.size ws (w4.setCell ⟨ws.heap.size, 1, none⟩ (.slice ad4 ars.length cap4)) := ((below_new ws _).trans (hb4'.mono (below_new ws _).size)).setCell (p := ⟨ws.heap.size, 1, none⟩) (Nat.le_refl _) _
          have HO4 : Hid ((w4.setCell ⟨ws.heap.size, 1, none⟩ (.slice ad4 ars.length cap4)).ownsRow ws.heap.size 9 1 (.slice ad4 ars.length cap4) ars.length (txV ars)) := by
            have hT : Turn (fun i => i = ws.heap.size) w4 (w4.setCell ⟨ws.heap.size, 1, none⟩ (.slice ad4 ars.length cap4)) := (Turn.refl (fun i => i = ws.heap.size) w4).setCell (p := ⟨ws.heap.size, 1, none⟩) (fun _ => rfl) _
            refine owns_turn (owns_lower ho4 (by simp)) hT (fun b hb e' => ?_)
            have h7 := (ho4.lt b hb).1
            simp at h7
            omega
          have HB5 : Hid (Cel (w4.setCell ⟨ws.heap.size, 1, none⟩ (.slice ad4 ars.length cap4)) ws.heap.size 77 #[str nm, .slice ad4 ars.length cap4, .bool an, .bool re, .bool co, str ou, .int .i64 st]) := HB4.set (j := 1) _
          clear ho4 hb4' HBX HB4 c0 c1 c2 c3 c4 c5 c6 hba
          go_wp2_with fail
          clear y0 y1 y2 y3 y4 y5 y6 f1
          obtain ⟨w5, hw5⟩ : ∃ w5, w5 = w4.setCell ⟨ws.heap.size, 1, none⟩ (.slice ad4 ars.length cap4) := ⟨_, rfl⟩
          rw [← hw5] at hb4 HO4 HB5 ⊢
          clear hw5
          have hb5 : Below ws.heap.size ws (World.drew w5) := hb4.drew
          have z0 : (World.drew w5).cell? ⟨ws.heap.size, 0, none⟩ = some (str nm) := HB5.out.cell 0
          have z1 : (World.drew w5).cell? ⟨ws.heap.size, 1, none⟩ = some (.slice ad4 ars.length cap4) := HB5.out.cell 1
          have z2 : (World.drew w5).cell? ⟨ws.heap.size, 2, none⟩ = some (.bool an) := HB5.out.cell 2
          have z3 : (World.drew w5).cell? ⟨ws.heap.size, 3, none⟩ = some (.bool re) := HB5.out.cell 3
          have z4 : (World.drew w5).cell? ⟨ws.heap.size, 4, none⟩ = some (.bool co) := HB5.out.cell 4
          have z5 : (World.drew w5).cell? ⟨ws.heap.size, 5, none⟩ = some (str ou) := HB5.out.cell 5
          have z6 : (World.drew w5).cell? ⟨ws.heap.size, 6, none⟩ = some (.int .i64 st) := HB5.out.cell 6
          have HKS : Hid (∀ W', Below ws.heap.size ws W' → Kern W' K (w1.heap.size + 1) w1.heap.size (.slice none 0 0) (.slice adp Y'.length capp) (putAll Fl) Y' []) := fun W' hb => HY.out.1.below hb
          have HC : Hid (∀ W', Below ws.heap.size ws W' → W'.cell? ⟨w1.heap.size + 1, 2, none⟩ = some (.slice adp Y'.length capp)) := fun W' hb => (HKS.out W' hb).kc.cell 2
          have hyl : Y'.length < 4294967296 := by have := HYL.out; omega
          refine wp_region_any (by kernel_rfl) ?_
          try (change wpAny _ _ _ _ _ _ _ (World.drew _))
          refine wpAny_take (i := 0) (v := .pointer (some ⟨w1.heap.size + 1, 0, none⟩)) rfl (by kernel_rfl) (by kernel_rfl) (by kernel_rfl) (fun _ _ _ h => h) (Or.inl ⟨by rfl, by intro wz; go_simp⟩) ?_
          try simp only [Act.put, List.getElem_toArray, List.getElem_cons_zero, List.setIfInBounds_toArray, List.set_cons_zero, List.set_cons_succ]
          refine wpAny_take (i := 1) (v := .pointer (some ⟨w1.heap.size + 1, 0, none⟩)) rfl (by kernel_rfl) (by kernel_rfl) (by kernel_rfl) (fun _ _ _ h => h) (Or.inl ⟨by rfl, by intro wz; go_simp⟩) ?_
          try simp only [Act.put, List.getElem_toArray, List.getElem_cons_succ, List.getElem_cons_zero, List.setIfInBounds_toArray, List.set_cons_zero, List.set_cons_succ]
          refine wpAny_take (i := 2) (v := .pointer (some ⟨w1.heap.size + 1, 0, none⟩)) rfl (by kernel_rfl) (by kernel_rfl) (by kernel_rfl) (fun _ _ _ h => h) (Or.inl ⟨by rfl, by intro wz; go_simp⟩) ?_
          try simp only [Act.put, List.getElem_toArray, List.getElem_cons_succ, List.getElem_cons_zero, List.setIfInBounds_toArray, List.set_cons_zero, List.set_cons_succ]
          refine wpAny_take (i := 3) (v := .pointer (some ⟨w1.heap.size + 1, 2, none⟩)) rfl (by kernel_rfl) (by kernel_rfl) (by kernel_rfl) (fun _ _ _ h => h) (Or.inl ⟨by rfl, by intro wz; go_simp⟩) ?_
          try simp only [Act.put, List.getElem_toArray, List.getElem_cons_succ, List.getElem_cons_zero, List.setIfInBounds_toArray, List.set_cons_zero, List.set_cons_succ]
          refine wpAny_ready (rs := [4, 5]) (by kernel_rfl) (by simp) ?_
          refine AllReady.cons rfl (fun K hK => ?_) ?_
          · have c0 := HC.out _ hb5
            go_simp
            refine hK _ _ ?_
            clear hK K
            try simp only [Act.put, List.getElem_toArray, List.getElem_cons_succ, List.getElem_cons_zero, List.setIfInBounds_toArray, List.set_cons_zero, List.set_cons_succ]
            refine wpAny_ready (rs := [5]) (by kernel_rfl) (by simp) ?_
            refine AllReady.cons rfl (fun K hK => ?_) ?_
            · go_simp
              refine hK _ _ ?_
              clear hK K
              try simp only [Act.put, List.getElem_toArray, List.getElem_cons_succ, List.getElem_cons_zero, List.setIfInBounds_toArray, List.set_cons_zero, List.set_cons_succ]
              refine wpAny_ready (rs := [6]) (by kernel_rfl) (by simp) ?_
              refine AllReady.cons rfl (fun K hK => ?_) ?_
              · go_simp
                refine hK _ _ ?_
                clear hK K
                try simp only [Act.put, List.getElem_toArray, List.getElem_cons_succ, List.getElem_cons_zero, List.setIfInBounds_toArray, List.set_cons_zero, List.set_cons_succ]
                have hb6 : Below ws.heap.size ws ((World.drew w5).alloc (.cells #[str nm, .slice ad4 ars.length cap4, .bool an, .bool re, .bool co, str ou, .int .i64 st] 77)) := hb5.alloc hb5.size _
                refine wpAny_ready (rs := [7]) (by kernel_rfl) (by simp) ?_
                refine AllReady.cons rfl (fun K hK => ?_) ?_
                · refine step_append _ _ 23 rfl 0 77 i0 _ 7 72 Tryd.underlying23 hi hz0 hz1 hz2 rfl (by decide) (.slice adp Y'.length capp) Y'.length (rwCs Y') rfl (HKS.out _ hb6).rr ⟨w5.heap.size, 0, none⟩ 1 1 (rwC ⟨nm, ars, an, re, co, ou, st⟩ (.slice ad4 ars.length cap4)) rfl rfl (cells_new (World.drew w5) _ 77) (rwC_one _ _ _) (by have := maxLen_big; omega) (by omega) (Nat.zero_le _) ?_
                  intro v7 w7 hown7 hgrow7 _ hat7
                  refine hK _ _ ?_
                  clear hK K
                  try simp only [Act.put, List.getElem_toArray, List.getElem_cons_succ, List.getElem_cons_zero, List.setIfInBounds_toArray, List.set_cons_zero, List.set_cons_succ]
                  obtain ⟨ad7, cap7, rfl⟩ := owns_slice hown7
                  have NT : Hid _ := Kern.rowed (HKS.out _ hb6) (Kl := fun i => ws.heap.size ≤ i) (r := ⟨nm, ars, an, re, co, ou, st⟩) ⟨owns_turn (W := World.drew w5) (owns_lower HO4.out (Nat.zero_le _)) (Turn.ofBelow (S := fun _ => False) (below_new (World.drew w5) (.cells #[str nm, .slice ad4 ars.length cap4, .bool an, .bool re, .bool co, str ou, .int .i64 st] 77))) (fun _ _ h => h), fun b hb => (HO4.out.lt b hb).1⟩ hown7 hgrow7 (hat7.imp id (fun h => ⟨_, h, Nat.le_refl _⟩))
                  have c7 := NT.out.1
                  have f7 := NT.out.2.1
                  refine wpAny_take (i := 8) (v := .pointer (some ⟨w1.heap.size + 1, 0, none⟩)) rfl (by kernel_rfl) (by kernel_rfl) (by kernel_rfl) (fun _ _ _ h => h) (Or.inl ⟨by rfl, by intro wz; go_simp⟩) ?_
                  try simp only [Act.put, List.getElem_toArray, List.getElem_cons_succ, List.getElem_cons_zero, List.setIfInBounds_toArray, List.set_cons_zero, List.set_cons_succ]
                  refine wpAny_take (i := 9) (v := .pointer (some ⟨w1.heap.size + 1, 2, none⟩)) rfl (by kernel_rfl) (by kernel_rfl) (by kernel_rfl) (fun _ _ _ h => h) (Or.inl ⟨by rfl, by intro wz; go_simp⟩) ?_
                  try simp only [Act.put, List.getElem_toArray, List.getElem_cons_succ, List.getElem_cons_zero, List.setIfInBounds_toArray, List.set_cons_zero, List.set_cons_succ]
                  refine wpAny_ready (rs := [10]) (by kernel_rfl) (by simp) ?_
                  refine AllReady.cons rfl (fun K hK => ?_) ?_
                  · go_simp
                    refine hK _ _ ?_
                    clear hK K
                    try simp only [Act.put, List.getElem_toArray, List.getElem_cons_succ, List.getElem_cons_zero, List.setIfInBounds_toArray, List.set_cons_zero, List.set_cons_succ]
                    refine wpAny_done (by kernel_rfl) ?_ _
                    go_wp2_with fail
                    obtain ⟨K', n1, n2, n3⟩ := NT.out.2.2
                    have hKK : ∀ i, K' i → W.heap.size ≤ i := fun i hi => by
                      rcases n3 i hi with h | ⟨b, hb, rfl⟩ | h
                      · exact HY.out.2.2 i h
                      · exact Nat.le_trans hbs.size (HO4.out.lt i hb).1
                      · exact Nat.le_trans hbs.size (Nat.le_trans hb6.size h)
                    refine ⟨⟨k + 1, Y' ++ [(⟨nm, ars, an, re, co, ou, st⟩, .slice ad4 ars.length cap4)], _, K', by simp, by omega, ⟨n1, ?_, hKK⟩, (hbs.trans (hb6.mono hbs.size)).trans (n2.below HY.out.2.2 (Nat.le_trans hbs.size hb6.size))⟩, by simp [intOf]; omega⟩
                    rw [HQ.out, List.map_append, HY.out.2.1]
                    rfl
                  exact AllReady.nil
                exact AllReady.nil
              exact AllReady.nil
            exact AllReady.nil
          refine AllReady.cons rfl (fun K hK => ?_) ?_
          · go_simp
            refine hK _ _ ?_
            clear hK K
            try simp only [Act.put, List.getElem_toArray, List.getElem_cons_succ, List.getElem_cons_zero, List.setIfInBounds_toArray, List.set_cons_zero, List.set_cons_succ]
            refine wpAny_ready (rs := [4, 6]) (by kernel_rfl) (by simp) ?_
            refine AllReady.cons rfl (fun K hK => ?_) ?_
            · have c0 := HC.out _ hb5
              go_simp
              refine hK _ _ ?_
              clear hK K
              try simp only [Act.put, List.getElem_toArray, List.getElem_cons_succ, List.getElem_cons_zero, List.setIfInBounds_toArray, List.set_cons_zero, List.set_cons_succ]
              refine wpAny_ready (rs := [6]) (by kernel_rfl) (by simp) ?_
              refine AllReady.cons rfl (fun K hK => ?_) ?_
              · go_simp
                refine hK _ _ ?_
                clear hK K
                try simp only [Act.put, List.getElem_toArray, List.getElem_cons_succ, List.getElem_cons_zero, List.setIfInBounds_toArray, List.set_cons_zero, List.set_cons_succ]
                have hb6 : Below ws.heap.size ws ((World.drew w5).alloc (.cells #[str nm, .slice ad4 ars.length cap4, .bool an, .bool re, .bool co, str ou, .int .i64 st] 77)) := hb5.alloc hb5.size _
                refine wpAny_ready (rs := [7]) (by kernel_rfl) (by simp) ?_
                refine AllReady.cons rfl (fun K hK => ?_) ?_
                · refine step_append _ _ 23 rfl 0 77 i0 _ 7 72 Tryd.underlying23 hi hz0 hz1 hz2 rfl (by decide) (.slice adp Y'.length capp) Y'.length (rwCs Y') rfl (HKS.out _ hb6).rr ⟨w5.heap.size, 0, none⟩ 1 1 (rwC ⟨nm, ars, an, re, co, ou, st⟩ (.slice ad4 ars.length cap4)) rfl rfl (cells_new (World.drew w5) _ 77) (rwC_one _ _ _) (by have := maxLen_big; omega) (by omega) (Nat.zero_le _) ?_
                  intro v7 w7 hown7 hgrow7 _ hat7
                  refine hK _ _ ?_
                  clear hK K
                  try simp only [Act.put, List.getElem_toArray, List.getElem_cons_succ, List.getElem_cons_zero, List.setIfInBounds_toArray, List.set_cons_zero, List.set_cons_succ]
                  obtain ⟨ad7, cap7, rfl⟩ := owns_slice hown7
                  have NT : Hid _ := Kern.rowed (HKS.out _ hb6) (Kl := fun i => ws.heap.size ≤ i) (r := ⟨nm, ars, an, re, co, ou, st⟩) ⟨owns_turn (W := World.drew w5) (owns_lower HO4.out (Nat.zero_le _)) (Turn.ofBelow (S := fun _ => False) (below_new (World.drew w5) (.cells #[str nm, .slice ad4 ars.length cap4, .bool an, .bool re, .bool co, str ou, .int .i64 st] 77))) (fun _ _ h => h), fun b hb => (HO4.out.lt b hb).1⟩ hown7 hgrow7 (hat7.imp id (fun h => ⟨_, h, Nat.le_refl _⟩))
                  have c7 := NT.out.1
                  have f7 := NT.out.2.1
                  refine wpAny_take (i := 8) (v := .pointer (some ⟨w1.heap.size + 1, 0, none⟩)) rfl (by kernel_rfl) (by kernel_rfl) (by kernel_rfl) (fun _ _ _ h => h) (Or.inl ⟨by rfl, by intro wz; go_simp⟩) ?_
                  try simp only [Act.put, List.getElem_toArray, List.getElem_cons_succ, List.getElem_cons_zero, List.setIfInBounds_toArray, List.set_cons_zero, List.set_cons_succ]
                  refine wpAny_take (i := 9) (v := .pointer (some ⟨w1.heap.size + 1, 2, none⟩)) rfl (by kernel_rfl) (by kernel_rfl) (by kernel_rfl) (fun _ _ _ h => h) (Or.inl ⟨by rfl, by intro wz; go_simp⟩) ?_
                  try simp only [Act.put, List.getElem_toArray, List.getElem_cons_succ, List.getElem_cons_zero, List.setIfInBounds_toArray, List.set_cons_zero, List.set_cons_succ]
                  refine wpAny_ready (rs := [10]) (by kernel_rfl) (by simp) ?_
                  refine AllReady.cons rfl (fun K hK => ?_) ?_
                  · go_simp
                    refine hK _ _ ?_
                    clear hK K
                    try simp only [Act.put, List.getElem_toArray, List.getElem_cons_succ, List.getElem_cons_zero, List.setIfInBounds_toArray, List.set_cons_zero, List.set_cons_succ]
                    refine wpAny_done (by kernel_rfl) ?_ _
                    go_wp2_with fail
                    obtain ⟨K', n1, n2, n3⟩ := NT.out.2.2
                    have hKK : ∀ i, K' i → W.heap.size ≤ i := fun i hi => by
                      rcases n3 i hi with h | ⟨b, hb, rfl⟩ | h
                      · exact HY.out.2.2 i h
                      · exact Nat.le_trans hbs.size (HO4.out.lt i hb).1
                      · exact Nat.le_trans hbs.size (Nat.le_trans hb6.size h)
                    refine ⟨⟨k + 1, Y' ++ [(⟨nm, ars, an, re, co, ou, st⟩, .slice ad4 ars.length cap4)], _, K', by simp, by omega, ⟨n1, ?_, hKK⟩, (hbs.trans (hb6.mono hbs.size)).trans (n2.below HY.out.2.2 (Nat.le_trans hbs.size hb6.size))⟩, by simp [intOf]; omega⟩
                    rw [HQ.out, List.map_append, HY.out.2.1]
                    rfl
                  exact AllReady.nil
                exact AllReady.nil
              exact AllReady.nil
            refine AllReady.cons rfl (fun K hK => ?_) ?_
            · go_simp
              refine hK _ _ ?_
              clear hK K
              try simp only [Act.put, List.getElem_toArray, List.getElem_cons_succ, List.getElem_cons_zero, List.setIfInBounds_toArray, List.set_cons_zero, List.set_cons_succ]
              refine wpAny_ready (rs := [4]) (by kernel_rfl) (by simp) ?_
              refine AllReady.cons rfl (fun K hK => ?_) ?_
              · have c0 := HC.out _ (hb5.alloc hb5.size (.cells #[str nm, .slice ad4 ars.length cap4, .bool an, .bool re, .bool co, str ou, .int .i64 st] 77))
                have c0d : (World.drew (w5.alloc (.cells #[str nm, .slice ad4 ars.length cap4, .bool an, .bool re, .bool co, str ou, .int .i64 st] 77))).cell? ⟨w1.heap.size + 1, 2, none⟩ = some (.slice adp Y'.length capp) := c0
                go_simp
                refine hK _ _ ?_
                clear hK K
                try simp only [Act.put, List.getElem_toArray, List.getElem_cons_succ, List.getElem_cons_zero, List.setIfInBounds_toArray, List.set_cons_zero, List.set_cons_succ]
                have hb6 : Below ws.heap.size ws ((World.drew w5).alloc (.cells #[str nm, .slice ad4 ars.length cap4, .bool an, .bool re, .bool co, str ou, .int .i64 st] 77)) := hb5.alloc hb5.size _
                refine wpAny_ready (rs := [7]) (by kernel_rfl) (by simp) ?_
                refine AllReady.cons rfl (fun K hK => ?_) ?_
                · refine step_append _ _ 23 rfl 0 77 i0 _ 7 72 Tryd.underlying23 hi hz0 hz1 hz2 rfl (by decide) (.slice adp Y'.length capp) Y'.length (rwCs Y') rfl (HKS.out _ hb6).rr ⟨w5.heap.size, 0, none⟩ 1 1 (rwC ⟨nm, ars, an, re, co, ou, st⟩ (.slice ad4 ars.length cap4)) rfl rfl (cells_new (World.drew w5) _ 77) (rwC_one _ _ _) (by have := maxLen_big; omega) (by omega) (Nat.zero_le _) ?_
                  intro v7 w7 hown7 hgrow7 _ hat7
                  refine hK _ _ ?_
                  clear hK K
                  try simp only [Act.put, List.getElem_toArray, List.getElem_cons_succ, List.getElem_cons_zero, List.setIfInBounds_toArray, List.set_cons_zero, List.set_cons_succ]
                  obtain ⟨ad7, cap7, rfl⟩ := owns_slice hown7
                  have NT : Hid _ := Kern.rowed (HKS.out _ hb6) (Kl := fun i => ws.heap.size ≤ i) (r := ⟨nm, ars, an, re, co, ou, st⟩) ⟨owns_turn (W := World.drew w5) (owns_lower HO4.out (Nat.zero_le _)) (Turn.ofBelow (S := fun _ => False) (below_new (World.drew w5) (.cells #[str nm, .slice ad4 ars.length cap4, .bool an, .bool re, .bool co, str ou, .int .i64 st] 77))) (fun _ _ h => h), fun b hb => (HO4.out.lt b hb).1⟩ hown7 hgrow7 (hat7.imp id (fun h => ⟨_, h, Nat.le_refl _⟩))
                  have c7 := NT.out.1
                  have f7 := NT.out.2.1
                  refine wpAny_take (i := 8) (v := .pointer (some ⟨w1.heap.size + 1, 0, none⟩)) rfl (by kernel_rfl) (by kernel_rfl) (by kernel_rfl) (fun _ _ _ h => h) (Or.inl ⟨by rfl, by intro wz; go_simp⟩) ?_
                  try simp only [Act.put, List.getElem_toArray, List.getElem_cons_succ, List.getElem_cons_zero, List.setIfInBounds_toArray, List.set_cons_zero, List.set_cons_succ]
                  refine wpAny_take (i := 9) (v := .pointer (some ⟨w1.heap.size + 1, 2, none⟩)) rfl (by kernel_rfl) (by kernel_rfl) (by kernel_rfl) (fun _ _ _ h => h) (Or.inl ⟨by rfl, by intro wz; go_simp⟩) ?_
                  try simp only [Act.put, List.getElem_toArray, List.getElem_cons_succ, List.getElem_cons_zero, List.setIfInBounds_toArray, List.set_cons_zero, List.set_cons_succ]
                  refine wpAny_ready (rs := [10]) (by kernel_rfl) (by simp) ?_
                  refine AllReady.cons rfl (fun K hK => ?_) ?_
                  · go_simp
                    refine hK _ _ ?_
                    clear hK K
                    try simp only [Act.put, List.getElem_toArray, List.getElem_cons_succ, List.getElem_cons_zero, List.setIfInBounds_toArray, List.set_cons_zero, List.set_cons_succ]
                    refine wpAny_done (by kernel_rfl) ?_ _
                    go_wp2_with fail
                    obtain ⟨K', n1, n2, n3⟩ := NT.out.2.2
                    have hKK : ∀ i, K' i → W.heap.size ≤ i := fun i hi => by
                      rcases n3 i hi with h | ⟨b, hb, rfl⟩ | h
                      · exact HY.out.2.2 i h
                      · exact Nat.le_trans hbs.size (HO4.out.lt i hb).1
                      · exact Nat.le_trans hbs.size (Nat.le_trans hb6.size h)
                    refine ⟨⟨k + 1, Y' ++ [(⟨nm, ars, an, re, co, ou, st⟩, .slice ad4 ars.length cap4)], _, K', by simp, by omega, ⟨n1, ?_, hKK⟩, (hbs.trans (hb6.mono hbs.size)).trans (n2.below HY.out.2.2 (Nat.le_trans hbs.size hb6.size))⟩, by simp [intOf]; omega⟩
                    rw [HQ.out, List.map_append, HY.out.2.1]
                    rfl
                  exact AllReady.nil
                exact AllReady.nil
              exact AllReady.nil
            exact AllReady.nil
          exact AllReady.nil
        · have hkz : k = Y.length := by omega
          subst hkz
          go_wp2_with fail
          go_ret2
          refine ⟨w1.heap.size + 1, w1.heap.size, _, Y', K, rfl, HY.out.1, ?_, HY.out.2.2, hbs⟩
          rw [HY.out.2.1, List.take_of_length_le (by rw [List.length_map]; exact Nat.le_refl _)]
end Go.Proofs.YthhghkjgffcpeaaDoor
