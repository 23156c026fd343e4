/- Lists anew; what a store tells. -/
import Derived.Test.YtfafhjglcaikoaaGreatDoorG4
import Derived.Test.YtfafhjglcaikoaaGreatDoorG2
import Derived.Test.YtfafhjglcaikoaaGreatDoorG1
import Derived.Test.YtfafhjglcaikoaaGreatDoorG3
import Derived.Test.YtfafhjglcaikoaaGreatDoorProg
import Derived.WalkKit
import Derived.WalkSpells
import Derived.WalkLawsBesides
import Derived.Laws.ResultCell
import Derived.Laws.Rows
import Derived.Maps.AppendAt
import Derived.Maps.OwnSet
import Derived.Maps.Ext
import Derived.Below
import Derived.Carry
import Derived.OwnWalk
import Derived.RangeFuncRecord
import Derived.Laws.AppendOwnNone
import Derived.Lib.BufferMore
import Derived.Sort.KeysCollected
/-! A kernel is made. -/
namespace Go.Proofs.YtfafhjglcaikoaaGreatDoor
open Go.RowKit Go.Shelf

variable {W W' : World} {K : Nat → Prop} {kb mb : Nat} {ev rv : Value} {F : Fls} {Y : List (Rw × Value)} {X : List (Ev × Value)}

/-- A row is added behind. -/
theorem Kern.rowed (h : Kern W K kb mb ev rv F Y X) {W1 : World} {r : Rw} {lv rv' : Value} {Kl : Nat → Prop} (hl : Ot W Kl lv r.args)
    (ho : W1.ownsRow 0 80 7 rv' (Y.length + 1) (rwCs Y ++ rwC r lv)) (hg : W.grownBy W1 rv.ownBlock) (hat : rv'.ownBlock = rv.ownBlock ∨ ∃ b, rv'.ownBlock = some b ∧ W.heap.size ≤ b) :
    W1.cell? ⟨kb, 2, none⟩ = some rv ∧ W1.frozen? ⟨kb, 2, none⟩ = false ∧
    ∃ K', Kern (W1.setCell ⟨kb, 2, none⟩ rv') K' kb mb ev rv' F (Y ++ [(r, lv)]) X ∧ Turn K W (W1.setCell ⟨kb, 2, none⟩ rv') ∧ ∀ i, K' i → K i ∨ (∃ b, lv.ownBlock = some b ∧ i = b) ∨ W.heap.size ≤ i := by
  have hT := Turn.ofGrown hg
  have hkc1 : Cel W1 kb 159 #[ev, .map (some mb), rv] := h.kc.turn hT (fun e => owns_apart h.kc h.rr (by decide) e)
  refine ⟨hkc1.cell 2, hkc1.frozen 2, ?_⟩
  have hsz : W.heap.size ≤ W1.heap.size := hT.size
  have hT2 : Turn (fun i => i = kb) W1 (W1.setCell ⟨kb, 2, none⟩ rv') := (Turn.refl (fun i => i = kb) W1).setCell (p := ⟨kb, 2, none⟩) (fun _ => rfl) rv'
  have hs2 : (W1.setCell ⟨kb, 2, none⟩ rv').heap.size = W1.heap.size := by simp [World.setCell]
  have rowk : ∀ {e k n : Nat} {v : Value} {xs : List Value}, W1.ownsRow 0 e k v n xs → 159 ≠ e → ∀ b, v.ownBlock = some b → ¬ b = kb := fun ho hne b hb e' => owns_apart hkc1 ho hne (by rw [hb, e'])
  have row2 : ∀ {e k n : Nat} {v : Value} {xs : List Value}, W.ownsRow 0 e k v n xs → 159 ≠ e → 80 ≠ e → (W1.setCell ⟨kb, 2, none⟩ rv').ownsRow 0 e k v n xs := fun ho h1 h2 => by
    have o1 := owns_turn ho hT (fun b hb e' => owns_apart2 h.rr ho h2 b e' hb)
    exact owns_turn o1 hT2 (rowk o1 h1)
  refine ⟨fun i => K i ∨ (lv.ownBlock = some i) ∨ (rv'.ownBlock = some i), ⟨?_, ?_, row2 h.er (by decide) (by decide), ?_, ?_, ?_, .inl h.Kk, .inl h.Km, fun b hb => .inl (h.Ke b hb), fun b hb => .inr (.inr hb), ?_⟩, ?_, ?_⟩
  · exact hkc1.set rv'
  · refine map_turn (map_turn h.fm hT (fun e' => map_apart h.fm h.rr e')) hT2 (fun e' => ?_)
    exact map_apart_cel h.fm h.kc e'.symm
  · refine owns_turn ?_ hT2 (rowk ho (by decide))
    rw [rwCs_snoc, List.length_append]
    exact ho
  · exact fun p hp => ⟨row2 (h.xt p hp).1 (by decide) (by decide), fun b hb => .inl ((h.xt p hp).2 b hb)⟩
  · intro p hp
    rcases List.mem_append.1 hp with hp | hp
    · exact ⟨row2 (h.yt p hp).1 (by decide) (by decide), fun b hb => .inl ((h.yt p hp).2 b hb)⟩
    · simp only [List.mem_singleton] at hp
      subst hp
      exact ⟨row2 hl.1 (by decide) (by decide), fun b hb => .inr (.inl hb)⟩
  · intro i hi
    rw [hs2]
    rcases hi with hi | hi | hi
    · exact Nat.lt_of_lt_of_le (h.lt i hi) hsz
    · exact Nat.lt_of_lt_of_le (hl.1.lt i hi).2 hsz
    · exact (ho.lt i hi).2
  · refine (hT.mono (fun i e' => h.Kr i e')).trans hT2 (fun i e' _ => by subst e'; exact h.Kk)
  · intro i hi
    rcases hi with hi | hi | hi
    · exact .inl hi
    · exact .inr (.inl ⟨i, hi, rfl⟩)
    · rcases hat with e' | ⟨b, e', hb⟩
      · exact .inl (h.Kr i (by rw [← e']; exact hi))
      · rw [hi] at e'
        cases e'
        exact .inr (.inr hb)

/-- A new kernel of nothing. -/
theorem Kern.made (w : World) : Kern ((w.alloc (.map #[] 0)).alloc (.cells #[.slice none 0 0, .map (some w.heap.size), .slice none 0 0] 159)) (fun i => i = w.heap.size ∨ i = w.heap.size + 1) (w.heap.size + 1) w.heap.size (.slice none 0 0) (.slice none 0 0) [] [] [] := {
  kc := by
    have := Cel.new (w.alloc (.map #[] 0)) 159 #[.slice none 0 0, .map (some w.heap.size), .slice none 0 0]
    rw [show (w.alloc (.map #[] 0)).heap.size = w.heap.size + 1 by simp] at this
    exact this
  fm := (World.ownsMap_made w Tryz.prog 9 flE).alloc _
  er := World.ownsRow_nil _ _ _ _
  rr := World.ownsRow_nil _ _ _ _
  xt := fun p hp => by simp at hp
  yt := fun p hp => by simp at hp
  Kk := .inr rfl
  Km := .inl rfl
  Ke := fun b hb => by simp [Value.ownBlock] at hb
  Kr := fun b hb => by simp [Value.ownBlock] at hb
  lt := fun i hi => by simp; omega }

def putAll (Fl : Fls) : Fls := Fl.foldl (fun F p => putF F p.1 p.2) []
theorem putAll_snoc (Fl : Fls) (p : Txt × Txt) : putAll (Fl ++ [p]) = putF (putAll Fl) p.1 p.2 := by simp [putAll]
theorem insF_length (x : Txt × Txt) : ∀ F : Fls, (insF x F).length = F.length + 1
  | [] => rfl
  | y :: r => by
    unfold insF
    split
    · rfl
    · simp [insF_length x r]
theorem putF_length (F : Fls) (k d : Txt) : (putF F k d).length ≤ F.length + 1 := by
  unfold putF
  rw [insF_length]
  have := List.length_filter_le (fun p : Txt × Txt => !(p.1 == k)) F
  omega
theorem putAll_length (Fl : Fls) : ∀ k, (putAll (Fl.take k)).length ≤ k
  | 0 => by simp [putAll]
  | k + 1 => by
    have ih := putAll_length Fl k
    rw [List.take_add_one]
    cases h : Fl[k]? with
    | none => simp; omega
    | some p =>
      rw [show (some p).toList = [p] from rfl, putAll_snoc]
      have := putF_length (putAll (Fl.take k)) p.1 p.2
      omega
theorem info77 : (Tryz.prog.info? 80).map (fun i => (i.zero, i.size, i.bytes)) = some (some (.agg #[.string ⟨#[]⟩, .slice none 0 0, .bool false, .bool false, .bool false, .string ⟨#[]⟩, .int .i64 0]), 7, 72) := by kernel_rfl
theorem rwC_one (r : Rw) (ad : Option Addr) (n : Nat) {cap : Nat} : ∀ u ∈ rwC r (.slice ad n cap), u.oneCell' = true := by
  intro u hu
  simp at hu
  rcases hu with rfl | rfl | rfl | rfl | rfl | rfl | rfl <;> rfl
theorem mayR_small {Fl : Fls} {R : List Rw} (h : mayR Fl R = none) : Fl.length ≤ 50 ∧ R.length ≤ 50 := by
  unfold mayR at h
  cases hm : manyW Fl R with
  | true => rw [hm] at h; cases h
  | false =>
    unfold manyW at hm
    simp at hm
    exact hm.1

set_option maxRecDepth 100000 in
set_option maxHeartbeats 4000000 in
theorem new_bad (fv rv : Value) (Fl : Fls) (Y : List (Rw × Value)) (ea : Nat → Addr) (W : World) (i : Nat) (hf : FlAt W fv Fl) (hr : RwAt W rv Y) (hFl : Fl.length < 4294967296) (hY : Y.length < 4294967296) (hl : ∀ p ∈ Y, p.1.args.length < 4294967296) (hE : Ers W ea) (hm : mayR Fl (Y.map Prod.fst) = some i) :
    Calls Tryz.prog 60 #[wV fv rv] W fun e w' => e = .returned (.tuple #[.pointer none, errV (ea i)]) ∧ Below W.heap.size W w' := by
  have hb1 := below_new W (.cells #[fv, rv] 27)
  have HM : Hid _ := may_any fv rv Fl Y ea _ (hf.below hb1 (Nat.le_refl _)) (hr.below hb1 (Nat.le_refl _)) hFl hY hl (hE.below hb1 (Nat.le_refl _))
  rw [hm] at HM
  obtain ⟨adf, capf, rfl⟩ := hf.form
  obtain ⟨adr, capr, rfl⟩ := hr.form
  clear hf hr hE hl hm
  go_enter Tryz.func60, Tryz.ntmps60
  go_wp2_with fail
  refine Calls.mono HM.out ?_
  rintro e w1 ⟨rfl, hb2'⟩
  have hb2 := hb1.trans (hb2'.mono hb1.size)
  clear HM hb2' hb1
  simp only [errO]
  go_wp2_with fail
  go_ret2
  exact ⟨rfl, hb2⟩

set_option maxRecDepth 100000 in
set_option maxHeartbeats 8000000 in
theorem new_any (fv rv : Value) (Fl : Fls) (Y : List (Rw × Value)) (ea : Nat → Addr) (W : World) (hf : FlAt W fv Fl) (hr : RwAt W rv Y) (hFl : Fl.length < 4294967296) (hY : Y.length < 4294967296) (hl : ∀ p ∈ Y, p.1.args.length < 4294967296) (hN : ∀ p ∈ Fl, p.1.length < 4294967296) (hE : Ers W ea) (hm : mayR Fl (Y.map Prod.fst) = none) :
    Calls Tryz.prog 60 #[wV fv rv] W fun e w' => ∃ kb mb rv' Y' K, e = .returned (.tuple #[kP kb, .nilIface]) ∧ Kern w' K kb mb (.slice none 0 0) rv' (putAll Fl) Y' [] ∧ Y'.map Prod.fst = Y.map Prod.fst ∧ (∀ i, K i → W.heap.size ≤ i) ∧ Below W.heap.size W w' := by
  obtain ⟨i0, hi, hz0, hz1, hz2⟩ := info_parts info77
  have hsm := mayR_small hm
  rw [List.length_map] at hsm
  have hb1 := below_new W (.cells #[fv, rv] 27)
  have HM : Hid _ := may_any fv rv Fl Y ea _ (hf.below hb1 (Nat.le_refl _)) (hr.below hb1 (Nat.le_refl _)) hFl hY hl (hE.below hb1 (Nat.le_refl _))
  rw [hm] at HM
  have HF : Hid (∀ W', Below W.heap.size W W' → FlAt W' fv Fl) := fun W' hb => hf.below hb (Nat.le_refl _)
  have HR : Hid (∀ W', Below W.heap.size W W' → RwAt W' rv Y) := fun W' hb => hr.below hb (Nat.le_refl _)
  have HL : Hid (∀ p ∈ Y, p.1.args.length < 4294967296) := hl
  have HN : Hid (∀ p ∈ Fl, p.1.length < 4294967296) := hN
  obtain ⟨adf, capf, rfl⟩ := hf.form
  obtain ⟨adr, capr, rfl⟩ := hr.form
  have HCB : Hid (Cel (W.alloc (.cells #[.slice adf Fl.length capf, .slice adr Y.length capr] 27)) W.heap.size 27 #[.slice adf Fl.length capf, .slice adr Y.length capr]) := Cel.new W 27 _
  clear hf hr hE hl hN hm
  go_enter Tryz.func60, Tryz.ntmps60
  go_wp2_with fail
  refine Calls.mono HM.out ?_
  rintro e w1 ⟨rfl, hb2'⟩
  have hb2 := hb1.trans (hb2'.mono hb1.size)
  have HC1 : Hid (Cel w1 W.heap.size 27 #[.slice adf Fl.length capf, .slice adr Y.length capr]) := HCB.out.turn (Turn.ofBelow (S := fun _ => False) hb2') (fun h => h)
  have HS1 : Hid (W.heap.size < w1.heap.size) := HC1.out.lt
  clear HM hb2' hb1 HCB
  simp only [errO]
  have HKM : Hid _ := Kern.made w1
  have hb3 : Below W.heap.size W ((w1.alloc (.map #[] 0)).alloc (.cells #[.slice none 0 0, .map (some w1.heap.size), .slice none 0 0] 159)) := (hb2.alloc hb2.size _).alloc (Nat.le_trans hb2.size (below_new w1 _).size) _
  have HC2 : Hid (Cel ((w1.alloc (.map #[] 0)).alloc (.cells #[.slice none 0 0, .map (some w1.heap.size), .slice none 0 0] 159)) W.heap.size 27 #[.slice adf Fl.length capf, .slice adr Y.length capr]) := (HC1.out.turn (Turn.ofBelow (S := fun _ => False) (below_new _ _)) (fun h => h)).turn (Turn.ofBelow (S := fun _ => False) (below_new _ _)) (fun h => h)
  have d0 := HC2.out.cell 0
  have HK0 : Hid (∀ i, (i = w1.heap.size ∨ i = w1.heap.size + 1) → W.heap.size < i) := fun i hi => by have := HS1.out; omega
  have hmm := @run_makeMap Tryz.prog
  clear hb2
  go_wp2_with fail
  clear d0 hmm
  go_loopw [21] (fun v21 wr => ∃ k : Nat, v21 = .int .i64 k ∧ k ≤ Fl.length ∧ Hid (Kern wr (fun i => i = w1.heap.size ∨ i = w1.heap.size + 1) (w1.heap.size + 1) w1.heap.size (.slice none 0 0) (.slice none 0 0) (putAll (Fl.take k)) [] []) ∧ Below W.heap.size W wr ∧ Hid (Cel wr W.heap.size 27 #[.slice adf Fl.length capf, .slice adr Y.length capr])) (fun v21 _ => Fl.length - (intOf v21).toNat)
  case atStart => exact ⟨0, rfl, by omega, HKM.out, hb3, HC2.out⟩
  case round =>
    obtain ⟨k, rfl, hk, HK, hbr, HC⟩ := hrel
    by_cases hkl : k < Fl.length
    · obtain ⟨p, hp⟩ : ∃ p, Fl[k]? = some p := ⟨_, List.getElem?_eq_getElem hkl⟩
      obtain ⟨g, o, cap', hv, hcap, hg, x0, x1⟩ := (HF.out _ hbr).at hp
      cases hv
      have HTK : Hid (putAll (Fl.take (k + 1)) = putF (putAll (Fl.take k)) p.1 p.2) := by unfold Hid; rw [List.take_add_one, hp, show (some p).toList = [p] from rfl, putAll_snoc]
      have hpn := HN.out p (List.mem_of_getElem? hp)
      have HLF : Hid ((putAll (Fl.take k)).length < 4294967296) := by
        unfold Hid
        have := putAll_length Fl k
        omega
      obtain ⟨pn, pd⟩ := p
      clear hp hg
      have hba : Below W.heap.size W (wr.alloc (.cells #[str pn, str pd] 68)) := hbr.alloc hbr.size _
      go_wp2_with fail
      refine (keep_any pn pd hpn (HK.out.below (below_new _ _)) HLF.out).mono ?_
      rintro e w3 ⟨rfl, k1, k2⟩
      have hfin := k2.below (B := W.heap.size) (fun i hi => Nat.le_of_lt (HK0.out i hi)) hba.size
      have HC3 := k2.cel (HC.out.turn (Turn.ofBelow (S := fun _ => False) (below_new wr (.cells #[str pn, str pd] 68))) (fun h => h)) (fun hk => Nat.lt_irrefl _ (HK0.out _ hk))
      go_wp2_with fail
      refine ⟨⟨k + 1, by simp, by omega, ?_, hba.trans hfin.1, HC3⟩, by simp [intOf]; omega⟩
      have e1 := HTK.out
      unfold Hid
      rw [e1]
      exact k1
    · have hkz : k = Fl.length := by omega
      subst hkz
      rw [List.take_length] at HK
      have d1 := HC.out.cell 1
      go_wp2_with fail
      clear d1
      go_loopw [35] (fun v35 ws => ∃ (k : Nat) (Y' : List (Rw × Value)) (rv' : Value) (K : Nat → Prop), v35 = .int .i64 k ∧ k ≤ Y.length ∧ Hid (Kern ws K (w1.heap.size + 1) w1.heap.size (.slice none 0 0) rv' (putAll Fl) Y' [] ∧ Y'.map Prod.fst = (Y.map Prod.fst).take k ∧ ∀ i, K i → W.heap.size ≤ i) ∧ Below W.heap.size W ws) (fun v35 _ => Y.length - (intOf v35).toNat)
      case atStart => exact ⟨0, [], _, _, rfl, by omega, ⟨HK.out, rfl, fun i hi => Nat.le_of_lt (HK0.out i hi)⟩, hbr⟩
      case round =>
        obtain ⟨k, Y', rv', K, rfl, hk, HY, hbs⟩ := hrel
        obtain ⟨ws, hws⟩ : ∃ ws, ws = wr := ⟨_, rfl⟩
        subst hws
        obtain ⟨adp, capp, rfl⟩ := owns_slice HY.out.1.rr
        have HYL : Hid (Y'.length = k) := by
          unfold Hid
          have := congrArg List.length HY.out.2.1
          rw [List.length_map, List.length_take, List.length_map] at this
          omega
        by_cases hkl : k < Y.length
        · obtain ⟨q, hq⟩ : ∃ q, Y[k]? = some q := ⟨_, List.getElem?_eq_getElem hkl⟩
          obtain ⟨g, o, cap', hv, hg, c0, c1, c2, c3, c4, c5, c6⟩ := (HR.out _ hbs).at hq
          cases hv
          have hqm := List.mem_of_getElem? hq
          have HT : Hid (∀ W', Below W.heap.size W W' → Tx W' q.2 q.1.args) := fun W' hb => (HR.out W' hb).2 q hqm
          have hql := HL.out q hqm
          have HQ : Hid ((Y.map Prod.fst).take (k + 1) = (Y.map Prod.fst).take k ++ [q.1]) := by unfold Hid; rw [List.take_add_one, List.getElem?_map, hq]; rfl
          obtain ⟨⟨nm, ars, an, re, co, ou, st⟩, lv⟩ := q
          obtain ⟨adl, capl, hlv⟩ := (HT.out _ hbs).form
          obtain rfl : lv = .slice adl ars.length capl := hlv
          have hba : Below W.heap.size W (ws.alloc (.cells #[str nm, .slice adl ars.length capl, .bool an, .bool re, .bool co, str ou, .int .i64 st] 80)) := hbs.alloc hbs.size _
          have HBX : Hid (Cel (ws.alloc (.cells #[str nm, .slice adl ars.length capl, .bool an, .bool re, .bool co, str ou, .int .i64 st] 80)) ws.heap.size 80 #[str nm, .slice adl ars.length capl, .bool an, .bool re, .bool co, str ou, .int .i64 st]) := Cel.new ws 80 _
          clear hq hqm hg
          go_wp2_with fail
          refine (clone_any _ ars _ (HT.out _ hba) hql).mono ?_
          rintro e w4 ⟨v4, rfl, ho4, hb4'⟩
          obtain ⟨ad4, cap4, rfl⟩ := owns_slice ho4
          have HB4 := HBX.out.turn (Turn.ofBelow (S := fun _ => False) hb4') (fun h => h)
          have y0 := HB4.cell 0
          have y1 := HB4.cell 1
          have y2 := HB4.cell 2
          have y3 := HB4.cell 3
          have y4 := HB4.cell 4
          have y5 := HB4.cell 5
          have y6 := HB4.cell 6
          have f1 := HB4.frozen 1
          have hb4 : Below ws.heap.size ws (w4.setCell ⟨ws.heap.size, 1, none⟩ (.slice ad4 ars.length cap4)) := ((below_new ws _).trans (hb4'.mono (below_new ws _).size)).setCell (p := ⟨ws.heap.size, 1, none⟩) (Nat.le_refl _) _
          have HO4 : Hid ((w4.setCell ⟨ws.heap.size, 1, none⟩ (.slice ad4 ars.length cap4)).ownsRow ws.heap.size 9 1 (.slice ad4 ars.length cap4) ars.length (txV ars)) := by
            have hT : Turn (fun i => i = ws.heap.size) w4 (w4.setCell ⟨ws.heap.size, 1, none⟩ (.slice ad4 ars.length cap4)) := (Turn.refl (fun i => i = ws.heap.size) w4).setCell (p := ⟨ws.heap.size, 1, none⟩) (fun _ => rfl) _
            refine owns_turn (owns_lower ho4 (by simp)) hT (fun b hb e' => ?_)
            have h7 := (ho4.lt b hb).1
            simp at h7
            omega
          have HB5 : Hid (Cel (w4.setCell ⟨ws.heap.size, 1, none⟩ (.slice ad4 ars.length cap4)) ws.heap.size 80 #[str nm, .slice ad4 ars.length cap4, .bool an, .bool re, .bool co, str ou, .int .i64 st]) := HB4.set (j := 1) _
          clear ho4 hb4' HBX HB4 c0 c1 c2 c3 c4 c5 c6 hba
          go_wp2_with fail
          clear y0 y1 y2 y3 y4 y5 y6 f1
          obtain ⟨w5, hw5⟩ : ∃ w5, w5 = w4.setCell ⟨ws.heap.size, 1, none⟩ (.slice ad4 ars.length cap4) := ⟨_, rfl⟩
          rw [← hw5] at hb4 HO4 HB5 ⊢
          clear hw5
          have hb5 : Below ws.heap.size ws (World.drew w5) := hb4.drew
          have z0 : (World.drew w5).cell? ⟨ws.heap.size, 0, none⟩ = some (str nm) := HB5.out.cell 0
          have z1 : (World.drew w5).cell? ⟨ws.heap.size, 1, none⟩ = some (.slice ad4 ars.length cap4) := HB5.out.cell 1
          have z2 : (World.drew w5).cell? ⟨ws.heap.size, 2, none⟩ = some (.bool an) := HB5.out.cell 2
          have z3 : (World.drew w5).cell? ⟨ws.heap.size, 3, none⟩ = some (.bool re) := HB5.out.cell 3
          have z4 : (World.drew w5).cell? ⟨ws.heap.size, 4, none⟩ = some (.bool co) := HB5.out.cell 4
          have z5 : (World.drew w5).cell? ⟨ws.heap.size, 5, none⟩ = some (str ou) := HB5.out.cell 5
          have z6 : (World.drew w5).cell? ⟨ws.heap.size, 6, none⟩ = some (.int .i64 st) := HB5.out.cell 6
          have HKS : Hid (∀ W', Below ws.heap.size ws W' → Kern W' K (w1.heap.size + 1) w1.heap.size (.slice none 0 0) (.slice adp Y'.length capp) (putAll Fl) Y' []) := fun W' hb => HY.out.1.below hb
          have HC : Hid (∀ W', Below ws.heap.size ws W' → W'.cell? ⟨w1.heap.size + 1, 2, none⟩ = some (.slice adp Y'.length capp)) := fun W' hb => (HKS.out W' hb).kc.cell 2
          have hyl : Y'.length < 4294967296 := by have := HYL.out; omega
          refine wp_region_any (by kernel_rfl) ?_
          try (change wpAny _ _ _ _ _ _ _ (World.drew _))
          refine wpAny_take (i := 0) (v := .pointer (some ⟨w1.heap.size + 1, 0, none⟩)) rfl (by kernel_rfl) (by kernel_rfl) (by kernel_rfl) (fun _ _ _ h => h) (Or.inl ⟨by rfl, by intro wz; go_simp⟩) ?_
          try simp only [Act.put, List.getElem_toArray, List.getElem_cons_zero, List.setIfInBounds_toArray, List.set_cons_zero, List.set_cons_succ]
          refine wpAny_take (i := 1) (v := .pointer (some ⟨w1.heap.size + 1, 0, none⟩)) rfl (by kernel_rfl) (by kernel_rfl) (by kernel_rfl) (fun _ _ _ h => h) (Or.inl ⟨by rfl, by intro wz; go_simp⟩) ?_
          try simp only [Act.put, List.getElem_toArray, List.getElem_cons_succ, List.getElem_cons_zero, List.setIfInBounds_toArray, List.set_cons_zero, List.set_cons_succ]
          refine wpAny_take (i := 2) (v := .pointer (some ⟨w1.heap.size + 1, 0, none⟩)) rfl (by kernel_rfl) (by kernel_rfl) (by kernel_rfl) (fun _ _ _ h => h) (Or.inl ⟨by rfl, by intro wz; go_simp⟩) ?_
          try simp only [Act.put, List.getElem_toArray, List.getElem_cons_succ, List.getElem_cons_zero, List.setIfInBounds_toArray, List.set_cons_zero, List.set_cons_succ]
          refine wpAny_take (i := 3) (v := .pointer (some ⟨w1.heap.size + 1, 2, none⟩)) rfl (by kernel_rfl) (by kernel_rfl) (by kernel_rfl) (fun _ _ _ h => h) (Or.inl ⟨by rfl, by intro wz; go_simp⟩) ?_
          try simp only [Act.put, List.getElem_toArray, List.getElem_cons_succ, List.getElem_cons_zero, List.setIfInBounds_toArray, List.set_cons_zero, List.set_cons_succ]
          refine wpAny_ready (rs := [4, 5]) (by kernel_rfl) (by simp) ?_
          refine AllReady.cons rfl (fun K hK => ?_) ?_
          · have c0 := HC.out _ hb5
            go_simp
            refine hK _ _ ?_
            clear hK K
            try simp only [Act.put, List.getElem_toArray, List.getElem_cons_succ, List.getElem_cons_zero, List.setIfInBounds_toArray, List.set_cons_zero, List.set_cons_succ]
            refine wpAny_ready (rs := [5]) (by kernel_rfl) (by simp) ?_
            refine AllReady.cons rfl (fun K hK => ?_) ?_
            · go_simp
              refine hK _ _ ?_
              clear hK K
              try simp only [Act.put, List.getElem_toArray, List.getElem_cons_succ, List.getElem_cons_zero, List.setIfInBounds_toArray, List.set_cons_zero, List.set_cons_succ]
              refine wpAny_ready (rs := [6]) (by kernel_rfl) (by simp) ?_
              refine AllReady.cons rfl (fun K hK => ?_) ?_
              · go_simp
                refine hK _ _ ?_
                clear hK K
                try simp only [Act.put, List.getElem_toArray, List.getElem_cons_succ, List.getElem_cons_zero, List.setIfInBounds_toArray, List.set_cons_zero, List.set_cons_succ]
                have hb6 : Below ws.heap.size ws ((World.drew w5).alloc (.cells #[str nm, .slice ad4 ars.length cap4, .bool an, .bool re, .bool co, str ou, .int .i64 st] 80)) := hb5.alloc hb5.size _
                refine wpAny_ready (rs := [7]) (by kernel_rfl) (by simp) ?_
                refine AllReady.cons rfl (fun K hK => ?_) ?_
                · refine step_append _ _ 25 rfl 0 80 i0 _ 7 72 Tryz.underlying25 hi hz0 hz1 hz2 rfl (by decide) (.slice adp Y'.length capp) Y'.length (rwCs Y') rfl (HKS.out _ hb6).rr ⟨w5.heap.size, 0, none⟩ 1 1 (rwC ⟨nm, ars, an, re, co, ou, st⟩ (.slice ad4 ars.length cap4)) rfl rfl (cells_new (World.drew w5) _ 80) (rwC_one _ _ _) (by have := maxLen_big; omega) (by omega) (Nat.zero_le _) ?_
                  intro v7 w7 hown7 hgrow7 _ hat7
                  refine hK _ _ ?_
                  clear hK K
                  try simp only [Act.put, List.getElem_toArray, List.getElem_cons_succ, List.getElem_cons_zero, List.setIfInBounds_toArray, List.set_cons_zero, List.set_cons_succ]
                  obtain ⟨ad7, cap7, rfl⟩ := owns_slice hown7
                  have NT : Hid _ := Kern.rowed (HKS.out _ hb6) (Kl := fun i => ws.heap.size ≤ i) (r := ⟨nm, ars, an, re, co, ou, st⟩) ⟨owns_turn (W := World.drew w5) (owns_lower HO4.out (Nat.zero_le _)) (Turn.ofBelow (S := fun _ => False) (below_new (World.drew w5) (.cells #[str nm, .slice ad4 ars.length cap4, .bool an, .bool re, .bool co, str ou, .int .i64 st] 80))) (fun _ _ h => h), fun b hb => (HO4.out.lt b hb).1⟩ hown7 hgrow7 (hat7.imp id (fun h => ⟨_, h, Nat.le_refl _⟩))
                  have c7 := NT.out.1
                  have f7 := NT.out.2.1
                  refine wpAny_take (i := 8) (v := .pointer (some ⟨w1.heap.size + 1, 0, none⟩)) rfl (by kernel_rfl) (by kernel_rfl) (by kernel_rfl) (fun _ _ _ h => h) (Or.inl ⟨by rfl, by intro wz; go_simp⟩) ?_
                  try simp only [Act.put, List.getElem_toArray, List.getElem_cons_succ, List.getElem_cons_zero, List.setIfInBounds_toArray, List.set_cons_zero, List.set_cons_succ]
                  refine wpAny_take (i := 9) (v := .pointer (some ⟨w1.heap.size + 1, 2, none⟩)) rfl (by kernel_rfl) (by kernel_rfl) (by kernel_rfl) (fun _ _ _ h => h) (Or.inl ⟨by rfl, by intro wz; go_simp⟩) ?_
                  try simp only [Act.put, List.getElem_toArray, List.getElem_cons_succ, List.getElem_cons_zero, List.setIfInBounds_toArray, List.set_cons_zero, List.set_cons_succ]
                  refine wpAny_ready (rs := [10]) (by kernel_rfl) (by simp) ?_
                  refine AllReady.cons rfl (fun K hK => ?_) ?_
                  · go_simp
                    refine hK _ _ ?_
                    clear hK K
                    try simp only [Act.put, List.getElem_toArray, List.getElem_cons_succ, List.getElem_cons_zero, List.setIfInBounds_toArray, List.set_cons_zero, List.set_cons_succ]
                    refine wpAny_done (by kernel_rfl) ?_ _
                    go_wp2_with fail
                    obtain ⟨K', n1, n2, n3⟩ := NT.out.2.2
                    have hKK : ∀ i, K' i → W.heap.size ≤ i := fun i hi => by
                      rcases n3 i hi with h | ⟨b, hb, rfl⟩ | h
                      · exact HY.out.2.2 i h
                      · exact Nat.le_trans hbs.size (HO4.out.lt i hb).1
                      · exact Nat.le_trans hbs.size (Nat.le_trans hb6.size h)
                    refine ⟨⟨k + 1, Y' ++ [(⟨nm, ars, an, re, co, ou, st⟩, .slice ad4 ars.length cap4)], _, K', by simp, by omega, ⟨n1, ?_, hKK⟩, (hbs.trans (hb6.mono hbs.size)).trans (n2.below HY.out.2.2 (Nat.le_trans hbs.size hb6.size))⟩, by simp [intOf]; omega⟩
                    rw [HQ.out, List.map_append, HY.out.2.1]
                    rfl
                  exact AllReady.nil
                exact AllReady.nil
              exact AllReady.nil
            exact AllReady.nil
          refine AllReady.cons rfl (fun K hK => ?_) ?_
          · go_simp
            refine hK _ _ ?_
            clear hK K
            try simp only [Act.put, List.getElem_toArray, List.getElem_cons_succ, List.getElem_cons_zero, List.setIfInBounds_toArray, List.set_cons_zero, List.set_cons_succ]
            refine wpAny_ready (rs := [4, 6]) (by kernel_rfl) (by simp) ?_
            refine AllReady.cons rfl (fun K hK => ?_) ?_
            · have c0 := HC.out _ hb5
              go_simp
              refine hK _ _ ?_
              clear hK K
              try simp only [Act.put, List.getElem_toArray, List.getElem_cons_succ, List.getElem_cons_zero, List.setIfInBounds_toArray, List.set_cons_zero, List.set_cons_succ]
              refine wpAny_ready (rs := [6]) (by kernel_rfl) (by simp) ?_
              refine AllReady.cons rfl (fun K hK => ?_) ?_
              · go_simp
                refine hK _ _ ?_
                clear hK K
                try simp only [Act.put, List.getElem_toArray, List.getElem_cons_succ, List.getElem_cons_zero, List.setIfInBounds_toArray, List.set_cons_zero, List.set_cons_succ]
                have hb6 : Below ws.heap.size ws ((World.drew w5).alloc (.cells #[str nm, .slice ad4 ars.length cap4, .bool an, .bool re, .bool co, str ou, .int .i64 st] 80)) := hb5.alloc hb5.size _
                refine wpAny_ready (rs := [7]) (by kernel_rfl) (by simp) ?_
                refine AllReady.cons rfl (fun K hK => ?_) ?_
                · refine step_append _ _ 25 rfl 0 80 i0 _ 7 72 Tryz.underlying25 hi hz0 hz1 hz2 rfl (by decide) (.slice adp Y'.length capp) Y'.length (rwCs Y') rfl (HKS.out _ hb6).rr ⟨w5.heap.size, 0, none⟩ 1 1 (rwC ⟨nm, ars, an, re, co, ou, st⟩ (.slice ad4 ars.length cap4)) rfl rfl (cells_new (World.drew w5) _ 80) (rwC_one _ _ _) (by have := maxLen_big; omega) (by omega) (Nat.zero_le _) ?_
                  intro v7 w7 hown7 hgrow7 _ hat7
                  refine hK _ _ ?_
                  clear hK K
                  try simp only [Act.put, List.getElem_toArray, List.getElem_cons_succ, List.getElem_cons_zero, List.setIfInBounds_toArray, List.set_cons_zero, List.set_cons_succ]
                  obtain ⟨ad7, cap7, rfl⟩ := owns_slice hown7
                  have NT : Hid _ := Kern.rowed (HKS.out _ hb6) (Kl := fun i => ws.heap.size ≤ i) (r := ⟨nm, ars, an, re, co, ou, st⟩) ⟨owns_turn (W := World.drew w5) (owns_lower HO4.out (Nat.zero_le _)) (Turn.ofBelow (S := fun _ => False) (below_new (World.drew w5) (.cells #[str nm, .slice ad4 ars.length cap4, .bool an, .bool re, .bool co, str ou, .int .i64 st] 80))) (fun _ _ h => h), fun b hb => (HO4.out.lt b hb).1⟩ hown7 hgrow7 (hat7.imp id (fun h => ⟨_, h, Nat.le_refl _⟩))
                  have c7 := NT.out.1
                  have f7 := NT.out.2.1
                  refine wpAny_take (i := 8) (v := .pointer (some ⟨w1.heap.size + 1, 0, none⟩)) rfl (by kernel_rfl) (by kernel_rfl) (by kernel_rfl) (fun _ _ _ h => h) (Or.inl ⟨by rfl, by intro wz; go_simp⟩) ?_
                  try simp only [Act.put, List.getElem_toArray, List.getElem_cons_succ, List.getElem_cons_zero, List.setIfInBounds_toArray, List.set_cons_zero, List.set_cons_succ]
                  refine wpAny_take (i := 9) (v := .pointer (some ⟨w1.heap.size + 1, 2, none⟩)) rfl (by kernel_rfl) (by kernel_rfl) (by kernel_rfl) (fun _ _ _ h => h) (Or.inl ⟨by rfl, by intro wz; go_simp⟩) ?_
                  try simp only [Act.put, List.getElem_toArray, List.getElem_cons_succ, List.getElem_cons_zero, List.setIfInBounds_toArray, List.set_cons_zero, List.set_cons_succ]
                  refine wpAny_ready (rs := [10]) (by kernel_rfl) (by simp) ?_
                  refine AllReady.cons rfl (fun K hK => ?_) ?_
                  · go_simp
                    refine hK _ _ ?_
                    clear hK K
                    try simp only [Act.put, List.getElem_toArray, List.getElem_cons_succ, List.getElem_cons_zero, List.setIfInBounds_toArray, List.set_cons_zero, List.set_cons_succ]
                    refine wpAny_done (by kernel_rfl) ?_ _
                    go_wp2_with fail
                    obtain ⟨K', n1, n2, n3⟩ := NT.out.2.2
                    have hKK : ∀ i, K' i → W.heap.size ≤ i := fun i hi => by
                      rcases n3 i hi with h | ⟨b, hb, rfl⟩ | h
                      · exact HY.out.2.2 i h
                      · exact Nat.le_trans hbs.size (HO4.out.lt i hb).1
                      · exact Nat.le_trans hbs.size (Nat.le_trans hb6.size h)
                    refine ⟨⟨k + 1, Y' ++ [(⟨nm, ars, an, re, co, ou, st⟩, .slice ad4 ars.length cap4)], _, K', by simp, by omega, ⟨n1, ?_, hKK⟩, (hbs.trans (hb6.mono hbs.size)).trans (n2.below HY.out.2.2 (Nat.le_trans hbs.size hb6.size))⟩, by simp [intOf]; omega⟩
                    rw [HQ.out, List.map_append, HY.out.2.1]
                    rfl
                  exact AllReady.nil
                exact AllReady.nil
              exact AllReady.nil
            refine AllReady.cons rfl (fun K hK => ?_) ?_
            · go_simp
              refine hK _ _ ?_
              clear hK K
              try simp only [Act.put, List.getElem_toArray, List.getElem_cons_succ, List.getElem_cons_zero, List.setIfInBounds_toArray, List.set_cons_zero, List.set_cons_succ]
              refine wpAny_ready (rs := [4]) (by kernel_rfl) (by simp) ?_
              refine AllReady.cons rfl (fun K hK => ?_) ?_
              · have c0 := HC.out _ (hb5.alloc hb5.size (.cells #[str nm, .slice ad4 ars.length cap4, .bool an, .bool re, .bool co, str ou, .int .i64 st] 80))
                have c0d : (World.drew (w5.alloc (.cells #[str nm, .slice ad4 ars.length cap4, .bool an, .bool re, .bool co, str ou, .int .i64 st] 80))).cell? ⟨w1.heap.size + 1, 2, none⟩ = some (.slice adp Y'.length capp) := c0
                go_simp
                refine hK _ _ ?_
                clear hK K
                try simp only [Act.put, List.getElem_toArray, List.getElem_cons_succ, List.getElem_cons_zero, List.setIfInBounds_toArray, List.set_cons_zero, List.set_cons_succ]
                have hb6 : Below ws.heap.size ws ((World.drew w5).alloc (.cells #[str nm, .slice ad4 ars.length cap4, .bool an, .bool re, .bool co, str ou, .int .i64 st] 80)) := hb5.alloc hb5.size _
                refine wpAny_ready (rs := [7]) (by kernel_rfl) (by simp) ?_
                refine AllReady.cons rfl (fun K hK => ?_) ?_
                · refine step_append _ _ 25 rfl 0 80 i0 _ 7 72 Tryz.underlying25 hi hz0 hz1 hz2 rfl (by decide) (.slice adp Y'.length capp) Y'.length (rwCs Y') rfl (HKS.out _ hb6).rr ⟨w5.heap.size, 0, none⟩ 1 1 (rwC ⟨nm, ars, an, re, co, ou, st⟩ (.slice ad4 ars.length cap4)) rfl rfl (cells_new (World.drew w5) _ 80) (rwC_one _ _ _) (by have := maxLen_big; omega) (by omega) (Nat.zero_le _) ?_
                  intro v7 w7 hown7 hgrow7 _ hat7
                  refine hK _ _ ?_
                  clear hK K
                  try simp only [Act.put, List.getElem_toArray, List.getElem_cons_succ, List.getElem_cons_zero, List.setIfInBounds_toArray, List.set_cons_zero, List.set_cons_succ]
                  obtain ⟨ad7, cap7, rfl⟩ := owns_slice hown7
                  have NT : Hid _ := Kern.rowed (HKS.out _ hb6) (Kl := fun i => ws.heap.size ≤ i) (r := ⟨nm, ars, an, re, co, ou, st⟩) ⟨owns_turn (W := World.drew w5) (owns_lower HO4.out (Nat.zero_le _)) (Turn.ofBelow (S := fun _ => False) (below_new (World.drew w5) (.cells #[str nm, .slice ad4 ars.length cap4, .bool an, .bool re, .bool co, str ou, .int .i64 st] 80))) (fun _ _ h => h), fun b hb => (HO4.out.lt b hb).1⟩ hown7 hgrow7 (hat7.imp id (fun h => ⟨_, h, Nat.le_refl _⟩))
                  have c7 := NT.out.1
                  have f7 := NT.out.2.1
                  refine wpAny_take (i := 8) (v := .pointer (some ⟨w1.heap.size + 1, 0, none⟩)) rfl (by kernel_rfl) (by kernel_rfl) (by kernel_rfl) (fun _ _ _ h => h) (Or.inl ⟨by rfl, by intro wz; go_simp⟩) ?_
                  try simp only [Act.put, List.getElem_toArray, List.getElem_cons_succ, List.getElem_cons_zero, List.setIfInBounds_toArray, List.set_cons_zero, List.set_cons_succ]
                  refine wpAny_take (i := 9) (v := .pointer (some ⟨w1.heap.size + 1, 2, none⟩)) rfl (by kernel_rfl) (by kernel_rfl) (by kernel_rfl) (fun _ _ _ h => h) (Or.inl ⟨by rfl, by intro wz; go_simp⟩) ?_
                  try simp only [Act.put, List.getElem_toArray, List.getElem_cons_succ, List.getElem_cons_zero, List.setIfInBounds_toArray, List.set_cons_zero, List.set_cons_succ]
                  refine wpAny_ready (rs := [10]) (by kernel_rfl) (by simp) ?_
                  refine AllReady.cons rfl (fun K hK => ?_) ?_
                  · go_simp
                    refine hK _ _ ?_
                    clear hK K
                    try simp only [Act.put, List.getElem_toArray, List.getElem_cons_succ, List.getElem_cons_zero, List.setIfInBounds_toArray, List.set_cons_zero, List.set_cons_succ]
                    refine wpAny_done (by kernel_rfl) ?_ _
                    go_wp2_with fail
                    obtain ⟨K', n1, n2, n3⟩ := NT.out.2.2
                    have hKK : ∀ i, K' i → W.heap.size ≤ i := fun i hi => by
                      rcases n3 i hi with h | ⟨b, hb, rfl⟩ | h
                      · exact HY.out.2.2 i h
                      · exact Nat.le_trans hbs.size (HO4.out.lt i hb).1
                      · exact Nat.le_trans hbs.size (Nat.le_trans hb6.size h)
                    refine ⟨⟨k + 1, Y' ++ [(⟨nm, ars, an, re, co, ou, st⟩, .slice ad4 ars.length cap4)], _, K', by simp, by omega, ⟨n1, ?_, hKK⟩, (hbs.trans (hb6.mono hbs.size)).trans (n2.below HY.out.2.2 (Nat.le_trans hbs.size hb6.size))⟩, by simp [intOf]; omega⟩
                    rw [HQ.out, List.map_append, HY.out.2.1]
                    rfl
                  exact AllReady.nil
                exact AllReady.nil
              exact AllReady.nil
            exact AllReady.nil
          exact AllReady.nil
        · have hkz : k = Y.length := by omega
          subst hkz
          go_wp2_with fail
          go_ret2
          refine ⟨w1.heap.size + 1, w1.heap.size, _, Y', K, rfl, HY.out.1, ?_, HY.out.2.2, hbs⟩
          rw [HY.out.2.1, List.take_of_length_le (by rw [List.length_map]; exact Nat.le_refl _)]
end Go.Proofs.YtfafhjglcaikoaaGreatDoor
/-! A kernel by what it holds. -/
namespace Go.Proofs.YtfafhjglcaikoaaGreatDoor
open Go.RowKit Go.Shelf

/-- A kernel in blocks from B on: its files, rows and events. -/
def KW (W : World) (B kb : Nat) (F : Fls) (R : List Rw) (E : List Ev) : Prop :=
  ∃ (K : Nat → Prop) (mb : Nat) (ev rv : Value) (Y : List (Rw × Value)) (X : List (Ev × Value)), Kern W K kb mb ev rv F Y X ∧ Y.map Prod.fst = R ∧ X.map Prod.fst = E ∧ (∀ i, K i → B ≤ i)
/-- Nothing in it is too great. -/
structure Sml (F : Fls) (R : List Rw) (E : List Ev) : Prop where
  f : F.length < 4294967296
  fn : ∀ p ∈ F, p.1.length < 4294967296 ∧ p.2.length < 4294967296
  r : R.length < 4294967296
  ra : ∀ r ∈ R, r.args.length < 4294967296 ∧ r.out.length < 4294967296
  e : E.length < 4294967296
  el : ∀ e ∈ E, e.l.length < 4294967296
theorem KW.below {W W' : World} {B kb : Nat} {F : Fls} {R : List Rw} {E : List Ev} (h : KW W B kb F R E) (hb : Below W.heap.size W W') : KW W' B kb F R E := by
  obtain ⟨K, mb, ev, rv, Y, X, h1, h2⟩ := h
  exact ⟨K, mb, ev, rv, Y, X, h1.below hb, h2⟩
theorem len_of {α β : Type} {X : List (α × β)} {E : List α} (h : X.map Prod.fst = E) : X.length = E.length := by rw [← h, List.length_map]
theorem all_of {α β : Type} {X : List (α × β)} {E : List α} {P : α → Prop} (h : X.map Prod.fst = E) (hp : ∀ e ∈ E, P e) : ∀ q ∈ X, P q.1 := fun q hq => hp q.1 (by rw [← h]; exact List.mem_map.2 ⟨q, hq, rfl⟩)
theorem dat_small {F : Fls} (h : ∀ p ∈ F, p.1.length < 4294967296 ∧ p.2.length < 4294967296) (k : Txt) : (datF F k).length < 4294967296 := by
  unfold datF
  cases hf : F.find? (fun p => p.1 == k) with
  | none => exact Nat.zero_lt_succ _
  | some p => exact (h p (List.mem_of_find?_eq_some hf)).2
theorem map_app {α β : Type} {X X' : List (α × β)} {E E' : List α} (h : X.map Prod.fst = E) (h' : X'.map Prod.fst = E') : (X ++ X').map Prod.fst = E ++ E' := by rw [List.map_append, h, h']

section
variable {W : World} {B kb : Nat} {F : Fls} {R : List Rw} {E : List Ev}
theorem KW.mark (k n : Int) (h : KW W B kb F R E) (hs : Sml F R E) (hB : B ≤ W.heap.size) :
    Calls Tryz.prog 117 #[kP kb, .int .i64 k, .int .i64 n] W fun r w' => r = .returned (.tuple #[]) ∧ KW w' B kb F R (E ++ marked k n) ∧ Below B W w' := by
  obtain ⟨K, mb, ev, rv, Y, X, h1, h2, h3, h4⟩ := h
  refine (mark_any k n h1 (by rw [len_of h3]; exact hs.e)).mono ?_
  rintro e w' ⟨rfl, ev', X', K', k1, k2, k3⟩
  have k4 := k3.below h4 hB
  exact ⟨rfl, ⟨K', mb, ev', rv, Y, X ++ X', k1, h2, map_app h3 k2, k4.2⟩, k4.1⟩
theorem KW.open (f : Txt) (m : Int) (h : KW W B kb F R E) (hs : Sml F R E) (hB : B ≤ W.heap.size) (hf : f.length < 4294967296) :
    Calls Tryz.prog 171 #[kP kb, str f, .int .i64 m] W fun r w' => r = .returned (.tuple #[str (openD F f m), .bool (openB F f m)]) ∧ KW w' B kb (openF F f m) R (E ++ openE F f m) ∧ Below B W w' := by
  obtain ⟨K, mb, ev, rv, Y, X, h1, h2, h3, h4⟩ := h
  refine (open_any f m h1 (by rw [len_of h3]; exact hs.e) hs.f hf).mono ?_
  rintro e w' ⟨rfl, ev', X', K', k1, k2, k3⟩
  have k4 := k3.below h4 hB
  exact ⟨rfl, ⟨K', mb, ev', rv, Y, X ++ X', k1, h2, map_app h3 k2, k4.2⟩, k4.1⟩
theorem KW.write (f d : Txt) (ea : Addr) (h : KW W B kb F R E) (hs : Sml F R E) (hB : B ≤ W.heap.size) (hf : f.length < 4294967296) (hd : d.length < 4294967296) (hE : Er W 1 ea) :
    Calls Tryz.prog 207 #[kP kb, str f, str d] W fun r w' => r = .returned (errR (writeB F f d) ea) ∧ KW w' B kb (writeF F f d) R (E ++ writeE F f d) ∧ Below B W w' := by
  obtain ⟨K, mb, ev, rv, Y, X, h1, h2, h3, h4⟩ := h
  refine (write_any f d ea h1 (by rw [len_of h3]; exact hs.e) hs.f hf hd (dat_small hs.fn f) hE).mono ?_
  rintro e w' ⟨rfl, ev', X', K', k1, k2, k3⟩
  have k4 := k3.below h4 hB
  exact ⟨rfl, ⟨K', mb, ev', rv, Y, X ++ X', k1, h2, map_app h3 k2, k4.2⟩, k4.1⟩
theorem KW.exec (name inp : Txt) (args : List Txt) (va : Value) (o : Option Rw) (ho : rowOf R name args = o) (h : KW W B kb F R E) (hs : Sml F R E) (hB : B ≤ W.heap.size) (ha : Tx W va args) (hla : args.length < 4294967296) (hinp : inp.length < 4294967296) :
    Calls Tryz.prog 160 #[kP kb, str name, str inp, va] W fun r w' => r = .returned (.tuple #[str (outOf o inp), .int .i64 (statOf o), .bool o.isSome]) ∧ KW w' B kb F R (E ++ [⟨1, statOf o, name, heardOf o inp, args⟩]) ∧ Below B W w' := by
  obtain ⟨K, mb, ev, rv, Y, X, h1, h2, h3, h4⟩ := h
  refine (exec_any name inp args va h1 (by rw [len_of h3]; exact hs.e) (by rw [len_of h2]; exact hs.r) ha hla (all_of h2 fun r hr => (hs.ra r hr).1) hinp (all_of h2 fun r hr => (hs.ra r hr).2) o (by rw [h2]; exact ho)).mono ?_
  rintro e w' ⟨rfl, ev', lv', K', k1, k3⟩
  have k4 := k3.below h4 hB
  exact ⟨rfl, ⟨K', mb, ev', rv, Y, _, k1, h2, map_app h3 rfl, k4.2⟩, k4.1⟩
theorem KW.reads (name : Txt) (args : List Txt) (va : Value) (o : Option Rw) (ho : rowOf R name args = o) (h : KW W B kb F R E) (hs : Sml F R E) (ha : Tx W va args) (hla : args.length < 4294967296) :
    Calls Tryz.prog 161 #[kP kb, str name, va] W fun e w' => e = .returned (.bool (readsB o)) ∧ Below W.heap.size W w' := by
  obtain ⟨K, mb, ev, rv, Y, X, h1, h2, h3, h4⟩ := h
  exact reads_any name args va h1 (by rw [len_of h2]; exact hs.r) ha hla (all_of h2 fun r hr => (hs.ra r hr).1) o (by rw [h2]; exact ho)
theorem KW.names (h : KW W B kb F R E) (hs : Sml F R E) : Calls Tryz.prog 128 #[kP kb] W fun e w' => ∃ v', e = .returned v' ∧ w'.ownsRow W.heap.size 9 1 v' (F.map Prod.fst).length (txV (F.map Prod.fst)) ∧ Below W.heap.size W w' := by
  obtain ⟨K, mb, ev, rv, Y, X, h1, h2, h3, h4⟩ := h
  exact names_any h1 hs.f
theorem KW.files (h : KW W B kb F R E) (hs : Sml F R E) : Calls Tryz.prog 83 #[kP kb] W fun e w' => ∃ v', e = .returned v' ∧ w'.ownsRow W.heap.size 68 2 v' F.length (flCs F) ∧ Below W.heap.size W w' := by
  obtain ⟨K, mb, ev, rv, Y, X, h1, h2, h3, h4⟩ := h
  exact files_any h1 hs.f fun p hp => (hs.fn p hp).1
theorem KW.trace (h : KW W B kb F R E) (hs : Sml F R E) : Calls Tryz.prog 81 #[kP kb] W fun e w' => ∃ v' X', e = .returned v' ∧ EvOwn w' W.heap.size v' X' ∧ X'.map Prod.fst = E ∧ Below W.heap.size W w' := by
  obtain ⟨K, mb, ev, rv, Y, X, h1, h2, h3, h4⟩ := h
  refine (trace_any h1 (by rw [len_of h3]; exact hs.e) (all_of h3 hs.el)).mono ?_
  rintro e w' ⟨v', X', rfl, k1, k2, k3⟩
  exact ⟨v', X', rfl, k1, k2.trans h3, k3⟩
end
theorem KW.new (fv rv : Value) (Fl : Fls) (Y : List (Rw × Value)) (ea : Nat → Addr) (W : World) (hf : FlAt W fv Fl) (hr : RwAt W rv Y) (hl : ∀ p ∈ Y, p.1.args.length < 4294967296) (hN : ∀ p ∈ Fl, p.1.length < 4294967296) (hE : Ers W ea) (hm : mayR Fl (Y.map Prod.fst) = none) :
    Calls Tryz.prog 60 #[wV fv rv] W fun e w' => ∃ kb, e = .returned (.tuple #[kP kb, .nilIface]) ∧ KW w' W.heap.size kb (putAll Fl) (Y.map Prod.fst) [] ∧ Below W.heap.size W w' := by
  have hsm := mayR_small hm
  rw [List.length_map] at hsm
  refine (new_any fv rv Fl Y ea W hf hr (by omega) (by omega) hl hN hE hm).mono ?_
  rintro e w' ⟨kb, mb, rv', Y', K, rfl, k1, k2, k3, k4⟩
  exact ⟨kb, rfl, ⟨K, mb, _, rv', Y', [], k1, k2, rfl, k3⟩, k4⟩
end Go.Proofs.YtfafhjglcaikoaaGreatDoor
/-! Texts and nodes in memory. -/
namespace Go.Proofs.YtfafhjglcaikoaaGreatDoor
open Go.RowKit

structure Nd where
  kind : Int
  n : Int
  k : Int
  size : Int
  s : Txt
/-! ### blocks -/
/-- Structs lie in a row. -/
def RowAtS (W : World) (v : Value) (k : Nat) (css : List (List Value)) : Prop :=
  (css = [] ∧ (v = .slice none 0 0 ∨ ∃ ad cap, v = .slice (some ad) 0 cap)) ∨
  ∃ g o cap, v = .slice (some ⟨g, o, none⟩) css.length cap ∧ css.length ≤ cap ∧ g < W.heap.size ∧ ∀ j cs, css[j]? = some cs → ∀ i u, cs[i]? = some u → W.cell? ⟨g, o + j * k + i, none⟩ = some u
theorem RowAtS.form {W : World} {v : Value} {k : Nat} {css : List (List Value)} (h : RowAtS W v k css) : ∃ ad cap, v = .slice ad css.length cap := by
  rcases h with ⟨rfl, rfl | ⟨ad, cap, rfl⟩⟩ | ⟨g, o, cap, rfl, _⟩
  · exact ⟨none, 0, rfl⟩
  · exact ⟨_, cap, rfl⟩
  · exact ⟨_, cap, rfl⟩
theorem RowAtS.below {W W' : World} {v : Value} {k : Nat} {css : List (List Value)} {B : Nat} (h : RowAtS W v k css) (hb : Below B W W') (hB : W.heap.size ≤ B) : RowAtS W' v k css := by
  rcases h with h | ⟨g, o, cap, h1, h2, h3, h4⟩
  · exact .inl h
  · exact .inr ⟨g, o, cap, h1, h2, Nat.lt_of_lt_of_le h3 hb.size, fun j cs hj i u hu => (hb.cell (p := ⟨g, o + j * k + i, none⟩) (by show g < B; omega)).trans (h4 j cs hj i u hu)⟩
theorem RowAtS.turn {W W' : World} {v : Value} {k : Nat} {css : List (List Value)} {S : Nat → Prop} (h : RowAtS W v k css) (hT : Turn S W W') (hs : ∀ b, v.ownBlock = some b → ¬ S b) : RowAtS W' v k css := by
  rcases h with h | ⟨g, o, cap, rfl, h2, h3, h4⟩
  · exact .inl h
  · exact .inr ⟨g, o, cap, rfl, h2, Nat.lt_of_lt_of_le h3 hT.size, fun j cs hj i u hu => (World.cell?_of_block (w := W) (a := ⟨g, o + j * k + i, none⟩) (hT.block g h3 (hs g rfl))).trans (h4 j cs hj i u hu)⟩
theorem RowAtS.owned {W : World} {B e k : Nat} {v : Value} {css : List (List Value)} (h : W.ownsRow B e k v css.length (css.flatMap id)) (hk : ∀ cs ∈ css, cs.length = k) : RowAtS W v k css := by
  rcases h.2 with ⟨hv, h0⟩ | ⟨g, cap, cur, hv, hb, hc, h1, _, h2, h3⟩
  · exact .inl ⟨List.eq_nil_of_length_eq_zero h0, .inl hv⟩
  · refine .inr ⟨g, 0, cap, hv, h1, (Array.getElem?_eq_some_iff.1 hc).1, fun j cs hj i u hu => ?_⟩
    have hf := flat_at k css hk j cs hj i u hu
    have hlt := (List.getElem?_eq_some_iff.1 hf).1
    rw [h.1] at hlt
    have e1 : W.cell? ⟨g, 0 + j * k + i, none⟩ = cur[j * k + i]? := by simp [World.cell?, hc]
    rw [e1, ← Array.getElem?_toList, ← List.getElem?_take_of_lt hlt, h3]
    exact hf

/-! ### nodes -/
abbrev ndC (x : Nd) : List Value := [.int .i64 x.kind, .int .i64 x.n, .int .i64 x.k, .int .i64 x.size, str x.s]
abbrev ndL (X : List Nd) : List (List Value) := X.map ndC
def ndCs (X : List Nd) : List Value := X.flatMap ndC
theorem ndL_flat (X : List Nd) : (ndL X).flatMap id = ndCs X := by simp [ndL, ndCs, List.flatMap_map]
theorem ndCs_append (X Y : List Nd) : ndCs (X ++ Y) = ndCs X ++ ndCs Y := by simp [ndCs]
theorem ndCs_length (X : List Nd) : (ndCs X).length = X.length * 5 := by
  induction X with
  | nil => rfl
  | cons x X ih => simp [ndCs] at ih ⊢; omega
theorem ndL_len (X : List Nd) : ∀ cs ∈ ndL X, cs.length = 5 := by
  intro cs hcs
  obtain ⟨p, _, rfl⟩ := List.mem_map.1 hcs
  rfl
/-- Nodes in memory, to be read. -/
def NdAt (W : World) (v : Value) (X : List Nd) : Prop := RowAtS W v 5 (ndL X)
theorem NdAt.below {W W' : World} {v : Value} {X : List Nd} {B : Nat} (h : NdAt W v X) (hb : Below B W W') (hB : W.heap.size ≤ B) : NdAt W' v X := RowAtS.below h hb hB
theorem NdAt.turn {W W' : World} {v : Value} {X : List Nd} {S : Nat → Prop} (h : NdAt W v X) (hT : Turn S W W') (hs : ∀ b, v.ownBlock = some b → ¬ S b) : NdAt W' v X := RowAtS.turn h hT hs
theorem NdAt.form {W : World} {v : Value} {X : List Nd} (h : NdAt W v X) : ∃ ad cap, v = .slice ad X.length cap := by
  obtain ⟨ad, cap, hv⟩ := RowAtS.form h
  exact ⟨ad, cap, by rw [hv]; simp⟩
theorem NdAt.owned {W : World} {B : Nat} {v : Value} {X : List Nd} (h : W.ownsRow B 40 5 v X.length (ndCs X)) : NdAt W v X :=
  RowAtS.owned (e := 40) (B := B) (by rw [ndL_flat, List.length_map]; exact h) (ndL_len X)
theorem NdAt.nil (W : World) : NdAt W (.slice none 0 0) [] := .inl ⟨rfl, .inl rfl⟩
/-- The cells of one of them. -/
theorem NdAt.at {W : World} {v : Value} {X : List Nd} (h : NdAt W v X) {j : Nat} {x : Nd} (hj : X[j]? = some x) : ∃ g o cap, v = .slice (some ⟨g, o, none⟩) X.length cap ∧ g < W.heap.size ∧
    W.cell? ⟨g, o + j * 5, none⟩ = some (.int .i64 x.kind) ∧ W.cell? ⟨g, o + j * 5 + 1, none⟩ = some (.int .i64 x.n) ∧ W.cell? ⟨g, o + j * 5 + 2, none⟩ = some (.int .i64 x.k) ∧ W.cell? ⟨g, o + j * 5 + 3, none⟩ = some (.int .i64 x.size) ∧ W.cell? ⟨g, o + j * 5 + 4, none⟩ = some (str x.s) := by
  rcases h with ⟨h0, _⟩ | ⟨g, o, cap, h1, h2, h3, h4⟩
  · have : X = [] := by simpa using h0
    rw [this] at hj
    simp at hj
  · have hc := h4 j (ndC x) (by rw [List.getElem?_map, hj]; rfl)
    exact ⟨g, o, cap, by simpa using h1, h3, hc 0 _ rfl, hc 1 _ rfl, hc 2 _ rfl, hc 3 _ rfl, hc 4 _ rfl⟩
/-- Where it is not nil its cells lie in a row. -/
theorem NdAt.cells {W : World} {v : Value} {X : List Nd} (h : NdAt W v X) : (v = .slice none 0 0 ∧ X = []) ∨ ∃ ad cap, v = .slice (some ad) X.length cap ∧ ∀ j u, (ndCs X)[j]? = some u → W.cell? (ad.add j) = some u := by
  rcases h with ⟨h0, h1 | ⟨ad, cap, h1⟩⟩ | ⟨g, o, cap, h1, h2, h3, h4⟩
  · exact .inl ⟨h1, by simpa using h0⟩
  · have : X = [] := by simpa using h0
    subst this
    exact .inr ⟨ad, cap, h1, fun j u hu => by simp [ndCs] at hu⟩
  · refine .inr ⟨⟨g, o, none⟩, cap, by simpa using h1, fun j u hu => ?_⟩
    have hj := (List.getElem?_eq_some_iff.1 hu).1
    rw [ndCs_length] at hj
    have hq : j / 5 < X.length := by omega
    have hx : X[j / 5]? = some (X[j / 5]) := List.getElem?_eq_getElem hq
    have hm := flat_at 5 (ndL X) (ndL_len X) (j / 5) (ndC X[j / 5]) (by rw [List.getElem?_map, hx]; rfl) (j % 5) ((ndC X[j / 5])[j % 5]'(by show _ < 5; omega)) (List.getElem?_eq_getElem (by show _ < 5; omega))
    rw [ndL_flat, show j / 5 * 5 + j % 5 = j by omega, hu] at hm
    have hc := h4 (j / 5) (ndC X[j / 5]) (by rw [List.getElem?_map, hx]; rfl) (j % 5) _ (List.getElem?_eq_getElem (by show _ < 5; omega))
    rw [Addr.add_lit, show o + j = o + j / 5 * 5 + j % 5 by omega, hc, hm]
theorem ndC_one (X : List Nd) : ∀ u ∈ ndCs X, u.oneCell' = true := by
  intro u hu
  obtain ⟨x, _, hx⟩ := List.mem_flatMap.1 hu
  simp [ndC] at hx
  rcases hx with rfl | rfl | rfl | rfl | rfl <;> rfl
theorem info58 : (Tryz.prog.info? 40).map (fun i => (i.zero, i.size, i.bytes)) = some (some (.agg #[.int .i64 0, .int .i64 0, .int .i64 0, .int .i64 0, .string ⟨#[]⟩]), 5, 48) := by kernel_rfl
/-! ### texts -/
theorem NdAt.turn' {W W' : World} {v : Value} {X : List Nd} (h : NdAt W v X) (hb : Below W.heap.size W W') : NdAt W' v X := h.below hb (Nat.le_refl _)
def NdOwn (W : World) (B : Nat) (v : Value) (X : List Nd) : Prop := W.ownsRow B 40 5 v X.length (ndCs X)
theorem NdOwn.at {W : World} {B : Nat} {v : Value} {X : List Nd} (h : NdOwn W B v X) : NdAt W v X := NdAt.owned h
theorem NdOwn.below {W W' : World} {B : Nat} {v : Value} {X : List Nd} (h : NdOwn W B v X) (hb : Below W.heap.size W W') : NdOwn W' B v X := owns_turn h (Turn.ofBelow (S := fun _ => False) hb) (fun _ _ h => h)
theorem info9 : (Tryz.prog.info? 9).map (fun i => (i.zero, i.size, i.bytes)) = some (some (.string ⟨#[]⟩), 1, 16) := by kernel_rfl
theorem txV_append (U I : List Txt) : txV (U ++ I) = txV U ++ txV I := by simp only [txV, List.map_append]
theorem Tx.cells {W : World} {ad : Addr} {n cap : Nat} {I : List Txt} (h : Tx W (.slice (some ad) n cap) I) : ∀ j u, (txV I)[j]? = some u → W.cell? (ad.add j) = some u := by
  intro j u hu
  unfold txV at hu
  rw [List.getElem?_map] at hu
  cases hp : I[j]? with
  | none => rw [hp] at hu; simp at hu
  | some p =>
    rw [hp] at hu
    cases hu
    obtain ⟨g, o, cap', h1, _, _, h3⟩ := h.inRow (fun e => by rw [e] at hp; simp at hp)
    cases h1
    rw [Addr.add_lit]
    exact h3 j p hp
theorem Tx.turn {W W' : World} {S : Nat → Prop} {v : Value} {ps : List Txt} (h : Tx W v ps) (hT : Turn S W W') (hs : ∀ b, v.ownBlock = some b → ¬ S b) : Tx W' v ps := by
  rcases h with h | ⟨ad, cap, rfl, h2, h3⟩
  · exact .inl h
  · refine .inr ⟨ad, cap, rfl, h2, fun hne => ?_⟩
    obtain ⟨g, o, rfl, h4, h5⟩ := h3 hne
    exact ⟨g, o, rfl, Nat.lt_of_lt_of_le h4 hT.size, fun k p hp => (World.cell?_of_block (w := W) (a := ⟨g, o + k, none⟩) (hT.block g h4 (hs g rfl))).trans (h5 k p hp)⟩
end Go.Proofs.YtfafhjglcaikoaaGreatDoor
/-! Maps as rising lists; a store in memory. -/
namespace Go.Proofs.YtfafhjglcaikoaaGreatDoor
open Go.RowKit

section plain
variable {α β : Type}
def insM (x : Txt × α) : List (Txt × α) → List (Txt × α)
  | [] => [x]
  | y :: r => if bytesBefore x.1 y.1 then x :: y :: r else y :: insM x r
def delM (F : List (Txt × α)) (k : Txt) : List (Txt × α) := F.filter fun p => !(p.1 == k)
def putM (F : List (Txt × α)) (k : Txt) (d : α) : List (Txt × α) := insM (k, d) (delM F k)
def hasM (F : List (Txt × α)) (k : Txt) : Bool := F.any fun p => p.1 == k
def getM (F : List (Txt × α)) (k : Txt) (z : α) : α := match F.find? (fun p => p.1 == k) with | some p => p.2 | none => z
/-- What is there, without where it lies. -/
def cont (F : List (Txt × Value × α)) : List (Txt × α) := F.map fun p => (p.1, p.2.2)
theorem mem_insM (x y : Txt × α) : ∀ F, y ∈ insM x F ↔ y = x ∨ y ∈ F
  | [] => by simp [insM]
  | z :: r => by
    unfold insM
    split
    · simp
    · simp only [List.mem_cons, mem_insM x y r]
      constructor
      · rintro (h | h | h)
        · exact .inr (.inl h)
        · exact .inl h
        · exact .inr (.inr h)
      · rintro (h | h | h)
        · exact .inr (.inl h)
        · exact .inl h
        · exact .inr (.inr h)
theorem length_insM (x : Txt × α) : ∀ F, (insM x F).length = F.length + 1
  | [] => rfl
  | z :: r => by
    unfold insM
    split
    · rfl
    · simp only [List.length_cons, length_insM x r]
theorem length_delM (F : List (Txt × α)) (k : Txt) : (delM F k).length ≤ F.length := List.length_filter_le _ _
theorem length_putM (F : List (Txt × α)) (k : Txt) (d : α) : (putM F k d).length ≤ F.length + 1 := by
  unfold putM
  rw [length_insM]
  have := length_delM F k
  omega
theorem mem_delM {F : List (Txt × α)} {k : Txt} {p : Txt × α} (h : p ∈ delM F k) : p ∈ F := (List.mem_filter.1 h).1
theorem mem_putM {F : List (Txt × α)} {k : Txt} {d : α} {p : Txt × α} (h : p ∈ putM F k d) : p = (k, d) ∨ p ∈ F := by
  rcases (mem_insM _ _ _).1 h with h | h
  · exact .inl h
  · exact .inr (mem_delM h)
theorem getM_mem {F : List (Txt × α)} {k : Txt} {z : α} (h : hasM F k = true) : (k, getM F k z) ∈ F := by
  unfold hasM at h
  unfold getM
  cases e : F.find? (fun p => p.1 == k) with
  | none =>
    rw [List.find?_eq_none] at e
    obtain ⟨p, hp, hk⟩ := List.any_eq_true.1 h
    exact absurd hk (e p hp)
  | some p =>
    have h1 := List.mem_of_find?_eq_some e
    have h2 := List.find?_some e
    have : p.1 = k := by simpa using h2
    subst this
    exact h1
theorem getM_none {F : List (Txt × α)} {k : Txt} {z : α} (h : hasM F k = false) : getM F k z = z := by
  unfold hasM at h
  unfold getM
  rw [List.find?_eq_none.2 (by simpa using h)]
theorem map_insM (f : α → β) (x : Txt × α) : ∀ F, (insM x F).map (fun p => (p.1, f p.2)) = insM (x.1, f x.2) (F.map fun p => (p.1, f p.2))
  | [] => rfl
  | z :: r => by
    unfold insM
    simp only [List.map_cons]
    split
    · rfl
    · simp only [List.map_cons, map_insM f x r]
theorem map_delM (f : α → β) (F : List (Txt × α)) (k : Txt) : (delM F k).map (fun p => (p.1, f p.2)) = delM (F.map fun p => (p.1, f p.2)) k := by
  unfold delM
  rw [List.filter_map]
  rfl
theorem map_putM (f : α → β) (F : List (Txt × α)) (k : Txt) (d : α) : (putM F k d).map (fun p => (p.1, f p.2)) = putM (F.map fun p => (p.1, f p.2)) k (f d) := by
  unfold putM
  rw [map_insM, map_delM]
theorem map_hasM (f : α → β) (F : List (Txt × α)) (k : Txt) : hasM (F.map fun p => (p.1, f p.2)) k = hasM F k := by
  unfold hasM
  rw [List.any_map]
  rfl
theorem map_getM (f : α → β) (F : List (Txt × α)) (k : Txt) (z : α) : getM (F.map fun p => (p.1, f p.2)) k (f z) = f (getM F k z) := by
  unfold getM
  rw [List.find?_map]
  have : ((fun p : Txt × β => p.1 == k) ∘ fun p : Txt × α => (p.1, f p.2)) = fun p => p.1 == k := rfl
  rw [this]
  cases F.find? (fun p => p.1 == k) <;> rfl
theorem cont_put (F : List (Txt × Value × α)) (k : Txt) (d : Value × α) : cont (putM F k d) = putM (cont F) k d.2 := map_putM Prod.snd F k d
theorem cont_del (F : List (Txt × Value × α)) (k : Txt) : cont (delM F k) = delM (cont F) k := map_delM Prod.snd F k
theorem cont_has (F : List (Txt × Value × α)) (k : Txt) : hasM (cont F) k = hasM F k := map_hasM Prod.snd F k
theorem cont_get (F : List (Txt × Value × α)) (k : Txt) (v : Value) (z : α) : getM (cont F) k z = (getM F k (v, z)).2 := map_getM Prod.snd F k (v, z)
theorem cont_length (F : List (Txt × Value × α)) : (cont F).length = F.length := by simp [cont]

/-! ### as a datum -/
/-- How an element reads: as itself. -/
def hE : Value → Option (DataW Value × List MemPlace) := fun v => some (.held v, [])
def dM (F : List (Txt × Value × α)) : DataW Value := .map (F.map fun p => (Lit.string p.1, .held p.2.1))
theorem dM_insert (x : Txt × Value × α) : ∀ F : List (Txt × Value × α), DataW.insert (Lit.string x.1, DataW.held x.2.1) (F.map fun p => (Lit.string p.1, DataW.held p.2.1)) = (insM x F).map fun p => (Lit.string p.1, DataW.held p.2.1)
  | [] => rfl
  | y :: r => by
    have e1 : DataW.insert (Lit.string x.1, DataW.held x.2.1) ((y :: r).map fun p => (Lit.string p.1, DataW.held p.2.1)) = if (Lit.string x.1).before (Lit.string y.1) then (Lit.string x.1, DataW.held x.2.1) :: (Lit.string y.1, DataW.held y.2.1) :: r.map (fun p => (Lit.string p.1, DataW.held p.2.1)) else (Lit.string y.1, DataW.held y.2.1) :: DataW.insert (Lit.string x.1, DataW.held x.2.1) (r.map fun p => (Lit.string p.1, DataW.held p.2.1)) := rfl
    have e2 : insM x (y :: r) = if bytesBefore x.1 y.1 then x :: y :: r else y :: insM x r := rfl
    rw [e1, e2]
    by_cases h : bytesBefore x.1 y.1 = true
    · rw [if_pos h, if_pos (show (Lit.string x.1).before (Lit.string y.1) = true from h)]; rfl
    · rw [if_neg h, if_neg (show ¬ (Lit.string x.1).before (Lit.string y.1) = true from h), dM_insert x r]; rfl
theorem dM_filter (F : List (Txt × Value × α)) (k : Txt) : (F.map fun p => (Lit.string p.1, (DataW.held p.2.1 : DataW Value))).filter (fun p => !p.1.sameKey (.string k)) = (delM F k).map fun p => (Lit.string p.1, DataW.held p.2.1) := by
  unfold delM
  rw [List.filter_map]; rfl
theorem dM_put (F : List (Txt × Value × α)) (k : Txt) (d : Value × α) : (dM F).put (.string k) (.held d.1) = dM (putM F k d) := by
  unfold dM DataW.put putM
  simp only [dM_filter]
  rw [dM_insert (k, d)]
theorem dM_find (F : List (Txt × Value × α)) (k : Txt) : (F.map fun p => (Lit.string p.1, (DataW.held p.2.1 : DataW Value))).find? (fun p => p.1.sameKey (.string k)) = (F.find? fun p => p.1 == k).map fun p => (Lit.string p.1, DataW.held p.2.1) := by
  rw [List.find?_map]; rfl
theorem dM_at (F : List (Txt × Value × α)) (k : Txt) (d : Value × α) : (dM F).atKey (.string k) (.held d.1) = .held (getM F k d).1 := by
  unfold dM DataW.atKey getM
  simp only [dM_find]
  cases F.find? fun p => p.1 == k <;> rfl
theorem dM_has (F : List (Txt × Value × α)) (k : Txt) : Maps.has (dM F) (.string k) = hasM F k := by
  unfold dM hasM
  rw [Maps.has_eq, List.any_map]; rfl
theorem dM_keys (F : List (Txt × Value × α)) : strKeys (dM F) = F.map Prod.fst := by
  unfold dM strKeys
  simp only [List.map_map]; rfl
theorem dM_del (F : List (Txt × Value × α)) (k : Txt) : (dM F).del (.string k) = dM (delM F k) := by
  unfold dM DataW.del
  simp only [dM_filter]
theorem dM_size (F : List (Txt × Value × α)) : Maps.size (dM F) = F.length := by simp [dM, Maps.size]
theorem hE_inv {v u : Value} {ps : List MemPlace} (h : hE v = some (.held u, ps)) : v = u := by
  unfold hE at h
  simp only [Option.some.injEq, Prod.mk.injEq, DataW.held.injEq] at h
  exact h.1
end plain

variable {α : Type} {W W' : World} {K K' S : Nat → Prop}
theorem map_turnS {b n : Nat} {D : DataW Value} (h : W.ownsMap Tryz.prog 9 hE b n D) (hT : Turn S W W') (hs : ¬ S b) : W'.ownsMap Tryz.prog 9 hE b n D := by
  have hlt := h.lt
  obtain ⟨es, clock, hb, r⟩ := h
  exact ⟨es, clock, (hT.block b hlt hs).trans hb, r⟩
theorem map_tightS {b n : Nat} {F : List (Txt × Value × α)} (h : W.ownsMap Tryz.prog 9 hE b n (dM F)) : W.ownsMap Tryz.prog 9 hE b F.length (dM F) := by
  obtain ⟨es, clock, hb, r, hn, hD⟩ := h
  refine ⟨es, clock, hb, r, ?_, hD⟩
  rw [← dM_size F, hD]
  simp [Maps.size, length_sorted]
/-- A block that is a map is no row. -/
theorem map_apartS {b n B e k m : Nat} {D : DataW Value} {v : Value} {xs : List Value} (h : W.ownsMap Tryz.prog 9 hE b n D) (ho : W.ownsRow B e k v m xs) : v.ownBlock ≠ some b := by
  obtain ⟨es, clock, hb, _⟩ := h
  rcases ho.2 with ⟨rfl, _⟩ | ⟨g, cap, cur, rfl, _, hgb, _⟩
  · simp [Value.ownBlock]
  · intro e'
    obtain rfl : g = b := by simpa [Value.ownBlock] using e'
    rw [hb] at hgb
    cases hgb
theorem map_apart_celS {b n b' t : Nat} {D : DataW Value} {cs : Array Value} (h : W.ownsMap Tryz.prog 9 hE b n D) (hc : Cel W b' t cs) : b' ≠ b := by
  obtain ⟨es, clock, hb, _⟩ := h
  rintro rfl
  have := (show W.heap[b']? = _ from hc).symm.trans hb
  cases this
theorem map_rising {b n : Nat} {F : List (Txt × Value × α)} (h : W.ownsMap Tryz.prog 9 hE b n (dM F)) : F.Pairwise fun p q => bytesBefore p.1 q.1 = true := by
  obtain ⟨es, he, hp, _⟩ := h.canon key9
  unfold dM at he
  cases he
  rw [List.pairwise_map] at hp
  exact hp

abbrev Vrs := List (Txt × Value × List Txt)
abbrev Fns := List (Txt × Value × List Nd)
abbrev sP (b : Nat) : Value := .pointer (some ⟨b, 0, none⟩)
abbrev fP (b : Nat) : Value := .pointer (some ⟨b, 1, none⟩)
/-- Nodes of one's own, in these blocks. -/
def On (W : World) (K : Nat → Prop) (v : Value) (l : List Nd) : Prop := W.ownsRow 0 40 5 v l.length (ndCs l) ∧ ∀ b, v.ownBlock = some b → K b
theorem On.at {v : Value} {l : List Nd} (h : On W K v l) : NdAt W v l := NdAt.owned h.1
theorem On.turn {v : Value} {l : List Nd} (h : On W K v l) (hT : Turn S W W') (hs : ∀ b, v.ownBlock = some b → ¬ S b) : On W' K v l := ⟨owns_turn h.1 hT hs, h.2⟩
theorem On.mono {v : Value} {l : List Nd} (h : On W K v l) (hk : ∀ i, K i → K' i) : On W K' v l := ⟨h.1, fun b hb => hk b (h.2 b hb)⟩
def big : Nat := 140737488355328

/-- A store: its blocks, its variables, its functions. -/
structure Sto (W : World) (K : Nat → Prop) (sb vb fb : Nat) (V : Vrs) (G : Fns) : Prop where
  sc : Cel W sb 144 #[.map (some vb), .map (some fb)]
  vm : W.ownsMap Tryz.prog 9 hE vb V.length (dM V)
  fm : W.ownsMap Tryz.prog 9 hE fb G.length (dM G)
  vt : ∀ p ∈ V, Ot W K p.2.1 p.2.2
  ft : ∀ p ∈ G, On W K p.2.1 p.2.2
  vl : ∀ p ∈ V, p.2.2.length * 16 ≤ big
  fl : ∀ p ∈ G, p.2.2.length < 4294967296
  Ks : K sb
  Kv : K vb
  Kf : K fb
  ne : vb ≠ fb
  lt : ∀ i, K i → i < W.heap.size
variable {sb vb fb : Nat} {V : Vrs} {G : Fns}
theorem Sto.turn (h : Sto W K sb vb fb V G) (hT : Turn S W W') (hs : ∀ i, K i → ¬ S i) : Sto W' K sb vb fb V G := {
  sc := h.sc.turn hT (hs _ h.Ks)
  vm := map_turnS h.vm hT (hs _ h.Kv)
  fm := map_turnS h.fm hT (hs _ h.Kf)
  vt := fun p hp => (h.vt p hp).turn hT fun b hb => hs b ((h.vt p hp).2 b hb)
  ft := fun p hp => (h.ft p hp).turn hT fun b hb => hs b ((h.ft p hp).2 b hb)
  vl := h.vl
  fl := h.fl
  Ks := h.Ks
  Kv := h.Kv
  Kf := h.Kf
  ne := h.ne
  lt := fun i hi => Nat.lt_of_lt_of_le (h.lt i hi) hT.size }
theorem Sto.below (h : Sto W K sb vb fb V G) (hb : Below W.heap.size W W') : Sto W' K sb vb fb V G := h.turn (S := fun _ => False) (Turn.ofBelow hb) (fun _ _ h => h)
/-- Behind a step: the maps may have turned, and new blocks may be the store's. -/
def StpS (vb fb : Nat) (W : World) (K : Nat → Prop) (W' : World) (K' : Nat → Prop) : Prop := Turn (fun i => i = vb ∨ i = fb) W W' ∧ ∀ i, K' i → K i ∨ W.heap.size ≤ i
theorem StpS.refl (W : World) (K : Nat → Prop) : StpS vb fb W K W K := ⟨Turn.refl _ W, fun _ h => .inl h⟩
theorem StpS.trans {W1 W2 : World} {K1 K2 : Nat → Prop} (h : StpS vb fb W K W1 K1) (k : StpS vb fb W1 K1 W2 K2) : StpS vb fb W K W2 K2 :=
  ⟨h.1.trans k.1 (fun _ hi _ => hi), fun i hi => (k.2 i hi).elim (fun h1 => h.2 i h1) (fun h1 => .inr (Nat.le_trans h.1.size h1))⟩
theorem StpS.ofBelow (h : Below W.heap.size W W') : StpS vb fb W K W' K := ⟨Turn.ofBelow h, fun _ h => .inl h⟩
theorem StpS.below {B : Nat} (h : StpS vb fb W K W' K') (hv : B ≤ vb) (hf : B ≤ fb) (hB : B ≤ W.heap.size) : Below B W W' := h.1.below (fun i hi => by rcases hi with rfl | rfl <;> assumption) hB
/-- The variables' map turns, and nothing else. -/
theorem Sto.vput (h : Sto W K sb vb fb V G) {k : Txt} {v : Value} {l : List Txt} {n : Nat} (hl : l.length * 16 ≤ big) (ho : W.ownsRow 0 9 1 v l.length (txV l)) (hm : W'.ownsMap Tryz.prog 9 hE vb n ((dM V).put (.string k) (.held v))) (hg : W.grownBy W' (some vb)) :
    Sto W' (fun i => K i ∨ v.ownBlock = some i) sb vb fb (putM V k (v, l)) G ∧ Turn (fun i => i = vb ∨ i = fb) W W' := by
  have hT := Turn.ofGrown hg
  have hd := dM_put V k (v, l)
  rw [hd] at hm
  have key : ∀ {e k n : Nat} {v : Value} {xs : List Value}, W.ownsRow 0 e k v n xs → W'.ownsRow 0 e k v n xs := fun ho => owns_turn ho hT (fun b hb e => map_apartS h.vm ho (hb.trans e.symm))
  refine ⟨⟨h.sc.turn hT (fun e => map_apart_celS h.vm h.sc (Option.some.inj e).symm), map_tightS hm, map_turnS h.fm hT (fun e => h.ne (Option.some.inj e)), ?_, ?_, ?_, h.fl, .inl h.Ks, .inl h.Kv, .inl h.Kf, h.ne, ?_⟩, hT.mono (fun i e => .inl (Option.some.inj e).symm)⟩
  · intro p hp
    rcases mem_putM hp with rfl | hp
    · exact ⟨key ho, fun b hb => .inr hb⟩
    · exact ⟨key (h.vt p hp).1, fun b hb => .inl ((h.vt p hp).2 b hb)⟩
  · exact fun p hp => ⟨key (h.ft p hp).1, fun b hb => .inl ((h.ft p hp).2 b hb)⟩
  · intro p hp
    rcases mem_putM hp with rfl | hp
    · exact hl
    · exact h.vl p hp
  · rintro i (hi | hi)
    · exact Nat.lt_of_lt_of_le (h.lt i hi) hT.size
    · exact Nat.lt_of_lt_of_le (ho.lt i hi).2 hT.size
theorem Sto.vdel (h : Sto W K sb vb fb V G) {k : Txt} {n : Nat} (hm : W'.ownsMap Tryz.prog 9 hE vb n ((dM V).del (.string k))) (hg : W.grownBy W' (some vb)) :
    Sto W' K sb vb fb (delM V k) G ∧ Turn (fun i => i = vb ∨ i = fb) W W' := by
  have hT := Turn.ofGrown hg
  rw [dM_del] at hm
  have key : ∀ {e k n : Nat} {v : Value} {xs : List Value}, W.ownsRow 0 e k v n xs → W'.ownsRow 0 e k v n xs := fun ho => owns_turn ho hT (fun b hb e => map_apartS h.vm ho (hb.trans e.symm))
  refine ⟨⟨h.sc.turn hT (fun e => map_apart_celS h.vm h.sc (Option.some.inj e).symm), map_tightS hm, map_turnS h.fm hT (fun e => h.ne (Option.some.inj e)), ?_, ?_, ?_, h.fl, h.Ks, h.Kv, h.Kf, h.ne, ?_⟩, hT.mono (fun i e => .inl (Option.some.inj e).symm)⟩
  · exact fun p hp => ⟨key (h.vt p (mem_delM hp)).1, (h.vt p (mem_delM hp)).2⟩
  · exact fun p hp => ⟨key (h.ft p hp).1, (h.ft p hp).2⟩
  · exact fun p hp => h.vl p (mem_delM hp)
  · exact fun i hi => Nat.lt_of_lt_of_le (h.lt i hi) hT.size
theorem Sto.fput (h : Sto W K sb vb fb V G) {k : Txt} {v : Value} {l : List Nd} {n : Nat} (hl : l.length < 4294967296) (ho : W.ownsRow 0 40 5 v l.length (ndCs l)) (hm : W'.ownsMap Tryz.prog 9 hE fb n ((dM G).put (.string k) (.held v))) (hg : W.grownBy W' (some fb)) :
    Sto W' (fun i => K i ∨ v.ownBlock = some i) sb vb fb V (putM G k (v, l)) ∧ Turn (fun i => i = vb ∨ i = fb) W W' := by
  have hT := Turn.ofGrown hg
  have hd := dM_put G k (v, l)
  rw [hd] at hm
  have key : ∀ {e k n : Nat} {v : Value} {xs : List Value}, W.ownsRow 0 e k v n xs → W'.ownsRow 0 e k v n xs := fun ho => owns_turn ho hT (fun b hb e => map_apartS h.fm ho (hb.trans e.symm))
  refine ⟨⟨h.sc.turn hT (fun e => map_apart_celS h.fm h.sc (Option.some.inj e).symm), map_turnS h.vm hT (fun e => h.ne (Option.some.inj e).symm), map_tightS hm, ?_, ?_, h.vl, ?_, .inl h.Ks, .inl h.Kv, .inl h.Kf, h.ne, ?_⟩, hT.mono (fun i e => .inr (Option.some.inj e).symm)⟩
  · exact fun p hp => ⟨key (h.vt p hp).1, fun b hb => .inl ((h.vt p hp).2 b hb)⟩
  · intro p hp
    rcases mem_putM hp with rfl | hp
    · exact ⟨key ho, fun b hb => .inr hb⟩
    · exact ⟨key (h.ft p hp).1, fun b hb => .inl ((h.ft p hp).2 b hb)⟩
  · intro p hp
    rcases mem_putM hp with rfl | hp
    · exact hl
    · exact h.fl p hp
  · rintro i (hi | hi)
    · exact Nat.lt_of_lt_of_le (h.lt i hi) hT.size
    · exact Nat.lt_of_lt_of_le (ho.lt i hi).2 hT.size
end Go.Proofs.YtfafhjglcaikoaaGreatDoor
namespace Go.Proofs.YtfafhjglcaikoaaGreatDoor
open Go.RowKit
attribute [local go_sem] Oper.semAt_some

theorem owns_none (W : World) (t k : Nat) : (W.alloc (.cells #[] t)).ownsRow W.heap.size t k (.slice (some ⟨W.heap.size, 0, none⟩) 0 0) 0 [] :=
  ⟨by simp, .inr ⟨W.heap.size, 0, #[], rfl, Nat.le_refl _, World.alloc_heap_new W _, Nat.le_refl _, by simp, by simp, by simp⟩⟩
set_option maxRecDepth 100000 in
set_option maxHeartbeats 1000000 in
theorem cloneN_any (v : Value) (X : List Nd) (W : World) (h : NdAt W v X) (hl : X.length < 4294967296) :
    Calls Tryz.prog 35 #[v] W fun e w' => ∃ v', e = .returned v' ∧ NdOwn w' W.heap.size v' X ∧ Below W.heap.size W w' := by
  obtain ⟨i0, hi0, hz0, hz1, hz2⟩ := info_parts info58
  have hb1 := below_new W (.cells #[] 40)
  rcases h.cells with ⟨rfl, rfl⟩ | ⟨adp, capp, rfl, hcs⟩
  · have hq : ∀ w, (binOp .eql 22 (.slice none 0 0) (.slice none 0 0)).run Tryz.prog w = .ok (.bool true) w := fun w => Lib.run_eql_slice_nil_nil w 0 0 Tryz.underlying22
    go_enter Tryz.func35, Tryz.ntmps35
    go_wp2_with fail
    go_ret
    exact ⟨_, rfl, World.ownsRow_nil _ _ _ _, Below.refl _ _⟩
  · have HC : Hid (∀ j u, (ndCs X)[j]? = some u → (W.alloc (.cells #[] 40)).cell? (adp.add j) = some u) := by
      rcases (h.below hb1 (Nat.le_refl _)).cells with ⟨hn, _⟩ | ⟨ad2, cap2, hv, hc2⟩
      · cases hn
      · cases hv
        exact hc2
    have ho := owns_none W 40 5
    have hq : ∀ w, (binOp .eql 22 (.slice (some adp) X.length capp) (.slice none 0 0)).run Tryz.prog w = .ok (.bool false) w := fun w => Lib.run_eql_slice_some_nil w _ _ _ Tryz.underlying22
    clear h hcs
    go_enter Tryz.func35, Tryz.ntmps35
    go_wp2_with (at_builtin; refine wpList_append_own_at _ rfl _ _ 22 rfl W.heap.size 40 i0 _ 5 48 Tryz.underlying22 hi0 hz0 hz1 hz2 rfl (by decide) _ _ _ rfl ho adp X.length capp (ndCs X) rfl (ndCs_length X) HC.out (ndC_one X) (by have := maxLen_big; omega) (by omega) hb1.size ?_; intro v2 w2 hown2 hgrow2 _ _)
    go_ret
    refine ⟨_, rfl, ?_, grown_own hb1.size hb1 ho hgrow2⟩
    unfold NdOwn
    simpa using hown2
set_option maxRecDepth 100000 in
set_option maxHeartbeats 1000000 in
theorem cloneT_any (v : Value) (l : List Txt) (W : World) (h : Tx W v l) (hl : l.length * 16 ≤ big) :
    Calls Tryz.prog 100 #[v] W fun e w' => ∃ v', e = .returned v' ∧ w'.ownsRow W.heap.size 9 1 v' l.length (txV l) ∧ Below W.heap.size W w' := by
  obtain ⟨i0, hi0, hz0, hz1, hz2⟩ := info_parts info9
  have hb1 := below_new W (.cells #[] 9)
  unfold big at hl
  have HT : Hid (∀ W', Below W.heap.size W W' → Tx W' v l) := fun W' hb => h.below hb (Nat.le_refl _)
  rcases h with ⟨rfl, rfl⟩ | ⟨adp, capp, rfl, _, _⟩
  · have hq : ∀ w, (binOp .eql 23 (.slice none 0 0) (.slice none 0 0)).run Tryz.prog w = .ok (.bool true) w := fun w => Lib.run_eql_slice_nil_nil w 0 0 Tryz.underlying23
    go_enter Tryz.func100, Tryz.ntmps100
    go_wp2_with fail
    go_ret
    exact ⟨_, rfl, World.ownsRow_nil _ _ _ _, Below.refl _ _⟩
  · have HC : Hid (∀ j u, (txV l)[j]? = some u → (W.alloc (.cells #[] 9)).cell? (adp.add j) = some u) := (HT.out _ hb1).cells
    have ho := owns_none W 9 1
    have hq : ∀ w, (binOp .eql 23 (.slice (some adp) l.length capp) (.slice none 0 0)).run Tryz.prog w = .ok (.bool false) w := fun w => Lib.run_eql_slice_some_nil w _ _ _ Tryz.underlying23
    go_enter Tryz.func100, Tryz.ntmps100
    go_wp2_with (at_builtin; refine wpList_append_own_at _ rfl _ _ 23 rfl W.heap.size 9 i0 _ 1 16 Tryz.underlying23 hi0 hz0 hz1 hz2 rfl (by decide) _ _ _ rfl ho adp l.length capp (txV l) rfl (by rw [txV_length, Nat.mul_one]) HC.out (txV_one l) (by have := maxLen_big; omega) (by omega) hb1.size ?_; intro v2 w2 hown2 hgrow2 _ _)
    go_ret
    refine ⟨_, rfl, ?_, grown_own hb1.size hb1 ho hgrow2⟩
    simpa using hown2

variable {W : World} {K : Nat → Prop} {sb vb fb : Nat} {V : Vrs} {G : Fns}
abbrev nilT : Value × List Txt := (.slice none 0 0, [])
abbrev nilN : Value × List Nd := (.slice none 0 0, [])
theorem lookV (h : W.ownsMap Tryz.prog 9 hE vb V.length (dM V)) (k : Txt) (hk : k.length ≤ maxLen) (b : Bool) :
    (Instr.lookup 137 (.map (some vb)) (str k) b).run Tryz.prog W = .ok (if b then .tuple #[(getM V k nilT).1, .bool (hasM V k)] else (getM V k nilT).1) W := by
  cases b
  · obtain ⟨v, ps, h1, h2⟩ := h.lookup key9 Tryz.underlying137 (Tryz.zeroValue23 W) (zd := .held nilT.1) (zp := []) rfl (keyOf9 k hk)
    rw [dM_at] at h2
    rw [h1, hE_inv h2]
    rfl
  · obtain ⟨v, ps, h1, h2⟩ := h.look_ok key9 Tryz.underlying137 (Tryz.zeroValue23 W) (zd := .held nilT.1) (zp := []) rfl (keyOf9 k hk)
    rw [dM_at] at h2
    rw [dM_has] at h1
    rw [h1, hE_inv h2]
    rfl
theorem lookF (h : W.ownsMap Tryz.prog 9 hE fb G.length (dM G)) (k : Txt) (hk : k.length ≤ maxLen) (b : Bool) :
    (Instr.lookup 140 (.map (some fb)) (str k) b).run Tryz.prog W = .ok (if b then .tuple #[(getM G k nilN).1, .bool (hasM G k)] else (getM G k nilN).1) W := by
  cases b
  · obtain ⟨v, ps, h1, h2⟩ := h.lookup key9 Tryz.underlying140 (Tryz.zeroValue22 W) (zd := .held nilN.1) (zp := []) rfl (keyOf9 k hk)
    rw [dM_at] at h2
    rw [h1, hE_inv h2]
    rfl
  · obtain ⟨v, ps, h1, h2⟩ := h.look_ok key9 Tryz.underlying140 (Tryz.zeroValue22 W) (zd := .held nilN.1) (zp := []) rfl (keyOf9 k hk)
    rw [dM_at] at h2
    rw [dM_has] at h1
    rw [h1, hE_inv h2]
    rfl
theorem Sto.gotV (h : Sto W K sb vb fb V G) (k : Txt) : Tx W (getM V k nilT).1 (getM V k nilT).2 ∧ (getM V k nilT).2.length * 16 ≤ big := by
  cases e : hasM V k with
  | false =>
    rw [getM_none e]
    exact ⟨Tx.nil W, by simp only [List.length_nil, Nat.zero_mul, Nat.zero_le]⟩
  | true =>
    have hm := getM_mem (z := nilT) e
    have h2 := h.vl _ hm
    exact ⟨(h.vt _ hm).tx, h2⟩
theorem Sto.gotF (h : Sto W K sb vb fb V G) (k : Txt) : NdAt W (getM G k nilN).1 (getM G k nilN).2 ∧ (getM G k nilN).2.length < 4294967296 := by
  cases e : hasM G k with
  | false =>
    rw [getM_none e]
    exact ⟨NdAt.nil W, by simp only [List.length_nil, Nat.zero_lt_succ]⟩
  | true =>
    have hm := getM_mem (z := nilN) e
    have h2 := h.fl _ hm
    exact ⟨(h.ft _ hm).at, h2⟩
set_option maxHeartbeats 1000000 in
theorem get_any (h : Sto W K sb vb fb V G) (k : Txt) (hk : k.length ≤ maxLen) :
    Calls Tryz.prog 147 #[sP sb, str k] W fun e w' => ∃ v', e = .returned (.tuple #[v', .bool (hasM V k)]) ∧ w'.ownsRow W.heap.size 9 1 v' (getM V k nilT).2.length (txV (getM V k nilT).2) ∧ Below W.heap.size W w' := by
  have c0 := h.sc.cell 0
  have hlk := lookV h.vm k hk true
  simp only [if_true] at hlk
  obtain ⟨h1, h2⟩ := h.gotV k
  have HC : Hid (∀ W' v', W' = W → v' = (getM V k nilT).1 → Calls Tryz.prog 100 #[v'] W' fun e w' => ∃ v', e = .returned v' ∧ w'.ownsRow W.heap.size 9 1 v' (getM V k nilT).2.length (txV (getM V k nilT).2) ∧ Below W.heap.size W w') := by
    rintro W' v' rfl rfl
    exact cloneT_any _ _ _ h1 h2
  clear h h1 h2
  go_enter Tryz.func147, Tryz.ntmps147
  go_wp2_with fail
  refine (HC.out _ _ rfl rfl).mono ?_
  rintro e w1 ⟨v', rfl, ho, hb⟩
  go_wp2_with fail
  go_ret2
  exact ⟨v', rfl, ho, hb⟩
set_option maxHeartbeats 1000000 in
theorem fun_any (h : Sto W K sb vb fb V G) (k : Txt) (hk : k.length ≤ maxLen) :
    Calls Tryz.prog 109 #[fP sb, str k] W fun e w' => ∃ v', e = .returned (.tuple #[v', .bool (hasM G k)]) ∧ NdOwn w' W.heap.size v' (getM G k nilN).2 ∧ Below W.heap.size W w' := by
  have c0 := h.sc.cell 1
  have hlk := lookF h.fm k hk true
  simp only [if_true] at hlk
  obtain ⟨h1, h2⟩ := h.gotF k
  have HC : Hid (∀ W' v', W' = W → v' = (getM G k nilN).1 → Calls Tryz.prog 35 #[v'] W' fun e w' => ∃ v', e = .returned v' ∧ NdOwn w' W.heap.size v' (getM G k nilN).2 ∧ Below W.heap.size W w') := by
    rintro W' v' rfl rfl
    exact cloneN_any _ _ _ h1 h2
  clear h h1 h2
  go_enter Tryz.func109, Tryz.ntmps109
  go_wp2_with fail
  refine (HC.out _ _ rfl rfl).mono ?_
  rintro e w1 ⟨v', rfl, ho, hb⟩
  go_wp2_with fail
  go_ret2
  exact ⟨v', rfl, ho, hb⟩
end Go.Proofs.YtfafhjglcaikoaaGreatDoor
