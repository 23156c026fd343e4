/- What is handed in may be changed behind; what is answered is new memory. -/
import Derived.Test.YthhghkjgffcpeaaDoorTexts
namespace Go.Proofs.YthhghkjgffcpeaaDoor
open Go.RowKit Go.Shelf

/-- A row of one's own that is not empty: where it lies. -/
theorem owns_at {W : World} {B e k n : Nat} {v : Value} {xs : List Value} (h : W.ownsRow B e k v n xs) (hn : 0 < n) : ∃ g cap cur, v = .slice (some ⟨g, 0, none⟩) n cap ∧ B ≤ g ∧ Cel W g e cur ∧ n ≤ cap ∧ ∀ j u, xs[j]? = some u → W.cell? ⟨g, j, none⟩ = some u := by
  rcases h.2 with ⟨_, h0⟩ | ⟨g, cap, cur, hv, hb, hc, h1, h2, h3, h4⟩
  · omega
  · refine ⟨g, cap, cur, hv, hb, hc, h1, fun j u hu => ?_⟩
    have hj := (List.getElem?_eq_some_iff.1 hu).1
    rw [h.1] at hj
    rw [(show Cel W g e cur from hc).cell j, ← Array.getElem?_toList, ← List.getElem?_take_of_lt hj, h4]
    exact hu
def ownRow (nm : Txt) (l : List Txt) : Rw := ⟨nm, l, false, false, false, [111], 3⟩
theorem own_may (nm : Txt) (l : List Txt) (h1 : nm ≠ []) (h2 : nm.length ≤ 100) (h3 : l.length ≤ 20) (h4 : ∀ s ∈ l, s.length ≤ 100) : mayR [([102], [100])] [ownRow nm l] = none := by
  have e1 : manyW [([102], [100])] [ownRow nm l] = false := by
    simp [manyW, manyB, ownRow]
    omega
  have e2 : firstOf (fileAt [([102], [100])]) 0 1 = none := by decide
  have e3 : rowR (ownRow nm l) = none := by
    have a1 : noNm nm = false := by
      unfold noNm longT
      simp [h1]
      omega
    have a2 : l.any longT = false := by
      rw [List.any_eq_false]
      intro s hs
      have := h4 s hs
      simp [longT]
      omega
    simp [rowR, ownRow, a1, a2, longT]
  unfold mayR
  rw [e1]
  simp only [List.length_cons, List.length_nil, Nat.zero_add, Bool.false_eq_true, if_false, e2]
  unfold firstOf rowAt
  simp only [List.getElem?_cons_zero, e3]
  rfl
theorem one_of {α β : Type} {X : List (α × β)} {e : α} (h : X.map Prod.fst = [e]) : ∃ v, X = [(e, v)] := by
  cases X with
  | nil => simp at h
  | cons p X =>
    simp at h
    obtain ⟨h1, h2⟩ := h
    subst h2
    exact ⟨p.2, by rw [← h1]⟩
theorem own_put : putAll [([102], [100])] = [([102], [100])] := by decide
theorem own_fits (nm : Txt) (l : List Txt) : rowOf [ownRow nm l] nm l = some (ownRow nm l) := by simp [rowOf, fits, ownRow]
theorem Turn.one (W : World) (b j : Nat) (v : Value) : Turn (fun i => i = b) W (W.setCell ⟨b, j, none⟩ v) := (Turn.refl (fun i => i = b) W).setCell (p := ⟨b, j, none⟩) (fun _ => rfl) v

set_option maxRecDepth 100000 in
set_option maxHeartbeats 8000000 in
theorem own4_main (nm : Txt) (vl : Value) (l : List Txt) (ea : Nat → Addr) (W : World) (hl : Tx W vl l) (hll : l.length < 140737488355328) (hz : ∀ s ∈ l, s.length ≤ 140737488355328) (hE : Ers W ea) :
    Calls Tryd.prog 6 #[str nm, vl] W fun e w' => e = .returned (.bool true) ∧ Below W.heap.size W w' := by
  have HT : Hid (∀ W', Below W.heap.size W W' → Tx W' vl l) := fun W' h => hl.below h (Nat.le_refl _)
  have HE : Hid (∀ W', Below W.heap.size W W' → Ers W' ea) := fun W' h => hE.below h (Nat.le_refl _)
  have HZ : Hid (∀ s ∈ l, s.length ≤ 140737488355328) := hz
  obtain ⟨adl, capl, rfl⟩ := hl.form
  clear hl hE hz
  go_enter Tryd.func6, Tryd.ntmps6
  go_wp2_with fail
  refine (first_any ea W (HE.out _ (Below.refl _ _))).mono ?_
  rintro e w1 ⟨rfl, hb1⟩
  by_cases h20 : 20 < l.length
  · go_wp2_with fail
    go_ret
    exact ⟨rfl, hb1⟩
  have h20' : decide ((20 : Int) < (l.length : Int)) = false := decide_eq_false (by omega)
  by_cases h0 : l = []
  · have h0' : ((l.length : Int) == 0) = true := by rw [h0]; rfl
    clear h0
    go_wp2_with fail
    go_ret
    exact ⟨rfl, hb1⟩
  have h0' : ((l.length : Int) == 0) = false := by simpa using h0
  have hpos : 0 < l.length := List.length_pos_iff.2 h0
  by_cases hn : nm = []
  · have hn' : (nm == []) = true := by rw [hn]; rfl
    clear hn
    go_wp2_with fail
    go_ret
    exact ⟨rfl, hb1⟩
  have hn' : (nm == []) = false := by simpa using hn
  by_cases h100 : 100 < nm.length
  · go_wp2_with fail
    go_ret
    exact ⟨rfl, hb1⟩
  have h100' : decide ((100 : Int) < (nm.length : Int)) = false := decide_eq_false (by omega)
  have HNN : Hid (nm ≠ []) := hn
  have HL0 : Hid (l ≠ []) := h0
  clear hn h0
  go_wp2_with fail
  clear h20' h0' hn' h100'
  go_loopw [6] (fun v6 wr => ∃ k : Nat, v6 = .int .i64 k ∧ k ≤ l.length ∧ Hid (∀ j s, j < k → l[j]? = some s → s.length ≤ 100) ∧ Below W.heap.size W wr) (fun v6 _ => l.length - (intOf v6).toNat)
  case atStart => exact ⟨0, rfl, by omega, fun j s hj => absurd hj (by omega), hb1⟩
  case round =>
    obtain ⟨k, rfl, hk, HS, hbr⟩ := hrel
    by_cases hkl : k < l.length
    · obtain ⟨x, hx⟩ : ∃ x, l[k]? = some x := ⟨_, List.getElem?_eq_getElem hkl⟩
      obtain ⟨g, o, cap', hv, _, hg, hce⟩ := (HT.out _ hbr).inRow HL0.out
      cases hv
      have c0 := hce k x hx
      have hxz := HZ.out x (List.mem_of_getElem? hx)
      have HX : Hid (l[k]? = some x) := hx
      clear hce hx hg
      by_cases hx100 : 100 < x.length
      · go_wp2_with fail
        go_ret
        exact ⟨rfl, hbr⟩
      · go_wp2_with fail
        refine ⟨⟨k + 1, by simp, by omega, ?_, hbr⟩, by simp [intOf]; omega⟩
        intro j s hj hs
        by_cases hjk : j < k
        · exact HS.out j s hjk hs
        · rw [show j = k by omega, HX.out] at hs
          cases hs
          omega
    · have hkz : k = l.length := by omega
      subst hkz
      have HSM : Hid (∀ s ∈ l, s.length ≤ 100) := fun s hs => by
        obtain ⟨j, hj, rfl⟩ := List.getElem_of_mem hs
        exact HS.out j _ hj (List.getElem?_eq_getElem hj)
      clear HS
      obtain ⟨w3, hw3⟩ : ∃ w3, w3 = wr := ⟨_, rfl⟩
      subst hw3
      go_wp2_with fail
      refine (texts_any _ l _ (HT.out _ hbr) (by omega)).mono ?_
      rintro e w4 ⟨v4, rfl, o4, b4⟩
      obtain ⟨gm, capm, curm, rfl, hgm, hcm, hcapm, hcem⟩ := owns_at o4 hpos
      have hb4 := hbr.trans (b4.mono hbr.size)
      have HTM : Hid (∀ W', Below w4.heap.size w4 W' → Tx W' (.slice (some ⟨gm, 0, none⟩) l.length capm) l) := fun W' h => (Tx.owned o4).below h (Nat.le_refl _)
      have HCM : Hid (Cel w4 gm 9 curm) := hcm
      have HGM : Hid (W.heap.size ≤ gm) := Nat.le_trans hbr.size hgm
      clear o4 b4 hcm hcem hgm
      have b6 : Below w4.heap.size w4 ((w4.alloc (.cells #[str nm, .slice (some ⟨gm, 0, none⟩) l.length capm, .bool false, .bool false, .bool false, .string ⟨#[111]⟩, .int .i64 3] 77)).alloc (.cells #[.string ⟨#[102]⟩, .string ⟨#[100]⟩] 73)) := (below_new w4 _).alloc (below_new w4 _).size _
      have HF6 : Hid (FlAt ((w4.alloc (.cells #[str nm, .slice (some ⟨gm, 0, none⟩) l.length capm, .bool false, .bool false, .bool false, .string ⟨#[111]⟩, .int .i64 3] 77)).alloc (.cells #[.string ⟨#[102]⟩, .string ⟨#[100]⟩] 73)) (.slice (some ⟨w4.heap.size + 1, 0, none⟩) 1 1) [([102], [100])]) := by
        have h := RowAt.new (w4.alloc (.cells #[str nm, .slice (some ⟨gm, 0, none⟩) l.length capm, .bool false, .bool false, .bool false, .string ⟨#[111]⟩, .int .i64 3] 77)) 73 2 [str [102], str [100]]
        rw [show (w4.alloc (.cells #[str nm, .slice (some ⟨gm, 0, none⟩) l.length capm, .bool false, .bool false, .bool false, .string ⟨#[111]⟩, .int .i64 3] 77)).heap.size = w4.heap.size + 1 by simp] at h
        exact h
      have HR6 : Hid (RwAt ((w4.alloc (.cells #[str nm, .slice (some ⟨gm, 0, none⟩) l.length capm, .bool false, .bool false, .bool false, .string ⟨#[111]⟩, .int .i64 3] 77)).alloc (.cells #[.string ⟨#[102]⟩, .string ⟨#[100]⟩] 73)) (.slice (some ⟨w4.heap.size, 0, none⟩) 1 1) [(ownRow nm l, .slice (some ⟨gm, 0, none⟩) l.length capm)]) :=
        ⟨(RowAt.new w4 77 7 [str nm, .slice (some ⟨gm, 0, none⟩) l.length capm, .bool false, .bool false, .bool false, str [111], .int .i64 3]).below (below_new _ _) (Nat.le_refl _), fun p hp => by simp at hp; subst hp; exact HTM.out _ b6⟩
      have HCR : Hid (Cel ((w4.alloc (.cells #[str nm, .slice (some ⟨gm, 0, none⟩) l.length capm, .bool false, .bool false, .bool false, .string ⟨#[111]⟩, .int .i64 3] 77)).alloc (.cells #[.string ⟨#[102]⟩, .string ⟨#[100]⟩] 73)) w4.heap.size 77 #[str nm, .slice (some ⟨gm, 0, none⟩) l.length capm, .bool false, .bool false, .bool false, .string ⟨#[111]⟩, .int .i64 3]) := (Cel.new w4 77 _).turn (Turn.ofBelow (S := fun _ => False) (below_new _ _)) (fun h => h)
      have HCF : Hid (Cel ((w4.alloc (.cells #[str nm, .slice (some ⟨gm, 0, none⟩) l.length capm, .bool false, .bool false, .bool false, .string ⟨#[111]⟩, .int .i64 3] 77)).alloc (.cells #[.string ⟨#[102]⟩, .string ⟨#[100]⟩] 73)) (w4.heap.size + 1) 73 #[.string ⟨#[102]⟩, .string ⟨#[100]⟩]) := by
        have h := Cel.new (w4.alloc (.cells #[str nm, .slice (some ⟨gm, 0, none⟩) l.length capm, .bool false, .bool false, .bool false, .string ⟨#[111]⟩, .int .i64 3] 77)) 73 #[.string ⟨#[102]⟩, .string ⟨#[100]⟩]
        rw [show (w4.alloc (.cells #[str nm, .slice (some ⟨gm, 0, none⟩) l.length capm, .bool false, .bool false, .bool false, .string ⟨#[111]⟩, .int .i64 3] 77)).heap.size = w4.heap.size + 1 by simp] at h
        exact h
      go_wp2_with fail
      have hb6 := hb4.trans (b6.mono hb4.size)
      refine (new_any _ _ [([102], [100])] [(ownRow nm l, .slice (some ⟨gm, 0, none⟩) l.length capm)] ea _ HF6.out HR6.out (by decide) (by simp) (fun p hp => by simp at hp; subst hp; show l.length < _; omega) (by decide) (HE.out _ hb6) (own_may nm l HNN.out (by omega) (by omega) HSM.out)).mono ?_
      rintro e w7 ⟨kb, mb, rv, Y, K0, rfl, kn, hY, hK0, b7⟩
      rw [own_put] at kn
      have hYn : Y.map Prod.fst = [ownRow nm l] := hY
      have hs6 : ((w4.alloc (.cells #[str nm, .slice (some ⟨gm, 0, none⟩) l.length capm, .bool false, .bool false, .bool false, .string ⟨#[111]⟩, .int .i64 3] 77)).alloc (.cells #[.string ⟨#[102]⟩, .string ⟨#[100]⟩] 73)).heap.size = w4.heap.size + 2 := by simp
      have hgm4 : gm < w4.heap.size := HCM.out.lt
      have b47 : Below w4.heap.size w4 w7 := b6.trans (b7.mono b6.size)
      have C7M : Cel w7 gm 9 curm := (HCM.out.below b6 hgm4).below b7 (by rw [hs6]; omega)
      have C7R := HCR.out.below b7 (by rw [hs6]; omega)
      have C7F := HCF.out.below b7 (by rw [hs6]; omega)
      have hb7 := hb6.trans (b7.mono hb6.size)
      obtain ⟨x, hx⟩ : ∃ x, l[0]? = some x := ⟨_, List.getElem?_eq_getElem hpos⟩
      have hxm := List.mem_of_getElem? hx
      have hx100 := HSM.out x hxm
      have HX0 : Hid (l[0]? = some x) := hx
      obtain ⟨_, _, _, hv9, _, _, hce9⟩ := (HTM.out _ b47).inRow HL0.out
      cases hv9
      have m0 : w7.cell? ⟨gm, 0, none⟩ = some (str x) := by simpa using hce9 0 x hx
      have mf : w7.frozen? ⟨gm, 0, none⟩ = false := C7M.frozen 0
      have r5 : ∀ v, (w7.setCell ⟨gm, 0, none⟩ v).cell? ⟨w4.heap.size, 5, none⟩ = some (.string ⟨#[111]⟩) := fun v => (C7R.other (b' := gm) (j := 0) (by omega) v).cell 5
      have rf : ∀ v, (w7.setCell ⟨gm, 0, none⟩ v).frozen? ⟨w4.heap.size, 5, none⟩ = false := fun v => (C7R.other (b' := gm) (j := 0) (by omega) v).frozen 5
      have f5 : ∀ v u, ((w7.setCell ⟨gm, 0, none⟩ v).setCell ⟨w4.heap.size, 5, none⟩ u).cell? ⟨w4.heap.size + 1, 1, none⟩ = some (.string ⟨#[100]⟩) := fun v u => ((C7F.other (b' := gm) (j := 0) (by omega) v).other (b' := w4.heap.size) (j := 5) (by omega) u).cell 1
      have ff : ∀ v u, ((w7.setCell ⟨gm, 0, none⟩ v).setCell ⟨w4.heap.size, 5, none⟩ u).frozen? ⟨w4.heap.size + 1, 1, none⟩ = false := fun v u => ((C7F.other (b' := gm) (j := 0) (by omega) v).other (b' := w4.heap.size) (j := 5) (by omega) u).frozen 1
      have HK7 : Hid (Kern w7 K0 kb mb (.slice none 0 0) rv [([102], [100])] Y []) := kn
      have HKG : Hid (∀ i, K0 i → w4.heap.size + 2 ≤ i) := fun i hi => by have := hK0 i hi; rw [hs6] at this; exact this
      have HYF : Hid (Y.map Prod.fst = [ownRow nm l]) := hYn
      have HT10 : Hid (∀ v u z, Turn (fun i => i < w4.heap.size + 2) w7 (((w7.setCell ⟨gm, 0, none⟩ v).setCell ⟨w4.heap.size, 5, none⟩ u).setCell ⟨w4.heap.size + 1, 1, none⟩ z) ∧ Below W.heap.size W (((w7.setCell ⟨gm, 0, none⟩ v).setCell ⟨w4.heap.size, 5, none⟩ u).setCell ⟨w4.heap.size + 1, 1, none⟩ z)) := fun v u z => by
        have hW4 := hb4.size
        have hGM := HGM.out
        exact ⟨(((Turn.refl _ w7).setCell (p := ⟨gm, 0, none⟩) (fun _ => by show gm < _; omega) v).setCell (p := ⟨w4.heap.size, 5, none⟩) (fun _ => by show w4.heap.size < _; omega) u).setCell (p := ⟨w4.heap.size + 1, 1, none⟩) (fun _ => by show w4.heap.size + 1 < _; omega) z,
          ((hb7.setCell (p := ⟨gm, 0, none⟩) hGM v).setCell (p := ⟨w4.heap.size, 5, none⟩) hW4 u).setCell (p := ⟨w4.heap.size + 1, 1, none⟩) (by show W.heap.size ≤ w4.heap.size + 1; omega) z⟩
      clear kn hY hYn hK0 b7 b6 hs6 HF6 HR6 HCR HCF HCM C7M C7R C7F hce9 hx hxm hb6 hb4
      go_wp2_with fail
      clear m0 mf r5 rf f5 ff
      have hT10 := (HT10.out (.string (⟨x.toArray⟩ ++ ⟨#[120]⟩)) (.string ⟨#[112]⟩) (.string ⟨#[113]⟩)).1
      have hb10 := (HT10.out (.string (⟨x.toArray⟩ ++ ⟨#[120]⟩)) (.string ⟨#[112]⟩) (.string ⟨#[113]⟩)).2
      have K10 := HK7.out.turn hT10 (fun i hi h => by have := HKG.out i hi; omega)
      obtain ⟨w10, hw10⟩ : ∃ w10, w10 = (((w7.setCell ⟨gm, 0, none⟩ (.string (⟨x.toArray⟩ ++ ⟨#[120]⟩))).setCell ⟨w4.heap.size, 5, none⟩ (.string ⟨#[112]⟩)).setCell ⟨w4.heap.size + 1, 1, none⟩ (.string ⟨#[113]⟩)) := ⟨_, rfl⟩
      rw [← hw10] at hb10 K10 ⊢
      have HK10 : Hid (Kern w10 K0 kb mb (.slice none 0 0) rv [([102], [100])] Y []) := K10
      clear hT10 hw10 HT10 HK7 K10 hb7 HTM
      refine (texts_any _ l _ (HT.out _ hb10) (by omega)).mono ?_
      rintro e w11 ⟨v11, rfl, o11, b11⟩
      obtain ⟨ga, capa, cura, rfl, hga, hca, hcapa, hcea⟩ := owns_at o11 hpos
      have HTA : Hid (Tx w11 (.slice (some ⟨ga, 0, none⟩) l.length capa) l) := Tx.owned o11
      have HCA : Hid (Cel w11 ga 9 cura) := hca
      have hb11 := hb10.trans (b11.mono hb10.size)
      have HK11 : Hid (Kern w11 K0 kb mb (.slice none 0 0) rv [([102], [100])] Y []) := HK10.out.below b11
      have HGA : Hid (¬ K0 ga ∧ ga < w11.heap.size ∧ W.heap.size ≤ ga) := ⟨fun h => by have := HK10.out.lt ga h; omega, hca.lt, Nat.le_trans hb10.size hga⟩
      have a0 : w11.cell? ⟨ga, 0, none⟩ = some (str x) := hcea 0 _ (by unfold txV; rw [List.getElem?_map, HX0.out]; rfl)
      have HA0 : Hid _ := a0
      clear o11 b11 hca hcea hga HK10 hb10 a0
      go_wp2_with fail
      refine (exec_any nm [] l _ HK11.out (by decide) (by rw [len_of HYF.out]; show 1 < 4294967296; omega) HTA.out (by omega) (all_of (P := fun r => r.args.length < 4294967296) HYF.out fun r hr => by simp at hr; subst hr; show l.length < _; omega) (by decide) (all_of (P := fun r => r.out.length < 4294967296) HYF.out fun r hr => by simp at hr; subst hr; show 1 < 4294967296; omega) (some (ownRow nm l)) (by rw [HYF.out]; exact own_fits nm l)).mono ?_
      rintro e w12 ⟨rfl, ev, lv, K1, k1, k2⟩
      rw [show outOf (some (ownRow nm l)) [] = [111] from rfl, show statOf (some (ownRow nm l)) = 3 from rfl]
      have HK12 : Hid (Kern w12 K1 kb mb ev rv [([102], [100])] Y [(⟨1, 3, nm, [], l⟩, lv)]) := k1
      have C12 := k2.cel HCA.out HGA.out.1
      have a0 := C12.cell 0
      have a0' : w12.cell? ⟨ga, 0, none⟩ = some (str x) := by
        rw [World.cell?_of_block (w := w11) (a := ⟨ga, 0, none⟩) (k2.1.block ga HGA.out.2.1 HGA.out.1)]
        exact HA0.out
      have af : w12.frozen? ⟨ga, 0, none⟩ = false := C12.frozen 0
      have hK1 : ¬ K1 ga := fun h => by
        rcases k2.2 ga h with h1 | h1
        · exact HGA.out.1 h1
        · have := HGA.out.2.1
          omega
      have hkb := k2.below (B := W.heap.size) (fun i hi => by have h1 := HKG.out i hi; have h2 := hbr.size; have h3 := HGM.out; omega) hb11.size
      have hb12 := hb11.trans hkb.1
      have HK13 : Hid (∀ v, Kern (w12.setCell ⟨ga, 0, none⟩ v) K1 kb mb ev rv [([102], [100])] Y [(⟨1, 3, nm, [], l⟩, lv)]) := fun v => k1.turn (Turn.one w12 ga 0 v) (fun i hi e => hK1 (by rw [← e]; exact hi))
      have HB13 : Hid (∀ v, Below W.heap.size W (w12.setCell ⟨ga, 0, none⟩ v)) := fun v => hb12.setCell (p := ⟨ga, 0, none⟩) HGA.out.2.2 v
      clear k1 k2 C12 a0 hK1 hkb hb12 HA0 HCA HTA HK11 hb11
      have HEL : Hid (∀ q ∈ [((⟨1, 3, nm, [], l⟩ : Ev), lv)], q.1.l.length < 4294967296) := fun q hq => by simp at hq; subst hq; show l.length < _; omega
      go_wp2_with fail
      have K13 := HK13.out (.string ⟨#[115, 112, 111, 105, 108, 116]⟩)
      have hb13 := HB13.out (.string ⟨#[115, 112, 111, 105, 108, 116]⟩)
      obtain ⟨w13, hw13⟩ : ∃ w13, w13 = w12.setCell ⟨ga, 0, none⟩ (.string ⟨#[115, 112, 111, 105, 108, 116]⟩) := ⟨_, rfl⟩
      rw [← hw13] at K13 hb13 ⊢
      have HKD : Hid (Kern w13 K1 kb mb ev rv [([102], [100])] Y [(⟨1, 3, nm, [], l⟩, lv)]) := K13
      clear hw13 K13 HK13 HB13 HK12 a0' af
      refine (trace_any HKD.out (by show 1 < 4294967296; omega) HEL.out).mono ?_
      rintro e w14 ⟨v14, X14, rfl, o14, e14, b14⟩
      obtain ⟨lt, rfl⟩ := one_of e14
      obtain ⟨gt, capt, curt, rfl, hgt, hct, hcapt, hcet⟩ := owns_at o14.1 (by show 0 < 1; omega)
      have olt := o14.2 _ (List.mem_singleton.2 rfl)
      obtain ⟨gl, capz, curl, hvl, _, hcl, hcapl, hcel⟩ := owns_at olt.1 hpos
      obtain rfl : lt = .slice (some ⟨gl, 0, none⟩) l.length capz := hvl
      have hgl : w13.heap.size ≤ gl := olt.2 gl rfl
      have hne : gt ≠ gl := fun e' => owns_apart hct olt.1 (by decide) (by rw [e']; rfl)
      have t4 : w14.cell? ⟨gt, 4, none⟩ = some (.slice (some ⟨gl, 0, none⟩) l.length capz) := hcet 4 _ rfl
      have l0 : w14.cell? ⟨gl, 0, none⟩ = some (str x) := hcel 0 _ (by unfold txV; rw [List.getElem?_map, HX0.out]; rfl)
      have lf : w14.frozen? ⟨gl, 0, none⟩ = false := hcl.frozen 0
      have t2 : ∀ v, (w14.setCell ⟨gl, 0, none⟩ v).cell? ⟨gt, 2, none⟩ = some (str nm) := fun v => by rw [(hct.other (b' := gl) (j := 0) hne v).cell 2, ← hct.cell 2]; exact hcet 2 _ rfl
      have tf : ∀ v, (w14.setCell ⟨gl, 0, none⟩ v).frozen? ⟨gt, 2, none⟩ = false := fun v => (hct.other (b' := gl) (j := 0) hne v).frozen 2
      have hb14 := hb13.trans (b14.mono hb13.size)
      have HB16 : Hid (∀ v u, Below w13.heap.size w13 ((w14.setCell ⟨gl, 0, none⟩ v).setCell ⟨gt, 2, none⟩ u)) := fun v u => (b14.setCell (p := ⟨gl, 0, none⟩) hgl v).setCell (p := ⟨gt, 2, none⟩) hgt u
      have hll2 : ((l.length : Int) != (l.length : Int)) = false := by simp
      clear o14 e14 b14 olt hct hcl hcet hcel hgl hgt hne hb14
      go_wp2_with fail
      clear t4 l0 lf t2 tf
      have b16 := HB16.out (.string ⟨#[115, 112, 111, 105, 108, 116]⟩) (.string ⟨#[115, 112, 111, 105, 108, 116]⟩)
      obtain ⟨w16, hw16⟩ : ∃ w16, w16 = (w14.setCell ⟨gl, 0, none⟩ (.string ⟨#[115, 112, 111, 105, 108, 116]⟩)).setCell ⟨gt, 2, none⟩ (.string ⟨#[115, 112, 111, 105, 108, 116]⟩) := ⟨_, rfl⟩
      rw [← hw16] at b16 ⊢
      have HKE : Hid (Kern w16 K1 kb mb ev rv [([102], [100])] Y [(⟨1, 3, nm, [], l⟩, lv)]) := HKD.out.below b16
      have hb16 := hb13.trans (b16.mono hb13.size)
      clear hw16 HB16 b16 HKD hb13
      refine (files_any HKE.out (by decide) (by decide)).mono ?_
      rintro e w17 ⟨v17, rfl, o17, b17⟩
      obtain ⟨gf, capf, curf, rfl, hgf, hcf, hcapf, hcef⟩ := owns_at o17 (by decide)
      have f1 : w17.cell? ⟨gf, 1, none⟩ = some (.string ⟨#[100]⟩) := hcef 1 _ rfl
      have ff : w17.frozen? ⟨gf, 1, none⟩ = false := hcf.frozen 1
      have HB18 : Hid (∀ v, Below w16.heap.size w16 (w17.setCell ⟨gf, 1, none⟩ v)) := fun v => b17.setCell (p := ⟨gf, 1, none⟩) hgf v
      clear o17 b17 hcf hcef hgf
      go_wp2_with fail
      clear f1 ff
      have b18 := HB18.out (.string ⟨#[115, 112, 111, 105, 108, 116]⟩)
      obtain ⟨w18, hw18⟩ : ∃ w18, w18 = w17.setCell ⟨gf, 1, none⟩ (.string ⟨#[115, 112, 111, 105, 108, 116]⟩) := ⟨_, rfl⟩
      rw [← hw18] at b18 ⊢
      have HKF : Hid (Kern w18 K1 kb mb ev rv [([102], [100])] Y [(⟨1, 3, nm, [], l⟩, lv)]) := HKE.out.below b18
      have hb18 := hb16.trans (b18.mono hb16.size)
      clear hw18 HB18 b18 HKE hb16
      refine (trace_any HKF.out (by show 1 < 4294967296; omega) HEL.out).mono ?_
      rintro e w19 ⟨v19, X19, rfl, o19, e19, b19⟩
      obtain ⟨lu, rfl⟩ := one_of e19
      obtain ⟨gu, capu, curu, rfl, hgu, hcu, hcapu, hceu⟩ := owns_at o19.1 (by show 0 < 1; omega)
      have olu := o19.2 _ (List.mem_singleton.2 rfl)
      have HTU : Hid (∀ W', Below w19.heap.size w19 W' → Tx W' lu l) := fun W' h => olu.tx.below h (Nat.le_refl _)
      obtain ⟨adu, capv, hvu⟩ := olu.tx.form
      obtain rfl : lu = .slice adu l.length capv := hvu
      have HU4 : Hid (w19.cell? ⟨gu, 4, none⟩ = some (.slice adu l.length capv) ∧ w19.cell? ⟨gu, 2, none⟩ = some (str nm) ∧ gu < w19.heap.size) := ⟨hceu 4 _ rfl, hceu 2 _ rfl, hcu.lt⟩
      have HKG2 : Hid (Kern w19 K1 kb mb ev rv [([102], [100])] Y [(⟨1, 3, nm, [], l⟩, lv)]) := HKF.out.below b19
      have hb19 := hb18.trans (b19.mono hb18.size)
      clear o19 e19 b19 olu hcu hceu hgu HKF hb18
      go_wp2_with fail
      refine (files_any HKG2.out (by decide) (by decide)).mono ?_
      rintro e w20 ⟨v20, rfl, o20, b20⟩
      obtain ⟨gg, capg, curg, rfl, hgg, hcg, hcapg, hceg⟩ := owns_at o20 (by decide)
      have HG1 : Hid (w20.cell? ⟨gg, 1, none⟩ = some (.string ⟨#[100]⟩) ∧ gg < w20.heap.size) := ⟨hceg 1 _ rfl, hcg.lt⟩
      have u4' := (b20.cell (p := ⟨gu, 4, none⟩) HU4.out.2.2).trans HU4.out.1
      have hb20 := hb19.trans (b20.mono hb19.size)
      have HTU2 : Hid (Tx w20 (.slice adu l.length capv) l) := HTU.out _ b20
      have HU2 : Hid (w20.cell? ⟨gu, 2, none⟩ = some (str nm) ∧ gu < w20.heap.size) := ⟨(b20.cell (p := ⟨gu, 2, none⟩) HU4.out.2.2).trans HU4.out.2.1, Nat.lt_of_lt_of_le HU4.out.2.2 b20.size⟩
      clear o20 b20 hcg hceg hgg HKG2 hb19
      go_wp2_with fail
      refine (sameTexts_any _ _ l l _ HTU2.out (HT.out _ hb20) (by omega) (by omega)).mono ?_
      rintro e w21 ⟨rfl, b21⟩
      rw [show decide (l = l) = true from decide_eq_true rfl]
      have u2' := (b21.cell (p := ⟨gu, 2, none⟩) HU2.out.2).trans HU2.out.1
      have g1' := (b21.cell (p := ⟨gg, 1, none⟩) HG1.out.2).trans HG1.out.1
      have hb21 := hb20.trans (b21.mono hb20.size)
      have hnn : (nm == nm) = true := by simp
      clear b21 u4' hb20
      go_wp2_with fail
      go_ret
      exact ⟨rfl, hb21⟩
end Go.Proofs.YthhghkjgffcpeaaDoor
